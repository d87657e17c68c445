import PyProof.Rows.All
import Wide.All
import OpenK.AllK
import Wide.FinOn
import HandS.Base
import HandS.Call
import HandS.List
import HandS.Comp
import HandS.Ends
import HandS.Iter
import HandS.Text
import HandS.Words
import HandS.Lambda
import HandS.IsInst
import HandS.Conv
import HandS.Zip
import HandS.Property
import HandS.Star
import HandS.Sort
import HandS.Dict
import HandS.Flow
import HandS.WrittenGet
import KE.KUnpackStar
import KE.GoesNew
import HandS.Codes
import PyProof.P3Eq
import HandS.SetFor
import HandS.Strs
import PyProof.ReprReads
import HandS.RevRange
import PyProof.EnumMake
import KE.GoesMore
import HandS.Style
import HandS.TupAny
import HandS.EndBits
import HandS.WideBits
import HandS.More
import PyProof.Rows.EqBoolInt
import HandS.TryOnly
import HandS.Deep
import HandS.Small
import KE.KDictDisplayH
import HandS.DictComp
import HandS.CallLocal
import HandS.ListItems
import PyProof.FString5
import PyProof.TupleOfStr
import HandS.Exc
import HandS.SuiteRaise
import KE.KTryMore
import HandS.ExcIs
import HandS.ExcField
import HandS.HotCalls
import HandS.ExcOwn
import PyProof.ExcBaseAll.ArithmeticError
import HandS.EndTab
import HandS.EndOwn
import KE.KExcIs
import HandS.ExcInit
import PyProof.CallFns
import KE.DatumIndex
import HandS.TupSets
import KE.SortData
import KE.SortKeyHeap
import KE.KLam
import HandS.HeadHook3
import HandS.ForMost
import PySem.Challenge.RW_rankedrules_k34_whole_cases_beside_reaso
set_option Elab.async false
set_option linter.all false
set_option maxRecDepth 100000
set_option maxHeartbeats 4000000
set_option autoImplicit false
/-! A data layer over HandS's readings: what a slot holds is said as plain data (D), never as addresses. -/
namespace Dw
open PySem PySem.Spec PyProof.Rows L2

/-- a list of the written part -/
def SqK (K : PySem.W.Frag) (a : Addr) (xs : List V) : Prop :=
  ∃ (o : Obj) (its : Array Value) (n : Nat), K.lookup a = some o ∧ o.cls = .type "list" ∧ o.dict = none ∧ o.data = .seq its n ∧ its.size ≤ sizeLine ∧ Vals xs its.toList
/-- which addresses hold a table of code objects, and of what name these are -/
class Tabs0 where
  nm : Addr → Option Str
variable [Tabs0]
/-- plain data -/
inductive D where
  | non | bl (b : Bool) | int (i : Int) | str (x : Str)
  | tup (ds : List D) | lst (ds : List D)
  | obj (C : Addr) (ns : List Str) (ds : List D)
  | raw (v : V)
  | purse
  | rng (lo hi : Int)
  | dct (ks : List Key) (ds : List D)
  | scr (K : PySem.W.Frag) (vs : List V)
  | tupN (ds : List D)
  | tag (d : D)

/-- a world: the abstract heap, the addresses that may change (U), the purses among them (P) -/
structure Wd where
  H : Hp
  U : Addr → Prop
  P : Addr → Prop

/-- a tuple to be read, as it is -/
def TupAt (H : Hp) (a : Addr) (vs : List V) : Prop := Rd H a (.tup vs)
/-- .. one that is known to have no dict of its own -/
def TupN (H : Hp) (a : Addr) (vs : List V) : Prop := ∃ o : Obj, H a = some (.frz o (.tup vs)) ∧ o.cls = .type "tuple" ∧ o.dict = none
theorem TupAt.mk {H : Hp} {a : Addr} {vs : List V} (h : H a = some (.tup vs)) : TupAt H a vs := .inl h
theorem TupAt.sq {K : PySem.W.Frag} {H : Hp} {a : Addr} {vs : List V} (h : TupAt H a vs) : SqT K H a vs := .inl h
theorem TupN.at {H : Hp} {a : Addr} {vs : List V} (h : TupN H a vs) : TupAt H a vs := let ⟨o, e, _⟩ := h; .inr ⟨o, e⟩
theorem TupAt.imp {H H' : Hp} {a : Addr} {vs : List V} (s : ∀ u, H a = some u → H' a = some u) (h : TupAt H a vs) : TupAt H' a vs := h.elim (fun h => .inl (s _ h)) fun ⟨o, h⟩ => .inr ⟨o, s _ h⟩
theorem TupN.imp {H H' : Hp} {a : Addr} {vs : List V} (s : ∀ u, H a = some u → H' a = some u) (h : TupN H a vs) : TupN H' a vs := let ⟨o, e, c⟩ := h; ⟨o, s _ e, c⟩
theorem TupAt.same {H H' : Hp} {a : Addr} {vs : List V} (h : TupAt H a vs) (s : Same H H') : TupAt H' a vs := h.imp (s a)
theorem TupN.same {H H' : Hp} {a : Addr} {vs : List V} (h : TupN H a vs) (s : Same H H') : TupN H' a vs := h.imp (s a)
theorem TupAt.some {H : Hp} {a : Addr} {vs : List V} (h : TupAt H a vs) : ∃ u, H a = some u := h.elim (fun h => ⟨_, h⟩) fun ⟨_, h⟩ => ⟨_, h⟩
theorem TupAt.keep {H H' : Hp} {U U' : Addr → Prop} {a : Addr} {vs : List V} (h : TupAt H a vs) (n : ¬ U a) (k : ∀ u, H a = Option.some u → ¬ U a → H' a = Option.some u ∧ ¬ U' a) : TupAt H' a vs ∧ ¬ U' a := let ⟨u, e⟩ := h.some; ⟨h.imp fun u e => (k u e n).1, (k u e n).2⟩
mutual
def Rep (W : Wd) : D → V → Prop
  | .non, v => v = .non
  | .bl b, v => v = .bl b
  | .int i, v => v = .int i
  | .str x, v => v = .str x
  | .raw u, v => v = u
  | .tup ds, v => ∃ a vs, v = .ref a ∧ TupAt W.H a vs ∧ ¬ W.U a ∧ RepL W ds vs
  | .tupN ds, v => ∃ a vs, v = .ref a ∧ TupN W.H a vs ∧ ¬ W.U a ∧ RepL W ds vs
  | .lst ds, v => ∃ a vs, v = .ref a ∧ W.H a = some (.lst vs) ∧ ¬ W.U a ∧ RepL W ds vs
  | .obj C ns ds, v => ∃ a dx vs, v = .ref a ∧ W.H a = some (.ins C dx (ns.zip vs)) ∧ ¬ W.U a ∧ ns.length = vs.length ∧ RepL W ds vs
  | .purse, v => ∃ a, v = .ref a ∧ W.P a ∧ Tabs0.nm a = none ∧ ∀ p q, Tabs0.nm p = some q → W.P p
  | .rng lo hi, v => ∃ a, v = .ref a ∧ W.H a = some (.rng lo hi) ∧ ¬ W.U a
  | .dct ks ds, v => ∃ a vs, v = .ref a ∧ W.H a = some (.dK (ks.zip vs)) ∧ ¬ W.U a ∧ ks.length = vs.length ∧ RepL W ds vs
  | .scr K vs, v => ∃ a, v = .ref a ∧ ((∃ u, W.H a = some u ∧ ¬ W.U a ∧ (u = .lst vs ∨ ∃ o, u = .frz o (.lst vs))) ∨ SqK K a vs) ∧ ∀ p q, Tabs0.nm p = some q → W.P p
  | .tag d, v => Rep W d v ∧ ∀ p q, Tabs0.nm p = some q → W.P p
def RepL (W : Wd) : List D → List V → Prop
  | [], vs => vs = []
  | d :: ds, vs => ∃ v r, vs = v :: r ∧ Rep W d v ∧ RepL W ds r
end

def PurseAt (H : Hp) (a : Addr) : Prop := ∃ (x : Int × Int) (y : Int), 0 ≤ x.1 ∧ 0 ≤ y ∧ y < 2147483647 ∧ H a = some (.lst [.int x.1, .int y, .int x.2])

/-- what stands at an address that may change: a purse, or a table -/
def OwnAt (H : Hp) (a : Addr) : Prop := match Tabs0.nm a with | none => PurseAt H a | some q => LamX.TabS H a q
theorem OwnAt.purse {H : Hp} {a : Addr} (h : OwnAt H a) (n : Tabs0.nm a = none) : PurseAt H a := by
  unfold OwnAt at h
  rw [n] at h
  exact h
theorem OwnAt.of {H : Hp} {a : Addr} (h : PurseAt H a) (n : Tabs0.nm a = none) : OwnAt H a := by
  unfold OwnAt
  rw [n]
  exact h
theorem OwnAt.tab {H : Hp} {a : Addr} {q : Str} (h : OwnAt H a) (n : Tabs0.nm a = some q) : LamX.TabS H a q := by
  unfold OwnAt at h
  rw [n] at h
  exact h
theorem OwnAt.same {H H' : Hp} {a : Addr} (s : Same H H') (h : OwnAt H a) : OwnAt H' a := by
  unfold OwnAt at h ⊢
  cases n : Tabs0.nm a with
  | none =>
    rw [n] at h
    obtain ⟨x, y, h1, h2, h3, e⟩ := h
    exact ⟨x, y, h1, h2, h3, s _ _ e⟩
  | some q =>
    rw [n] at h
    exact LamX.TabS.ext h s
theorem OwnAt.upd {H : Hp} {a b : Addr} {u : HO} (ha : ∀ h, H a ≠ some (.ext h)) (hb : b ≠ a) (h : OwnAt H b) : OwnAt (L2.upd H a u) b := by
  unfold OwnAt at h ⊢
  cases n : Tabs0.nm b with
  | none =>
    rw [n] at h
    obtain ⟨x, y, h1, h2, h3, e⟩ := h
    exact ⟨x, y, h1, h2, h3, by rw [upd_ne hb]; exact e⟩
  | some q =>
    rw [n] at h
    obtain ⟨ps, h1, h2, h3⟩ := h
    refine ⟨ps, by rw [upd_ne hb]; exact h1, h2, fun pos cv hc => ?_⟩
    obtain ⟨c, e1, e2⟩ := h3 pos cv hc
    refine ⟨c, e1, ?_⟩
    rw [upd_ne fun z : c = a => ?_]
    · exact e2
    · rw [z] at e2
      exact ha _ e2
theorem no_ext {H : Hp} {a : Addr} {vs : List V} (h : H a = some (.lst vs)) : ∀ f, H a ≠ some (.ext f) := fun f z => by rw [h] at z; cases z
theorem no_extI {H : Hp} {a C dx : Addr} {fs : List (Str × V)} (h : H a = some (.ins C dx fs)) : ∀ f, H a ≠ some (.ext f) := fun f z => by rw [h] at z; cases z
theorem OwnAt.some {H : Hp} {a : Addr} (h : OwnAt H a) : H a ≠ none := by
  unfold OwnAt at h
  cases n : Tabs0.nm a with
  | none =>
    rw [n] at h
    obtain ⟨x, y, h1, h2, h3, e⟩ := h
    rw [e]; exact fun z => nomatch z
  | some q =>
    rw [n] at h
    obtain ⟨ps, h1, _⟩ := h
    rw [h1]; exact fun z => nomatch z
/-- F: what this def may not touch -/
structure WOk (F : Addr → Prop) (W : Wd) : Prop where
  dom : ∀ a, W.U a → W.H a ≠ none
  fu : ∀ a, F a → W.U a
  pu : ∀ a, W.P a → W.U a ∧ ¬ F a ∧ OwnAt W.H a

structure Stp (F : Addr → Prop) (W W' : Wd) : Prop where
  keep : ∀ a u, W.H a = some u → ¬ W.U a → W'.H a = some u ∧ ¬ W'.U a
  pur : W'.P = W.P
  fr : ∀ a, F a → W'.H a = W.H a

theorem Stp.refl {F : Addr → Prop} (W : Wd) : Stp F W W := ⟨fun _ _ h n => ⟨h, n⟩, rfl, fun _ _ => rfl⟩
theorem Stp.trans {F : Addr → Prop} {W W1 W2 : Wd} (a : Stp F W W1) (b : Stp F W1 W2) : Stp F W W2 :=
  ⟨fun c u h n => let ⟨h1, n1⟩ := a.keep c u h n; b.keep c u h1 n1, b.pur.trans a.pur, fun c h => (b.fr c h).trans (a.fr c h)⟩

mutual
theorem Rep.mono {W W' : Wd} (k : ∀ a u, W.H a = some u → ¬ W.U a → W'.H a = some u ∧ ¬ W'.U a) (p : ∀ a, W.P a → W'.P a) : ∀ (d : D) (v : V), Rep W d v → Rep W' d v
  | .non, _, h => h
  | .bl _, _, h => h
  | .int _, _, h => h
  | .str _, _, h => h
  | .raw _, _, h => h
  | .tup ds, _, ⟨a, vs, e, h, n, r⟩ => let ⟨h', n'⟩ := h.keep n (k a); ⟨a, vs, e, h', n', RepL.mono k p ds vs r⟩
  | .tupN ds, _, ⟨a, vs, e, h, n, r⟩ => let ⟨_, n'⟩ := h.at.keep n (k a); ⟨a, vs, e, h.imp fun u e => (k a u e n).1, n', RepL.mono k p ds vs r⟩
  | .lst ds, _, ⟨a, vs, e, h, n, r⟩ => let ⟨h', n'⟩ := k _ _ h n; ⟨a, vs, e, h', n', RepL.mono k p ds vs r⟩
  | .obj C ns ds, _, ⟨a, dx, vs, e, h, n, l, r⟩ => let ⟨h', n'⟩ := k _ _ h n; ⟨a, dx, vs, e, h', n', l, RepL.mono k p ds vs r⟩
  | .purse, _, ⟨a, e, h, n, t⟩ => ⟨a, e, p a h, n, fun x q z => p x (t x q z)⟩
  | .rng lo hi, _, ⟨a, e, h, n⟩ => let ⟨h', n'⟩ := k _ _ h n; ⟨a, e, h', n'⟩
  | .dct ks ds, _, ⟨a, vs, e, h, n, l, r⟩ => let ⟨h', n'⟩ := k _ _ h n; ⟨a, vs, e, h', n', l, RepL.mono k p ds vs r⟩
  | .scr K vs, _, ⟨a, e, .inl ⟨u, h, n, q⟩, t⟩ => let ⟨h', n'⟩ := k _ _ h n; ⟨a, e, .inl ⟨u, h', n', q⟩, fun x q z => p x (t x q z)⟩
  | .scr K vs, _, ⟨a, e, .inr q, t⟩ => ⟨a, e, .inr q, fun x q z => p x (t x q z)⟩
  | .tag d, v, ⟨h, t⟩ => ⟨Rep.mono k p d v h, fun x q z => p x (t x q z)⟩
theorem RepL.mono {W W' : Wd} (k : ∀ a u, W.H a = some u → ¬ W.U a → W'.H a = some u ∧ ¬ W'.U a) (p : ∀ a, W.P a → W'.P a) : ∀ (ds : List D) (vs : List V), RepL W ds vs → RepL W' ds vs
  | [], _, h => h
  | d :: ds, _, ⟨v, r, e, h1, h2⟩ => ⟨v, r, e, Rep.mono k p d v h1, RepL.mono k p ds r h2⟩
end
theorem Rep.stp {F : Addr → Prop} {W W' : Wd} {d : D} {v : V} (s : Stp F W W') (h : Rep W d v) : Rep W' d v := Rep.mono s.keep (fun a h => by rw [s.pur]; exact h) d v h
theorem RepL.stp {F : Addr → Prop} {W W' : Wd} {d : List D} {v : List V} (s : Stp F W W') (h : RepL W d v) : RepL W' d v := RepL.mono s.keep (fun a h => by rw [s.pur]; exact h) d v h
/-- the world with another heap -/
abbrev Wd.at (W : Wd) (H : Hp) : Wd := ⟨H, W.U, W.P⟩
theorem Rep.same {W : Wd} {H : Hp} {d : D} {v : V} (s : Same W.H H) (h : Rep W d v) : Rep (W.at H) d v := Rep.mono (W' := W.at H) (fun a u e n => ⟨s a u e, n⟩) (fun _ h => h) d v h
theorem RepL.same {W : Wd} {H : Hp} {d : List D} {v : List V} (s : Same W.H H) (h : RepL W d v) : RepL (W.at H) d v := RepL.mono (W' := W.at H) (fun a u e n => ⟨s a u e, n⟩) (fun _ h => h) d v h
theorem Stp.of_same {F : Addr → Prop} {W : Wd} {H : Hp} (ok : WOk F W) (s : Same W.H H) : Stp F W (W.at H) :=
  ⟨fun a u e n => ⟨s a u e, n⟩, rfl, fun a h => by
    cases q : W.H a with
    | none => exact absurd q (ok.dom a (ok.fu a h))
    | some u => exact s a u q⟩
theorem WOk.same {F : Addr → Prop} {W : Wd} {H : Hp} (ok : WOk F W) (s : Same W.H H) : WOk F (W.at H) :=
  ⟨fun a h z => ok.dom a h (s.free z), ok.fu, fun a h => let ⟨u, f, o⟩ := ok.pu a h; ⟨u, f, o.same s⟩⟩
theorem WOk.new {F : Addr → Prop} {W : Wd} (ok : WOk F W) {a : Addr} (h : W.H a = none) : ¬ W.U a := fun u => ok.dom a u h

theorem RepL.length {W : Wd} : ∀ {ds : List D} {vs : List V}, RepL W ds vs → ds.length = vs.length
  | [], _, h => by rw [show _ = [] from h]; rfl
  | _ :: ds, _, ⟨_, r, e, _, h⟩ => by rw [e, List.length_cons, List.length_cons, RepL.length (ds := ds) h]
theorem RepL.get {W : Wd} : ∀ {ds : List D} {vs : List V} {i : Nat} {d : D}, RepL W ds vs → ds[i]? = some d → ∃ v, vs[i]? = some v ∧ Rep W d v
  | [], _, _, _, _, e => by simp at e
  | d :: ds, _, 0, d', ⟨v, r, e, h1, h2⟩, q => by
    have : d = d' := by simpa using q
    subst this
    exact ⟨v, by rw [e]; rfl, h1⟩
  | d :: ds, _, i + 1, d', ⟨v, r, e, h1, h2⟩, q => by
    obtain ⟨v', a, b⟩ := RepL.get (i := i) (d := d') h2 (by simpa using q)
    exact ⟨v', by rw [e]; simpa using a, b⟩
theorem RepL.append {W : Wd} : ∀ {ds es : List D} {vs us : List V}, RepL W ds vs → RepL W es us → RepL W (ds ++ es) (vs ++ us)
  | [], _, _, _, h, h' => by rw [show _ = [] from h]; exact h'
  | d :: ds, es, _, us, ⟨v, r, e, h1, h2⟩, h' => ⟨v, r ++ us, by rw [e]; rfl, h1, RepL.append h2 h'⟩
theorem RepL.take {W : Wd} : ∀ {ds : List D} {vs : List V} (n : Nat), RepL W ds vs → RepL W (ds.take n) (vs.take n)
  | _, _, 0, _ => by rw [List.take_zero, List.take_zero]; rfl
  | [], _, n + 1, h => by rw [show _ = [] from h]; rfl
  | d :: ds, _, n + 1, ⟨v, r, e, h1, h2⟩ => ⟨v, r.take n, by rw [e]; rfl, h1, RepL.take n h2⟩
theorem RepL.drop {W : Wd} : ∀ {ds : List D} {vs : List V} (n : Nat), RepL W ds vs → RepL W (ds.drop n) (vs.drop n)
  | _, _, 0, h => h
  | [], _, n + 1, h => by rw [show _ = [] from h]; rfl
  | d :: ds, _, n + 1, ⟨v, r, e, h1, h2⟩ => by rw [e]; exact RepL.drop n h2
theorem RepL.set {W : Wd} {d : D} {v : V} (h : Rep W d v) : ∀ {ds : List D} {vs : List V} (n : Nat), RepL W ds vs → RepL W (ds.set n d) (vs.set n v)
  | [], _, n, h' => by rw [show _ = [] from h']; rfl
  | _ :: ds, _, 0, ⟨u, r, e, h1, h2⟩ => by rw [e]; exact ⟨v, r, rfl, h, h2⟩
  | c :: ds, _, n + 1, ⟨u, r, e, h1, h2⟩ => by rw [e]; exact ⟨u, r.set n v, rfl, h1, RepL.set h n h2⟩
theorem RepL.one {W : Wd} {d : D} {v : V} (h : Rep W d v) : RepL W [d] [v] := ⟨v, [], rfl, h, rfl⟩
theorem RepL.ints {W : Wd} : ∀ {ns : List Int} {vs : List V}, RepL W (ns.map D.int) vs ↔ vs = ns.map V.int
  | [], vs => Iff.rfl
  | n :: ns, vs => by
    constructor
    · rintro ⟨v, r, e, h1, h2⟩
      rw [e, show v = .int n from h1, RepL.ints.mp h2]; rfl
    · intro e
      exact ⟨.int n, ns.map V.int, e, rfl, RepL.ints.mpr rfl⟩
theorem RepL.strs {W : Wd} : ∀ {ns : List Str} {vs : List V}, RepL W (ns.map D.str) vs ↔ vs = ns.map V.str
  | [], vs => Iff.rfl
  | n :: ns, vs => by
    constructor
    · rintro ⟨v, r, e, h1, h2⟩
      rw [e, show v = .str n from h1, RepL.strs.mp h2]; rfl
    · intro e
      exact ⟨.str n, ns.map V.str, e, rfl, RepL.strs.mpr rfl⟩
theorem RepL.bls {W : Wd} : ∀ {ns : List Bool} {vs : List V}, RepL W (ns.map D.bl) vs ↔ vs = ns.map V.bl
  | [], vs => Iff.rfl
  | n :: ns, vs => by
    constructor
    · rintro ⟨v, r, e, h1, h2⟩
      rw [e, show v = .bl n from h1, RepL.bls.mp h2]; rfl
    · intro e
      exact ⟨.bl n, ns.map V.bl, e, rfl, RepL.bls.mpr rfl⟩

mutual
/-- what is known less of -/
def weakD : D → D
  | .tupN ds => .tup (weakDs ds) | .tup ds => .tup (weakDs ds) | .lst ds => .lst (weakDs ds)
  | d => d
def weakDs : List D → List D
  | [] => []
  | d :: ds => weakD d :: weakDs ds
end
mutual
theorem Rep.weak {W : Wd} : ∀ (d : D) (v : V), Rep W d v → Rep W (weakD d) v
  | .tupN ds, _, ⟨a, vs, e, h, n, r⟩ => ⟨a, vs, e, h.at, n, RepL.weak ds vs r⟩
  | .tup ds, _, ⟨a, vs, e, h, n, r⟩ => ⟨a, vs, e, h, n, RepL.weak ds vs r⟩
  | .lst ds, _, ⟨a, vs, e, h, n, r⟩ => ⟨a, vs, e, h, n, RepL.weak ds vs r⟩
  | .non, _, h => h
  | .bl _, _, h => h
  | .int _, _, h => h
  | .str _, _, h => h
  | .raw _, _, h => h
  | .obj _ _ _, _, h => h
  | .purse, _, h => h
  | .rng _ _, _, h => h
  | .dct _ _, _, h => h
  | .scr _ _, _, h => h
  | .tag _, _, h => h
theorem RepL.weak {W : Wd} : ∀ (ds : List D) (vs : List V), RepL W ds vs → RepL W (weakDs ds) vs
  | [], _, h => h
  | d :: ds, _, ⟨v, r, e, h1, h2⟩ => ⟨v, r, e, Rep.weak d v h1, RepL.weak ds r h2⟩
end
/-! ### the slots -/
/-- an own thing: a list, or a dict by its keys -/
structure Ow where
  ks : Option (List Key)
  ds : List D
@[reducible] def Ow.cell (o : Ow) (vs : List V) : HO := match o.ks with | none => .lst vs | some ks => .dK (ks.zip vs)
inductive Sl where
  | unset | val (d : D) | ownX (o : Ow)
@[reducible] def Sl.own (ds : List D) : Sl := .ownX ⟨none, ds⟩
@[reducible] def Sl.owd (ks : List Key) (ds : List D) : Sl := .ownX ⟨some ks, ds⟩
theorem Ow.ext (o : Ow) (vs : List V) : ∀ f, o.cell vs ≠ .ext f := fun f z => by
  obtain ⟨ks, ds⟩ := o
  cases ks <;> cases z
theorem no_extX {H : Hp} {a : Addr} {o : Ow} {vs : List V} (h : H a = some (o.cell vs)) : ∀ f, H a ≠ some (.ext f) := fun f z => by
  rw [h] at z
  exact o.ext vs f (Option.some.inj z)
abbrev Gam := List Sl

structure SR (F : Addr → Prop) (Γ : Gam) (σ : L2.St) (W : Wd) : Prop where
  ok : WOk F W
  len : Γ.length = σ.length
  val : ∀ (i : Nat) (d : D), Γ[i]? = some (Sl.val d) → ∃ v, σ[i]? = some (some v) ∧ Rep W d v
  ownX : ∀ (i : Nat) (ds : Ow), Γ[i]? = some (Sl.ownX ds) → ∃ a vs, σ[i]? = some (some (V.ref a)) ∧ W.U a ∧ ¬ F a ∧ ¬ W.P a ∧ W.H a = some (ds.cell vs) ∧ RepL W ds.ds vs
  apartX : ∀ (i j : Nat) (a : Addr) (ds es : Ow), Γ[i]? = some (Sl.ownX ds) → Γ[j]? = some (Sl.ownX es) → σ[i]? = some (some (V.ref a)) → σ[j]? = some (some (V.ref a)) → i = j
theorem SR.own {F : Addr → Prop} {Γ : Gam} {σ : L2.St} {W : Wd} (h : SR F Γ σ W) (i : Nat) (ds : List D) (e : Γ[i]? = some (Sl.own ds)) : ∃ a vs, σ[i]? = some (some (V.ref a)) ∧ W.U a ∧ ¬ F a ∧ ¬ W.P a ∧ W.H a = some (.lst vs) ∧ RepL W ds vs := h.ownX i ⟨none, ds⟩ e
theorem SR.owd {F : Addr → Prop} {Γ : Gam} {σ : L2.St} {W : Wd} (h : SR F Γ σ W) (i : Nat) (ks : List Key) (ds : List D) (e : Γ[i]? = some (Sl.owd ks ds)) : ∃ a vs, σ[i]? = some (some (V.ref a)) ∧ W.U a ∧ ¬ F a ∧ ¬ W.P a ∧ W.H a = some (.dK (ks.zip vs)) ∧ RepL W ds vs := h.ownX i ⟨some ks, ds⟩ e

theorem SR.same {F : Addr → Prop} {Γ : Gam} {σ : L2.St} {W : Wd} {H : Hp} (s : Same W.H H) (h : SR F Γ σ W) : SR F Γ σ (W.at H) :=
  ⟨h.ok.same s, h.len, fun i d e => let ⟨v, a, b⟩ := h.val i d e; ⟨v, a, b.same s⟩,
   fun i ds e => let ⟨a, vs, e1, u, f, p, q, r⟩ := h.ownX i ds e; ⟨a, vs, e1, u, f, p, s _ _ q, r.same s⟩, h.apartX⟩
/-- forgetting -/
theorem SR.weak {F : Addr → Prop} {Γ Γ' : Gam} {σ σ' : L2.St} {W : Wd} (h : SR F Γ σ W) (l : Γ'.length = σ'.length) (k : ∀ (i : Nat) (s : Sl), Γ'[i]? = some s → s = Sl.unset ∨ (Γ[i]? = some s ∧ σ'[i]? = σ[i]?)) : SR F Γ' σ' W := by
  have kv : ∀ (i : Nat) (d : D), Γ'[i]? = some (Sl.val d) → Γ[i]? = some (Sl.val d) ∧ σ'[i]? = σ[i]? := fun i d e => by
    rcases k i _ e with z | z
    · cases z
    · exact z
  have ko : ∀ (i : Nat) (d : Ow), Γ'[i]? = some (Sl.ownX d) → Γ[i]? = some (Sl.ownX d) ∧ σ'[i]? = σ[i]? := fun i d e => by
    rcases k i _ e with z | z
    · cases z
    · exact z
  refine ⟨h.ok, l, fun i d e => ?_, fun i ds e => ?_, fun i j a ds es e1 e2 e3 e4 => ?_⟩
  · obtain ⟨z, q⟩ := kv i d e
    rw [q]; exact h.val i d z
  · obtain ⟨z, q⟩ := ko i ds e
    rw [q]; exact h.ownX i ds z
  · obtain ⟨z1, q1⟩ := ko i ds e1
    obtain ⟨z2, q2⟩ := ko j es e2
    rw [q1] at e3; rw [q2] at e4
    exact h.apartX i j a ds es z1 z2 e3 e4
/-- a value is stored -/
theorem SR.set {F : Addr → Prop} {Γ : Gam} {σ : L2.St} {W : Wd} {i : Nat} {d : D} {v : V} (h : SR F Γ σ W) (r : Rep W d v) : SR F (Γ.set i (.val d)) (σ.set i (some v)) W := by
  refine ⟨h.ok, by simp [h.len], fun j e q => ?_, fun j ds q => ?_, fun j k a ds es q1 q2 q3 q4 => ?_⟩
  · by_cases hj : i = j
    · subst hj
      have hl : i < Γ.length := by
        have := (List.getElem?_eq_some_iff.mp q).1
        simpa using this
      rw [List.getElem?_set_self hl] at q
      cases q
      exact ⟨v, by rw [List.getElem?_set_self (by rw [← h.len]; exact hl)], r⟩
    · rw [List.getElem?_set_ne hj] at q ⊢
      exact h.val j e q
  · by_cases hj : i = j
    · subst hj
      have hl : i < Γ.length := by
        have := (List.getElem?_eq_some_iff.mp q).1
        simpa using this
      rw [List.getElem?_set_self hl] at q
      cases q
    · rw [List.getElem?_set_ne hj] at q ⊢
      exact h.ownX j ds q
  · have n : ∀ (j : Nat) (ds : Ow), (Γ.set i (.val d))[j]? = some (Sl.ownX ds) → i ≠ j := fun j ds q e => by
      subst e
      have hl : i < Γ.length := by
        have := (List.getElem?_eq_some_iff.mp q).1
        simpa using this
      rw [List.getElem?_set_self hl] at q
      cases q
    have n1 := n j ds q1
    have n2 := n k es q2
    rw [List.getElem?_set_ne n1] at q1 q3
    rw [List.getElem?_set_ne n2] at q2 q4
    exact h.apartX j k a ds es q1 q2 q3 q4
/-- what the callee may not touch: the frame and the own lists -/
def ownA (Γ : Gam) (σ : L2.St) (a : Addr) : Prop := ∃ (i : Nat) (ds : Ow), Γ[i]? = some (Sl.ownX ds) ∧ σ[i]? = some (some (V.ref a))
/-- behind a call -/
theorem SR.call {F : Addr → Prop} {Γ : Gam} {σ : L2.St} {W W' : Wd} (h : SR F Γ σ W) (s : Stp (fun a => F a ∨ ownA Γ σ a) W W') (ok : WOk (fun a => F a ∨ ownA Γ σ a) W') : SR F Γ σ W' := by
  refine ⟨⟨ok.dom, fun a z => ok.fu a (.inl z), fun a z => let ⟨u, f, p⟩ := ok.pu a z; ⟨u, fun w => f (.inl w), p⟩⟩, h.len, fun i d e => ?_, fun i ds e => ?_, h.apartX⟩
  · obtain ⟨v, a, b⟩ := h.val i d e
    exact ⟨v, a, b.stp s⟩
  · obtain ⟨a, vs, e1, u, f, p, q, r⟩ := h.ownX i ds e
    have o : ownA Γ σ a := ⟨i, ds, e, e1⟩
    exact ⟨a, vs, e1, ok.fu a (.inr o), f, fun z => (ok.pu a z).2.1 (.inr o), (s.fr a (.inr o)).trans q, r.stp s⟩
theorem SR.callOk {F : Addr → Prop} {Γ : Gam} {σ : L2.St} {W : Wd} (h : SR F Γ σ W) : WOk (fun a => F a ∨ ownA Γ σ a) W := by
  refine ⟨h.ok.dom, fun a z => ?_, fun a z => ?_⟩
  · rcases z with z | ⟨i, ds, e, q⟩
    · exact h.ok.fu a z
    · obtain ⟨b, vs, e1, u, _⟩ := h.ownX i ds e
      rw [q] at e1; cases e1
      exact u
  · obtain ⟨u, f, p⟩ := h.ok.pu a z
    refine ⟨u, fun w => ?_, p⟩
    rcases w with w | ⟨i, ds, e, q⟩
    · exact f w
    · obtain ⟨b, vs, e1, _, _, np, _⟩ := h.ownX i ds e
      rw [q] at e1; cases e1
      exact np z
theorem Stp.sub {F G : Addr → Prop} {W W' : Wd} (s : Stp G W W') (k : ∀ a, F a → G a) : Stp F W W' := ⟨s.keep, s.pur, fun a h => s.fr a (k a h)⟩
end Dw

/-! The judgements over data: Ev (pure), EvB (a list that is read), EvN (a new list), Dl (with draws), Ds (statements). -/
namespace Dw
open PySem PySem.Spec PyProof.Rows L2
variable [Tabs0]

def Ev (t : TE) (Γ : Gam) (d : D) : Prop := ∀ (F : Addr → Prop) (σ : L2.St) (W : Wd) (Q : VK), SR F Γ σ W → (∀ v H, Same W.H H → Rep (W.at H) d v → Q v H) → t σ W.H Q
def EvB (t : TE) (Γ : Gam) (ds : List D) : Prop := ∀ (F : Addr → Prop) (σ : L2.St) (W : Wd) (Q : VK), SR F Γ σ W → (∀ a vs H, Same W.H H → H a = some (.lst vs) → RepL (W.at H) ds vs → Q (.ref a) H) → t σ W.H Q
/-- the world where a is one's own, too -/
abbrev Wd.plus (W : Wd) (H : Hp) (a : Addr) : Wd := ⟨H, fun b => W.U b ∨ b = a, W.P⟩
theorem RepL.minus {W : Wd} {H : Hp} {a : Addr} {ds : List D} {vs : List V} (h : RepL (W.plus H a) ds vs) : RepL (W.at H) ds vs := RepL.mono (W := W.plus H a) (W' := W.at H) (fun b u e n => ⟨e, fun z => n (Or.inl z)⟩) (fun _ h => h) ds vs h
theorem RepL.plus {W : Wd} {H : Hp} {a : Addr} {ds : List D} {vs : List V} (n : W.H a = none) (s : Same W.H H) (h : RepL W ds vs) : RepL (W.plus H a) ds vs := RepL.mono (W := W) (W' := W.plus H a) (fun b u e nu => ⟨s b u e, fun z => z.elim nu fun z => by rw [z, n] at e; cases e⟩) (fun _ h => h) ds vs h
def EvN (t : TE) (Γ : Gam) (ds : List D) : Prop := ∀ (F : Addr → Prop) (σ : L2.St) (W : Wd) (Q : VK), SR F Γ σ W → (∀ a vs H, Same W.H H → W.H a = none → H a = some (.lst vs) → RepL (W.plus H a) ds vs → Q (.ref a) H) → t σ W.H Q
def EvT (t : TT) (Γ : Gam) (b : Bool) : Prop := ∀ (F : Addr → Prop) (σ : L2.St) (W : Wd) (Q : Bool → Hp → Prop), SR F Γ σ W → (∀ H, Same W.H H → Q b H) → t σ W.H Q
def EvA (t : TA) (Γ : Gam) (ds : List D) : Prop := ∀ (F : Addr → Prop) (σ : L2.St) (W : Wd) (Q : List V → Hp → Prop), SR F Γ σ W → (∀ vs H, Same W.H H → RepL (W.at H) ds vs → Q vs H) → t σ W.H Q

def Dl (t : TE) (Γ : Gam) (Q : D → Gam → Prop) : Prop := ∀ (F : Addr → Prop) (σ : L2.St) (W : Wd) (R : VK), SR F Γ σ W → (∀ v W' d Γ', Stp F W W' → SR F Γ' σ W' → Rep W' d v → Q d Γ' → R v W'.H) → t σ W.H R
def DlT (t : TT) (Γ : Gam) (Q : Bool → Gam → Prop) : Prop := ∀ (F : Addr → Prop) (σ : L2.St) (W : Wd) (R : Bool → Hp → Prop), SR F Γ σ W → (∀ b W' Γ', Stp F W W' → SR F Γ' σ W' → Q b Γ' → R b W'.H) → t σ W.H R
def DlA (t : TA) (Γ : Gam) (Q : List D → Gam → Prop) : Prop := ∀ (F : Addr → Prop) (σ : L2.St) (W : Wd) (R : List V → Hp → Prop), SR F Γ σ W → (∀ vs W' ds Γ', Stp F W W' → SR F Γ' σ W' → RepL W' ds vs → Q ds Γ' → R vs W'.H) → t σ W.H R

structure DE where
  nx : Gam → Prop
  rt : D → Prop
  bk : Gam → Prop := fun _ => False
  ct : Gam → Prop := fun _ => False
structure Lift (F : Addr → Prop) (W0 : Wd) (De : DE) (Dr : Ends) : Prop where
  nx : ∀ σ W Γ, Stp F W0 W → SR F Γ σ W → De.nx Γ → Dr.nx σ W.H
  rt : ∀ v W d, Stp F W0 W → WOk F W → Rep W d v → De.rt d → Dr.rt v W.H
  bk : ∀ σ W Γ, Stp F W0 W → SR F Γ σ W → De.bk Γ → Dr.bk σ W.H
  ct : ∀ σ W Γ, Stp F W0 W → SR F Γ σ W → De.ct Γ → Dr.ct σ W.H
theorem Lift.after {F : Addr → Prop} {W0 W1 : Wd} {De : DE} {Dr : Ends} (l : Lift F W0 De Dr) (s : Stp F W0 W1) : Lift F W1 De Dr :=
  ⟨fun σ W Γ a => l.nx σ W Γ (s.trans a), fun v W d a => l.rt v W d (s.trans a), fun σ W Γ a => l.bk σ W Γ (s.trans a), fun σ W Γ a => l.ct σ W Γ (s.trans a)⟩
def Ds (t : TS) (Γ : Gam) (De : DE) : Prop := ∀ (F : Addr → Prop) (σ : L2.St) (W : Wd) (Dr : Ends), SR F Γ σ W → Lift F W De Dr → t Dr σ W.H

/-! ### from the pure to the others -/
section
variable {t : TE} {Γ : Gam} {d : D} {ds : List D}
theorem Same.up {W : Wd} {H H' : Hp} (a : Same W.H H) (b : Same (W.at H).H H') : Same W.H H' := Same.trans a b
theorem EvN.b (h : EvN t Γ ds) : EvB t Γ ds := fun F σ W Q r k => h F σ W Q r fun a vs H s _ e l => k a vs H s e l.minus
theorem EvN.ev (h : EvN t Γ ds) : Ev t Γ (.lst ds) := fun F σ W Q r k => h F σ W Q r fun a vs H s n e l => k _ H s ⟨a, vs, rfl, e, r.ok.new n, l.minus⟩
theorem Ev.b (h : Ev t Γ (.lst ds)) : EvB t Γ ds := fun F σ W Q r k => h F σ W Q r fun v H s ⟨a, vs, e, q, _, l⟩ => by subst e; exact k a vs H s q l
theorem Ev.dl {Q : D → Gam → Prop} (h : Ev t Γ d) (q : Q d Γ) : Dl t Γ Q := fun F σ W R r k => h F σ W R r fun v H s l => k v (W.at H) d Γ (Stp.of_same r.ok s) (r.same s) l q
theorem Dl.imp {Q Q' : D → Gam → Prop} (h : Dl t Γ Q) (k : ∀ d Γ', Q d Γ' → Q' d Γ') : Dl t Γ Q' := fun F σ W R r z => h F σ W R r fun v W' d Γ' s r' l q => z v W' d Γ' s r' l (k d Γ' q)
theorem EvT.dl {t : TT} {b : Bool} {Q : Bool → Gam → Prop} (h : EvT t Γ b) (q : Q b Γ) : DlT t Γ Q := fun F σ W R r k => h F σ W R r fun H s => k b (W.at H) Γ (Stp.of_same r.ok s) (r.same s) q
theorem EvA.dl {t : TA} {Q : List D → Gam → Prop} (h : EvA t Γ ds) (q : Q ds Γ) : DlA t Γ Q := fun F σ W R r k => h F σ W R r fun vs H s l => k vs (W.at H) ds Γ (Stp.of_same r.ok s) (r.same s) l q
end

/-! ### names, constants -/
section
variable {Γ : Gam} {i : Nat} {d : D} {ds : List D}
theorem ev_var (h : Γ[i]? = some (.val d)) : Ev (tVar i) Γ d := fun F σ W Q r k => let ⟨v, e, l⟩ := r.val i d h; ⟨v, e, k v W.H (Same.refl _) l⟩
theorem evb_own (h : Γ[i]? = some (.own ds)) : EvB (tVar i) Γ ds := fun F σ W Q r k => let ⟨a, vs, e, _, _, _, q, l⟩ := r.own i ds h; ⟨.ref a, e, k a vs W.H (Same.refl _) q l⟩
theorem ev_int {z : Int} : Ev (tC (.int z)) Γ (.int z) := fun F σ W Q r k => k _ W.H (Same.refl _) rfl
theorem ev_bl {z : Bool} : Ev (tC (.bl z)) Γ (.bl z) := fun F σ W Q r k => k _ W.H (Same.refl _) rfl
theorem ev_str {z : Str} : Ev (tC (.str z)) Γ (.str z) := fun F σ W Q r k => k _ W.H (Same.refl _) rfl
theorem ev_non : Ev (tC .non) Γ .non := fun F σ W Q r k => k _ W.H (Same.refl _) rfl
theorem ev_raw {z : V} : Ev (tC z) Γ (.raw z) := fun F σ W Q r k => k _ W.H (Same.refl _) rfl
end

/-! ### arguments -/
section
variable {Γ : Gam} {t : TE} {tr : TA} {d : D} {ds : List D}
theorem eva_nil : EvA tNil Γ [] := fun F σ W Q r k => k [] W.H (Same.refl _) rfl
theorem eva_cons (h : Ev t Γ d) (hr : EvA tr Γ ds) : EvA (tCons t tr) Γ (d :: ds) := fun F σ W Q r k =>
  h F σ W _ r fun v H s l => hr F σ (W.at H) _ (r.same s) fun vs H' s' l' => k (v :: vs) H' (Same.trans s s') ⟨v, vs, rfl, Rep.same (W := W.at H) s' l, l'⟩
theorem dla_nil {Q : List D → Gam → Prop} (q : Q [] Γ) : DlA tNil Γ Q := eva_nil.dl q
theorem dla_cons {Q : List D → Gam → Prop} (h : Dl t Γ fun d Γ1 => DlA tr Γ1 fun ds Γ2 => Q (d :: ds) Γ2) : DlA (tCons t tr) Γ Q := fun F σ W R r k =>
  h F σ W _ r fun v W1 d Γ1 s1 r1 l1 h1 => h1 F σ W1 _ r1 fun vs W2 ds Γ2 s2 r2 l2 q => k (v :: vs) W2 (d :: ds) Γ2 (s1.trans s2) r2 ⟨v, vs, rfl, l1.stp s2, l2⟩ q
end

/-! ### operators -/
/-- what a two-place operator gives on data -/
def DR2 (r : R2) (x y d : D) : Prop := ∀ (W : Wd) (u v : V) (Q : VK), (∀ a, W.U a → W.H a ≠ none) → Rep W x u → Rep W y v → (∀ z H, Same W.H H → Rep (W.at H) d z → Q z H) → r u v W.H Q
def DRL (r : List V → Hp → VK → Prop) (xs : List D) (d : D) : Prop := ∀ (W : Wd) (us : List V) (Q : VK), (∀ a, W.U a → W.H a ≠ none) → RepL W xs us → (∀ z H, Same W.H H → Rep (W.at H) d z → Q z H) → r us W.H Q
section
variable {Γ : Gam} {ta tb : TE} {r : R2} {x y d : D}
theorem ev_op (ha : Ev ta Γ x) (hb : Ev tb Γ y) (hr : DR2 r x y d) : Ev (tOp r ta tb) Γ d := fun F σ W Q g k =>
  ha F σ W _ g fun u H s l => hb F σ (W.at H) _ (g.same s) fun v H' s' l' => hr (W.at H') u v Q ((g.same s).same s').ok.dom (Rep.same (W := W.at H) s' l) l' fun z H'' s'' q => k z H'' (Same.trans s (Same.trans s' s'')) q
theorem dl_op {Q : D → Gam → Prop} (h : Dl ta Γ fun x Γ1 => Dl tb Γ1 fun y Γ2 => ∃ d, DR2 r x y d ∧ Q d Γ2) : Dl (tOp r ta tb) Γ Q := fun F σ W R g k =>
  h F σ W _ g fun u W1 x Γ1 s1 g1 l1 h1 => h1 F σ W1 _ g1 fun v W2 y Γ2 s2 g2 l2 ⟨d, hr, q⟩ => hr W2 u v R g2.ok.dom (l1.stp s2) l2 fun z H s3 l3 =>
    k z (W2.at H) d Γ2 ((s1.trans s2).trans (Stp.of_same g2.ok s3)) (g2.same s3) l3 q
theorem ev_cb {r : List V → Hp → VK → Prop} {t : TA} {xs : List D} (ha : EvA t Γ xs) (hr : DRL r xs d) : Ev (tCB r t) Γ d := fun F σ W Q g k =>
  ha F σ W _ g fun us H s l => hr (W.at H) us Q (g.same s).ok.dom l fun z H' s' q => k z H' (Same.trans s s') q
end
/-- no new object -/
theorem dr2_flat {r : R2} {x y d : D} (h : ∀ (W : Wd) (u v : V) (Q : VK), Rep W x u → Rep W y v → (∀ z, Rep W d z → Q z W.H) → r u v W.H Q) : DR2 r x y d :=
  fun W u v Q _ a b k => h W u v Q a b fun z q => k z W.H (Same.refl _) q
theorem same_upd {H : Hp} {p : Addr} {o : HO} (h : H p = none) : Same H (upd H p o) := fun b x e => by
  rw [upd_ne (ne_of_none e h)]
  exact e
theorem rep_new_lst {W : Wd} {p : Addr} {ds : List D} {vs : List V} (dom : ∀ a, W.U a → W.H a ≠ none) (h : W.H p = none) (l : RepL W ds vs) : Rep (W.at (upd W.H p (.lst vs))) (.lst ds) (.ref p) :=
  ⟨p, vs, rfl, upd_same, fun u => dom p u h, l.same (same_upd h)⟩
theorem rep_new_tup {W : Wd} {p : Addr} {ds : List D} {vs : List V} (dom : ∀ a, W.U a → W.H a ≠ none) (h : W.H p = none) (l : RepL W ds vs) : Rep (W.at (upd W.H p (.tup vs))) (.tup ds) (.ref p) :=
  ⟨p, vs, rfl, .mk upd_same, fun u => dom p u h, l.same (same_upd h)⟩

section
variable {i j : Int} {x y : Str} {ds es : List D} {K : PySem.W.Frag}
theorem dr2_rI0 {g : Int → Int → V} {d : D} (h : ∀ W, Rep W d (g i j)) : DR2 (rI0 g) (.int i) (.int j) d := dr2_flat fun W u v Q a b k => ⟨i, j, a, b, k _ (h W)⟩
theorem dr2_rI {C : Int → Int → Prop} {g : Int → Int → V} {d : D} (hc : C i j) (h : ∀ W, Rep W d (g i j)) : DR2 (rI C g) (.int i) (.int j) d := dr2_flat fun W u v Q a b k => ⟨i, j, a, b, hc, k _ (h W)⟩
theorem dr2_add : DR2 (rI0 fun i j => .int (i + j)) (.int i) (.int j) (.int (i + j)) := dr2_rI0 fun _ => rfl
theorem dr2_sub : DR2 (rI0 fun i j => .int (i - j)) (.int i) (.int j) (.int (i - j)) := dr2_rI0 fun _ => rfl
theorem dr2_mul (h : CMul i j) : DR2 (rI CMul fun i j => .int (i * j)) (.int i) (.int j) (.int (i * j)) := dr2_rI h fun _ => rfl
theorem dr2_mod (h : 0 < j) : DR2 (rI (fun _ j => 0 < j) fun i j => .int (i % j)) (.int i) (.int j) (.int (i % j)) := dr2_rI h fun _ => rfl
theorem dr2_lt : DR2 (rI0 fun i j => .bl (decide (i < j))) (.int i) (.int j) (.bl (decide (i < j))) := dr2_rI0 fun _ => rfl
theorem dr2_le : DR2 (rI0 fun i j => .bl (decide (i ≤ j))) (.int i) (.int j) (.bl (decide (i ≤ j))) := dr2_rI0 fun _ => rfl
theorem dr2_gt : DR2 (rI0 fun i j => .bl (decide (j < i))) (.int i) (.int j) (.bl (decide (j < i))) := dr2_rI0 fun _ => rfl
theorem dr2_ge : DR2 (rI0 fun i j => .bl (decide (j ≤ i))) (.int i) (.int j) (.bl (decide (j ≤ i))) := dr2_rI0 fun _ => rfl
abbrev rAddStr : R2 := fun x y H Q => ∃ i j, x = .str i ∧ y = .str j ∧ i.length + j.length ≤ sizeLine ∧ Q (.str (i ++ j)) H
theorem dr2_add_str (h : x.length + y.length ≤ sizeLine) : DR2 rAddStr (.str x) (.str y) (.str (x ++ y)) := dr2_flat fun W u v Q a b k => ⟨x, y, a, b, h, k _ rfl⟩
theorem dr2_cat (h : ds.length + es.length ≤ sizeLine) : DR2 rCat (.lst ds) (.lst es) (.lst (ds ++ es)) := fun W u v Q dom ⟨a, vs, e1, h1, n1, l1⟩ ⟨b, ws, e2, h2, n2, l2⟩ k =>
  ⟨a, b, vs, ws, e1, e2, h1, h2, by rw [← l1.length, ← l2.length]; exact h, fun p hp => k _ _ (same_upd hp) (rep_new_lst dom hp (l1.append l2))⟩
theorem dr2_catT (n : ds ≠ []) (h : ds.length + es.length ≤ sizeLine) : DR2 (rCatT K) (.tup ds) (.tup es) (.tup (ds ++ es)) := by
  intro W u v Q dom ⟨a, vs, e1, h1, n1, l1⟩ ⟨b, ws, e2, h2, n2, l2⟩ k
  have nv : vs ≠ [] := fun z => by
    have := l1.length
    rw [z] at this
    exact n (List.length_eq_zero_iff.mp this)
  subst e1
  refine ⟨a, b, vs, ws, rfl, e2, h1.sq, h2.sq, nv, by rw [← l1.length, ← l2.length]; exact h, fun z => ?_, fun _ p hp => k _ _ (same_upd hp) (rep_new_tup dom hp (l1.append l2))⟩
  have e : es = [] := List.length_eq_zero_iff.mp (by rw [l2.length, z]; rfl)
  rw [e, List.append_nil] at k
  exact k _ W.H (Same.refl _) ⟨a, vs, rfl, h1, n1, l1⟩
theorem dr2_eq_int : DR2 rEq (.int i) (.int j) (.bl (decide (i = j))) := dr2_flat fun W u v Q a b k => by
  rw [show u = .int i from a, show v = .int j from b]
  exact ⟨rfl, k _ (congrArg V.bl (by simp))⟩
theorem dr2_eq_str : DR2 rEq (.str x) (.str y) (.bl (decide (x = y))) := dr2_flat fun W u v Q a b k => by
  rw [show u = .str x from a, show v = .str y from b]
  exact ⟨rfl, k _ (congrArg V.bl (by simp))⟩
theorem dr2_ne_int : DR2 rNe (.int i) (.int j) (.bl (!decide (i = j))) := dr2_flat fun W u v Q a b k => by
  rw [show u = .int i from a, show v = .int j from b]
  exact ⟨rfl, k _ (congrArg V.bl (by simp))⟩
theorem dr2_ne_str : DR2 rNe (.str x) (.str y) (.bl (!decide (x = y))) := dr2_flat fun W u v Q a b k => by
  rw [show u = .str x from a, show v = .str y from b]
  exact ⟨rfl, k _ (congrArg V.bl (by simp))⟩
end

/-! ### deep equality -/
mutual
def py : D → PyData
  | .non => .none | .bl b => .bool b | .int i => .int i | .str x => .str x
  | .tup ds => .tuple (pys ds) | .lst ds => .list (pys ds)
  | .tupN ds => .tuple (pys ds)
  | .obj _ _ _ => .none | .raw _ => .none | .purse => .none | .rng _ _ => .none | .dct _ _ => .none | .scr _ _ => .none | .tag _ => .none
def pys : List D → List PyData
  | [] => []
  | d :: ds => py d :: pys ds
end
mutual
def isPy : D → Bool
  | .obj _ _ _ => false | .raw _ => false | .purse => false | .rng _ _ => false | .dct _ _ => false | .scr _ _ => false | .tag _ => false
  | .tup ds => isPys ds | .lst ds => isPys ds | .tupN ds => isPys ds
  | _ => true
def isPys : List D → Bool
  | [] => true
  | d :: ds => isPy d && isPys ds
end
mutual
theorem dp_of {K : PySem.W.Frag} {W : Wd} : ∀ (d : D) (v : V), isPy d = true → Rep W d v → Dp K W.H v (py d)
  | .non, _, _, h => by rw [show _ = V.non from h]; exact .non
  | .bl b, _, _, h => by rw [show _ = V.bl b from h]; exact .bl b
  | .int b, _, _, h => by rw [show _ = V.int b from h]; exact .int b
  | .str b, _, _, h => by rw [show _ = V.str b from h]; exact .str b
  | .tup ds, _, p, ⟨a, vs, e, h, _, l⟩ => by rw [e]; exact .tup h.sq (dps_of ds vs p l)
  | .tupN ds, _, p, ⟨a, vs, e, h, _, l⟩ => by rw [e]; exact .tup h.at.sq (dps_of ds vs p l)
  | .lst ds, _, p, ⟨a, vs, e, h, _, l⟩ => by rw [e]; exact .lst (.of h) (dps_of ds vs p l)
  | .obj _ _ _, _, p, _ => nomatch p
  | .raw _, _, p, _ => nomatch p
  | .purse, _, p, _ => nomatch p
  | .rng _ _, _, p, _ => nomatch p
  | .dct _ _, _, p, _ => nomatch p
  | .scr _ _, _, p, _ => nomatch p
  | .tag _, _, p, _ => nomatch p
theorem dps_of {K : PySem.W.Frag} {W : Wd} : ∀ (ds : List D) (vs : List V), isPys ds = true → RepL W ds vs → DpAll K W.H vs (pys ds)
  | [], _, _, h => by rw [show _ = [] from h]; exact .nil
  | d :: ds, _, p, ⟨v, r, e, h1, h2⟩ => by
    have p' : isPy d = true ∧ isPys ds = true := by simpa [isPys] using p
    rw [e]
    exact .cons (dp_of d v p'.1 h1) (dps_of ds r p'.2 h2)
end
section
variable {K : PySem.W.Frag} {x y : D} {ta tb : TE} {Γ : Gam} {ds es : List D}
theorem dr2_eqD (px : isPy x = true) (py' : isPy y = true) (sx : SeqAt.shaped (py x) = true) (sy : SeqAt.shaped (py y) = true) : DR2 (rEqD K) x y (.bl (PyData.eqv (py x) (py y))) :=
  dr2_flat fun W u v Q a b k => ⟨_, _, dp_of x u px a, dp_of y v py' b, sx, sy, k _ rfl⟩
theorem dr2_neD (px : isPy x = true) (py' : isPy y = true) (sx : SeqAt.shaped (py x) = true) (sy : SeqAt.shaped (py y) = true) : DR2 (rNeD K) x y (.bl (!PyData.eqv (py x) (py y))) :=
  dr2_flat fun W u v Q a b k => ⟨_, _, dp_of x u px a, dp_of y v py' b, sx, sy, k _ rfl⟩
end
end Dw

/-! Rules over data: tests, statements, calls, lists that are one's own. -/
namespace Dw
open PySem PySem.Spec PyProof.Rows L2
variable [Tabs0]

/-! ### tests -/
section
variable {Γ : Gam} {t ta tb : TE} {c ct' : TT} {a b : Bool} {d d1 d2 : D} {ds : List D} {K : PySem.W.Frag}
abbrev tTru (K : PySem.W.Frag) (ta : TE) : TT := fun σ H Q => ta σ H fun x H' => ∃ k, TruV K x H' k ∧ Q k H'
theorem evt_test (h : Ev t Γ (.bl b)) : EvT (tTest t) Γ b := fun F σ W Q g k => h F σ W _ g fun v H s l => ⟨b, l, k H s⟩
theorem evt_tru_bl (h : Ev t Γ (.bl b)) : EvT (tTru K t) Γ b := fun F σ W Q g k => h F σ W _ g fun v H s l => ⟨b, by rw [show v = .bl b from l]; rfl, k H s⟩
theorem evt_tru_int {i : Int} (h : Ev t Γ (.int i)) : EvT (tTru K t) Γ (i != 0) := fun F σ W Q g k => h F σ W _ g fun v H s l => ⟨_, by rw [show v = .int i from l]; rfl, k H s⟩
theorem evt_tru_lst (h : EvB t Γ ds) : EvT (tTru K t) Γ (!ds.isEmpty) := fun F σ W Q g k => h F σ W _ g fun v vs H s e l => ⟨_, .inl ⟨vs, .of e, by
  have := l.length
  cases ds <;> cases vs <;> simp_all⟩, k H s⟩
theorem evt_and (h : EvT c Γ a) (h' : a = true → EvT ct' Γ b) : EvT (tAnd c ct') Γ (a && b) := fun F σ W Q g k => h F σ W _ g fun H s => by
  cases a with
  | true => exact h' rfl F σ (W.at H) Q (g.same s) fun H' s' => k H' (Same.trans s s')
  | false => exact k H s
theorem evt_or (h : EvT c Γ a) (h' : a = false → EvT ct' Γ b) : EvT (tOr c ct') Γ (a || b) := fun F σ W Q g k => h F σ W _ g fun H s => by
  cases a with
  | false => exact h' rfl F σ (W.at H) Q (g.same s) fun H' s' => k H' (Same.trans s s')
  | true => exact k H s
theorem evt_not (h : EvT c Γ a) : EvT (tNot c) Γ (!a) := fun F σ W Q g k => h F σ W _ g fun H s => k H s
theorem evt_yes : EvT tYes Γ true := fun F σ W Q g k => k W.H (Same.refl _)
theorem dlt_test {Q : Bool → Gam → Prop} (h : Dl t Γ fun d Γ1 => ∃ b, d = .bl b ∧ Q b Γ1) : DlT (tTest t) Γ Q := fun F σ W R g k => h F σ W _ g fun v W1 d Γ1 s g1 l ⟨b, e, q⟩ => ⟨b, by rw [e] at l; exact l, k b W1 Γ1 s g1 q⟩
theorem dlt_tru_bl {Q : Bool → Gam → Prop} (h : Dl t Γ fun d Γ1 => ∃ b, d = .bl b ∧ Q b Γ1) : DlT (tTru K t) Γ Q := fun F σ W R g k => h F σ W _ g fun v W1 d Γ1 s g1 l ⟨b, e, q⟩ => ⟨b, by rw [e] at l; rw [show v = .bl b from l]; rfl, k b W1 Γ1 s g1 q⟩
theorem dlt_not {Q : Bool → Gam → Prop} (h : DlT c Γ fun b Γ1 => Q (!b) Γ1) : DlT (tNot c) Γ Q := fun F σ W R g k => h F σ W _ g fun b W1 Γ1 s g1 q => k (!b) W1 Γ1 s g1 q
theorem dlt_and {Q : Bool → Gam → Prop} (h : DlT c Γ fun b Γ1 => (b = true → DlT ct' Γ1 Q) ∧ (b = false → Q false Γ1)) : DlT (tAnd c ct') Γ Q := fun F σ W R g k => h F σ W _ g fun b W1 Γ1 s g1 q => by
  cases b with
  | true => exact q.1 rfl F σ W1 R g1 fun b' W2 Γ2 s2 g2 q2 => k b' W2 Γ2 (s.trans s2) g2 q2
  | false => exact k false W1 Γ1 s g1 (q.2 rfl)
theorem dlt_yes {Q : Bool → Gam → Prop} (h : Q true Γ) : DlT tYes Γ Q := evt_yes.dl h
/-! ### choice, and, or as values -/
theorem ev_if (h : EvT c Γ a) (h1 : a = true → Ev ta Γ d1) (h2 : a = false → Ev tb Γ d2) : Ev (tIf c ta tb) Γ (if a = true then d1 else d2) := fun F σ W Q g k => h F σ W _ g fun H s => by
  cases a with
  | true => exact h1 rfl F σ (W.at H) Q (g.same s) fun v H' s' l => k v H' (Same.trans s s') l
  | false => exact h2 rfl F σ (W.at H) Q (g.same s) fun v H' s' l => k v H' (Same.trans s s') l
theorem dl_if {Q : D → Gam → Prop} (h : DlT c Γ fun b Γ1 => (b = true → Dl ta Γ1 Q) ∧ (b = false → Dl tb Γ1 Q)) : Dl (tIf c ta tb) Γ Q := fun F σ W R g k => h F σ W _ g fun b W1 Γ1 s g1 q => by
  cases b with
  | true => exact q.1 rfl F σ W1 R g1 fun v W2 d Γ2 s2 g2 l q2 => k v W2 d Γ2 (s.trans s2) g2 l q2
  | false => exact q.2 rfl F σ W1 R g1 fun v W2 d Γ2 s2 g2 l q2 => k v W2 d Γ2 (s.trans s2) g2 l q2
theorem ev_andV (h : Ev ta Γ (.bl a)) (h' : a = true → Ev tb Γ (.bl b)) : Ev (tAndV ta tb) Γ (.bl (a && b)) := fun F σ W Q g k => h F σ W _ g fun v H s l => ⟨a, l, by
  cases a with
  | true => exact h' rfl F σ (W.at H) Q (g.same s) fun v H' s' l => k v H' (Same.trans s s') l
  | false => exact k _ H s rfl⟩
theorem ev_orV (h : Ev ta Γ (.bl a)) (h' : a = false → Ev tb Γ (.bl b)) : Ev (tOrV ta tb) Γ (.bl (a || b)) := fun F σ W Q g k => h F σ W _ g fun v H s l => ⟨a, l, by
  cases a with
  | false => exact h' rfl F σ (W.at H) Q (g.same s) fun v H' s' l => k v H' (Same.trans s s') l
  | true => exact k _ H s rfl⟩
end

/-! ### displays -/
section
variable {Γ : Gam} {t : TA} {ds : List D}
theorem evn_lst (h : EvA t Γ ds) (hz : ds.length ≤ sizeLine) : EvN (tLst t) Γ ds := fun F σ W Q g k => h F σ W _ g fun vs H s l => ⟨by rw [← l.length]; exact hz, fun p hp =>
  k p vs _ (Same.trans s (same_upd hp)) (s.free hp) upd_same (RepL.plus (W := W.at H) hp (same_upd hp) l)⟩
theorem ev_tup (h : EvA t Γ ds) (hz : ds.length ≤ sizeLine) : Ev (tTup t) Γ (.tup ds) := fun F σ W Q g k => h F σ W _ g fun vs H s l => ⟨by rw [← l.length]; exact hz, fun p hp =>
  k _ _ (Same.trans s (same_upd hp)) (rep_new_tup (W := W.at H) (g.same s).ok.dom hp l)⟩
theorem dl_tup {Q : D → Gam → Prop} (h : DlA t Γ fun ds Γ1 => ds.length ≤ sizeLine ∧ Q (.tup ds) Γ1) : Dl (tTup t) Γ Q := fun F σ W R g k => h F σ W _ g fun vs W1 ds Γ1 s g1 l ⟨hz, q⟩ => ⟨by rw [← l.length]; exact hz, fun p hp =>
  k _ (W1.at _) (.tup ds) Γ1 (s.trans (Stp.of_same g1.ok (same_upd hp))) (g1.same (same_upd hp)) (rep_new_tup g1.ok.dom hp l) q⟩
end

/-! ### a list of one's own -/
theorem SR.plus {F : Addr → Prop} {Γ : Gam} {σ : L2.St} {W : Wd} {a : Addr} {H : Hp} (g : SR F Γ σ W) (s : Same W.H H) (n : W.H a = none) (ne : H a ≠ none) :
    Stp F W (W.plus H a) ∧ SR F Γ σ (W.plus H a) ∧ ¬ ownA Γ σ a ∧ ¬ F a ∧ ¬ W.P a := by
  have nu : ¬ W.U a := g.ok.new n
  have kp : ∀ b u, W.H b = some u → ¬ W.U b → H b = some u ∧ ¬ (W.U b ∨ b = a) := fun b u q nb => ⟨s b u q, fun z => z.elim nb fun z => by rw [z, n] at q; cases q⟩
  have st : Stp F W (W.plus H a) := ⟨kp, rfl, fun b h => by
    cases q : W.H b with
    | none => exact absurd q (g.ok.dom b (g.ok.fu b h))
    | some u => exact s b u q⟩
  refine ⟨st, ⟨⟨fun b h z => ?_, fun b h => Or.inl (g.ok.fu b h), fun b h => ?_⟩, g.len, fun j d q => ?_, fun j es q => ?_, g.apartX⟩, fun ⟨i, ds, e, q⟩ => ?_, fun z => nu (g.ok.fu a z), fun z => nu (g.ok.pu a z).1⟩
  · have z : H b = none := z
    rcases h with h | h
    · exact g.ok.dom b h (s.free z)
    · rw [h] at z; exact ne z
  · obtain ⟨u, f, o⟩ := g.ok.pu b h
    exact ⟨Or.inl u, f, o.same s⟩
  · obtain ⟨v, e1, r⟩ := g.val j d q
    exact ⟨v, e1, r.stp st⟩
  · obtain ⟨c, ws, e1, u, f, p, q1, r⟩ := g.ownX j es q
    exact ⟨c, ws, e1, Or.inl u, f, p, s _ _ q1, r.stp st⟩
  · obtain ⟨c, ws, e1, u, f, p, q1, r⟩ := g.ownX i ds e
    rw [q] at e1; cases e1
    exact nu u
theorem SR.adoptX {F : Addr → Prop} {Γ : Gam} {σ : L2.St} {W : Wd} {i : Nat} {a : Addr} {vs : List V} {ds : Ow} (g : SR F Γ σ W) (u : W.U a) (f : ¬ F a) (p : ¬ W.P a) (e : W.H a = some (ds.cell vs)) (l : RepL W ds.ds vs) (no : ¬ ownA Γ σ a) :
    SR F (Γ.set i (.ownX ds)) (σ.set i (some (.ref a))) W := by
  have lt : ∀ (k : Nat) (s : Sl), k = i → (Γ.set i (.ownX ds))[k]? = some s → i < Γ.length := fun k s hk q => by
    rw [hk] at q
    have := (List.getElem?_eq_some_iff.mp q).1
    simpa using this
  refine ⟨g.ok, by simp [g.len], fun j d q => ?_, fun j es q => ?_, fun j k c es fs q1 q2 q3 q4 => ?_⟩
  · by_cases hj : j = i
    · have hl := lt j _ hj q
      rw [hj, List.getElem?_set_self hl] at q; cases q
    · rw [List.getElem?_set_ne (Ne.symm hj)] at q ⊢
      exact g.val j d q
  · by_cases hj : j = i
    · have hl := lt j _ hj q
      rw [hj, List.getElem?_set_self hl] at q; cases q
      exact ⟨a, vs, by rw [hj, List.getElem?_set_self (by rw [← g.len]; exact hl)], u, f, p, e, l⟩
    · rw [List.getElem?_set_ne (Ne.symm hj)] at q ⊢
      exact g.ownX j es q
  · by_cases hj : j = i
    · have hl := lt j _ hj q1
      rw [hj, List.getElem?_set_self (by rw [← g.len]; exact hl)] at q3
      by_cases hk : k = i
      · rw [hj, hk]
      · rw [List.getElem?_set_ne (Ne.symm hk)] at q2 q4
        cases q3
        exact absurd ⟨k, fs, q2, q4⟩ no
    · rw [List.getElem?_set_ne (Ne.symm hj)] at q1 q3
      by_cases hk : k = i
      · have hl := lt k _ hk q2
        rw [hk, List.getElem?_set_self (by rw [← g.len]; exact hl)] at q4
        cases q4
        exact absurd ⟨j, es, q1, q3⟩ no
      · rw [List.getElem?_set_ne (Ne.symm hk)] at q2 q4
        exact g.apartX j k c es fs q1 q2 q3 q4
theorem SR.adopt {F : Addr → Prop} {Γ : Gam} {σ : L2.St} {W : Wd} {i : Nat} {a : Addr} {vs : List V} {ds : List D} (g : SR F Γ σ W) (u : W.U a) (f : ¬ F a) (p : ¬ W.P a) (e : W.H a = some (.lst vs)) (l : RepL W ds vs) (no : ¬ ownA Γ σ a) :
    SR F (Γ.set i (.own ds)) (σ.set i (some (.ref a))) W := g.adoptX (ds := ⟨none, ds⟩) u f p e l no
theorem SR.setOwn {F : Addr → Prop} {Γ : Gam} {σ : L2.St} {W : Wd} {i : Nat} {a : Addr} {vs : List V} {ds : List D} {H : Hp} (g : SR F Γ σ W) (s : Same W.H H) (n : W.H a = none) (e : H a = some (.lst vs)) (l : RepL (W.plus H a) ds vs) :
    Stp F W (W.plus H a) ∧ SR F (Γ.set i (.own ds)) (σ.set i (some (.ref a))) (W.plus H a) := by
  obtain ⟨st, g2, no, f, p⟩ := g.plus s n (by rw [e]; exact fun z => nomatch z)
  exact ⟨st, g2.adopt (Or.inr rfl) f p e l no⟩
end Dw

/-! Rules over data: own lists changed, statements, defs and their calls. -/
namespace Dw
open PySem PySem.Spec PyProof.Rows L2
variable [Tabs0]

/-! ### an own list is changed -/
theorem SR.writeX {F : Addr → Prop} {Γ : Gam} {σ : L2.St} {W : Wd} {i : Nat} {a : Addr} {vs : List V} {ds es : Ow} (g : SR F Γ σ W) (hi : Γ[i]? = some (.ownX ds)) (hs : σ[i]? = some (some (.ref a))) (l : RepL W es.ds vs) :
    Stp F W (W.at (upd W.H a (es.cell vs))) ∧ SR F (Γ.set i (.ownX es)) σ (W.at (upd W.H a (es.cell vs))) := by
  obtain ⟨a', us, e1, u, f, p, q, r⟩ := g.ownX i ds hi
  rw [hs] at e1; cases e1
  have kp : ∀ b o, W.H b = some o → ¬ W.U b → (upd W.H a (es.cell vs)) b = some o ∧ ¬ W.U b := fun b o e n => ⟨by rw [upd_ne (fun z : b = a => n (by rw [z]; exact u))]; exact e, n⟩
  have st : Stp F W (W.at (upd W.H a (es.cell vs))) := ⟨kp, rfl, fun b h => upd_ne (fun z : b = a => f (by rw [← z]; exact h))⟩
  refine ⟨st, ⟨⟨fun b h z => ?_, g.ok.fu, fun b h => ?_⟩, by simp [g.len], fun j d q' => ?_, fun j fs q' => ?_, fun j k c es' fs q1 q2 q3 q4 => ?_⟩⟩
  · have z : (upd W.H a (es.cell vs)) b = none := z
    by_cases hb : b = a
    · rw [hb, upd_same] at z; cases z
    · rw [upd_ne hb] at z; exact g.ok.dom b h z
  · obtain ⟨u', f', o⟩ := g.ok.pu b h
    exact ⟨u', f', o.upd (no_extX q) fun z : b = a => p (by rw [← z]; exact h)⟩
  · have hj : i ≠ j := fun z => by
      subst z
      have hl : i < Γ.length := (List.getElem?_eq_some_iff.mp hi).1
      rw [List.getElem?_set_self hl] at q'; cases q'
    rw [List.getElem?_set_ne hj] at q'
    obtain ⟨v, e1, r'⟩ := g.val j d q'
    exact ⟨v, e1, r'.stp st⟩
  · by_cases hj : i = j
    · subst hj
      have hl : i < Γ.length := (List.getElem?_eq_some_iff.mp hi).1
      rw [List.getElem?_set_self hl] at q'; cases q'
      exact ⟨a, vs, hs, u, f, p, upd_same, l.stp st⟩
    · rw [List.getElem?_set_ne hj] at q'
      obtain ⟨c, ws, e1, u', f', p', q1, r'⟩ := g.ownX j fs q'
      have nc : c ≠ a := fun z => hj (g.apartX i j a ds fs hi q' hs (z ▸ e1))
      exact ⟨c, ws, e1, u', f', p', (upd_ne nc).trans q1, r'.stp st⟩
  · have get : ∀ (j : Nat) (es' : Ow), (Γ.set i (.ownX es))[j]? = some (Sl.ownX es') → ∃ fs, Γ[j]? = some (Sl.ownX fs) := fun j es' q => by
      by_cases hj : i = j
      · subst hj; exact ⟨ds, hi⟩
      · rw [List.getElem?_set_ne hj] at q; exact ⟨es', q⟩
    obtain ⟨x, e1⟩ := get j es' q1
    obtain ⟨y, e2⟩ := get k fs q2
    exact g.apartX j k c x y e1 e2 q3 q4
theorem SR.write {F : Addr → Prop} {Γ : Gam} {σ : L2.St} {W : Wd} {i : Nat} {a : Addr} {vs : List V} {ds es : List D} (g : SR F Γ σ W) (hi : Γ[i]? = some (.own ds)) (hs : σ[i]? = some (some (.ref a))) (l : RepL W es vs) :
    Stp F W (W.at (upd W.H a (.lst vs))) ∧ SR F (Γ.set i (.own es)) σ (W.at (upd W.H a (.lst vs))) := g.writeX (ds := ⟨none, ds⟩) (es := ⟨none, es⟩) hi hs l
section
variable {K : PySem.W.Frag} {Γ : Gam} {i : Nat} {t : TA} {Q : D → Gam → Prop} {ds : List D}
/-- i's list is at the same place behind a step -/
theorem tyV_lst {K : PySem.W.Frag} {H : Hp} {a : Addr} {vs : List V} (h : H a = some (.lst vs)) : tyV K "list" (.ref a) H := .inl ⟨rfl, _, .inl (.inl h)⟩
theorem dl_append (h0 : ∃ ds, Γ[i]? = some (.own ds)) (h : DlA t Γ fun es Γ1 => ∃ e ds, es = [e] ∧ Γ1[i]? = some (.own ds) ∧ ds.length < sizeLine ∧ Q .non (Γ1.set i (.own (ds ++ [e])))) : Dl (tBM K "list" rAppend (tVar i) t) Γ Q := fun F σ W R g k => by
  obtain ⟨ds0, e0⟩ := h0
  obtain ⟨a, vs0, hs, _, _, _, q0, _⟩ := g.own i ds0 e0
  refine ⟨.ref a, hs, tyV_lst q0, h F σ W _ g fun us W1 es Γ1 s1 g1 l1 ⟨e, ds, e1, e2, hz, q⟩ => ?_⟩
  obtain ⟨a', vs, hs', u, f, p, q1, r1⟩ := g1.own i ds e2
  rw [hs] at hs'; cases hs'
  subst e1
  obtain ⟨v, _, rfl, l1, rfl⟩ := l1
  obtain ⟨st, g2⟩ := g1.write e2 hs (r1.append (RepL.one l1))
  exact ⟨a, vs, v, rfl, rfl, q1, by rw [← r1.length]; exact hz, k .non _ .non _ (s1.trans st) g2 rfl q⟩
end

/-! ### statements -/
section
variable {K : PySem.W.Frag} {Γ : Gam} {i j : Nat} {t u : TS} {te : TE} {De : DE} {ds es : List D}
theorem ds_next (h : De.nx Γ) : Ds tNext Γ De := fun F σ W Dr g l => l.nx σ W Γ (Stp.refl W) g h
theorem ds_seq (h : Ds t Γ { De with nx := fun Γ' => Ds u Γ' De }) : Ds (tSeq t u) Γ De := fun F σ W Dr g l => h F σ W { Dr with nx := u Dr } g
  ⟨fun σ1 W1 Γ1 s g1 q => q F σ1 W1 Dr g1 (l.after s), l.rt, l.bk, l.ct⟩
theorem ds_asg (h : Dl te Γ fun d Γ1 => De.nx (Γ1.set i (.val d))) : Ds (tAsg te (gName i)) Γ De := fun F σ W Dr g l => h F σ W _ g fun v W1 d Γ1 s g1 r q => l.nx _ W1 _ s (g1.set r) q
theorem ds_asg_own (h : EvN te Γ ds) (q : De.nx (Γ.set i (.own ds))) : Ds (tAsg te (gName i)) Γ De := fun F σ W Dr g l => h F σ W _ g fun a vs H s n e r =>
  let ⟨st, g2⟩ := g.setOwn (i := i) s n e r
  l.nx _ (W.plus H a) _ st g2 q
theorem ds_if {c : TT} (h : DlT c Γ fun b Γ1 => (b = true → Ds t Γ1 De) ∧ (b = false → Ds u Γ1 De)) : Ds (tIfS c t u) Γ De := fun F σ W Dr g l => h F σ W _ g fun b W1 Γ1 s g1 q => by
  cases b with
  | true => exact q.1 rfl F σ W1 Dr g1 (l.after s)
  | false => exact q.2 rfl F σ W1 Dr g1 (l.after s)
theorem ds_ret (h : Dl te Γ fun d _ => De.rt d) : Ds (tRet te) Γ De := fun F σ W Dr g l => h F σ W _ g fun v W1 d Γ1 s g1 r q => l.rt v W1 d s g1.ok r q
theorem ds_drop (h : Dl te Γ fun _ Γ1 => De.nx Γ1) : Ds (tDrop te) Γ De := fun F σ W Dr g l => h F σ W _ g fun v W1 d Γ1 s g1 r q => l.nx _ W1 _ s g1 q
/-- an own list is no longer changed -/
theorem SR.freeze {F : Addr → Prop} {σ : L2.St} {W : Wd} {a : Addr} (g : SR F Γ σ W) (hi : Γ[i]? = some (.own ds)) (hs : σ[i]? = some (some (.ref a))) :
    Stp F W ⟨W.H, fun b => W.U b ∧ b ≠ a, W.P⟩ ∧ SR F (Γ.set i (.val (.lst ds))) σ ⟨W.H, fun b => W.U b ∧ b ≠ a, W.P⟩ := by
  obtain ⟨a', us, e1, u, f, p, q, r⟩ := g.own i ds hi
  rw [hs] at e1; cases e1
  have st : Stp F W ⟨W.H, fun b => W.U b ∧ b ≠ a, W.P⟩ := ⟨fun b o e n => ⟨e, fun z => n z.1⟩, rfl, fun _ _ => rfl⟩
  have hl : i < Γ.length := (List.getElem?_eq_some_iff.mp hi).1
  refine ⟨st, ⟨⟨fun b h => g.ok.dom b h.1, fun b h => ⟨g.ok.fu b h, fun z => f (z ▸ h)⟩, fun b h => let ⟨u', f', pp⟩ := g.ok.pu b h; ⟨⟨u', fun z => p (z ▸ h)⟩, f', pp⟩⟩, by simp [g.len], fun j d q' => ?_, fun j fs q' => ?_, fun j k c es' fs q1 q2 q3 q4 => ?_⟩⟩
  · by_cases hj : i = j
    · subst hj
      rw [List.getElem?_set_self hl] at q'; cases q'
      exact ⟨.ref a, hs, a, us, rfl, q, fun z => z.2 rfl, r.stp st⟩
    · rw [List.getElem?_set_ne hj] at q'
      obtain ⟨v, e1, r'⟩ := g.val j d q'
      exact ⟨v, e1, r'.stp st⟩
  · have hj : i ≠ j := fun z => by
      subst z
      rw [List.getElem?_set_self hl] at q'; cases q'
    rw [List.getElem?_set_ne hj] at q'
    obtain ⟨c, ws, e1, u', f', p', q1, r'⟩ := g.ownX j fs q'
    exact ⟨c, ws, e1, ⟨u', fun z => hj (g.apartX i j a ⟨none, ds⟩ fs hi q' hs (z ▸ e1))⟩, f', p', q1, r'.stp st⟩
  · have get : ∀ (j : Nat) (es' : Ow), (Γ.set i (.val (.lst ds)))[j]? = some (Sl.ownX es') → Γ[j]? = some (Sl.ownX es') := fun j es' q => by
      by_cases hj : i = j
      · subst hj; rw [List.getElem?_set_self hl] at q; cases q
      · rw [List.getElem?_set_ne hj] at q; exact q
    exact g.apartX j k c es' fs (get j es' q1) (get k fs q2) q3 q4
theorem ds_freeze (i : Nat) (hi : Γ[i]? = some (.own ds)) (h : Ds t (Γ.set i (.val (.lst ds))) De) : Ds t Γ De := fun F σ W Dr g l => by
  obtain ⟨a, vs, hs, _⟩ := g.own i ds hi
  obtain ⟨st, g2⟩ := g.freeze hi hs
  exact h F σ ⟨W.H, fun b => W.U b ∧ b ≠ a, W.P⟩ Dr g2 (l.after st)
theorem ds_ret_own (hi : Γ[i]? = some (.own ds)) (h : De.rt (.lst ds)) : Ds (tRet (tVar i)) Γ De := by
  have hl : i < Γ.length := (List.getElem?_eq_some_iff.mp hi).1
  exact ds_freeze i hi (ds_ret ((ev_var (d := .lst ds) (by rw [List.getElem?_set_self hl])).dl h))
theorem ds_par {ta : TA} (h : DlA ta Γ fun ds Γ1 => ∃ x y, ds = [x, y] ∧ De.nx ((Γ1.set i (.val x)).set j (.val y))) : Ds (tPar i j ta) Γ De := fun F σ W Dr g l => h F σ W _ g fun vs W1 ds Γ1 s g1 r ⟨x, y, e, q⟩ => by
  subst e
  obtain ⟨v, _, rfl, r1, u, _, rfl, r2, rfl⟩ := r
  exact ⟨v, u, rfl, l.nx _ W1 _ s ((g1.set r1).set r2) q⟩
end

/-! ### a def's promise over data -/
/-- for each x : α that is ok, called with args x, it returns some d with rel x d -/
structure Spc where
  ty : Type
  args : ty → List D
  ok : ty → Prop
  rel : ty → D → Prop
def toSp (s : Spc) : Sp := fun vs H Q _ => ∃ (x : s.ty) (F : Addr → Prop) (W : Wd), W.H = H ∧ WOk F W ∧ RepL W (s.args x) vs ∧ s.ok x ∧ ∀ d v W', s.rel x d → Stp F W W' → WOk F W' → Rep W' d v → Q v W'.H
/-- the slots at a def's start -/
def Gz0 (n : Nat) (ds : List D) : Gam := ds.map Sl.val ++ List.replicate (n - ds.length) Sl.unset
theorem sr_start {F : Addr → Prop} {W : Wd} {N : List Str} {ds : List D} {vs : List V} (ok : WOk F W) (r : RepL W ds vs) : SR F (Gz0 N.length ds) (L2.start N vs) W := by
  have hl := r.length
  refine ⟨ok, by simp [Gz0, L2.start, hl], fun i d e => ?_, fun i d e => ?_, fun i j a ds' es e => ?_⟩
  · unfold Gz0 at e
    by_cases hi : i < ds.length
    · rw [List.getElem?_append_left (by simpa using hi), List.getElem?_map] at e
      cases q : ds[i]? with
      | none => rw [q] at e; cases e
      | some d' =>
        rw [q] at e; cases e
        obtain ⟨v, e1, r1⟩ := r.get q
        refine ⟨v, ?_, r1⟩
        unfold L2.start
        rw [List.getElem?_append_left (by simp [← hl, hi]), List.getElem?_map, e1]
        rfl
    · rw [List.getElem?_append_right (by simpa using hi)] at e
      have := List.mem_of_getElem? e
      rw [List.mem_replicate] at this
      cases this.2
  all_goals
    exfalso
    unfold Gz0 at e
    by_cases hi : i < ds.length
    · rw [List.getElem?_append_left (by simpa using hi), List.getElem?_map] at e
      cases q : ds[i]? with
      | none => rw [q] at e; cases e
      | some d' => rw [q] at e; cases e
    · rw [List.getElem?_append_right (by simpa using hi)] at e
      have := List.mem_of_getElem? e
      rw [List.mem_replicate] at this
      cases this.2
theorem body_of {s : Spc} {N : List Str} {t : TS} {vs : List V} {H : Hp} {Q : VK} {E : XK} (hs : toSp s vs H Q E) (hb : ∀ x, s.ok x → Ds t (Gz0 N.length (s.args x)) ⟨fun _ => s.rel x .non, s.rel x, fun _ => False, fun _ => False⟩) :
    t { nx := fun _ H' => Q .non H', rt := Q } (L2.start N vs) H := by
  obtain ⟨x, F, W, rfl, ok, r, hx, q⟩ := hs
  exact hb x hx F _ W _ (sr_start ok r) ⟨fun σ W' Γ st g h => q .non .non W' h st g.ok rfl, fun v W' d st ok' r' h => q d v W' h st ok' r', fun _ _ _ _ _ h => h.elim, fun _ _ _ _ _ h => h.elim⟩
theorem spc_len {s : Spc} {n : Nat} (h : ∀ x, (s.args x).length = n) : ∀ vs H Q E, toSp s vs H Q E → vs.length = n := fun vs H Q E ⟨x, F, W, _, _, r, _⟩ => by rw [← r.length]; exact h x
section
variable {P : Program} {w : World} {K : PySem.W.Frag} {mg : Str → Option Value} {base : Heap}
/-- THE RULE for a def that raises nothing -/
theorem fn_ok {x qual : Str} {st : Stmt} {f : Addr} {fd : FuncData} {N ps : List Str} {k : Nat} {s : Spc} (F : Fun K x qual st f fd) (S : FnScope N ps (defScope st)) (len : ∀ x, (s.args x).length = ps.length)
    (hbody : ∀ (cdv : Value) (A : Around) (outer : List Env) (s' : Shared) (H : Hp) (E : XK), Room k (A.deeper (envOfC qual (defScope st) s'.heap.objs.size f cdv)) →
      ∃ t, PSs (cxOf CX0 P w K mg base N qual (defScope st) f cdv A outer s' H E).nox (defBody st) t ∧ ∀ x, s.ok x → Ds t (Gz0 N.length (s.args x)) ⟨fun _ => s.rel x .non, s.rel x, fun _ => False, fun _ => False⟩) :
    FnOk P w K mg base CX0 (k + 1) f fd ps (toSp s) :=
  F.ok S (spc_len len) fun cdv A outer s' H vs Q E hr h => by
    obtain ⟨t, p, hb⟩ := hbody cdv A outer s' H E hr
    exact ⟨t, p, body_of h hb⟩
end
section
variable {Γ : Gam} {s : Spc} {t tk : TA} {E : XK} {Q : D → Gam → Prop} {ds es : List D} {d : D}
theorem dl_call (h : DlA t Γ fun ds Γ1 => ∃ x, ds = s.args x ∧ s.ok x ∧ ∀ d, s.rel x d → Q d Γ1) : Dl (tCall (toSp s) [] E t) Γ Q := fun F σ W R g k => h F σ W _ g fun vs W1 ds Γ1 st g1 r ⟨x, e, ok, q⟩ => by
  subst e
  rw [List.append_nil]
  exact ⟨x, _, W1, rfl, g1.callOk, r, ok, fun d v W' hd st' ok' r' => k v W' d Γ1 (st.trans (st'.sub fun _ z => .inl z)) (g1.call st' ok') r' (q d hd)⟩
theorem pure_call {F : Addr → Prop} {σ : L2.St} {W : Wd} {vs : List V} {x : s.ty} {R : VK} {U : Addr → Prop} (g : SR F Γ σ W) (ul : ∀ a, U a → W.U a) (hU : RepL ⟨W.H, U, fun _ => False⟩ (s.args x) vs) (ok : s.ok x) (k : ∀ d v H, s.rel x d → Same W.H H → Rep ⟨H, U, fun _ => False⟩ d v → R v H) : toSp s vs W.H R E := by
  refine ⟨x, U, ⟨W.H, U, fun _ => False⟩, rfl, ⟨fun a h => g.ok.dom a (ul a h), fun a h => h, fun a h => h.elim⟩, hU, ok, fun d v W' hd st ok' r => ?_⟩
  refine k d v W'.H hd (fun b o e => ?_) (Rep.mono (W := W') (W' := ⟨W'.H, U, fun _ => False⟩) (fun a u e n => ⟨e, fun z => n (ok'.fu a z)⟩) (fun a z => by rw [st.pur] at z; exact z) d v r)
  by_cases hb : U b
  · exact (st.fr b hb).trans e
  · exact (st.keep b o e hb).1
/-- purse-free data, as seen by a def that draws nothing -/
theorem Rep.addP {W : Wd} {H : Hp} {U P : Addr → Prop} {d : D} {v : V} (h : Rep ⟨H, U, fun _ => False⟩ d v) : Rep ⟨H, U, P⟩ d v := Rep.mono (W := ⟨H, U, fun _ => False⟩) (W' := ⟨H, U, P⟩) (fun _ _ e n => ⟨e, n⟩) (fun _ z => z.elim) d v h
mutual
/-- no purse within -/
def noP : D → Bool
  | .purse => false | .scr _ _ => false | .tag _ => false
  | .tup ds => noPs ds | .lst ds => noPs ds | .obj _ _ ds => noPs ds | .dct _ ds => noPs ds | .tupN ds => noPs ds
  | _ => true
def noPs : List D → Bool
  | [] => true
  | d :: ds => noP d && noPs ds
end
mutual
theorem Rep.delP {W : Wd} : ∀ (d : D) (v : V), noP d = true → Rep W d v → Rep ⟨W.H, W.U, fun _ => False⟩ d v
  | .non, _, _, h => h
  | .bl _, _, _, h => h
  | .int _, _, _, h => h
  | .str _, _, _, h => h
  | .raw _, _, _, h => h
  | .tup ds, _, n, ⟨a, vs, e, h, u, r⟩ => ⟨a, vs, e, h, u, RepL.delP ds vs n r⟩
  | .tupN ds, _, n, ⟨a, vs, e, h, u, r⟩ => ⟨a, vs, e, h, u, RepL.delP ds vs n r⟩
  | .lst ds, _, n, ⟨a, vs, e, h, u, r⟩ => ⟨a, vs, e, h, u, RepL.delP ds vs n r⟩
  | .obj C ns ds, _, n, ⟨a, dx, vs, e, h, u, l, r⟩ => ⟨a, dx, vs, e, h, u, l, RepL.delP ds vs n r⟩
  | .purse, _, n, _ => nomatch n
  | .rng _ _, _, _, h => h
  | .dct ks ds, _, n, ⟨a, vs, e, h, u, l, r⟩ => ⟨a, vs, e, h, u, l, RepL.delP ds vs n r⟩
  | .scr _ _, _, n, _ => nomatch n
  | .tag _, _, n, _ => nomatch n
theorem RepL.delP {W : Wd} : ∀ (ds : List D) (vs : List V), noPs ds = true → RepL W ds vs → RepL ⟨W.H, W.U, fun _ => False⟩ ds vs
  | [], _, _, h => h
  | d :: ds, _, n, ⟨v, r, e, h1, h2⟩ => by
    have n' : noP d = true ∧ noPs ds = true := by simpa [noPs] using n
    exact ⟨v, r, e, Rep.delP d v n'.1 h1, RepL.delP ds r n'.2 h2⟩
end
theorem noPs_map {α : Type} {f : α → D} (h : ∀ x, noP (f x) = true) : ∀ xs : List α, noPs (xs.map f) = true
  | [] => rfl
  | x :: xs => by
    show (noP (f x) && noPs (xs.map f)) = true
    rw [h, noPs_map h xs]; rfl
/-- a call that draws nothing -/
theorem ev_call {x : s.ty} (h : EvA t Γ (s.args x)) (np : noPs (s.args x) = true) (ok : s.ok x) (hd : ∀ d', s.rel x d' → d' = d) : Ev (tCall (toSp s) [] E t) Γ d := fun F σ W R g k => h F σ W _ g fun vs H st r => by
  rw [List.append_nil]
  exact pure_call (W := W.at H) (g.same st) (fun _ z => z) (RepL.delP _ _ np r) ok fun d' v H' hd' s' r' => by
    rw [hd d' hd'] at r'
    exact k v H' (Same.trans st s') (Rep.addP (W := W) r')
end
end Dw

/-! Rules over data: targets, iterators, for, comprehensions. -/
namespace Dw
open PySem PySem.Spec PyProof.Rows L2
variable [Tabs0]

/-! ### wiped slots -/
theorem wipe_get (σ : L2.St) (j : Nat) : ∀ vs : List Nat, (wipe σ vs)[j]? = if j ∈ vs then (if j < σ.length then some none else none) else σ[j]?
  | [] => by simp [wipe]
  | v :: vs => by
    unfold wipe
    by_cases hv : v = j
    · subst hv
      rw [if_pos List.mem_cons_self]
      by_cases hl : v < σ.length
      · rw [List.getElem?_set_self (by rw [wipe_length]; exact hl), if_pos hl]
      · rw [if_neg hl]
        exact List.getElem?_eq_none (by rw [List.length_set, wipe_length]; omega)
    · rw [List.getElem?_set_ne hv, wipe_get σ j vs]
      by_cases hm : j ∈ vs
      · rw [if_pos hm, if_pos (List.mem_cons_of_mem _ hm)]
      · rw [if_neg hm, if_neg (by simp only [List.mem_cons, not_or]; exact ⟨fun z => hv z.symm, hm⟩)]
theorem wipe_set {σ : L2.St} {i : Nat} {o : Option V} {vs : List Nat} (h : i ∈ vs) : wipe (σ.set i o) vs = wipe σ vs := by
  refine List.ext_getElem? fun j => ?_
  rw [wipe_get, wipe_get, List.length_set]
  by_cases hm : j ∈ vs
  · rw [if_pos hm, if_pos hm]
  · rw [if_neg hm, if_neg hm, List.getElem?_set_ne (fun z : i = j => hm (by rw [← z]; exact h))]
theorem wipe_wipe {σ : L2.St} {vs : List Nat} : wipe (wipe σ vs) vs = wipe σ vs := by
  refine List.ext_getElem? fun j => ?_
  rw [wipe_get (wipe σ vs), wipe_get σ, wipe_length]
  by_cases hm : j ∈ vs
  · rw [if_pos hm, if_pos hm]
  · rw [if_neg hm, if_neg hm]
def wipeG (Γ : Gam) : List Nat → Gam
  | [] => Γ
  | v :: vs => (wipeG Γ vs).set v .unset
theorem wipeG_length (Γ : Gam) : ∀ vs : List Nat, (wipeG Γ vs).length = Γ.length
  | [] => rfl
  | v :: vs => by unfold wipeG; rw [List.length_set, wipeG_length Γ vs]
theorem wipeG_get {Γ : Gam} {j : Nat} {s : Sl} : ∀ {vs : List Nat}, (wipeG Γ vs)[j]? = some s → s = .unset ∨ (Γ[j]? = some s ∧ j ∉ vs)
  | [], h => .inr ⟨h, by simp⟩
  | v :: vs, h => by
    unfold wipeG at h
    by_cases hv : v = j
    · subst hv
      have hl : v < (wipeG Γ vs).length := by
        have := (List.getElem?_eq_some_iff.mp h).1
        simpa using this
      rw [List.getElem?_set_self hl] at h
      cases h; exact .inl rfl
    · rw [List.getElem?_set_ne hv] at h
      rcases wipeG_get h with h | ⟨h1, h2⟩
      · exact .inl h
      · exact .inr ⟨h1, by simp only [List.mem_cons, not_or]; exact ⟨fun z => hv z.symm, h2⟩⟩
theorem SR.wipe {F : Addr → Prop} {Γ : Gam} {σ : L2.St} {W : Wd} (g : SR F Γ σ W) (vs : List Nat) : SR F (wipeG Γ vs) (wipe σ vs) W :=
  g.weak (by rw [wipeG_length, wipe_length, g.len]) fun i s e => by
    rcases wipeG_get e with h | ⟨h1, h2⟩
    · exact .inl h
    · exact .inr ⟨h1, by rw [wipe_get, if_neg h2]⟩
theorem SR.unwipe {F : Addr → Prop} {Γ : Gam} {σ : L2.St} {W : Wd} {vs : List Nat} (g : SR F Γ (L2.wipe σ vs) W) : SR F Γ σ W :=
  ⟨g.ok, by rw [g.len, wipe_length], fun i d e => let ⟨v, e1, r⟩ := g.val i d e; ⟨v, (wipe_some e1).1, r⟩,
   fun i ds e => let ⟨a, vs', e1, r⟩ := g.ownX i ds e; ⟨a, vs', (wipe_some e1).1, r⟩, fun i j a ds es e1 e2 e3 e4 => by
    obtain ⟨b, _, q1, _⟩ := g.ownX i ds e1
    obtain ⟨c, _, q2, _⟩ := g.ownX j es e2
    have z1 := (wipe_some q1).1
    have z2 := (wipe_some q2).1
    rw [e3] at z1; cases z1
    rw [e4] at z2; cases z2
    exact g.apartX i j _ ds es e1 e2 q1 q2⟩

/-! ### targets -/
/-- storing x changes the slots is alone -/
def DG (g : TG) (is : List Nat) (x : D) (Γ Γ' : Gam) : Prop := ∀ (F : Addr → Prop) (σ : L2.St) (W : Wd) (v : V) (R : L2.St → Hp → Prop), SR F Γ σ W → Rep W x v →
  (∀ σ', SR F Γ' σ' W → (∀ vs : List Nat, (∀ i ∈ is, i ∈ vs) → wipe σ' vs = wipe σ vs) → R σ' W.H) → g v σ W.H R
theorem dg_name {i : Nat} {x : D} {Γ : Gam} : DG (gName i) [i] x Γ (Γ.set i (.val x)) := fun F σ W v R g r k => k _ (g.set r) fun vs h => wipe_set (h i List.mem_cons_self)
theorem dg_tup2 {K : PySem.W.Frag} {g1 g2 : TG} {is js : List Nat} {x y : D} {Γ Γ1 Γ2 : Gam} (h1 : DG g1 is x Γ Γ1) (h2 : DG g2 js y Γ1 Γ2) : DG (gTup K 2 (gCons g1 (gCons g2 gNil))) (is ++ js) (.tup [x, y]) Γ Γ2 := fun F σ W v R g r k => by
  obtain ⟨a, vs, e, ha, nu, v1, _, rfl, r1, v2, _, rfl, r2, rfl⟩ := r
  refine ⟨a, [v1, v2], e, ha.sq, rfl, v1, [v2], rfl, h1 F σ W v1 _ g r1 fun σ1 g1 w1 => ⟨v2, [], rfl, h2 F σ1 W v2 _ g1 r2 fun σ2 g2 w2 => ⟨rfl, k σ2 g2 fun vs h => ?_⟩⟩⟩
  rw [w2 vs fun i hi => h i (List.mem_append_right _ hi), w1 vs fun i hi => h i (List.mem_append_left _ hi)]
theorem dg_tup3 {K : PySem.W.Frag} {g1 g2 g3 : TG} {is js ks : List Nat} {x y z : D} {Γ Γ1 Γ2 Γ3 : Gam} (h1 : DG g1 is x Γ Γ1) (h2 : DG g2 js y Γ1 Γ2) (h3 : DG g3 ks z Γ2 Γ3) : DG (gTup K 3 (gCons g1 (gCons g2 (gCons g3 gNil)))) (is ++ (js ++ ks)) (.tup [x, y, z]) Γ Γ3 := fun F σ W v R g r k => by
  obtain ⟨a, vs, e, ha, nu, v1, _, rfl, r1, v2, _, rfl, r2, v3, _, rfl, r3, rfl⟩ := r
  refine ⟨a, [v1, v2, v3], e, ha.sq, rfl, v1, [v2, v3], rfl, h1 F σ W v1 _ g r1 fun σ1 g1 w1 => ⟨v2, [v3], rfl, h2 F σ1 W v2 _ g1 r2 fun σ2 g2 w2 => ⟨v3, [], rfl, h3 F σ2 W v3 _ g2 r3 fun σ3 g3 w3 => ⟨rfl, k σ3 g3 fun vs h => ?_⟩⟩⟩⟩
  rw [w3 vs fun i hi => h i (List.mem_append_right _ (List.mem_append_right _ hi)), w2 vs fun i hi => h i (List.mem_append_right _ (List.mem_append_left _ hi)), w1 vs fun i hi => h i (List.mem_append_left _ hi)]
theorem ds_asg_g {te : TE} {g : TG} {Γ : Gam} {De : DE} (h : Dl te Γ fun d Γ1 => ∃ is Γ2, DG g is d Γ1 Γ2 ∧ De.nx Γ2) : Ds (tAsg te g) Γ De := fun F σ W Dr s l => h F σ W _ s fun v W1 d Γ1 st g1 r ⟨is, Γ2, hg, q⟩ =>
  hg F σ W1 v _ g1 r fun σ' g' _ => l.nx σ' W1 Γ2 st g' q

/-! ### iterators -/
structure ItOk (F : Addr → Prop) (W : Wd) (J : It) (xs : List D) : Prop where
  go : ∀ (W1 : Wd) (i : Nat) (x : D), Stp F W W1 → WOk F W1 → xs[i]? = some x → J.go i W1.H ∧ ∀ v H', J.yld i W1.H v H' → Same W1.H H' ∧ Rep (W1.at H') x v
  stop : ∀ (W1 : Wd), Stp F W W1 → WOk F W1 → J.stop xs.length W1.H
structure ItS (W : Wd) (J : It) (xs : List D) : Prop where
  go : ∀ (W1 : Wd) (i : Nat) (x : D), (∀ a, W1.U a → W1.H a ≠ none) → Same W.H W1.H → (∀ a u, W.H a = some u → ¬ W.U a → ¬ W1.U a) → W1.P = W.P → xs[i]? = some x → J.go i W1.H ∧ ∀ v H', J.yld i W1.H v H' → Same W1.H H' ∧ Rep (W1.at H') x v
  stop : ∀ (H : Hp), Same W.H H → J.stop xs.length H
def Di (wi : TI) (Γ : Gam) (Q : List D → Gam → Prop) : Prop := ∀ (F : Addr → Prop) (σ : L2.St) (W : Wd) (R : It → Hp → Prop), SR F Γ σ W → (∀ J W' xs Γ', Stp F W W' → SR F Γ' σ W' → ItOk F W' J xs → Q xs Γ' → R J W'.H) → wi σ W.H R
def Ei (wi : TI) (Γ : Gam) (xs : List D) : Prop := ∀ (F : Addr → Prop) (σ : L2.St) (W : Wd) (R : It → Hp → Prop), SR F Γ σ W → (∀ J H, Same W.H H → ItS (W.at H) J xs → R J H) → wi σ W.H R
section
variable {K : PySem.W.Frag} {Γ : Gam} {t : TE} {ta : TA} {xs : List D} {Q : List D → Gam → Prop}
theorem di_list (h : Dl t Γ fun d Γ1 => ∃ xs, d = .lst xs ∧ Q xs Γ1) : Di (iList K t) Γ Q := fun F σ W R g k => h F σ W _ g fun v W1 d Γ1 st g1 r ⟨xs, e, q⟩ => by
  subst e
  obtain ⟨a, vs, rfl, ha, nu, l⟩ := r
  refine ⟨a, rfl, ⟨vs, .of ha⟩, k (Itl K a) W1 xs Γ1 st g1 ⟨fun W2 i x s2 ok2 hx => ?_, fun W2 s2 ok2 => ⟨vs, .of (s2.keep a _ ha nu).1, by rw [l.length]; exact Nat.le_refl _⟩⟩ q⟩
  obtain ⟨v, hv, rv⟩ := l.get hx
  exact ⟨⟨vs, v, .of (s2.keep a _ ha nu).1, hv⟩, fun u H' ⟨e, hy⟩ => by
    subst e
    have := hy vs (.of (s2.keep a _ ha nu).1)
    rw [hv] at this; cases this
    exact ⟨Same.refl _, rv.stp s2⟩⟩
theorem ei_list (h : EvB t Γ xs) : Ei (iList K t) Γ xs := fun F σ W R g k => h F σ W _ g fun a vs H st ha l => by
  refine ⟨a, rfl, ⟨vs, .of ha⟩, k (Itl K a) H st ⟨fun W2 i x dm s2 ku pu hx => ?_, fun H2 s2 => ⟨vs, .of (s2 a _ ha), by rw [l.length]; exact Nat.le_refl _⟩⟩⟩
  obtain ⟨v, hv, rv⟩ := l.get hx
  exact ⟨⟨vs, v, .of (s2 a _ ha), hv⟩, fun u H' ⟨e, hy⟩ => by
    subst e
    have := hy vs (.of (s2 a _ ha))
    rw [hv] at this; cases this
    exact ⟨Same.refl _, Rep.mono (W := W.at H) (W' := W2) (fun b u e n => ⟨s2 b u e, ku b u e n⟩) (fun b z => by rw [pu]; exact z) _ _ rv⟩⟩
theorem ei_tup (h : Ev t Γ (.tup xs)) : Ei (iTup K t) Γ xs := fun F σ W R g k => h F σ W _ g fun v H st ⟨a, vs, e, ha, nu, l⟩ => by
  subst e
  refine ⟨a, rfl, ⟨vs, ha.sq⟩, k (Itt K a) H st ⟨fun W2 i x dm s2 ku pu hx => ?_, fun H2 s2 => ⟨vs, (ha.same s2).sq, by rw [l.length]; exact Nat.le_refl _⟩⟩⟩
  obtain ⟨v, hv, rv⟩ := l.get hx
  exact ⟨⟨vs, v, (ha.same s2).sq, hv⟩, fun u H' ⟨e, hy⟩ => by
    subst e
    have := hy vs ((ha.same s2).sq)
    rw [hv] at this; cases this
    exact ⟨Same.refl _, Rep.mono (W := W.at H) (W' := W2) (fun b u e n => ⟨s2 b u e, ku b u e n⟩) (fun b z => by rw [pu]; exact z) _ _ rv⟩⟩
theorem di_tup (h : Dl t Γ fun d Γ1 => ∃ xs, d = .tup xs ∧ Q xs Γ1) : Di (iTup K t) Γ Q := fun F σ W R g k => h F σ W _ g fun v W1 d Γ1 st g1 r ⟨xs, e, q⟩ => by
  subst e
  obtain ⟨a, vs, rfl, ha, nu, l⟩ := r
  refine ⟨a, rfl, ⟨vs, ha.sq⟩, k (Itt K a) W1 xs Γ1 st g1 ⟨fun W2 i x s2 ok2 hx => ?_, fun W2 s2 ok2 => ⟨vs, (ha.keep nu (s2.keep a)).1.sq, by rw [l.length]; exact Nat.le_refl _⟩⟩ q⟩
  obtain ⟨v, hv, rv⟩ := l.get hx
  exact ⟨⟨vs, v, (ha.keep nu (s2.keep a)).1.sq, hv⟩, fun u H' ⟨e, hy⟩ => by
    subst e
    have := hy vs ((ha.keep nu (s2.keep a)).1.sq)
    rw [hv] at this; cases this
    exact ⟨Same.refl _, rv.stp s2⟩⟩
/-- 0, 1, .., n - 1 -/
def rng (n : Nat) : List D := (List.range n).map fun (i : Nat) => D.int i
theorem rng_get {n i : Nat} {x : D} (h : (rng n)[i]? = some x) : i < n ∧ x = .int i := by
  unfold rng at h
  rw [List.getElem?_map] at h
  by_cases hi : i < n
  · rw [List.getElem?_range hi] at h
    cases h; exact ⟨hi, rfl⟩
  · rw [List.getElem?_eq_none (by simpa using hi)] at h; cases h
theorem rng_length (n : Nat) : (rng n).length = n := by simp [rng]
theorem di_range {Q : List D → Gam → Prop} (h : DlA ta Γ fun ds Γ1 => ∃ n : Nat, ds = [.int n] ∧ n < 2 ^ 62 ∧ Q (rng n) Γ1) : Di (iRng1 ta) Γ Q := fun F σ W R g k => h F σ W _ g fun vs W1 ds Γ1 st g1 r ⟨n, e, hn, q⟩ => by
  subst e
  obtain ⟨v, _, rfl, rv, rfl⟩ := r
  refine ⟨n, by rw [show v = V.int n from rv], by omega, by omega, k (Itr 0 (n : Int).toNat) W1 (rng n) Γ1 st g1 ⟨fun W2 i x s2 ok2 hx => ?_, fun W2 s2 ok2 => ?_⟩ q⟩
  · obtain ⟨hi, rfl⟩ := rng_get hx
    refine ⟨by show i < (n : Int).toNat; omega, fun u H' ⟨e, hy⟩ => ?_⟩
    subst e hy
    exact ⟨Same.refl _, by show V.int (0 + (i : Int)) = V.int i; rw [Int.zero_add]⟩
  · show (n : Int).toNat ≤ _
    rw [rng_length]; omega
theorem ei_range {n : Nat} (h : EvA ta Γ [.int n]) (hn : n < 2 ^ 62) : Ei (iRng1 ta) Γ (rng n) := fun F σ W R g k => h F σ W _ g fun vs H st r => by
  obtain ⟨v, _, rfl, rv, rfl⟩ := r
  refine ⟨n, by rw [show v = V.int n from rv], by omega, by omega, k (Itr 0 (n : Int).toNat) H st ⟨fun W2 i x dm s2 ku pu hx => ?_, fun H2 s2 => ?_⟩⟩
  · obtain ⟨hi, rfl⟩ := rng_get hx
    refine ⟨by show i < (n : Int).toNat; omega, fun u H' ⟨e, hy⟩ => ?_⟩
    subst e hy
    exact ⟨Same.refl _, by show V.int (0 + (i : Int)) = V.int i; rw [Int.zero_add]⟩
  · show (n : Int).toNat ≤ _
    rw [rng_length]; omega
/-- the signs of a text -/
def signs (x : Str) : List D := x.cps.toList.map fun c => D.str ⟨#[c]⟩
end

/-! ### for -/
section
variable {Γ : Gam} {wi : TI} {g : TG} {tb : TS} {De : DE}
theorem ds_for (J : List D → Nat → Gam → Prop) (h : Di wi Γ fun xs Γ1 => J xs 0 Γ1 ∧ (∀ i x Γ', xs[i]? = some x → J xs i Γ' → ∃ is Γ2, DG g is x Γ' Γ2 ∧ Ds tb Γ2 ⟨J xs (i + 1), De.rt, De.nx, J xs (i + 1)⟩) ∧ ∀ Γ', J xs xs.length Γ' → De.nx Γ') : Ds (tFor wi g tb) Γ De :=
  fun F σ W Dr s l => h F σ W _ s fun I W1 xs Γ1 st g1 it ⟨h0, hs, hd⟩ => by
    refine ⟨fun i m σ' H' => m = xs.length - i ∧ i ≤ xs.length ∧ ∃ W' Γ', W'.H = H' ∧ Stp F W1 W' ∧ SR F Γ' σ' W' ∧ J xs i Γ', ⟨_, rfl, Nat.zero_le _, W1, Γ1, rfl, .refl _, g1, h0⟩, ?_⟩
    rintro i m σ' H' ⟨rfl, hi, W', Γ', rfl, s', g', j⟩
    by_cases hlt : i < xs.length
    · obtain ⟨x, hx⟩ : ∃ x, xs[i]? = some x := ⟨_, List.getElem?_eq_getElem hlt⟩
      obtain ⟨is, Γ2, hg, hb⟩ := hs i x Γ' hx j
      obtain ⟨go, yl⟩ := it.go W' i x s' g'.ok hx
      refine .inr ⟨go, fun σ2 H2 => ∃ W2 Γ2, W2.H = H2 ∧ Stp F W1 W2 ∧ SR F Γ2 σ2 W2 ∧ J xs (i + 1) Γ2, fun σ2 H2 q => ⟨xs.length - (i + 1), by omega, rfl, hlt, q⟩, fun v H2 y => ?_⟩
      obtain ⟨sm, rv⟩ := yl v H2 y
      have s2 := s'.trans (Stp.of_same g'.ok sm)
      refine hg F σ' (W'.at H2) v _ (g'.same sm) rv fun σ3 g3 _ => hb F σ3 (W'.at H2) _ g3 ⟨fun σ4 W4 Γ4 s4 g4 q => ⟨W4, Γ4, rfl, s2.trans s4, g4, q⟩, fun v W4 d s4 ok4 r4 q => l.rt v W4 d (st.trans (s2.trans s4)) ok4 r4 q, fun σ4 W4 Γ4 s4 g4 q => l.nx σ4 W4 Γ4 (st.trans (s2.trans s4)) g4 q, fun σ4 W4 Γ4 s4 g4 q => ⟨W4, Γ4, rfl, s2.trans s4, g4, q⟩⟩
    · have e : i = xs.length := by omega
      subst e
      exact .inl ⟨it.stop W' s' g'.ok, l.nx σ' W' Γ' (st.trans s') g' (hd Γ' j)⟩
end

/-! ### list comprehensions -/
section
variable {Γ : Gam} {wi : TI} {g : TG} {tt : TT} {te : TE} {vs : List Nat}
/-- pure: over xs.map c, kept where p, f of each -/
theorem evn_lc {α : Type} {xs : List α} {c : α → D} {p : α → Bool} {f : α → D} (h : Ei wi Γ (xs.map c)) (hz : xs.length ≤ 1000000)
    (he : ∀ x ∈ xs, ∃ is Γ2, DG g is (c x) (wipeG Γ vs) Γ2 ∧ (∀ i ∈ is, i ∈ vs) ∧ EvT tt Γ2 (p x) ∧ (p x = true → Ev te Γ2 (f x))) : EvN (tLc wi g tt te vs) Γ ((xs.filter p).map f) := fun F σ W R s k =>
  h F σ W _ s fun I H1 st it => fun Dn hD => by
    have wd : W.H Dn = none := st.free hD
    refine ⟨fun i m H' => m = xs.length - i ∧ i ≤ xs.length ∧ Same H1 H' ∧ ∃ us, H' Dn = some (.lst us) ∧ RepL (W.plus H' Dn) (((xs.take i).filter p).map f) us, ⟨_, rfl, Nat.zero_le _, same_upd hD, [], upd_same, rfl⟩, ?_⟩
    rintro i m H' ⟨rfl, hi, sm, us, hus, rus⟩
    by_cases hlt : i < xs.length
    · have hx : xs[i]? = some xs[i] := List.getElem?_eq_getElem hlt
      have hx' : (xs.map c)[i]? = some (c xs[i]) := by rw [List.getElem?_map, hx]; rfl
      obtain ⟨is, Γ2, hg, his, ht, hel⟩ := he xs[i] (List.getElem_mem hlt)
      obtain ⟨go, yl⟩ := it.go (W.plus H' Dn) i (c xs[i]) (fun b hb z => hb.elim (fun u => s.ok.dom b u ((Same.trans st sm).free z)) (fun e => by rw [e] at z; exact absurd (hus.symm.trans z) (fun q => nomatch q))) sm (fun b u e n z => z.elim n fun z => by rw [z] at e; exact absurd (e.symm.trans hD) (fun q => nomatch q)) rfl hx'
      refine .inr ⟨go, fun H2 => Same H1 H2 ∧ ∃ us, H2 Dn = some (.lst us) ∧ RepL (W.plus H2 Dn) (((xs.take (i + 1)).filter p).map f) us, fun H2 q => ⟨xs.length - (i + 1), by omega, rfl, hlt, q⟩, fun v H2 y => ?_⟩
      obtain ⟨sm2, rv⟩ := yl v H2 y
      have sW : Same W.H H2 := Same.trans st (Same.trans sm sm2)
      -- the world where the list in the making is one's own
      obtain ⟨_, gp, _, _, _⟩ := s.plus sW wd (by rw [sm2 _ _ hus]; exact fun z => nomatch z)
      have gp := gp.wipe vs
      refine hg F _ (W.plus H2 Dn) v _ gp rv fun σ2 g2 w2 => ⟨by rw [w2 vs his, wipe_wipe], ?_⟩
      refine ht F σ2 (W.plus H2 Dn) _ g2 fun H3 s3 => ?_
      have e1 : (xs.take (i + 1)).filter p = (xs.take i).filter p ++ (if p xs[i] = true then [xs[i]] else []) := by
        rw [List.take_add_one, hx, List.filter_append]
        congr 1
        cases hp : p xs[i] <;> simp [hp]
      have mv : ∀ {H3 H4 : Hp} {ds us}, Same H3 H4 → RepL (W.plus H3 Dn) ds us → RepL (W.plus H4 Dn) ds us := fun {H3 H4 ds us} s34 r => RepL.mono (W := W.plus H3 Dn) (W' := W.plus H4 Dn) (fun b u e n => ⟨s34 b u e, n⟩) (fun _ h => h) ds us r
      cases hp : p xs[i] with
      | false =>
        rw [if_neg Bool.false_ne_true]
        refine ⟨Same.trans (Same.trans sm sm2) s3, us, s3 _ _ (sm2 _ _ hus), ?_⟩
        rw [e1, hp, if_neg Bool.false_ne_true, List.append_nil]
        exact mv s3 (mv sm2 rus)
      | true =>
        rw [if_pos rfl]
        refine hel hp F σ2 ((W.plus H2 Dn).at H3) _ (g2.same s3) fun z H4 s4 rz => ?_
        have h4 : H4 Dn = some (.lst us) := s4 _ _ (s3 _ _ (sm2 _ _ hus))
        have un : ∀ {ds us}, RepL (W.plus H4 Dn) ds us → ∀ o, RepL (W.plus (upd H4 Dn o) Dn) ds us := fun {ds us} r o => RepL.mono (W := W.plus H4 Dn) (W' := W.plus (upd H4 Dn o) Dn) (fun b u e n => ⟨by
          show (upd H4 Dn o) b = some u
          rw [upd_ne (fun z : b = Dn => n (Or.inr z))]; exact e, n⟩) (fun _ h => h) ds us r
        refine ⟨us, h4, ?_, fun b u e => ?_, us ++ [z], upd_same, ?_⟩
        · rw [← rus.length, List.length_map]
          refine Nat.lt_of_le_of_lt (Nat.le_trans (List.length_filter_le _ _) (Nat.le_trans (List.length_take_le _ _) ?_)) (show 1000000 < sizeLine by decide)
          omega
        · have nb : b ≠ Dn := fun z => by rw [z, hD] at e; cases e
          rw [upd_ne nb]
          exact s4 _ _ (s3 _ _ (sm2 _ _ (sm _ _ e)))
        · rw [e1, hp, if_pos rfl, List.map_append]
          exact un ((mv s4 (mv s3 (mv sm2 rus))).append (RepL.one rz)) _
    · have e : i = xs.length := by omega
      subst e
      rw [List.take_length] at rus
      exact .inl ⟨by have := it.stop H' sm; rw [List.length_map] at this; exact this, k Dn us H' (Same.trans st sm) wd hus rus⟩
end
end Dw

/-! Rules over data: comprehensions that draw. -/
namespace Dw
open PySem PySem.Spec PyProof.Rows L2
variable [Tabs0]

abbrev Fp (F : Addr → Prop) (a : Addr) : Addr → Prop := fun b => F b ∨ b = a
theorem SR.frame {F : Addr → Prop} {Γ : Gam} {σ : L2.St} {W : Wd} {a : Addr} (g : SR F Γ σ W) (u : W.U a) (p : ¬ W.P a) (no : ¬ ownA Γ σ a) : SR (Fp F a) Γ σ W :=
  ⟨⟨g.ok.dom, fun b h => h.elim (g.ok.fu b) fun h => by rw [h]; exact u, fun b h => let ⟨u', f, pp⟩ := g.ok.pu b h; ⟨u', fun z => z.elim f fun z => p (by rw [← z]; exact h), pp⟩⟩, g.len, g.val,
   fun i ds e => let ⟨b, vs, e1, u', f, pp, q, r⟩ := g.ownX i ds e; ⟨b, vs, e1, u', fun z => z.elim f fun z => no ⟨i, ds, e, by rw [← z]; exact e1⟩, pp, q, r⟩, g.apartX⟩
/-- a cell of the frame is changed -/
theorem SR.poke {F : Addr → Prop} {Γ : Gam} {σ : L2.St} {W : Wd} {a : Addr} {o : HO} (g : SR (Fp F a) Γ σ W) (nf : ¬ F a) (ne : ∀ h, W.H a ≠ some (.ext h)) :
    Stp F W (W.at (upd W.H a o)) ∧ SR (Fp F a) Γ σ (W.at (upd W.H a o)) := by
  have u : W.U a := g.ok.fu a (Or.inr rfl)
  have st : Stp F W (W.at (upd W.H a o)) := ⟨fun b x e n => ⟨by
    show (upd W.H a o) b = some x
    rw [upd_ne (fun z : b = a => n (by rw [z]; exact u))]; exact e, n⟩, rfl, fun b h => upd_ne (fun z : b = a => nf (by rw [← z]; exact h))⟩
  refine ⟨st, ⟨⟨fun b h z => ?_, g.ok.fu, fun b h => ?_⟩, g.len, fun i d e => ?_, fun i ds e => ?_, g.apartX⟩⟩
  · have z : (upd W.H a o) b = none := z
    by_cases hb : b = a
    · rw [hb, upd_same] at z; cases z
    · rw [upd_ne hb] at z; exact g.ok.dom b h z
  · obtain ⟨u', f, oo⟩ := g.ok.pu b h
    exact ⟨u', f, oo.upd ne fun z : b = a => f (Or.inr z)⟩
  · obtain ⟨v, e1, r⟩ := g.val i d e
    exact ⟨v, e1, r.stp st⟩
  · obtain ⟨b, vs, e1, u', f, pp, q, r⟩ := g.ownX i ds e
    exact ⟨b, vs, e1, u', f, pp, (upd_ne (fun z : b = a => f (Or.inr z))).trans q, r.stp st⟩
/-- .. and becomes a value -/
theorem SR.land {F : Addr → Prop} {Γ : Gam} {σ : L2.St} {W : Wd} {a : Addr} (g : SR (Fp F a) Γ σ W) (nf : ¬ F a) :
    Stp F W ⟨W.H, fun b => W.U b ∧ b ≠ a, W.P⟩ ∧ SR F Γ σ ⟨W.H, fun b => W.U b ∧ b ≠ a, W.P⟩ := by
  have st : Stp F W ⟨W.H, fun b => W.U b ∧ b ≠ a, W.P⟩ := ⟨fun b x e n => ⟨e, fun z => n z.1⟩, rfl, fun _ _ => rfl⟩
  refine ⟨st, ⟨⟨fun b h => g.ok.dom b h.1, fun b h => ⟨g.ok.fu b (Or.inl h), fun z => nf (by rw [← z]; exact h)⟩, fun b h => ?_⟩, g.len, fun i d e => ?_, fun i ds e => ?_, g.apartX⟩⟩
  · obtain ⟨u', f, pp⟩ := g.ok.pu b h
    exact ⟨⟨u', fun z => f (Or.inr z)⟩, fun z => f (Or.inl z), pp⟩
  · obtain ⟨v, e1, r⟩ := g.val i d e
    exact ⟨v, e1, r.stp st⟩
  · obtain ⟨b, vs, e1, u', f, pp, q, r⟩ := g.ownX i ds e
    exact ⟨b, vs, e1, ⟨u', fun z => f (Or.inr z)⟩, fun z => f (Or.inl z), pp, q, r.stp st⟩
section
variable {Γ : Gam} {wi : TI} {g : TG} {tt : TT} {te : TE} {vs : List Nat} {Q : D → Gam → Prop}
theorem dl_lc (h : Di wi Γ fun xs Γ1 => xs.length ≤ 1000000 ∧ ∃ J : Nat → List D → Gam → Prop, J 0 [] (wipeG Γ1 vs) ∧
      (∀ i x acc Γ', xs[i]? = some x → J i acc Γ' → ∃ is Γ2, DG g is x Γ' Γ2 ∧ (∀ i ∈ is, i ∈ vs) ∧ DlT tt Γ2 fun b Γ3 => (b = true → Dl te Γ3 fun d Γ4 => J (i + 1) (acc ++ [d]) (wipeG Γ4 vs)) ∧ (b = false → J (i + 1) acc (wipeG Γ3 vs))) ∧
      ∀ acc Γ', J xs.length acc Γ' → Q (.lst acc) Γ') : Dl (tLc wi g tt te vs) Γ Q := fun F σ W R s k =>
  h F σ W _ s fun I W1 xs Γ1 st1 g1 it ⟨hz, J, h0, hs, hd⟩ => fun Dn hD => by
    obtain ⟨stp, gp, no, nf, np⟩ := g1.plus (H := upd W1.H Dn (.lst [])) (a := Dn) (same_upd hD) hD (by rw [upd_same]; exact fun z => nomatch z)
    have gf := (gp.frame (Or.inr rfl) np no).wipe vs
    refine ⟨fun i m H' => m = xs.length - i ∧ i ≤ xs.length ∧ ∃ W' Γ' acc us, W'.H = H' ∧ Stp F W1 W' ∧ SR (Fp F Dn) Γ' (wipe σ vs) W' ∧ H' Dn = some (.lst us) ∧ RepL W' acc us ∧ acc.length ≤ i ∧ J i acc Γ',
      ⟨_, rfl, Nat.zero_le _, W1.plus (upd W1.H Dn (.lst [])) Dn, _, [], [], rfl, stp, gf, upd_same, rfl, Nat.le_refl _, h0⟩, ?_⟩
    rintro i m H' ⟨rfl, hi, W', Γ', acc, us, rfl, s', g', hus, rus, hl, j⟩
    by_cases hlt : i < xs.length
    · have hx : xs[i]? = some xs[i] := List.getElem?_eq_getElem hlt
      obtain ⟨is, Γ2, hg, his, ht⟩ := hs i xs[i] acc Γ' hx j
      have ok1 : WOk F W' := ⟨g'.ok.dom, fun b z => g'.ok.fu b (Or.inl z), fun b z => let ⟨u, f, p⟩ := g'.ok.pu b z; ⟨u, fun q => f (Or.inl q), p⟩⟩
      obtain ⟨go, yl⟩ := it.go W' i xs[i] s' ok1 hx
      refine .inr ⟨go, fun H2 => ∃ W2 Γ2 acc us, W2.H = H2 ∧ Stp F W1 W2 ∧ SR (Fp F Dn) Γ2 (wipe σ vs) W2 ∧ H2 Dn = some (.lst us) ∧ RepL W2 acc us ∧ acc.length ≤ i + 1 ∧ J (i + 1) acc Γ2, fun H2 q => ⟨xs.length - (i + 1), by omega, rfl, hlt, q⟩, fun v H2 y => ?_⟩
      obtain ⟨sm, rv⟩ := yl v H2 y
      have g2 := g'.same sm
      have s2 : Stp F W1 (W'.at H2) := s'.trans (Stp.of_same ok1 sm)
      refine hg (Fp F Dn) _ (W'.at H2) v _ g2 rv fun σ2 g3 w2 => ?_
      have ew : wipe σ2 vs = wipe σ vs := by rw [w2 vs his, wipe_wipe]
      refine ⟨ew, ht (Fp F Dn) σ2 (W'.at H2) _ g3 fun b W3 Γ3 s3 g4 q => ?_⟩
      have h3 : W3.H Dn = some (.lst us) := (s3.fr Dn (Or.inr rfl)).trans (sm _ _ hus)
      have r3 : RepL W3 acc us := (RepL.same (W := W') sm rus).stp s3
      cases b with
      | false =>
        rw [if_neg Bool.false_ne_true]
        have g5 := g4.wipe vs
        rw [ew] at g5
        exact ⟨W3, _, acc, us, rfl, s2.trans (s3.sub fun _ z => Or.inl z), g5, h3, r3, by omega, q.2 rfl⟩
      | true =>
        rw [if_pos rfl]
        refine q.1 rfl (Fp F Dn) σ2 W3 _ g4 fun z W4 d Γ4 s4 g5 rz qj => ?_
        have h4 : W4.H Dn = some (.lst us) := (s4.fr Dn (Or.inr rfl)).trans h3
        have r4 : RepL W4 acc us := r3.stp s4
        have g6 := g5.wipe vs
        rw [ew] at g6
        obtain ⟨s5, g7⟩ := g6.poke (o := .lst (us ++ [z])) nf (no_ext (by assumption))
        refine ⟨us, h4, ?_, W4.at (upd W4.H Dn (.lst (us ++ [z]))), _, acc ++ [d], us ++ [z], rfl, ((s2.trans (s3.sub fun _ z => Or.inl z)).trans (s4.sub fun _ z => Or.inl z)).trans s5, g7, upd_same, (r4.append (RepL.one rz)).stp s5, by rw [List.length_append, List.length_singleton]; omega, qj⟩
        rw [← r4.length]
        exact Nat.lt_of_le_of_lt (show acc.length ≤ 1000000 by omega) (by decide)
    · have e : i = xs.length := by omega
      subst e
      have ok1 : WOk F W' := ⟨g'.ok.dom, fun b z => g'.ok.fu b (Or.inl z), fun b z => let ⟨u, f, p⟩ := g'.ok.pu b z; ⟨u, fun q => f (Or.inl q), p⟩⟩
      obtain ⟨s8, g8⟩ := (SR.unwipe g').land nf
      refine .inl ⟨it.stop W' s' ok1, k (.ref Dn) ⟨W'.H, fun b => W'.U b ∧ b ≠ Dn, W'.P⟩ (.lst acc) Γ' (st1.trans (s'.trans s8)) g8 ⟨Dn, us, rfl, hus, fun z => z.2 rfl, rus.stp s8⟩ (hd acc Γ' j)⟩
end
end Dw

/-! Operators that serve several kinds at once, and what they give on data. -/
namespace Dw
open PySem PySem.Spec PyProof.Rows L2
variable [Tabs0]
section
variable {X : Cx} {a b c e : Expr} {ta tb te : TE} {pos : Pos} {i j : Int} {x y : Str} {ds es : List D} {K : PySem.W.Frag} {Γ : Gam} {d : D}
abbrev rOr (r r' : R2) : R2 := fun x y H Q => r x y H Q ∨ r' x y H Q
theorem dr2_l {r r' : R2} {x y d : D} (h : DR2 r x y d) : DR2 (rOr r r') x y d := fun W u v Q dom a b k => .inl (h W u v Q dom a b k)
theorem dr2_r {r r' : R2} {x y d : D} (h : DR2 r' x y d) : DR2 (rOr r r') x y d := fun W u v Q dom a b k => .inr (h W u v Q dom a b k)
/-! ### + and * -/
abbrev rPlus (K : PySem.W.Frag) : R2 := rOr (rI0 fun i j => .int (i + j)) (rOr rAddStr (rOr rCat (rCatT K)))
theorem opPlus : OpR X (binaryOp .Add) (rPlus X.K) := op_add.or (op_add_str.or (op_cat.or op_catT))
theorem plus_int : DR2 (rPlus K) (.int i) (.int j) (.int (i + j)) := dr2_l dr2_add
theorem plus_str (h : x.length + y.length ≤ sizeLine) : DR2 (rPlus K) (.str x) (.str y) (.str (x ++ y)) := dr2_r (dr2_l (dr2_add_str h))
theorem plus_lst (h : ds.length + es.length ≤ sizeLine) : DR2 (rPlus K) (.lst ds) (.lst es) (.lst (ds ++ es)) := dr2_r (dr2_r (dr2_l (dr2_cat h)))
theorem plus_tup (n : ds ≠ []) (h : ds.length + es.length ≤ sizeLine) : DR2 (rPlus K) (.tup ds) (.tup es) (.tup (ds ++ es)) := dr2_r (dr2_r (dr2_r (dr2_catT n h)))
abbrev rTimes : R2 := rOr (rI CMul fun i j => .int (i * j)) rRep
theorem opTimes : OpR X (binaryOp .Mult) rTimes := op_mul.or op_rep
theorem times_int (h : CMul i j) : DR2 rTimes (.int i) (.int j) (.int (i * j)) := dr2_l (dr2_mul h)
abbrev rIAdd : TIp := fun x y H Q => (rI0 fun i j => .int (i + j)) x y H Q ∨ rAddStr x y H Q
theorem ipX : PIp X .Add rIAdd := iop_add.or iop_add_str
/-! ### comparisons -/
abbrev rEqX (K : PySem.W.Frag) : R2 := rOr rEq (rEqD K)
abbrev rNeX (K : PySem.W.Frag) : R2 := rOr rNe (rNeD K)
theorem opEq (hu : X.A.units + 64 < cLine) : OpR X (compareOp .Eq) (rEqX X.K) := op_eq.or (op_eqD hu)
theorem opNe (hu : X.A.units + 64 < cLine) : OpR X (compareOp .NotEq) (rNeX X.K) := op_ne.or (op_neD hu)
theorem eq_int' : DR2 (rEqX K) (.int i) (.int j) (.bl (decide (i = j))) := dr2_l dr2_eq_int
theorem eq_str' : DR2 (rEqX K) (.str x) (.str y) (.bl (decide (x = y))) := dr2_l dr2_eq_str
theorem ne_int' : DR2 (rNeX K) (.int i) (.int j) (.bl (!decide (i = j))) := dr2_l dr2_ne_int
theorem ne_str' : DR2 (rNeX K) (.str x) (.str y) (.bl (!decide (x = y))) := dr2_l dr2_ne_str
theorem eq_deep {p q : D} (h1 : isPy p = true) (h2 : isPy q = true) (h3 : SeqAt.shaped (py p) = true) (h4 : SeqAt.shaped (py q) = true) : DR2 (rEqX K) p q (.bl (PyData.eqv (py p) (py q))) := dr2_r (dr2_eqD h1 h2 h3 h4)
theorem ne_deep {p q : D} (h1 : isPy p = true) (h2 : isPy q = true) (h3 : SeqAt.shaped (py p) = true) (h4 : SeqAt.shaped (py q) = true) : DR2 (rNeX K) p q (.bl (!PyData.eqv (py p) (py q))) := dr2_r (dr2_neD h1 h2 h3 h4)
abbrev rLtS : R2 := fun x y H Q => ∃ i j, x = .str i ∧ y = .str j ∧ Q (.bl (decide (i.cps.toList < j.cps.toList))) H
theorem opLt : OpR X (compareOp .Lt) (rOr (rI0 fun i j => .bl (decide (i < j))) rLtS) := op_lt.or op_lt_str
theorem lt_int' : DR2 (rOr (rI0 fun i j => .bl (decide (i < j))) rLtS) (.int i) (.int j) (.bl (decide (i < j))) := dr2_l dr2_lt
theorem lt_str' : DR2 (rOr (rI0 fun i j => .bl (decide (i < j))) rLtS) (.str x) (.str y) (.bl (decide (x.cps.toList < y.cps.toList))) := dr2_r (dr2_flat fun W u v Q a b k => ⟨x, y, a, b, k _ rfl⟩)
theorem opLe : OpR X (compareOp .LtE) (rI0 fun i j => .bl (decide (i ≤ j))) := op_le
theorem opGt : OpR X (compareOp .Gt) (rI0 fun i j => .bl (decide (j < i))) := op_gt
theorem opGe : OpR X (compareOp .GtE) (rI0 fun i j => .bl (decide (j ≤ i))) := op_ge
abbrev rInS : R2 := fun x y H Q => ∃ i j, x = .str i ∧ y = .str j ∧ Q (.bl (!(Builtin.Str.occurrences j i 0 j.length 1).isEmpty)) H
abbrev rNinS : R2 := fun x y H Q => ∃ i j, x = .str i ∧ y = .str j ∧ Q (.bl (!(!(Builtin.Str.occurrences j i 0 j.length 1).isEmpty))) H
theorem opIn : OpR X (compareOp .In) (rOr (rIn X.K false) rInS) := op_in_seq.or op_in_str
theorem opNotIn : OpR X (compareOp .NotIn) (rOr (rIn X.K true) rNinS) := op_notIn_seq.or op_notin_str
theorem in_str' : DR2 (rOr (rIn K false) rInS) (.str x) (.str y) (.bl (!(Builtin.Str.occurrences y x 0 y.length 1).isEmpty)) := dr2_r (dr2_flat fun W u v Q a b k => ⟨x, y, a, b, k _ rfl⟩)
/-- scalars -/
def isSc : D → Bool
  | .non => true | .bl _ => true | .int _ => true | .str _ => true | _ => false
def scV : D → V
  | .non => .non | .bl b => .bl b | .int i => .int i | .str x => .str x | _ => .non
theorem rep_sc {W : Wd} {d : D} {v : V} (h : isSc d = true) (r : Rep W d v) : v = scV d := by
  cases d <;> first | exact r | exact absurd (show false = true from h) Bool.false_ne_true
theorem repL_sc {W : Wd} : ∀ {ds : List D} {vs : List V}, ds.all isSc = true → RepL W ds vs → vs = ds.map scV
  | [], _, _, h => h
  | d :: ds, _, p, ⟨v, r, e, h1, h2⟩ => by
    have p' : isSc d = true ∧ ds.all isSc = true := by simpa using p
    rw [e, rep_sc p'.1 h1, repL_sc p'.2 h2]; rfl
theorem flat_sc {d : D} (h : isSc d = true) : flatV (scV d) = true := by
  cases d <;> first | rfl | exact absurd (show false = true from h) Bool.false_ne_true
theorem flats_sc : ∀ {ds : List D}, ds.all isSc = true → (ds.map scV).all flatV = true
  | [], _ => rfl
  | d :: ds, p => by
    have p' : isSc d = true ∧ ds.all isSc = true := by simpa using p
    rw [List.map_cons, List.all_cons, flat_sc p'.1, flats_sc p'.2]; rfl
theorem ev_in {neg : Bool} {r' : R2} (ha : Ev ta Γ d) (hb : EvB tb Γ ds) (s1 : isSc d = true) (s2 : ds.all isSc = true) : Ev (tOp (rOr (rIn K neg) r') ta tb) Γ (.bl (if neg then !inV (scV d) (ds.map scV) else inV (scV d) (ds.map scV))) := fun F σ W Q g k =>
  ha F σ W _ g fun v H s r => hb F σ (W.at H) _ (g.same s) fun p vs H' s' e l => .inl ⟨p, vs, rfl, .inl (.of e), by rw [rep_sc s1 r]; exact flat_sc s1, by rw [repL_sc s2 l]; exact flats_sc s2, by
    rw [rep_sc s1 r, repL_sc s2 l]
    exact k _ H' (Same.trans s s') rfl⟩
theorem ev_inT {neg : Bool} {r' : R2} (ha : Ev ta Γ d) (hb : Ev tb Γ (.tup ds)) (s1 : isSc d = true) (s2 : ds.all isSc = true) : Ev (tOp (rOr (rIn K neg) r') ta tb) Γ (.bl (if neg then !inV (scV d) (ds.map scV) else inV (scV d) (ds.map scV))) := fun F σ W Q g k =>
  ha F σ W _ g fun v H s r => hb F σ (W.at H) _ (g.same s) fun u H' s' ⟨p, vs, eu, e, nu, l⟩ => .inl ⟨p, vs, eu, .inr e.sq, by rw [rep_sc s1 r]; exact flat_sc s1, by rw [repL_sc s2 l]; exact flats_sc s2, by
    rw [rep_sc s1 r, repL_sc s2 l]
    exact k _ H' (Same.trans s s') rfl⟩
/-! ### len, items, slices -/
abbrev rLen (K : PySem.W.Frag) : List V → Hp → VK → Prop := fun xs H Q => (∃ p ys, xs = [.ref p] ∧ (SqL K H p ys ∨ SqT K H p ys) ∧ Q (.int ys.length) H) ∨ ∃ z, xs = [.str z] ∧ z.length ≤ sizeLine ∧ Q (.int z.length) H
theorem opLen : CallR X (.builtin "len") (rLen X.K) := call_len_seq.or call_len_str
theorem ev_len (h : EvB ta Γ ds) : Ev (tCB (rLen K) (tCons ta tNil)) Γ (.int ds.length) := fun F σ W Q g k => h F σ W _ g fun p vs H s e l => .inl ⟨p, vs, rfl, .inl (.of e), k _ H s (by rw [l.length]; rfl)⟩
theorem ev_lenT (h : Ev ta Γ (.tup ds)) : Ev (tCB (rLen K) (tCons ta tNil)) Γ (.int ds.length) := fun F σ W Q g k => h F σ W _ g fun u H s ⟨p, vs, eu, e, nu, l⟩ => .inl ⟨p, vs, by rw [eu], .inr e.sq, k _ H s (by rw [l.length]; rfl)⟩
theorem ev_lenS (h : Ev ta Γ (.str x)) (hz : x.length ≤ sizeLine) : Ev (tCB (rLen K) (tCons ta tNil)) Γ (.int x.length) := fun F σ W Q g k => h F σ W _ g fun u H s r => .inr ⟨x, by rw [show u = V.str x from r], hz, k _ H s rfl⟩
theorem atI_rep {W : Wd} {vs : List V} (l : RepL W ds vs) (h : atI ds i = some d) : ∃ v, atI vs i = some v ∧ Rep W d v := by
  unfold atI at h ⊢
  rw [← l.length]
  cases q : ixN ds.length i with
  | none => rw [q] at h; cases h
  | some k =>
    rw [q] at h
    obtain ⟨v, e, r⟩ := l.get (i := k) h
    exact ⟨v, e, r⟩
theorem ev_ix (ha : EvB ta Γ ds) (hb : Ev tb Γ (.int i)) (h : atI ds i = some d) : Ev (tOp (rIx K) ta tb) Γ d := fun F σ W Q g k => ha F σ W _ g fun p vs H s e l => hb F σ (W.at H) _ (g.same s) fun u H' s' r => by
  obtain ⟨v, ev, rv⟩ := atI_rep (RepL.same (W := W.at H) s' l) h
  exact .inl ⟨p, vs, i, v, rfl, r, .of (s' _ _ e), ev, k v H' (Same.trans s s') rv⟩
theorem ev_ixT (ha : Ev ta Γ (.tup ds)) (hb : Ev tb Γ (.int i)) (h : atI ds i = some d) : Ev (tOp (rIx K) ta tb) Γ d := fun F σ W Q g k => ha F σ W _ g fun u H s ⟨p, vs, eu, e, nu, l⟩ => hb F σ (W.at H) _ (g.same s) fun u H' s' r => by
  obtain ⟨v, ev, rv⟩ := atI_rep (RepL.same (W := W.at H) s' l) h
  exact .inr (.inl ⟨p, vs, i, v, eu, r, (e.same s').sq, ev, k v H' (Same.trans s s') rv⟩)
theorem dr2_ixS {z : Nat} (hl : x.length ≤ sizeLine) (h : atI x.cps.toList i = some z) : DR2 (rIx K) (.str x) (.int i) (.str ⟨#[z]⟩) := dr2_flat fun W u v Q a b k => .inr (.inr ⟨x, i, z, a, b, hl, h, k _ rfl⟩)
theorem dr2_ixL (h : atI ds i = some d) : DR2 (rIx K) (.lst ds) (.int i) d := dr2_flat fun W u v Q ⟨p, vs, eu, e, nu, l⟩ b k => by
  obtain ⟨w, ev, rw'⟩ := atI_rep l h
  exact .inl ⟨p, vs, i, w, eu, b, .of e, ev, k w rw'⟩
theorem dr2_ixT (h : atI ds i = some d) : DR2 (rIx K) (.tup ds) (.int i) d := dr2_flat fun W u v Q ⟨p, vs, eu, e, nu, l⟩ b k => by
  obtain ⟨w, ev, rw'⟩ := atI_rep l h
  exact .inr (.inl ⟨p, vs, i, w, eu, b, e.sq, ev, k w rw'⟩)
/-! ### iterators -/
theorem pi_or {tg iter : Expr} {w1 w2 : TI} (h1 : PI X tg iter w1) (h2 : PI X tg iter w2) : PI X tg iter (fun σ H R => w1 σ H R ∨ w2 σ H R) :=
  ⟨fun pins s σ H R I h => h.elim (h1.run pins s σ H R I) (h2.run pins s σ H R I)⟩
abbrev iAny (K : PySem.W.Frag) (t : TE) : TI := fun σ H R => iList K t σ H R ∨ (fun σ H R => iTup K t σ H R ∨ iStr t σ H R) σ H R
theorem pi_any {tg : Expr} (h : PE X e te) : PI X tg e (iAny X.K te) := pi_or (pi_list h) (pi_or (pi_tup h) (pi_str h))
theorem ei_l {w1 w2 : TI} {xs : List D} (h : Ei w1 Γ xs) : Ei (fun σ H R => w1 σ H R ∨ w2 σ H R) Γ xs := fun F σ W R g k => .inl (h F σ W R g k)
theorem ei_r {w1 w2 : TI} {xs : List D} (h : Ei w2 Γ xs) : Ei (fun σ H R => w1 σ H R ∨ w2 σ H R) Γ xs := fun F σ W R g k => .inr (h F σ W R g k)
theorem di_l {w1 w2 : TI} {Q : List D → Gam → Prop} (h : Di w1 Γ Q) : Di (fun σ H R => w1 σ H R ∨ w2 σ H R) Γ Q := fun F σ W R g k => .inl (h F σ W R g k)
theorem di_r {w1 w2 : TI} {Q : List D → Gam → Prop} (h : Di w2 Γ Q) : Di (fun σ H R => w1 σ H R ∨ w2 σ H R) Γ Q := fun F σ W R g k => .inr (h F σ W R g k)
theorem eia_list {xs : List D} (h : EvB te Γ xs) : Ei (iAny K te) Γ xs := ei_l (ei_list h)
theorem eia_tup {xs : List D} (h : Ev te Γ (.tup xs)) : Ei (iAny K te) Γ xs := ei_r (ei_l (ei_tup h))
theorem dia_list {Q : List D → Gam → Prop} (h : Dl te Γ fun d Γ1 => ∃ xs, d = .lst xs ∧ Q xs Γ1) : Di (iAny K te) Γ Q := di_l (di_list h)
theorem dia_tup {Q : List D → Gam → Prop} (h : Dl te Γ fun d Γ1 => ∃ xs, d = .tup xs ∧ Q xs Γ1) : Di (iAny K te) Γ Q := di_r (di_l (di_tup h))
theorem signs_get {x : Str} {i : Nat} {d : D} (h : (signs x)[i]? = some d) : i < x.cps.size ∧ ∃ c, x.cps[i]? = some c ∧ d = .str ⟨#[c]⟩ := by
  unfold signs at h
  rw [List.getElem?_map, Array.getElem?_toList] at h
  cases q : x.cps[i]? with
  | none => rw [q] at h; cases h
  | some c =>
    rw [q] at h
    have hl := (Array.getElem?_eq_some_iff.mp q).1
    exact ⟨hl, c, rfl, (Option.some.inj h).symm⟩
theorem signs_length (x : Str) : (signs x).length = x.cps.size := by simp [signs]
theorem ei_str (h : Ev te Γ (.str x)) : Ei (iStr te) Γ (signs x) := fun F σ W R g k => h F σ W _ g fun v H s r => ⟨x, r, k (Its x) H s ⟨fun W1 i d dm sm ku pu hx => by
  obtain ⟨hi, c, hc, rfl⟩ := signs_get hx
  refine ⟨hi, fun v H' ⟨e, c', hc', ev⟩ => ?_⟩
  rw [hc] at hc'; cases hc'
  subst e ev
  exact ⟨Same.refl _, rfl⟩, fun H2 s2 => by rw [signs_length]; exact Nat.le_refl _⟩⟩
theorem eia_str (h : Ev te Γ (.str x)) : Ei (iAny K te) Γ (signs x) := ei_r (ei_r (ei_str h))
/-! ### builtins over lists -/
theorem ev_all {bs : List Bool} (h : EvB ta Γ (bs.map D.bl)) : Ev (tCB (rAll K) (tCons ta tNil)) Γ (.bl (bs.all id)) := fun F σ W Q g k => h F σ W _ g fun p vs H s e l => ⟨p, bs, rfl, .of (by rw [e, RepL.bls.mp l]), k _ H s rfl⟩
theorem ev_any {bs : List Bool} (h : EvB ta Γ (bs.map D.bl)) : Ev (tCB (rAny K) (tCons ta tNil)) Γ (.bl (bs.any id)) := fun F σ W Q g k => h F σ W _ g fun p vs H s e l => ⟨p, bs, rfl, .of (by rw [e, RepL.bls.mp l]), k _ H s rfl⟩
/-- sep.join(xs) -/
abbrev rJoin (K : PySem.W.Frag) : V → List V → Hp → VK → Prop := fun x xs H Q => ∃ a p, ∃ ys : List Str, x = .str a ∧ xs = [.ref p] ∧ (SqL K H p (ys.map V.str) ∨ SqT K H p (ys.map V.str)) ∧
      (ys.map (·.length)).sum + ys.length * a.length ≤ 16777216 ∧ Q (.str (Txt.join a ys)) H
theorem ev_join {ys : List Str} (ha : Ev ta Γ (.str x)) (hb : EvB tb Γ (ys.map D.str)) (hz : (ys.map (·.length)).sum + ys.length * x.length ≤ 16777216) : Ev (tM1 (rJoin K) ta tb) Γ (.str (Txt.join x ys)) := fun F σ W Q g k =>
  ha F σ W _ g fun v H s r => ⟨⟨x, r⟩, hb F σ (W.at H) _ (g.same s) fun p vs H' s' e l => ⟨x, p, ys, r, rfl, .inl (.of (by rw [e, RepL.strs.mp l])), hz, k _ H' (Same.trans s s') rfl⟩⟩
theorem dl_join {Q : D → Gam → Prop} (ha : Ev ta Γ (.str x)) (hb : Dl tb Γ fun d Γ1 => ∃ ys : List Str, d = .lst (ys.map D.str) ∧ (ys.map (·.length)).sum + ys.length * x.length ≤ 16777216 ∧ Q (.str (Txt.join x ys)) Γ1) : Dl (tM1 (rJoin K) ta tb) Γ Q := fun F σ W R g k =>
  ha F σ W _ g fun v H s r => ⟨⟨x, r⟩, hb F σ (W.at H) _ (g.same s) fun u W2 d Γ1 st g1 rd ⟨ys, e, hz, q⟩ => by
    subst e
    obtain ⟨p, vs, rfl, e, nu, l⟩ := rd
    exact ⟨x, p, ys, r, rfl, .inl (.of (e.trans (by rw [RepL.strs.mp l]))), hz, k _ W2 (.str (Txt.join x ys)) Γ1 ((Stp.of_same g.ok s).trans st) g1 rfl q⟩⟩
/-- list(range(n)) -/
theorem evn_listRg {n : Nat} (h : Ev ta Γ (.int n)) (hn : n ≤ 16777216) : EvN (tLstRg (tRg1 ta)) Γ (rng n) := fun F σ W Q g k => h F σ W _ g fun v H s r => ⟨n, r, RgOk.of_le (by omega) (by omega) (by omega) (by omega), fun q hq => by
  have e : rgV 0 n = (rng n).map scV := by
    unfold rgV rng
    rw [List.map_map]
    refine List.map_congr_left fun i _ => ?_
    show V.int (0 + (i : Int)) = V.int i
    rw [Int.zero_add]
  have l : RepL (W.at H) (rng n) (rgV 0 n) := by
    have := (RepL.ints (W := W.at H) (ns := (List.range n).map fun (i : Nat) => (i : Int)) (vs := rgV 0 n)).mpr (by
      rw [e]; unfold rng; rw [List.map_map, List.map_map]; rfl)
    rw [List.map_map] at this
    exact this
  exact k q _ _ (Same.trans s (same_upd hq)) (s.free hq) upd_same (RepL.plus (W := W.at H) hq (same_upd hq) l)⟩
/-- list(xs), tuple(xs) -/
abbrev rListOf (K : PySem.W.Frag) : List V → Hp → VK → Prop := fun xs H Q => ∃ p ys, xs = [.ref p] ∧ (SqL K H p ys ∨ SqT K H p ys) ∧ ∀ l, H l = none → Q (.ref l) (upd H l (.lst ys))
theorem evn_list (h : EvB ta Γ ds) : EvN (tCB (rListOf K) (tCons ta tNil)) Γ ds := fun F σ W Q g k => h F σ W _ g fun p vs H s e l => ⟨p, vs, rfl, .inl (.of e), fun n hn => k n vs _ (Same.trans s (same_upd hn)) (s.free hn) upd_same (RepL.plus (W := W.at H) hn (same_upd hn) l)⟩
theorem evn_listT (h : Ev ta Γ (.tup ds)) : EvN (tCB (rListOf K) (tCons ta tNil)) Γ ds := fun F σ W Q g k => h F σ W _ g fun u H s ⟨p, vs, eu, e, nu, l⟩ => ⟨p, vs, by rw [eu], .inr e.sq, fun n hn => k n vs _ (Same.trans s (same_upd hn)) (s.free hn) upd_same (RepL.plus (W := W.at H) hn (same_upd hn) l)⟩
abbrev rTupleOf (K : PySem.W.Frag) : List V → Hp → VK → Prop := fun xs H Q => ∃ p ys, xs = [.ref p] ∧ ((SqL K H p ys ∧ ∀ l, H l = none → Q (.ref l) (upd H l (.tup ys))) ∨ (SqT K H p ys ∧ Q (.ref p) H))
theorem ev_tuple (h : EvB ta Γ ds) : Ev (tCB (rTupleOf K) (tCons ta tNil)) Γ (.tup ds) := fun F σ W Q g k => h F σ W _ g fun p vs H s e l => ⟨p, vs, rfl, .inl ⟨.of e, fun n hn => k _ _ (Same.trans s (same_upd hn)) (rep_new_tup (W := W.at H) (g.same s).ok.dom hn l)⟩⟩
/-- sorted(texts) -/
theorem dl_sortedS {Q : D → Gam → Prop} {r' : List V → Hp → VK → Prop} (h : Dl ta Γ fun d Γ1 => ∃ ys : List Str, d = .lst (ys.map D.str) ∧ ys.length < 64 ∧ ∀ zs : List Str, zs.Perm ys → sortedS zs = true → Q (.lst (zs.map D.str)) Γ1) :
    Dl (tCB (fun xs H Q => r' xs H Q ∨ rSortedS K xs H Q) (tCons ta tNil)) Γ Q := fun F σ W R g k => h F σ W _ g fun v W1 d Γ1 st g1 r ⟨ys, e, hz, q⟩ => by
  subst e
  obtain ⟨p, vs, rfl, e, nu, l⟩ := r
  refine .inr ⟨p, ys, rfl, .of (by rw [e, RepL.strs.mp l]), hz, fun zs n hp hs hn => ?_⟩
  exact k _ (W1.at _) (.lst (zs.map D.str)) Γ1 (st.trans (Stp.of_same g1.ok (same_upd hn))) (g1.same (same_upd hn)) (rep_new_lst g1.ok.dom hn (RepL.strs.mpr rfl)) (q zs hp hs)
theorem opSorted {X : Cx} : CallR X (.builtin "sorted") (fun xs H Q => rSorted X.K xs H Q ∨ rSortedS X.K xs H Q) := cr_sorted.or cr_sortedS
end
end Dw

/-! Rules of the machine that the hand layer lacks: f(k = v) by keywords alone, an attribute as a target within a tuple, count of flat things. -/
namespace Dw
open PySem PySem.Spec PyProof.Rows L2
variable [Tabs0]
section
variable {X : Cx} {CX : CXT} {k : Nat} {f C : Addr} {fd : FuncData} {ps ks : List Str} {sp : Sp} {E : XK} {x m : Str} {p pos apos kpos : Pos} {e o : Expr} {es : List Expr} {kws : List Keyword} {te ta : TE} {t tk : TA} {nm : Option Str}
variable {g : List Value → List Value → List Value} {gV : List V → List V → List V}
end
section
variable {X : Cx} {o : Expr} {f : Str} {pos : Pos} {ta : TE}
/-- x.f as a target -/
def gFld (K : PySem.W.Frag) (ta : TE) (f : Str) : TG := fun y σ H Q => ta σ H fun x H2 => ∃ a C dx fs, x = .ref a ∧ H2 a = some (.ins C dx fs) ∧ Cls K C ∧ NoAttr K C f ∧ fs.length < 1000 ∧ Q σ (upd H2 a (.ins C dx (putF f y fs)))
theorem pg_fld (ha : PE X o ta)
    (hs : ∀ v, assign (.Attribute o f pos) X.env v = (do
      let ov ← holding [v] (eval o X.env)
      standAt pos
      holding [v, ov] (setAttr ov f v)
      release [v, ov] []) := by intro _; rfl) : PG X (.Attribute o f pos) (gFld X.K ta f) := by
  refine ⟨fun pins s σ H v u Q I r h => ?_⟩
  rw [hs]
  refine wpAny_bind (wpAny_holding (thn (ha.run pins s σ H _ I h) fun ov s1 ⟨x, H2, I2, rx, a, C, dx, fs, ex, ea, c, n, l, q2⟩ => ?_))
  subst ex
  obtain rfl : ov = Value.ref a := rx
  refine wpAny_bind (wpAny_standAt (wpAny_bind (wpAny_holding ?_)))
  exact setattr_ok I2 ea c n l r fun s3 I3 => wpAny_release ⟨σ, _, I3, q2⟩
end
end Dw

/-! The same rules with the written part K named (within a comprehension's block it is the def's). -/
namespace Dw
open PySem PySem.Spec PyProof.Rows L2
variable [Tabs0]
section
variable {X : Cx} {K : PySem.W.Frag} {e : Expr} {te ta tb : TE} {pos apos : Pos} {tg o i a : Expr} {t : TA}
theorem ixA (K : PySem.W.Frag) (hK : X.K = K := by rfl) : IxR X (rIx K) := hK ▸ ix_seq
theorem eqA (K : PySem.W.Frag) (hu : X.A.units + 64 < cLine) (hK : X.K = K := by rfl) : OpR X (compareOp .Eq) (rEqX K) := hK ▸ opEq hu
theorem neA (K : PySem.W.Frag) (hu : X.A.units + 64 < cLine) (hK : X.K = K := by rfl) : OpR X (compareOp .NotEq) (rNeX K) := hK ▸ opNe hu
theorem inA (K : PySem.W.Frag) (hK : X.K = K := by rfl) : OpR X (compareOp .In) (rOr (rIn K false) rInS) := hK ▸ opIn
theorem ninA (K : PySem.W.Frag) (hK : X.K = K := by rfl) : OpR X (compareOp .NotIn) (rOr (rIn K true) rNinS) := hK ▸ opNotIn
theorem lenA (K : PySem.W.Frag) (hK : X.K = K := by rfl) : CallR X (.builtin "len") (rLen K) := hK ▸ opLen
theorem allA (K : PySem.W.Frag) (hc : X.calm = true := by rfl) (hK : X.K = K := by rfl) : CallR X (.builtin "all") (rAll K) := hK ▸ cr_all hc
theorem anyA (K : PySem.W.Frag) (hc : X.calm = true := by rfl) (hK : X.K = K := by rfl) : CallR X (.builtin "any") (rAny K) := hK ▸ cr_any hc
theorem sumA (K : PySem.W.Frag) (hc : X.calm = true := by rfl) (hK : X.K = K := by rfl) : CallR X (.builtin "sum") (rSum K) := hK ▸ cr_sum hc
abbrev rSortedX (K : PySem.W.Frag) : List V → Hp → VK → Prop := fun xs H Q => rSorted K xs H Q ∨ rSortedS K xs H Q
theorem sortedA (K : PySem.W.Frag) (hK : X.K = K := by rfl) : CallR X (.builtin "sorted") (rSortedX K) := hK ▸ opSorted
theorem isiA (K : PySem.W.Frag) (hK : X.K = K := by rfl) : CallR X (.builtin "isinstance") (rIsi K) := hK ▸ call_isi
theorem listA (K : PySem.W.Frag) (hK : X.K = K := by rfl) : CallR X (.type "list") (rListOf K) := hK ▸ call_list_of
theorem tupleA (K : PySem.W.Frag) (hK : X.K = K := by rfl) : CallR X (.type "tuple") (rTupleOf K) := hK ▸ call_tuple_of
theorem joinA (K : PySem.W.Frag) (ho : PE X o ta) (he : PE X e te) (hK : X.K = K := by rfl) (hs : starEach [e] X.env = [(false, eval e X.env)] := by rfl) (hbase : attributeBase o "join" X.env (eval o X.env) = eval o X.env := by rfl) (hline : (apos.endLine == pos.line) = true := by rfl) :
    PE X (.Call (.Attribute o "join" apos) [e] [] pos) (tM1 (rJoin K) ta te) := hK ▸ pe_join ho he hs hbase hline
theorem notA (K : PySem.W.Frag) (ha : PE X a ta) (hK : X.K = K := by rfl) : PE X (.UnaryOp .Not a pos) (tNotT K ta) := hK ▸ pe_notT ha
theorem fldA (K : PySem.W.Frag) {f : Str} (he : PE X e ta) (hK : X.K = K := by rfl) (hb : attributeBase e f X.env (eval e X.env) = eval e X.env := by rfl) : PE X (.Attribute e f pos) (tFld K ta f) := hK ▸ pe_fld he hb
theorem truA (K : PySem.W.Frag) (ha : PE X a ta) (hK : X.K = K := by rfl) (he : ∀ whole, isTrue a X.env whole = (do let v ← whole; standAt a.pos; holding [v] (truthy v)) := by intro _; rfl) : PT X a (tTru K ta) := by
  subst hK; exact pt_truth ha he
end
end Dw

/-! Lists of texts as data: their shape, their equality. -/
namespace Dw
open PySem PySem.Spec PyProof.Rows L2
variable [Tabs0]
def okS (x : Str) : Prop := PyData.strOk x = true
theorem eqv_strs : ∀ xs ys : List Str, PyData.eqvAll (pys (xs.map D.str)) (pys (ys.map D.str)) = decide (xs = ys)
  | [], [] => rfl
  | [], y :: ys => by
    show false = _
    simp
  | x :: xs, [] => by
    show false = _
    simp
  | x :: xs, y :: ys => by
    show ((x == y) && PyData.eqvAll (pys (xs.map D.str)) (pys (ys.map D.str))) = _
    rw [eqv_strs xs ys, Bool.eq_iff_iff]
    simp
section
variable {K : PySem.W.Frag} {xs ys : List Str} {ta tb : TE} {Γ : Gam}
end
/-- a text of one sign -/
def ch (c : Nat) : Str := ⟨#[c]⟩
theorem ch_eq {a b : Nat} : ch a = ch b ↔ a = b := by
  constructor
  · intro h
    have : (#[a] : Array Nat) = #[b] := congrArg Str.cps h
    simpa using this
  · rintro rfl; rfl
/-- a text of its codes -/
def tx (l : List Nat) : Str := ⟨l.toArray⟩
theorem tx_len (l : List Nat) : (tx l).length = l.length := by show l.toArray.size = _; simp
theorem tx_cps (l : List Nat) : (tx l).cps.toList = l := by show l.toArray.toList = l; simp
theorem tx_eq {a b : List Nat} : tx a = tx b ↔ a = b := by
  constructor
  · intro h
    have := congrArg (fun x : Str => x.cps.toList) h
    simpa [tx_cps] using this
  · rintro rfl; rfl
theorem okS_tx {l : List Nat} (h : ∀ c ∈ l, c < 1114112) : okS (tx l) := by
  show l.toArray.all (fun x => decide (x < 0x110000)) = true
  simp
  exact h
theorem of_tx (x : Str) : x = tx x.cps.toList := by
  obtain ⟨⟨l⟩⟩ := x
  rfl
theorem tx_append (a b : List Nat) : tx a ++ tx b = tx (a ++ b) := by
  show (⟨a.toArray ++ b.toArray⟩ : Str) = ⟨(a ++ b).toArray⟩
  simp
theorem signs_tx (l : List Nat) : signs (tx l) = (l.map ch).map D.str := by
  unfold signs
  rw [tx_cps, List.map_map]
  rfl
end Dw

/-! More rules of the machine: () + t, a range that is kept, enumerate of a tuple, first, *rest = a list. -/
namespace Dw
open PySem PySem.Spec PyProof.Rows L2
variable [Tabs0]
section
variable {X : Cx}
/-! ### () + t -/
abbrev rCatE (K : PySem.W.Frag) : R2 := fun x y H Q => ∃ a b ys, x = .ref a ∧ y = .ref b ∧ SqT K H a [] ∧ SqT K H b ys ∧ Q (.ref b) H
theorem op_catE : OpR X (binaryOp .Add) (rCatE X.K) := by
  intro pins s σ H x y v u Q I rx ry ⟨a, b, ys, ex, ey, ha, hb, q⟩
  subst ex; subst ey
  cases rx; cases ry
  obtain ⟨i1, v1, t1, _⟩ := I.tuple ha
  obtain ⟨i2, v2, t2, _⟩ := I.tuple hb
  cases v1
  obtain ⟨o1, g1, c1, n1, d1⟩ := t1
  obtain ⟨o2, g2, c2, n2, d2⟩ := t2
  obtain ⟨oc1, od1, da1, sl1⟩ := o1
  obtain ⟨oc2, od2, da2, sl2⟩ := o2
  simp only at c1 d1 c2 d2
  subst c1; subst d1; subst c2; subst d2
  exact concat_meets ⟨_, g1, rfl⟩ ⟨_, g2, rfl⟩ noFill_tuple_add seq_tuple_add PySem.F.slot_tuple_add PySem.F.entry_tuple_add
    (PySem.F.args_tuple_add_2 _ _) (tuple_addW0 a b _ _ n1 n2 od1 od2 sl1 sl2 rfl) ⟨g1, g2, ⟨.ref b, H, I, rfl, q⟩⟩
abbrev rPlusE (K : PySem.W.Frag) : R2 := rOr (rPlus K) (rCatE K)
theorem plusE (K : PySem.W.Frag) (hK : X.K = K := by rfl) : OpR X (binaryOp .Add) (rPlusE K) := hK ▸ opPlus.or op_catE
variable {K : PySem.W.Frag} {ds es : List D} {i j : Int} {x y : Str} {ta tb : TE} {Γ : Gam}
theorem pl_int : DR2 (rPlusE K) (.int i) (.int j) (.int (i + j)) := dr2_l plus_int
theorem pl_tup (h : ds.length + es.length ≤ sizeLine) : DR2 (rPlusE K) (.tup ds) (.tup es) (.tup (ds ++ es)) := by
  by_cases n : ds = []
  · subst n
    exact dr2_r (dr2_flat fun W u v Q ⟨a, vs, e1, h1, n1, l1⟩ b k => by
      obtain ⟨c, ws, e2, h2, n2, l2⟩ := id b
      rw [show vs = [] from l1] at h1
      exact ⟨a, c, ws, e1, e2, h1.sq, h2.sq, by rw [← e2]; exact k v b⟩)
  · exact dr2_l (plus_tup n h)
theorem pl_evn (ha : EvB ta Γ ds) (hb : EvB tb Γ es) (h : ds.length + es.length ≤ sizeLine) : EvN (tOp (rPlusE K) ta tb) Γ (ds ++ es) := fun F σ W Q g k => ha F σ W _ g fun p vs H s e l => hb F σ (W.at H) _ (g.same s) fun q ws H' s' e' l' =>
  .inl (.inr (.inr (.inl ⟨p, q, vs, ws, rfl, rfl, s' _ _ e, e', by rw [← l.length, ← l'.length]; exact h, fun n hn =>
    k n (vs ++ ws) _ (Same.trans s (Same.trans s' (same_upd hn))) (s.free (s'.free hn)) upd_same (RepL.plus (W := W.at H') hn (same_upd hn) ((RepL.same (W := W.at H) s' l).append l'))⟩)))

/-! ### range(n), kept -/
def iRgO (te : TE) : TI := fun σ H R => te σ H fun x H1 => ∃ p lo hi, x = .ref p ∧ H1 p = some (.rng lo hi) ∧ (-(2 ^ 62) ≤ lo ∧ lo < 2 ^ 62 ∧ -(2 ^ 62) ≤ hi ∧ hi < 2 ^ 62) ∧ R (Itr lo (hi - lo).toNat) H1
theorem pi_rgO {tg l : Expr} {te : TE} (hl : PE X l te) : PI X tg l (iRgO te) := by
  refine ⟨fun pins s σ H R I h => thn (hl.run pins s σ H _ I h) fun v s1 ⟨x, H1, I1, r1, q1⟩ => ?_⟩
  obtain ⟨p, lo, hi, ex, hp, ⟨b1, b2, b3, b4⟩, q⟩ := q1
  subst ex
  cases r1
  obtain ⟨t, u, w, hr⟩ := I1.hok p _ hp
  have hr' : IsRange s1.heap p lo hi 1 t u w := hr
  refine wpAny_pyIter_range hr' (small_one b1 b2 b3 b4) ?_
  refine ⟨s1.heap.objs.size, [s1.heap.objs.size], _, _, H1, rfl, I1.kept (t' := s1.toks) fun b o e => Heap.get?_push_of_some _ e, turn_range _ lo (hi - lo).toNat, ?_, fun b hb => ?_, q⟩
  · have e1 : lo + ((0 : Nat) : Int) * 1 = lo := by simp
    have e2 : (((hi - lo).toNat : Nat) : Int) - ((0 : Nat) : Int) = Builtin.Range.rangeSize lo hi 1 := by rw [rangeSize_one]; split <;> omega
    show IsRangeIter _ _ (lo + ((0 : Nat) : Int) * 1) (_ - _) 1
    rw [e1, e2]
    exact Heap.get?_push_size _ rfl
  · obtain rfl : b = s1.heap.objs.size := by simpa using hb
    exact I1.fpOk (Nat.le_refl _) (I1.hok.fresh (Nat.le_refl _))
abbrev iAnyR (K : PySem.W.Frag) (t : TE) : TI := fun σ H R => iAny K t σ H R ∨ iRgO t σ H R
theorem piR (K : PySem.W.Frag) {tg e : Expr} {te : TE} (h : PE X e te) (hK : X.K = K := by rfl) : PI X tg e (iAnyR K te) := hK ▸ pi_or (pi_any h) (pi_rgO h)
theorem ej_list {xs : List D} (h : EvB ta Γ xs) : Ei (iAnyR K ta) Γ xs := ei_l (eia_list h)
theorem ej_tup {xs : List D} (h : Ev ta Γ (.tup xs)) : Ei (iAnyR K ta) Γ xs := ei_l (eia_tup h)
theorem ej_str (h : Ev ta Γ (.str x)) : Ei (iAnyR K ta) Γ (signs x) := ei_l (eia_str h)
theorem dj_list {Q : List D → Gam → Prop} (h : Dl ta Γ fun d Γ1 => ∃ xs, d = .lst xs ∧ Q xs Γ1) : Di (iAnyR K ta) Γ Q := di_l (dia_list h)
theorem dj_tup {Q : List D → Gam → Prop} (h : Dl ta Γ fun d Γ1 => ∃ xs, d = .tup xs ∧ Q xs Γ1) : Di (iAnyR K ta) Γ Q := di_l (dia_tup h)
/-! ### first, *rest = xs -/
theorem unpack_star1 {prog : Program} {w : World} {A : Around} {E : Value → Shared → Prop} {s : Shared} {l : Addr} {b : Value} {its : List Value} {Q : List Value → Shared → Prop} (hl : s.heap.IsList l (b :: its).toArray) (hh : A.handled = none)
    (hz : its.length ≤ 16000) (h : ∀ (h1 : Heap) (tk : Nat), (∀ c o, s.heap.get? c = some o → h1.get? c = some o) → Q [b, .ref h1.objs.size] { s with heap := h1.push { cls := .type "list", data := .seq its.toArray }, toks := tk }) :
    wpAny (model prog w) A (unpackItems (.ref l) 2 (some 1)) Q E s := by
  have lt : l < s.heap.objs.size := by obtain ⟨o, ho, _⟩ := hl; exact Heap.lt_size ho
  have ne : l ≠ s.heap.objs.size := Nat.ne_of_lt lt
  unfold unpackItems notIterableAtAll
  refine wpAny_bind (wpAny_bind (wpAny_specialOf hl.typeIs slot_list_iter.lookup (wpAny_pure ?_)))
  simp only [Bool.false_eq_true, if_false]
  refine wpAny_bind (wpAny_holding (wpAny_pyIter_list hl ?_))
  refine wpAny_bind (wpAny_holding (PySem.W.kun_draw ne 1 0 _ _ ⟨_, Heap.get?_push_size _ rfl, rfl, rfl⟩ (hl.push _) (by simp) fun ha hit hs => ?_))
  have hla : ha.IsList l (b :: its).toArray := (hl.push _).extBut hs.extBut ne
  rw [Nat.zero_add] at hit
  obtain ⟨oi, hoi, _⟩ := id hit
  obtain ⟨ol, hol, _⟩ := id hla
  rw [if_neg (show ¬ (((b :: its).toArray.toList.drop 0).take 1).length < 1 by simp)]
  refine wpAny_bind (wpAny_holding (PySem.W.kun_collect (s := { s with heap := ha }) (T := "list_iterator") (.inr (.inr (.inl rfl))) (Walks.list (A := A.in1) hh s.heap.objs.size l ne _) (fun j u st => st.1.typeIs) (k := 1) (by simp) ⟨hit, hla⟩
    (Heap.lt_size hoi) (Heap.lt_size hol) (fun hb tk kp => ?_) (by rw [sizeLine_eq]; simp; omega)))
  show wpAny _ _ (if its.length < 0 then _ else _) _ _ _
  rw [if_neg (Nat.not_lt_zero _)]
  show wpAny _ _ (newList (its.take (its.length - 0)) >>= fun d => pure ([b] ++ [d] ++ its.drop (its.length - 0))) _ _ _
  rw [Nat.sub_zero, List.take_length, List.drop_length]
  have k2 : ∀ c o, s.heap.get? c = some o → hb.get? c = some o := fun c o e => kp c o (Nat.ne_of_lt (Heap.lt_size e)) (hs.extBut c o (Nat.ne_of_lt (Heap.lt_size e)) (Heap.get?_push_of_some _ e))
  unfold newList
  refine wpAny_bind (wpAny_newObj_type (wpAny_pure ?_) (by show its.toArray.size ≤ sizeLine; rw [sizeLine_eq, List.size_toArray]; omega))
  exact h hb tk k2
def gStar1 (K : PySem.W.Frag) (g1 g2 : TG) : TG := fun v σ H Q => ∃ a z zs, v = .ref a ∧ SqL K H a (z :: zs) ∧ zs.length ≤ 16000 ∧ ∀ p, H p = none → g1 z σ (upd H p (.lst zs)) fun σ1 H1 => g2 (.ref p) σ1 H1 Q
theorem pg_star1 (hc : X.calm = true) {e1 e2 : Expr} {g1 g2 : TG} {k : Nat} {pos sp : Pos} (h1 : PG X e1 g1) (h2 : PG X e2 g2) (hlen : (assignEach [e1, .Starred e2 sp] X.env).length = 2 := by rfl)
    (hst : (assignEach [e1, .Starred e2 sp] X.env).findIdx? (·.1) = some 1 := by rfl) (hm : (assignEach [e1, .Starred e2 sp] X.env).map (·.2) = [assign e1 X.env, assign e2 X.env] := by rfl) :
    PG X (.Tuple [e1, .Starred e2 sp] k pos) (gStar1 X.K g1 g2) := by
  refine ⟨fun pins s σ H v u Q I r hw => ?_⟩
  obtain ⟨a, z, zs, ev, hq, hl, hw⟩ := hw
  subst ev
  cases r
  obtain ⟨its, rv, pl, hz⟩ := I.list hq
  cases rv with
  | cons rz rr =>
    rename_i b l
    rw [assign_Tuple]
    refine wpAny_bind (wpAny_standAt ?_)
    unfold unpack
    rw [hlen, hst, hm]
    refine wpAny_bind (wpAny_holding (unpack_star1 pl.isList (I.ok.hd hc) (by rw [← rr.length]; exact hl) fun ha tk kp => ?_))
    have I1 : Inv X pins σ H { s with heap := ha, toks := tk } := I.kept kp
    have I2 := I1.laid (t' := tk) (o := .lst zs) (h' := ha.push { cls := .type "list", data := .seq l.toArray }) (fun c o e => Heap.get?_push_of_some _ e) (Nat.le_refl _)
      ⟨by have hz' : zs.length + 1 ≤ sizeLine := hz
          omega, l, 0, rr, Heap.get?_push_size _ rfl⟩
    refine assignInOrder_cons (thn (h1.run pins _ σ _ z b _ I2 rz (hw _ (I1.hok.fresh (Nat.le_refl _)))) fun _ s3 ⟨σ3, H3, I3, q3⟩ => ?_)
    exact assignInOrder_cons (thn (h2.run pins s3 σ3 H3 (.ref ha.objs.size) _ Q I3 rfl q3) fun _ s4 ⟨σ4, H4, I4, q4⟩ => assignInOrder_nil ⟨σ4, H4, I4, q4⟩)
end
end Dw

/-! enumerate of a tuple. -/
namespace Dw
open PySem PySem.Spec PyProof.Rows L2
variable [Tabs0]
theorem meets_enum_tup (l : Addr) (items : Array Value) (n : Nat) (dd : Option Addr) (sl : Array (Option Value)) :
    Meets (Builtin.«enumerate.__new__» ⟨[.type "enumerate", .ref l], []⟩) (fun _ R s => s.heap.get? l = some { cls := .type "tuple", dict := dd, data := .seq items n, slots := sl } ∧
      R (.ok (.ret (.ref (s.heap.push { cls := .type "tuple_iterator", data := .fields #[.ref l, .int 0 0] }).objs.size)))
        { s with heap := (s.heap.push { cls := .type "tuple_iterator", data := .fields #[.ref l, .int 0 0] }).push { cls := .type "enumerate", data := .fields #[.none, .bool false, .ref s.heap.objs.size, rawInt 0, .none, .none] } }) :=
  .of_wp fun prog w A R s h => by
    obtain ⟨hp, g, d, tk, os⟩ := s
    obtain ⟨hl, h⟩ := h
    have hL : hp.IsTuple l items := ⟨_, hl, rfl, n, rfl⟩
    have hsub := sub_enumerate
    wp_walk using wpAny_loadPart' hl
    refine wpAny_stack_any fun st => wpAny_pure ?_
    split
    · rename_i c _ _ _ _ _
      cases (c == Value.type "enumerate") <;> (wp_walk using wpAny_loadPart' hl, wpAny_pyIter_tuple hL; exact ⟨_, rfl, h⟩)
    · wp_walk using wpAny_loadPart' hl, wpAny_pyIter_tuple hL
      exact ⟨_, rfl, h⟩
end Dw

/-! for i, x in enumerate(a tuple). -/
namespace Dw
open PySem PySem.Spec PyProof.Rows L2
variable [Tabs0]
theorem call_enum_tup {prog : Program} {w : World} {A : Around} {E : Value → Shared → Prop} {s : Shared} {l : Addr} {items : Array Value} {Q : Value → Shared → Prop} (hL : IsTup s.heap l items)
    (h : ∀ h' : Heap, IsEnum h' (s.heap.objs.size + 1) s.heap.objs.size 0 .none → h'.IsTupleIter s.heap.objs.size l 0 →
      (∀ b o, s.heap.get? b = some o → h'.get? b = some o) → Q (.ref (s.heap.objs.size + 1)) { s with heap := h' }) :
    wpAny (model prog w) A (call (.type "enumerate") [.ref l]) Q E s := by
  obtain ⟨⟨c, dct, dt, sl⟩, hl, hc, n, hd⟩ := hL
  simp only at hc hd
  subst hc; subst hd
  have z1 : (s.heap.push { cls := .type "tuple_iterator", data := .fields #[.ref l, .int 0 0] }).objs.size = s.heap.objs.size + 1 := Heap.size_push ..
  refine callType_new F.called_enumerate (by decide) (F.typeCall_enumerate_1 _) (F.newCall_enumerate_1 _)
    (fun obj => F.args_object_init_2 obj _) F.entry_enumerate_new (meets_enum_tup l items n dct sl) ⟨hl, ?_⟩
  show _ ∧ _
  rw [z1]
  have g0 : ∀ b o, s.heap.get? b = some o → ((s.heap.push { cls := .type "tuple_iterator", data := .fields #[.ref l, .int 0 0] }).push { cls := .type "enumerate", data := .fields #[.none, .bool false, .ref s.heap.objs.size, rawInt 0, .none, .none] }).get? b = some o :=
    fun b o e => Heap.get?_push_of_some _ (Heap.get?_push_of_some _ e)
  have g1 := Heap.get?_push_size (s.heap.push { cls := .type "tuple_iterator", data := .fields #[.ref l, .int 0 0] })
    (o := { cls := .type "enumerate", data := .fields #[.none, .bool false, .ref s.heap.objs.size, rawInt 0, .none, .none] }) rfl
  rw [z1] at g1
  refine ⟨⟨_, g1, rfl⟩, h _ g1 ⟨_, Heap.get?_push_of_some _ (Heap.get?_push_size _ rfl), rfl, rfl⟩ g0⟩
/-- the tuple at a, each item in a new pair -/
def IteT (K : PySem.W.Frag) (a : Addr) : It :=
  ⟨fun i H => ∃ xs x, SqT K H a xs ∧ xs[i]? = some x, fun i H v H' => ∃ T x, v = .ref T ∧ H T = none ∧ H' = upd H T (.tup [.int (i : Nat), x]) ∧ ∀ xs, SqT K H a xs → xs[i]? = some x, fun i H => ∃ xs : List V, SqT K H a xs ∧ xs.length = i⟩
/-- several records of ours have turned -/
theorem inv_turned {X : Cx} {pins : List (Addr × Obj)} {σ : L2.St} {H : Hp} {s : Shared} {h' : Heap} {t' : Nat} {ch : List Addr} (I : Inv X pins σ H s) (k : ∀ b o, b ∉ ch → s.heap.get? b = some o → h'.get? b = some o) (hf : ∀ b ∈ ch, FpOk X pins H b) :
    Inv X pins σ H { s with heap := h', toks := t' } := by
  have nit : ∀ b u, H b = some u → b ∉ ch := fun b u e z => by
    have q := (hf b z).1
    rw [q] at e; cases e
  refine I.step (g' := s.gens) (d' := s.drawn) (ch := ch) (fun b hb => ?_) (fun b o _ _ hc e _ => k b o hc e) (fun b o _ _ hc e _ => ⟨o.slots, k b o hc e⟩) (fun _ _ _ _ n => n) (fun b o hc e => ⟨o, k b o hc e⟩) (fun _ _ e => e) (fun _ _ _ e => e)
    (fun b ps e => ⟨#[], by rw [e]; simp⟩) (fun m hm => ?_) (fun b u e => ?_) I.bare
  · obtain ⟨f0, f1, f2, f3, f4, f5⟩ := hf b hb
    exact ⟨f3, f1, f4, f5⟩
  · obtain ⟨o, es, ep, ho, r⟩ := hm
    exact ⟨o, es, ep, k _ o (fun z => (hf _ z).2.1 rfl) ho, r⟩
  · refine (I.hok b u e).stay (fun c v hc q => k c v ?_ q) (fun _ q => q) fun _ _ q => q
    rcases hc with z | z
    · rw [z]; exact nit b u e
    · exact nit c _ z
theorem turn_enumT {P : Program} {w : World} {K : PySem.W.Frag} {elts : List Expr} {kk : Nat} {tpos : Pos} (a e it : Addr) (nai : a ≠ it) (nae : a ≠ e) (nei : e ≠ it) :
    Turn P w K (.Tuple elts kk tpos) (IteT K a) [e, it] e (fun i h => (∃ old, IsEnum h e it ((0 : Int) + (i : Int)) old) ∧ h.IsTupleIter it a i) where
  mem := by simp
  obj := fun i h ⟨⟨old, he⟩, ⟨o, ho, hc, hd⟩⟩ b hb => by
    rcases (show b = e ∨ b = it by simpa using hb) with z | z
    · subst z; exact ⟨_, he, fun v q => nomatch q⟩
    · subst z; exact ⟨o, ho, fun v q => by rw [hd] at q; cases q⟩
  keep := fun i h h' ⟨⟨old, he⟩, hi⟩ k => ⟨⟨old, k e (by simp) _ he⟩, hi.at fun o q => k it (by simp) o q⟩
  item := by
    intro X hP hw hK hc i pins s σ H E I hf st hg
    subst hP; subst hw; subst hK
    obtain ⟨xs, x, hq, hx⟩ := hg
    obtain ⟨its, rv, p, hz⟩ := I.tuple hq
    obtain ⟨u, hu, ru⟩ := rv.get hx
    have G := GoesN.enumFrom (prog := X.prog) (w := X.w) (A := X.A) (elts := elts) (x1 := kk) (pos := tpos) 0 (Draws.tuple (A := X.A.in1) (I.ok.hd hc) it a nai its.toArray) e nei (by simp [nei, Ne.symm nae]) (by simp)
    have hi : i < its.toArray.size := by
      have := (List.getElem?_eq_some_iff.mp hu).1
      simpa using this
    refine thn (G.goes i s (fun v s2 => ∃ T t y, v = Value.ref T ∧ s.heap.objs.size ≤ T ∧ its.toArray[i]? = some y ∧ s2.heap.IsTuple T #[.int ((0 : Int) + (i : Int)) t, y] ∧
        (∃ old, IsEnum s2.heap e it ((0 : Int) + ((i + 1 : Nat) : Int)) old) ∧ s2.heap.IsTupleIter it a (i + 1) ∧ (∀ b o, b ∉ [e, it] → s.heap.get? b = some o → s2.heap.get? b = some o) ∧ ∃ h' tk, s2 = { s with heap := h', toks := tk }) E hi ⟨st.1, st.2, p⟩
      fun v h' tk ⟨T, t, y, ev, hT, hy, htu⟩ ⟨ho, hit, _⟩ kp _ => ⟨T, t, y, ev, hT, hy, htu, ho, hit, kp, h', tk, rfl⟩) fun r s1 ⟨v, er, hv⟩ => ⟨v, er, thn hv fun _ s2 ⟨T, t, y, ev, hT, hy, htu, ho, hit, kp, h', tk, es⟩ => ?_⟩
    subst es; subst ev
    have ey : y = u := by
      rw [List.getElem?_toArray, hu] at hy
      exact (Option.some.inj hy).symm
    subst ey
    have new : ObjOk X.prog X.w (upd H T (.tup [.int (i : Nat), x])) h' T (.tup [.int (i : Nat), x]) :=
      ⟨by show 2 ≤ sizeLine; decide, [.int ((0 : Int) + (i : Int)) t, y], .cons ⟨t, by rw [Int.zero_add]⟩ (.cons ru .nil), htu⟩
    have I1 : Inv X pins σ (upd H T (.tup [.int (i : Nat), x])) { s with heap := h', toks := tk } := I.turnedNew (ch := [e, it]) kp hf hT new
    refine ⟨.ref T, _, I1, rfl, ⟨T, x, rfl, I.hok.fresh hT, rfl, fun ys hy => by rw [I.tuple_inj hy hq]; exact hx⟩, ⟨ho, hit⟩, fun b hb => ?_⟩
    have lt : b ≠ T := by
      rcases (show b = e ∨ b = it by simpa using hb) with z | z
      · obtain ⟨old, he⟩ := st.1
        rw [z]; exact Nat.ne_of_lt (Nat.lt_of_lt_of_le (Heap.lt_size he) hT)
      · obtain ⟨o, q, _⟩ := st.2
        rw [z]; exact Nat.ne_of_lt (Nat.lt_of_lt_of_le (Heap.lt_size q) hT)
    rw [upd_ne lt]
    exact (hf b hb).1
  done := by
    intro X hP hw hK hc i pins s σ H E I hf st hg
    subst hP; subst hw; subst hK
    obtain ⟨xs, hq, hx⟩ := hg
    obtain ⟨its, rv, p, hz⟩ := I.tuple hq
    have hl := rv.length
    have G := GoesN.enumFrom (prog := X.prog) (w := X.w) (A := X.A) (elts := elts) (x1 := kk) (pos := tpos) 0 (Draws.tuple (A := X.A.in1) (I.ok.hd hc) it a nai its.toArray) e nei (by simp [nei, Ne.symm nae]) (by simp)
    have en : its.toArray.size = i := by rw [List.size_toArray]; omega
    rw [en] at G
    exact G.stops s _ E ⟨st.1, st.2, p⟩ fun h' tk kp _ => inv_turned I kp hf
  self := fun A i s Q E ⟨⟨_, he⟩, _⟩ h => wpAny_pyIter_enum he h
def iEnumT (K : PySem.W.Frag) (ta : TA) : TI := fun σ H R => ta σ H fun vs H1 => ∃ a xs, vs = [.ref a] ∧ SqT K H1 a xs ∧ R (IteT K a) H1
theorem pi_enumT {X : Cx} {e : Expr} {ta : TA} {p pos tpos : Pos} {elts : List Expr} {kk : Nat} (hg : Gl X "enumerate") (hm : X.mg "enumerate" = none) (ha : PA X [e] ta) (hs : starEach [e] X.env = [(false, eval e X.env)] := by rfl) :
    PI X (.Tuple elts kk tpos) (.Call (.Name "enumerate" p) [e] [] pos) (iEnumT X.K ta) := by
  refine ⟨fun pins s σ H R I h => ?_⟩
  refine Call_ (ld_blt I hg hm boot_enumerate (callWith_type1 (thn (ha.run pos pins s σ H _ I h) fun us s1 ⟨vs, H1, I1, r1, q1⟩ => ?_) hs rfl))
  obtain ⟨a, xs, ex, hq, q⟩ := q1
  subst ex
  obtain ⟨u, eu, ru⟩ := vals1 r1
  subst eu
  cases ru
  obtain ⟨its, rv, tp, hz⟩ := I1.tuple hq
  have lta : a < s1.heap.objs.size := by obtain ⟨o, ho, _⟩ := tp; exact Heap.lt_size ho
  refine call_enum_tup tp fun h' he hit hk => wpAny_pyIter_enum he ?_
  refine ⟨s1.heap.objs.size + 1, [s1.heap.objs.size + 1, s1.heap.objs.size], _, _, H1, rfl, I1.kept (t' := s1.toks) hk, turn_enumT a (s1.heap.objs.size + 1) s1.heap.objs.size (Nat.ne_of_lt lta) (Nat.ne_of_lt (Nat.lt_succ_of_lt lta)) (Nat.succ_ne_self _), ⟨⟨.none, he⟩, hit⟩, fun b hb => ?_, q⟩
  have hle : s1.heap.objs.size ≤ b := by
    rcases (show b = s1.heap.objs.size + 1 ∨ b = s1.heap.objs.size by simpa using hb) with z | z
    · rw [z]; exact Nat.le_succ _
    · rw [z]; exact Nat.le_refl _
  exact I1.fpOk hle (I1.hok.fresh hle)
theorem enumTA (K : PySem.W.Frag) {X : Cx} {e : Expr} {ta : TA} {p pos tpos : Pos} {elts : List Expr} {kk : Nat} (hg : Gl X "enumerate") (hm : X.mg "enumerate" = none) (ha : PA X [e] ta) (hK : X.K = K := by rfl) (hs : starEach [e] X.env = [(false, eval e X.env)] := by rfl) :
    PI X (.Tuple elts kk tpos) (.Call (.Name "enumerate" p) [e] [] pos) (fun σ H R => iEnum K ta σ H R ∨ iEnumT K ta σ H R) := hK ▸ pi_or (pi_enum hg hm ha hs) (pi_enumT hg hm ha hs)
theorem zipA (K : PySem.W.Frag) {X : Cx} {e e2 : Expr} {ta : TA} {p pos tpos : Pos} {elts : List Expr} {kk : Nat} (hg : Gl X "zip") (hm : X.mg "zip" = none) (ha : PA X [e, e2] ta) (hK : X.K = K := by rfl)
    (hs : starEach [e, e2] X.env = (false, eval e X.env) :: starEach [e2] X.env := by rfl) (hpl : (backTo pos (starEach [e2] X.env)).any (·.1) = false := by rfl) :
    PI X (.Tuple elts kk tpos) (.Call (.Name "zip" p) [e, e2] [] pos) (RZ.iZipA K ta) := hK ▸ RZ.pi_zipA hg hm ha hs hpl
/-! ### over data -/
/-- the pairs (0, x), (1, y), .. -/
def enumD (xs : List D) : List D := xs.mapIdx fun i x => .tup [.int (i : Nat), x]
theorem enumD_get {xs : List D} {i : Nat} {d : D} (h : (enumD xs)[i]? = some d) : ∃ x, xs[i]? = some x ∧ d = .tup [.int (i : Nat), x] := by
  unfold enumD at h
  rw [List.getElem?_mapIdx] at h
  cases q : xs[i]? with
  | none => rw [q] at h; cases h
  | some x => rw [q] at h; exact ⟨x, rfl, (Option.some.inj h).symm⟩
theorem enumD_length (xs : List D) : (enumD xs).length = xs.length := by simp [enumD]
section
variable {K : PySem.W.Frag} {Γ : Gam} {ta : TE} {xs ys : List D}
theorem ei_enumT {r : TI} (h : Ev ta Γ (.tup xs)) : Ei (fun σ H R => r σ H R ∨ iEnumT K (tCons ta tNil) σ H R) Γ (enumD xs) := fun F σ W R g k => .inr (h F σ W _ g fun v H s ⟨a, vs, ev, ha, nu, l⟩ => by
  subst ev
  refine ⟨a, vs, rfl, ha.sq, k (IteT K a) H s ⟨fun W2 i x dm s2 ku pu hx => ?_, fun H2 s2 => ⟨vs, (ha.same s2).sq, by rw [enumD_length, l.length]⟩⟩⟩
  obtain ⟨y, hy, rfl⟩ := enumD_get hx
  obtain ⟨v, hv, rv⟩ := l.get hy
  have h2 : TupAt W2.H a vs := ha.same s2
  refine ⟨⟨vs, v, h2.sq, hv⟩, fun u H' ⟨T, z, eu, hT, eH, hz⟩ => ?_⟩
  subst eu; subst eH
  have := hz vs h2.sq
  rw [hv] at this; cases this
  exact ⟨same_upd hT, rep_new_tup dm hT ⟨_, _, rfl, rfl, v, _, rfl, Rep.mono (W := W.at H) (W' := W2) (fun b u e n => ⟨s2 b u e, ku b u e n⟩) (fun b z => by rw [pu]; exact z) _ _ rv, rfl⟩⟩)
end
end Dw

/-! zip, slices, fields, isinstance, over data. -/
namespace Dw
open PySem PySem.Spec PyProof.Rows L2
variable [Tabs0]
def zipD (xs ys : List D) : List D := (xs.zip ys).map fun p => .tup [p.1, p.2]
theorem zipD_get {xs ys : List D} {i : Nat} {d : D} (h : (zipD xs ys)[i]? = some d) : ∃ x y, xs[i]? = some x ∧ ys[i]? = some y ∧ d = .tup [x, y] := by
  unfold zipD at h
  rw [List.getElem?_map] at h
  cases q : (xs.zip ys)[i]? with
  | none => rw [q] at h; cases h
  | some p =>
    rw [q] at h
    rw [List.getElem?_zip_eq_some] at q
    exact ⟨p.1, p.2, q.1, q.2, (Option.some.inj h).symm⟩
theorem zipD_length (xs ys : List D) : (zipD xs ys).length = min xs.length ys.length := by simp [zipD]
section
variable {K : PySem.W.Frag} {Γ : Gam} {ta tb te : TE} {xs ys ds : List D} {d : D}
theorem ei_zipT (h1 : Ev ta Γ (.tup xs)) (h2 : Ev tb Γ (.tup ys)) : Ei (RZ.iZipA K (tCons ta (tCons tb tNil))) Γ (zipD xs ys) := fun F σ W R g k => h1 F σ W _ g fun v H s ⟨a, vs, ev, ha, nu, l⟩ => h2 F σ (W.at H) _ (g.same s) fun u H' s' ⟨b, ws, eu, hb, nu', l'⟩ => by
  subst ev; subst eu
  have ha' := ha.same s'
  refine ⟨a, b, vs, ws, rfl, .inr ⟨ha'.sq, hb.sq, k (RZ.ItzT K a b) H' (Same.trans s s') ⟨fun W2 i x dm s2 ku pu hx => ?_, fun H2 s2 => ?_⟩⟩⟩
  · obtain ⟨x, y, hx1, hy, rfl⟩ := zipD_get hx
    obtain ⟨v, hv, rv⟩ := (RepL.same (W := W.at H) s' l).get hx1
    obtain ⟨u, hu, ru⟩ := l'.get hy
    have a2 := ha'.same s2
    have b2 := hb.same s2
    refine ⟨⟨vs, ws, v, u, a2.sq, b2.sq, hv, hu⟩, fun z H3 ⟨T, p, q, ez, hT, eH, hp, hq⟩ => ?_⟩
    subst ez; subst eH
    have e1 := hp vs a2.sq
    have e2 := hq ws b2.sq
    rw [hv] at e1; cases e1
    rw [hu] at e2; cases e2
    have mv : ∀ {d v}, Rep (W.at H') d v → Rep W2 d v := fun {d v} r => Rep.mono (W := W.at H') (W' := W2) (fun b u e n => ⟨s2 b u e, ku b u e n⟩) (fun b z => by rw [pu]; exact z) d v r
    exact ⟨same_upd hT, rep_new_tup dm hT ⟨_, _, rfl, mv rv, _, _, rfl, mv ru, rfl⟩⟩
  · refine ⟨vs, ws, (ha'.same s2).sq, (hb.same s2).sq, ?_⟩
    rw [zipD_length, ← l.length, ← l'.length]
    omega
/-! ### slices -/
def Eo (t : TO) (Γ : Gam) (o : Option Int) : Prop := ∀ (F : Addr → Prop) (σ : L2.St) (W : Wd) (Q : Option Int → Hp → Prop), SR F Γ σ W → (∀ H, Same W.H H → Q o H) → t σ W.H Q
theorem eo_none : Eo tNoPart Γ none := fun F σ W Q g k => k W.H (Same.refl _)
theorem eo_some {i : Int} (h : Ev te Γ (.int i)) : Eo (tPart te) Γ (some i) := fun F σ W Q g k => h F σ W _ g fun v H s r => ⟨i, r, k H s⟩
/-- xs[lo:hi] -/
def cutD (xs : List D) (lo hi : Option Int) : List D := (xs.drop (HT.sIx xs.length 0 lo)).take (HT.sIx xs.length xs.length hi - HT.sIx xs.length 0 lo)
theorem repL_cut {W : Wd} {vs : List V} {lo hi : Option Int} (l : RepL W ds vs) : RepL W (cutD ds lo hi) (cutV vs lo hi) := by
  unfold cutD cutV
  rw [l.length]
  exact (l.drop _).take _
/-! ### fields -/
theorem ev_fld {C : Addr} {ns : List Str} {f : Str} (cl : Cls K C) (na : NoAttr K C f) (h : Ev ta Γ (.obj C ns ds)) (hl : (ns.zip ds).lookup f = some d) : Ev (tFld K ta f) Γ d := fun F σ W Q g k => h F σ W _ g fun v H s ⟨a, dx, vs, ev, e, nu, l, r⟩ => by
  subst ev
  have key : ∀ (ns : List Str) (ds : List D) (vs : List V), RepL (W.at H) ds vs → (ns.zip ds).lookup f = some d → ∃ v, (ns.zip vs).lookup f = some v ∧ Rep (W.at H) d v := by
    intro ns
    induction ns with
    | nil => intro ds vs _ q; simp at q
    | cons n ns ih =>
      intro ds vs r q
      cases ds with
      | nil => simp at q
      | cons e ds =>
        obtain ⟨v, rr, rfl, r1, r2⟩ := r
        rw [List.zip_cons_cons, List.lookup_cons] at q ⊢
        cases hb : f == n with
        | true =>
          rw [hb] at q
          exact ⟨v, rfl, by rw [← Option.some.inj q]; exact r1⟩
        | false =>
          rw [hb] at q
          exact ih ds rr r2 q
  obtain ⟨v, hv, rv⟩ := key ns ds vs r hl
  exact ⟨a, C, dx, _, v, rfl, e, cl, na, hv, k v H s rv⟩
/-! ### isinstance with one class -/
/-- a value's type, as the fragment's deciders take it -/
def tyD : D → Value
  | .non => .type "NoneType" | .bl _ => .type "bool" | .int _ => .type "int" | .str _ => .type "str" | .tup _ => .type "tuple" | .tupN _ => .type "tuple" | .lst _ => .type "list" | .dct _ _ => .type "dict" | .obj C _ _ => .ref C | _ => .none
structure InsOk (K : PySem.W.Frag) (C : Addr) : Prop where
  cl : Cls K C
  ha : PySem.W.findIn K (.ref C) "__class__" = some (some (.builtin "object.__class__"))
  hn : PySem.W.specialIn K (.builtin "object.__class__") "__get__" = some (some (.builtin "getset_descriptor.__get__"))
  ht : PySem.W.takesIn K (.builtin "object.__class__") = some true
  hm : PySem.W.mroIn K C (.type "object") = some true
def hasTy : D → Bool
  | .raw _ => false | .purse => false | .rng _ _ => false | .obj _ _ _ => false | .scr _ _ => false | .tag _ => false | .tupN _ => false | _ => true
theorem ty_of {W : Wd} {v : V} (r : Rep W d v) (h : hasTy d = true ∨ ∃ C ns ds, d = .obj C ns ds ∧ InsOk K C) : TyX K W.H v (tyD d) := by
  cases d with
  | non => rw [show v = V.non from r]; exact .base .non
  | bl b => rw [show v = V.bl b from r]; exact .base (.bl b)
  | int b => rw [show v = V.int b from r]; exact .base (.int b)
  | str b => rw [show v = V.str b from r]; exact .base (.str b)
  | tup ds =>
    obtain ⟨a, vs, ev, e, _⟩ := r
    rw [ev]
    exact e.elim (fun e => .base (.tup e)) fun ⟨o, e⟩ => .fTuple e
  | tupN ds => obtain ⟨a, vs, ev, ⟨o, e, _⟩, _⟩ := r; rw [ev]; exact .fTuple e
  | lst ds => obtain ⟨a, vs, ev, e, _⟩ := r; rw [ev]; exact .base (.lst e)
  | dct ks ds => obtain ⟨a, vs, ev, e, _⟩ := r; rw [ev]; exact .base (.dK e)
  | obj C ns ds =>
    obtain ⟨a, dx, vs, ev, e, _⟩ := r
    rcases h with h | ⟨C', ns', ds', q, o⟩
    · cases h
    · cases q; rw [ev]; exact .base (.ins e o.cl o.ha o.hn o.ht o.hm)
  | raw _ => rcases h with h | ⟨_, _, _, q, _⟩ <;> first | cases h | cases q
  | scr _ _ => rcases h with h | ⟨_, _, _, q, _⟩ <;> first | cases h | cases q
  | tag _ => rcases h with h | ⟨_, _, _, q, _⟩ <;> first | cases h | cases q
  | purse => rcases h with h | ⟨_, _, _, q, _⟩ <;> first | cases h | cases q
  | rng _ _ => rcases h with h | ⟨_, _, _, q, _⟩ <;> first | cases h | cases q
theorem ev_isi {c : V} {u : Value} {b : Bool} (h : Ev ta Γ d) (hc : Ev tb Γ (.raw c)) (hd : hasTy d = true ∨ ∃ C ns ds, d = .obj C ns ds ∧ InsOk K C) (hv : ClsV c u) (hk : PySem.W.kitOne K (tyD d) u = some b) : Ev (tCB (rIsi K) (tCons ta (tCons tb tNil))) Γ (.bl b) := fun F σ W Q g k =>
  h F σ W _ g fun v H s r => hc F σ (W.at H) _ (g.same s) fun w H' s' rc => ⟨v, c, tyD d, u, b, by rw [show w = c from rc], hv, ty_of (Rep.same (W := W.at H) s' r) hd, hk, k _ H' (Same.trans s s') rfl⟩
end
end Dw
namespace Dw
open PySem PySem.Spec PyProof.Rows L2
variable [Tabs0]
theorem tupA (K : PySem.W.Frag) (n : Nat) {X : Cx} {pos : Pos} {es : List Expr} {k : Nat} {t : TGs} (hc : X.calm = true) (h : PGs X es t) (hK : X.K = K := by rfl)
    (hn : (assignEach es X.env).length = n := by rfl) (hst : (assignEach es X.env).findIdx? (·.1) = none := by rfl) : PG X (.Tuple es k pos) (gTup K n t) := hK ▸ pg_tup hc h hn hst
/-- a purse is drawn from -/
theorem purse_step {F : Addr → Prop} {W : Wd} {a : Addr} {x y c : Int} (ok : WOk F W) (hp : W.P a) (nn : Tabs0.nm a = none) (hx : 0 ≤ x) (hy : 0 ≤ y) (hy2 : y < 2147483647) :
    Stp F W (W.at (upd W.H a (.lst [.int x, .int y, .int c]))) ∧ WOk F (W.at (upd W.H a (.lst [.int x, .int y, .int c]))) := by
  obtain ⟨u, f, oa⟩ := ok.pu a hp
  obtain ⟨_, _, _, _, _, ha⟩ := oa.purse nn
  have up : ∀ b, b ≠ a → (upd W.H a (.lst [.int x, .int y, .int c])) b = W.H b := fun b hb => upd_ne hb
  refine ⟨⟨fun b o e n => ⟨?_, n⟩, rfl, fun b h => up b fun z => f (by rw [← z]; exact h)⟩, ⟨fun b h z => ?_, ok.fu, fun b h => ?_⟩⟩
  · show (upd W.H a _) b = _
    rw [up b fun z => n (by rw [z]; exact u)]
    exact e
  · have z : (upd W.H a (.lst [.int x, .int y, .int c])) b = none := z
    by_cases hb : b = a
    · rw [hb, upd_same] at z; cases z
    · rw [up b hb] at z; exact ok.dom b h z
  · obtain ⟨u', f', o⟩ := ok.pu b h
    refine ⟨u', f', ?_⟩
    by_cases hb : b = a
    · rw [hb]; exact .of ⟨(x, c), y, hx, hy, hy2, upd_same⟩ nn
    · exact o.upd (no_ext ha) hb
end Dw

/-! Joined texts as codes; a written dict that is asked at once. -/
namespace Dw
open PySem PySem.Spec PyProof.Rows L2
variable [Tabs0]
theorem joinL_nil : ∀ ls : List (List Nat), TL.joinL [] ls = ls.flatten
  | [] => rfl
  | [p] => by simp [TL.joinL]
  | p :: q :: r => by
    show p ++ ([] ++ TL.joinL [] (q :: r)) = _
    rw [List.nil_append, joinL_nil (q :: r)]; rfl
theorem join_tx (a : List Nat) (ys : List (List Nat)) : Txt.join (tx a) (ys.map tx) = tx (TL.joinL a ys) := SX.join_S a ys
theorem flat_chs (l : List Nat) : (l.map fun c => [c]).flatten = l := by
  induction l with
  | nil => rfl
  | cons c l ih => rw [List.map_cons, List.flatten_cons, ih]; rfl
theorem join_chs (l : List Nat) : Txt.join (Str.ofString "") (l.map ch) = tx l := by
  have e : l.map ch = (l.map fun c => [c]).map tx := by rw [List.map_map]; rfl
  have e0 : Str.ofString "" = tx [] := by decide +kernel
  rw [e, e0, join_tx, joinL_nil, flat_chs]
theorem chs_len (l : List Nat) : ((l.map ch).map (·.length)).sum = l.length := by
  induction l with
  | nil => rfl
  | cons c l ih =>
    rw [List.map_cons, List.map_cons, List.sum_cons, ih, List.length_cons]
    show 1 + l.length = _
    omega
section
variable {Γ : Gam} {K : PySem.W.Frag} {ty : TE} {x y : Str}
def dispP (kvs : List (Str × Str)) : List (TE × TE) := kvs.map fun p => (tC (.str p.1), tC (.str p.2))
theorem tPairs_disp (σ : L2.St) (H : Hp) : ∀ (kvs : List (Str × Str)) (Q : List (V × V) → Hp → Prop), Q (kvs.map fun p => (V.str p.1, V.str p.2)) H → tPairs (dispP kvs) σ H Q
  | [], Q, h => h
  | (a, b) :: kvs, Q, h => tPairs_disp σ H kvs (fun ps H3 => Q ((V.str a, V.str b) :: ps) H3) h
theorem ev_dget {trs : List (TE × TE)} (kvs : List (Str × Str)) (ht : trs = dispP kvs) (hl : kvs.length ≤ 15) (h : Ev ty Γ (.str x))
    (hv : valV (mergeK [] (kvs.map fun p => ((Sum.inr p.1 : Key), V.str p.2))) (Sum.inr x) = some (.str y)) : Ev (tDGet (tDisp trs) ty) Γ (.str y) := fun F σ W Q g k => by
  subst ht
  refine fun p hp => tPairs_disp σ _ kvs _ ⟨upd_same, kvs.map fun p => ((Sum.inr p.1 : Key), V.str p.2), by rw [List.map_map]; rfl, by rw [List.length_map]; exact hl, ?_⟩
  rw [upd_upd]
  have sm : Same W.H (upd W.H p (.dK (mergeK [] (kvs.map fun p => ((Sum.inr p.1 : Key), V.str p.2))))) := same_upd hp
  refine h F σ (W.at _) _ (g.same sm) fun v H2 s2 r => ⟨p, .str y, rfl, ?_, k _ H2 (Same.trans sm s2) rfl⟩
  rw [show v = V.str x from r, ← hv]
  exact DGet.k (k := Sum.inr x) (s2 _ _ upd_same)
end
end Dw

/-! Chains of comparisons, dicts of the module, properties, texts cut, objects made. -/
namespace Dw
open PySem PySem.Spec PyProof.Rows L2
variable [Tabs0]
section
variable {Γ : Gam} {K : PySem.W.Frag} {w : World} {ta tb tc te tv : TE} {t : TA} {x y z d : D} {ds : List D} {a b : Str} {C ad : Addr} {E : XK} {s : Spc}
theorem ev_chain {r r' : R2} {p q : Bool} (ha : Ev ta Γ x) (hb : Ev tb Γ y) (hc : p = true → Ev tc Γ z) (h1 : DR2 r x y (.bl p)) (h2 : p = true → DR2 r' y z (.bl q)) : Ev (tChain r r' ta tb tc) Γ (.bl (p && q)) := fun F σ W Q g k =>
  ha F σ W _ g fun u H s ru => hb F σ (W.at H) _ (g.same s) fun v H1 s1 rv => by
    refine h1 (W.at H1) u v _ ((g.same s).same s1).ok.dom (ru.same (W := W.at H) s1) rv fun o H2 s2 ro => ⟨p, ro, ?_⟩
    have s02 : Same W.H H2 := Same.trans s (Same.trans s1 s2)
    cases p with
    | false => exact ite2 (fun h => nomatch h) fun _ => k _ H2 s02 rfl
    | true =>
      refine ite2 (fun _ => ?_) fun h => absurd rfl h
      refine hc rfl F σ (W.at H2) _ (g.same s02) fun e H3 s3 re => ?_
      exact h2 rfl (W.at H3) v e _ ((g.same s02).same (W := W.at H2) s3).ok.dom ((rv.same (W := W.at H1) s2).same (W := W.at H2) s3) re fun o' H4 s4 ro' => k _ H4 (Same.trans s02 (Same.trans s3 s4)) ro'
theorem evt_chain {r r' : R2} {p q : Bool} (ha : Ev ta Γ x) (hb : Ev tb Γ y) (hc : p = true → Ev tc Γ z) (h1 : DR2 r x y (.bl p)) (h2 : p = true → DR2 r' y z (.bl q)) : EvT (tTest (tChain r r' ta tb tc)) Γ (p && q) := evt_test (ev_chain ha hb hc h1 h2)
/-- a property of an object -/
theorem ev_prop {x : s.ty} {ns : List Str} (h : Ev ta Γ (.obj C ns ds)) (ha : s.args x = [.obj C ns ds]) (np : noPs (s.args x) = true) (ok : s.ok x) (hd : ∀ d', s.rel x d' → d' = d) : Ev (tProp C (toSp s) [] E ta) Γ d := fun F σ W R g k => h F σ W _ g fun v H st r => by
  obtain ⟨a, dx, vs, ev, e, nu, l, rl⟩ := r
  refine ⟨a, dx, _, ev, e, ?_⟩
  have rr : RepL (W.at H) (s.args x) [v] := by rw [ha]; exact RepL.one ⟨a, dx, vs, ev, e, nu, l, rl⟩
  rw [← ev]
  exact pure_call (W := W.at H) (g.same st) (fun _ z => z) (RepL.delP _ _ np rr) ok fun d' v H' hd' s' r' => by
    rw [hd d' hd'] at r'
    exact k v H' (Same.trans st s') (Rep.addP (W := W) r')
theorem evn_split (ha : Ev ta Γ (.str a)) (hb : Ev tb Γ (.str b)) (hn : (b.length == 0) = false) (hz : a.length + 2 ≤ sizeLine) :
    EvN (tM1 (fun x xs H Q => ∃ a b, x = .str a ∧ xs = [.str b] ∧ (b.length == 0) = false ∧ a.length + 2 ≤ sizeLine ∧ rNewStrs (Txt.split a b) H Q) ta tb) Γ ((Txt.split a b).map D.str) := fun F σ W Q g k =>
  ha F σ W _ g fun v H s r => ⟨⟨a, r⟩, hb F σ (W.at H) _ (g.same s) fun u H1 s1 r1 => ⟨a, b, r, by rw [show u = V.str b from r1], hn, hz, fun p hp =>
    k p _ _ (Same.trans (Same.trans s s1) (same_upd hp)) ((Same.trans s s1).free hp) upd_same (RepL.strs.mpr rfl)⟩⟩
theorem ev_partition (ha : Ev ta Γ (.str a)) (hb : Ev tb Γ (.str b)) (hn : (b.length == 0) = false) (hz : a.length ≤ sizeLine) :
    Ev (tM1 (fun x xs H Q => ∃ a b, x = .str a ∧ xs = [.str b] ∧ (b.length == 0) = false ∧ a.length ≤ sizeLine ∧
      ∀ p, H p = none → Q (.ref p) (upd H p (.tup [.str (Txt.partition a b).1, .str (Txt.partition a b).2.1, .str (Txt.partition a b).2.2]))) ta tb) Γ (.tup [.str (Txt.partition a b).1, .str (Txt.partition a b).2.1, .str (Txt.partition a b).2.2]) := fun F σ W Q g k =>
  ha F σ W _ g fun v H s r => ⟨⟨a, r⟩, hb F σ (W.at H) _ (g.same s) fun u H1 s1 r1 => ⟨a, b, r, by rw [show u = V.str b from r1], hn, hz, fun p hp =>
    k _ _ (Same.trans (Same.trans s s1) (same_upd hp)) (rep_new_tup (W := W.at H1) ((g.same s).same (W := W.at H) s1).ok.dom hp ⟨_, _, rfl, rfl, _, _, rfl, rfl, _, _, rfl, rfl, rfl⟩)⟩⟩
end
end Dw

/-! Objects made: the promise of an __init__, its rules, the call of the class. -/
namespace Dw
open PySem PySem.Spec PyProof.Rows L2
variable [Tabs0]
abbrev rIsNone : R2 := fun x y H Q => y = .non ∧ Q (.bl (decide (x = .non))) H
theorem dr2_isN {d : D} {b : Bool} (h : ∀ (W : Wd) v, Rep W d v → decide (v = V.non) = b) : DR2 rIsNone d .non (.bl b) := dr2_flat fun W u v Q r1 r2 k => ⟨r2, by rw [h W u r1]; exact k _ rfl⟩
/-- an __init__'s promise: the object gets ns and ds, where rel x (.tup ds) -/
def toIn (C : Addr) (ns : List Str) (s : Spc) : Sp := fun vs H Q _ => ∃ (x : s.ty) (F : Addr → Prop) (W : Wd) (a dx : Addr) (us : List V), vs = .ref a :: us ∧ W.H = H ∧ WOk F W ∧ W.U a ∧ ¬ F a ∧ ¬ W.P a ∧ W.H a = some (.ins C dx []) ∧ RepL W (s.args x) us ∧ s.ok x ∧
  ∀ ds zs W', s.rel x (.tup ds) → Stp F W W' → WOk F W' → W'.U a → W'.H a = some (.ins C dx (ns.zip zs)) → ns.length = zs.length → RepL W' ds zs → Q .non W'.H
section
variable {Γ : Gam} {K : PySem.W.Frag} {te tv ta : TE} {t u : TS} {x y d : D} {C : Addr} {s : Spc}
/-- a statement of an __init__ whose object stands at a, with the fields ns so far -/
def DI (C a : Addr) (t : TS) (Γ : Gam) (ns : List Str) (ds : List D) (R : Gam → List Str → List D → Prop) : Prop := ∀ (F : Addr → Prop) (σ : L2.St) (W : Wd) (Dr : Ends) (dx : Addr) (us : List V), SR (Fp F a) Γ σ W → ¬ F a → W.H a = some (.ins C dx (ns.zip us)) → ns.length = us.length → RepL W ds us →
  (∀ σ' Γ' ns' ds' us' W', Stp F W W' → SR (Fp F a) Γ' σ' W' → W'.H a = some (.ins C dx (ns'.zip us')) → ns'.length = us'.length → RepL W' ds' us' → R Γ' ns' ds' → Dr.nx σ' W'.H) → t Dr σ W.H
theorem di_seq {a : Addr} {ns : List Str} {ds : List D} {R : Gam → List Str → List D → Prop} (h : DI C a t Γ ns ds fun Γ' ns' ds' => DI C a u Γ' ns' ds' R) : DI C a (tSeq t u) Γ ns ds R := fun F σ W Dr dx us g nf e l r k =>
  h F σ W { Dr with nx := u Dr } dx us g nf e l r fun σ' Γ' ns' ds' us' W' st g' e' l' r' hR => hR F σ' W' Dr dx us' g' nf e' l' r' fun σ2 Γ2 ns2 ds2 us2 W2 st2 => k σ2 Γ2 ns2 ds2 us2 W2 (st.trans st2)
theorem di_of {a : Addr} {ns : List Str} {ds : List D} {R : Gam → List Str → List D → Prop} (h : Ds t Γ ⟨fun Γ' => R Γ' ns ds, fun _ => False, fun _ => False, fun _ => False⟩) : DI C a t Γ ns ds R := fun F σ W Dr dx us g nf e l r k =>
  h (Fp F a) σ W Dr g ⟨fun σ' W' Γ' st g' hR => k σ' Γ' ns ds us W' (st.sub fun _ z => .inl z) g' ((st.fr a (.inr rfl)).trans e) l (r.stp st) hR, fun _ _ _ _ _ _ h => h.elim, fun _ _ _ _ _ h => h.elim, fun _ _ _ _ _ h => h.elim⟩
theorem putF_new {f : Str} {v : V} : ∀ {ns : List Str} {us : List V}, f ∉ ns → ns.length = us.length → putF f v (ns.zip us) = (ns ++ [f]).zip (us ++ [v])
  | [], [], _, _ => rfl
  | n :: ns, u :: us, h, l => by
    show (if n = f then _ else (n, u) :: putF f v (ns.zip us)) = _
    rw [if_neg (fun z => h (by rw [z]; exact List.mem_cons_self)), putF_new (fun z => h (List.mem_cons_of_mem _ z)) (Nat.succ.inj l)]
    rfl
theorem zip_len {ns : List Str} {us : List V} (l : ns.length = us.length) : (ns.zip us).length = ns.length := by rw [List.length_zip, ← l]; omega
theorem di_fld {a : Addr} {ns : List Str} {ds : List D} {f : Str} {R : Gam → List Str → List D → Prop} (cl : Cls K C) (na : NoAttr K C f) (hn : f ∉ ns) (hz : ns.length < 1000) (ha : Ev ta Γ (.raw (.ref a))) (hv : Ev tv Γ d) (h : R Γ (ns ++ [f]) (ds ++ [d])) :
    DI C a (sFld K ta tv f) Γ ns ds R := fun F σ W Dr dx us g nf e l r k => hv _ σ W _ g fun v H s rv => ha _ σ (W.at H) _ (g.same s) fun z H1 s1 rz => by
  have g1 := (g.same s).same (W := W.at H) s1
  have s01 := Same.trans s s1
  refine ⟨a, C, dx, ns.zip us, rz, s01 _ _ e, cl, na, by rw [zip_len l]; exact hz, ?_⟩
  rw [putF_new hn l]
  obtain ⟨st, g2⟩ := g1.poke (o := .ins C dx ((ns ++ [f]).zip (us ++ [v]))) nf (no_extI (s01 _ _ e))
  have st1 : Stp F W (W.at H1) := (Stp.of_same g.ok s01).sub fun _ z => .inl z
  exact k σ Γ (ns ++ [f]) (ds ++ [d]) (us ++ [v]) _ (st1.trans st) g2 upd_same (by rw [List.length_append, List.length_append, l]; rfl) (((r.same s01).append (RepL.one (rv.same (W := W.at H) s1))).stp st) h
theorem di_fld2 {a : Addr} {ns : List Str} {ds : List D} {f f2 : Str} {R : Gam → List Str → List D → Prop} (cl : Cls K C) (na : NoAttr K C f) (na2 : NoAttr K C f2) (hn : f ∉ ns) (hn2 : f2 ∉ ns ++ [f]) (hz : ns.length < 900) (ha : Ev ta Γ (.raw (.ref a))) (hv : Ev tv Γ (.tup [x, y]))
    (h : R Γ ((ns ++ [f]) ++ [f2]) ((ds ++ [x]) ++ [y])) :
    DI C a (tAsg tv (gTup K 2 (gCons (gFld K ta f) (gCons (gFld K ta f2) gNil)))) Γ ns ds R := fun F σ W Dr dx us g nf e l r k => hv _ σ W _ g fun v H s rv => by
  obtain ⟨p, vs, ev, hp, nu, v1, _, rfl, r1, v2, _, rfl, r2, rfl⟩ := rv
  refine ⟨p, [v1, v2], ev, hp.sq, rfl, v1, [v2], rfl, ha _ σ (W.at H) _ (g.same s) fun z H1 s1 rz => ?_⟩
  have g1 := (g.same s).same (W := W.at H) s1
  have s01 := Same.trans s s1
  refine ⟨a, C, dx, ns.zip us, rz, s01 _ _ e, cl, na, by rw [zip_len l]; omega, ?_⟩
  rw [putF_new hn l]
  obtain ⟨st, g2⟩ := g1.poke (o := .ins C dx ((ns ++ [f]).zip (us ++ [v1]))) nf (no_extI (s01 _ _ e))
  have st1 : Stp F W (W.at H1) := (Stp.of_same g.ok s01).sub fun _ z => .inl z
  have l1 : (ns ++ [f]).length = (us ++ [v1]).length := by rw [List.length_append, List.length_append, l]; rfl
  have rr1 := ((r.same s01).append (RepL.one (r1.same (W := W.at H) s1))).stp st
  have r2' := (r2.same (W := W.at H) s1).stp st
  refine ⟨v2, [], rfl, ha _ σ _ _ g2 fun z' H2 s2 rz' => ?_⟩
  refine ⟨a, C, dx, (ns ++ [f]).zip (us ++ [v1]), rz', s2 _ _ upd_same, cl, na2, by rw [zip_len l1, List.length_append]; show ns.length + 1 < 1000; omega, rfl, ?_⟩
  rw [putF_new hn2 l1]
  obtain ⟨st2, g3⟩ := (g2.same s2).poke (o := .ins C dx (((ns ++ [f]) ++ [f2]).zip ((us ++ [v1]) ++ [v2]))) nf (no_extI (s2 _ _ upd_same))
  have sto : Stp F (W.at (upd H1 a (.ins C dx ((ns ++ [f]).zip (us ++ [v1]))))) (W.at H2) := (Stp.of_same g2.ok s2).sub fun _ z => .inl z
  exact k σ Γ _ ((ds ++ [x]) ++ [y]) ((us ++ [v1]) ++ [v2]) _ (st1.trans (st.trans (sto.trans st2))) g3 upd_same (by simp [l]) (((rr1.stp sto).append (RepL.one (r2'.stp sto))).stp st2) h
section
variable {P : Program} {w : World} {mg : Str → Option Value} {base : Heap}
theorem in_ok {x qual : Str} {st : Stmt} {f : Addr} {fd : FuncData} {N ps : List Str} {k : Nat} {ns : List Str} (F : Fun K x qual st f fd) (S : FnScope N ps (defScope st)) (len : ∀ x, (s.args x).length + 1 = ps.length)
    (hbody : ∀ (cdv : Value) (A : Around) (outer : List Env) (s' : Shared) (H : Hp) (E : XK), Room k (A.deeper (envOfC qual (defScope st) s'.heap.objs.size f cdv)) →
      ∃ t, PSs (cxOf CX0 P w K mg base N qual (defScope st) f cdv A outer s' H E).nox (defBody st) t ∧ ∀ x, s.ok x → ∀ a, DI C a t (Gz0 N.length (.raw (.ref a) :: s.args x)) [] [] fun _ ns' ds' => ns' = ns ∧ s.rel x (.tup ds')) :
    FnOk P w K mg base CX0 (k + 1) f fd ps (toIn C ns s) :=
  F.ok S (fun vs H Q E ⟨x, F, W, a, dx, us, e, _, _, _, _, _, _, r, _⟩ => by rw [e, List.length_cons, ← r.length]; exact len x) fun cdv A outer s' H vs Q E hr h => by
    obtain ⟨t, p, hb⟩ := hbody cdv A outer s' H E hr
    refine ⟨t, p, ?_⟩
    obtain ⟨x, F, W, a, dx, us, rfl, rfl, ok, hu, nf, np, ha, r, hx, q⟩ := h
    have ok' : WOk (Fp F a) W := ⟨ok.dom, fun b z => z.elim (ok.fu b) fun z => by rw [z]; exact hu, fun b z => let ⟨u, f, pp⟩ := ok.pu b z; ⟨u, fun y => y.elim f fun y => np (by rw [← y]; exact z), pp⟩⟩
    refine hb x hx a F _ W _ dx [] (sr_start ok' (ds := .raw (.ref a) :: s.args x) ⟨_, us, rfl, rfl, r⟩) nf ha rfl rfl fun σ' Γ' ns' ds' us' W' st g' e' l' r' hR => ?_
    obtain ⟨rfl, hrel⟩ := hR
    exact q ds' us' W' hrel st ⟨g'.ok.dom, fun b z => g'.ok.fu b (.inl z), fun b z => let ⟨u, f, pp⟩ := g'.ok.pu b z; ⟨u, fun y => f (.inl y), pp⟩⟩ (g'.ok.fu a (.inr rfl)) e' l' r'
end
/-- C(..) -/
theorem dl_make {ns : List Str} {t : TA} {E : XK} {Q : D → Gam → Prop} (h : DlA t Γ fun ds Γ1 => ∃ x, ds = s.args x ∧ s.ok x ∧ ∀ es, s.rel x (.tup es) → Q (.obj C ns es) Γ1) : Dl (tMake C (toIn C ns s) [] E t) Γ Q := fun F σ W R g k => h F σ W _ g fun vs W1 ds Γ1 st g1 r ⟨x, e, ok, q⟩ => by
  subst e
  intro b dx hb hdx ne
  rw [List.append_nil]
  have sm : Same W1.H (upd (upd W1.H dx (.own b)) b (.ins C dx [])) := Same.trans (same_upd hdx) (same_upd ((upd_ne (Ne.symm ne)).trans hb))
  obtain ⟨stp, gp, no, nf, np⟩ := g1.plus (H := upd (upd W1.H dx (.own b)) b (.ins C dx [])) (a := b) sm hb (by rw [upd_same]; exact fun z => nomatch z)
  refine ⟨x, _, W1.plus _ b, b, dx, vs, rfl, rfl, gp.callOk, .inr rfl, fun z => z.elim nf no, np, upd_same, r.stp stp, ok, fun ds zs W' hd st' ok' hu hH hl rr => ⟨rfl, ?_⟩⟩
  have g2 := gp.call st' ok'
  have np' : ¬ W'.P b := by rw [st'.pur]; exact np
  obtain ⟨st3, g3⟩ := (g2.frame hu np' no).land nf
  exact k (.ref b) ⟨W'.H, fun c => W'.U c ∧ c ≠ b, W'.P⟩ (.obj C ns ds) Γ1 (st.trans (stp.trans ((st'.sub fun _ z => .inl z).trans st3))) g3 ⟨b, dx, zs, rfl, hH, fun z => z.2 rfl, hl, rr.stp st3⟩ (q ds hd)
end
end Dw

/-! all() over a pure comprehension; one sign within a text; comparisons with their answers. -/
namespace Dw
open PySem PySem.Spec PyProof.Rows L2
variable [Tabs0]
section
variable {Γ : Gam} {K : PySem.W.Frag} {wi : TI} {g : TG} {tt : TT} {te : TE} {vs : List Nat}
theorem ev_all_lc {α : Type} {xs : List α} {c : α → D} {b : α → Bool} (h : Ei wi Γ (xs.map c)) (hz : xs.length ≤ 1000000)
    (he : ∀ x ∈ xs, ∃ is Γ2, DG g is (c x) (wipeG Γ vs) Γ2 ∧ (∀ i ∈ is, i ∈ vs) ∧ EvT tt Γ2 true ∧ Ev te Γ2 (.bl (b x))) : Ev (tCB (rAll K) (tCons (tLc wi g tt te vs) tNil)) Γ (.bl (xs.all b)) := by
  have e := evn_lc (p := fun _ => true) (f := fun x => D.bl (b x)) h hz fun x hx => by
    obtain ⟨is, Γ2, h1, h2, h3, h4⟩ := he x hx
    exact ⟨is, Γ2, h1, h2, h3, fun _ => h4⟩
  rw [List.filter_eq_self.mpr (fun _ _ => rfl)] at e
  have e2 : xs.map (fun x => D.bl (b x)) = (xs.map b).map D.bl := by rw [List.map_map]; rfl
  rw [e2] at e
  have r := ev_all (K := K) e.b
  rw [List.all_map] at r
  exact r
/-- a pure comprehension without a test -/
theorem evn_lc1 {α : Type} {xs : List α} {c f : α → D} (h : Ei wi Γ (xs.map c)) (hz : xs.length ≤ 1000000)
    (he : ∀ x ∈ xs, ∃ is Γ2, DG g is (c x) (wipeG Γ vs) Γ2 ∧ (∀ i ∈ is, i ∈ vs) ∧ EvT tt Γ2 true ∧ Ev te Γ2 (f x)) : EvN (tLc wi g tt te vs) Γ (xs.map f) := by
  have e := evn_lc (p := fun _ => true) (f := f) h hz fun x hx => by
    obtain ⟨is, Γ2, h1, h2, h3, h4⟩ := he x hx
    exact ⟨is, Γ2, h1, h2, h3, fun _ => h4⟩
  rw [List.filter_eq_self.mpr (fun _ _ => rfl)] at e
  exact e
end
theorem in_code {K : PySem.W.Frag} {l : List Nat} {c : Nat} : DR2 (rOr (rIn K false) rInS) (.str (ch c)) (.str (tx l)) (.bl (decide (c ∈ l))) := by
  have e := in_str' (K := K) (x := ch c) (y := tx l)
  rw [show (Builtin.Str.occurrences (tx l) (ch c) 0 (tx l).length 1).isEmpty = !decide (c ∈ l) from by rw [← Bool.not_not (Builtin.Str.occurrences (tx l) (ch c) 0 (tx l).length 1).isEmpty]; exact congrArg _ (SX.in_one l c), Bool.not_not] at e
  exact e
theorem nin_code {K : PySem.W.Frag} {l : List Nat} {c : Nat} : DR2 (rOr (rIn K true) rNinS) (.str (ch c)) (.str (tx l)) (.bl (!decide (c ∈ l))) := by
  refine dr2_r (dr2_flat fun W u v Q a b k => ⟨ch c, tx l, a, b, ?_⟩)
  rw [show (Builtin.Str.occurrences (tx l) (ch c) 0 (tx l).length 1).isEmpty = !decide (c ∈ l) from by rw [← Bool.not_not (Builtin.Str.occurrences (tx l) (ch c) 0 (tx l).length 1).isEmpty]; exact congrArg _ (SX.in_one l c), Bool.not_not]
  exact k _ rfl
section
variable {K : PySem.W.Frag} {i j : Int} {b : Bool} {x y : Str}
theorem le_b (h : decide (i ≤ j) = b) : DR2 (rI0 fun i j => .bl (decide (i ≤ j))) (.int i) (.int j) (.bl b) := h ▸ dr2_le
theorem gt_b (h : decide (j < i) = b) : DR2 (rI0 fun i j => .bl (decide (j < i))) (.int i) (.int j) (.bl b) := h ▸ dr2_gt
theorem lt_tx {l m : List Nat} : DR2 (rOr (rI0 fun i j => .bl (decide (i < j))) rLtS) (.str (tx l)) (.str (tx m)) (.bl (decide (l < m))) := by
  have e := lt_str' (x := tx l) (y := tx m)
  rw [tx_cps, tx_cps] at e
  exact e
theorem eq_ib (h : decide (i = j) = b) : DR2 (rEqX K) (.int i) (.int j) (.bl b) := h ▸ eq_int'
theorem eq_sb (h : decide (x = y) = b) : DR2 (rEqX K) (.str x) (.str y) (.bl b) := h ▸ eq_str'
theorem ne_sb (h : (!decide (x = y)) = b) : DR2 (rNeX K) (.str x) (.str y) (.bl b) := h ▸ ne_str'
end
/-- a and b, both true -/
theorem small {n : Nat} (h : n ≤ 100000) : n ≤ sizeLine := Nat.le_trans h (by decide)
end Dw

/-! Methods of lists with K named: within blocks X.K speaks of the block. -/
namespace Dw
open PySem PySem.Spec PyProof.Rows L2
variable [Tabs0]
variable {X : Cx} {o e : Expr} {es : List Expr} {to : TE} {t : TA} {name : Str} {apos cpos : Pos} {T id : String} {r : V → List V → Hp → VK → Prop}
theorem bmA (K : PySem.W.Frag) (pa : PlainAttrs T) (slot : Slot T name id) (hty : typeOf (.builtin id) = pure (.type "method_descriptor")) (hm : MtR X id r) (ho : PE X o to) (ha : PA X (e :: es) t) (hK : X.K = K := by rfl)
    (hbase : attributeBase o name X.env (eval o X.env) = eval o X.env := by rfl)
    (hfew : ((backTo cpos (starEach (e :: es) X.env)).all (fun x => !x.1) && (backToKw cpos (keywordEach [] X.env)).all (fun x => x.1.isSome)
      && decide ((e :: es).length + ([] : List Keyword).length + (if ([] : List Keyword).isEmpty then 0 else 1) < 30)) = true := by rfl)
    (hline : (apos.endLine == cpos.line) = true := by rfl) (hs : starEach (e :: es) X.env = (false, eval e X.env) :: starEach es X.env := by rfl) (hplain : (backTo cpos (starEach es X.env)).any (·.1) = false := by rfl) :
    PE X (.Call (.Attribute o name apos) (e :: es) [] cpos) (tBM K T r to t) := hK ▸ pe_bm pa slot hty hm ho ha hbase hfew hline hs hplain
end Dw

/-! The script (a list that the head gives), and a purse that is made and at once given on. -/
namespace Dw
open PySem PySem.Spec PyProof.Rows L2
variable [Tabs0]
section
variable {Γ : Gam} {K : PySem.W.Frag} {ta tb : TE} {vs : List V} {d : D} {i : Int}
theorem scr_sq {W : Wd} {v : V} (r : Rep W (.scr K vs) v) : ∃ a, v = .ref a ∧ SqL K W.H a vs := by
  obtain ⟨a, e, q, _⟩ := r
  refine ⟨a, e, ?_⟩
  rcases q with ⟨u, h, n, q⟩ | q
  · rcases q with rfl | ⟨o, rfl⟩
    · exact .inl (.inl h)
    · exact .inl (.inr ⟨o, h⟩)
  · exact .inr q
theorem ev_lenX (h : Ev ta Γ (.scr K vs)) : Ev (tCB (rLen K) (tCons ta tNil)) Γ (.int vs.length) := fun F σ W Q g k => h F σ W _ g fun v H s r => by
  obtain ⟨a, e, q⟩ := scr_sq r
  exact .inl ⟨a, vs, by rw [e], .inl q, k _ H s rfl⟩
theorem ev_ixX {z : Int} (h : Ev ta Γ (.scr K vs)) (hb : Ev tb Γ (.int i)) (hz : atI vs i = some (.int z)) : Ev (tOp (rIx K) ta tb) Γ (.int z) := fun F σ W Q g k => h F σ W _ g fun v H s r => hb F σ (W.at H) _ (g.same s) fun u H' s' r' => by
  obtain ⟨a, e, q⟩ := scr_sq (r.same (W := W.at H) s')
  exact .inl ⟨a, vs, i, .int z, e, r', q, hz, k _ H' (Same.trans s s') rfl⟩
end
end Dw
namespace Dw
open PySem PySem.Spec PyProof.Rows L2
variable [Tabs0]
section
variable {Γ : Gam} {K : PySem.W.Frag} {ta tb te : TE} {ns : List Int} {d : D} {i : Int} {s : Spc} {E : XK}
def intD (ns : List Int) : List D := ns.map D.int
def cutI (ns : List Int) (lo hi : Option Int) : List Int := (ns.drop (HT.sIx ns.length 0 lo)).take (HT.sIx ns.length ns.length hi - HT.sIx ns.length 0 lo)
theorem ev_int1 (h : Ev ta Γ (.int i)) : Ev (tCB (fun xs H Q => (∃ i, xs = [.int i] ∧ Q (.int i) H) ∨ ∃ k, xs = [.bl k] ∧ Q (.int (if k then 1 else 0)) H) (tCons ta tNil)) Γ (.int i) :=
  ev_cb (eva_cons h eva_nil) fun W us Q dom r k => by
    obtain ⟨v, _, rfl, rv, rfl⟩ := r
    exact .inl ⟨i, by rw [show v = V.int i from rv], k _ _ (Same.refl _) rfl⟩
theorem ev_abs (h : Ev ta Γ (.int i)) : Ev (tCB (fun xs H Q => ∃ i, xs = [.int i] ∧ Q (.int (if i < 0 then -i else i)) H) (tCons ta tNil)) Γ (.int (if i < 0 then -i else i)) :=
  ev_cb (eva_cons h eva_nil) fun W us Q dom r k => by
    obtain ⟨v, _, rfl, rv, rfl⟩ := r
    exact ⟨i, by rw [show v = V.int i from rv], k _ _ (Same.refl _) rfl⟩
theorem ev_max2 {j : Int} (h : Ev ta Γ (.int i)) (h' : Ev tb Γ (.int j)) : Ev (tCB (fun xs H Q => ∃ i j, xs = [.int i, .int j] ∧ Q (.int (if j > i then j else i)) H) (tCons ta (tCons tb tNil))) Γ (.int (if j > i then j else i)) :=
  ev_cb (eva_cons h (eva_cons h' eva_nil)) fun W us Q dom r k => by
    obtain ⟨v, _, rfl, rv, v', _, rfl, rv', rfl⟩ := r
    exact ⟨i, j, by rw [show v = V.int i from rv, show v' = V.int j from rv'], k _ _ (Same.refl _) rfl⟩
theorem ev_min2 {j : Int} (h : Ev ta Γ (.int i)) (h' : Ev tb Γ (.int j)) : Ev (tCB (fun xs H Q => ∃ i j, xs = [.int i, .int j] ∧ Q (.int (if j < i then j else i)) H) (tCons ta (tCons tb tNil))) Γ (.int (if j < i then j else i)) :=
  ev_cb (eva_cons h (eva_cons h' eva_nil)) fun W us Q dom r k => by
    obtain ⟨v, _, rfl, rv, v', _, rfl, rv', rfl⟩ := r
    exact ⟨i, j, by rw [show v = V.int i from rv, show v' = V.int j from rv'], k _ _ (Same.refl _) rfl⟩
end
end Dw

/-! sorted(a tuple of ints), xs[::k]. -/
namespace Dw
open PySem PySem.Spec PyProof.Rows L2
section
variable {prog : Program} {w : World} {A : Around} {E : Value → Shared → Prop} {s : Shared}
end
/-! ### xs[::k] -/
/-! ### text * int -/
end Dw

/-! while, xs[::k], sorted of a tuple, equality of nested data. -/
namespace Dw
open PySem PySem.Spec PyProof.Rows L2
variable [Tabs0]
section
variable {K : PySem.W.Frag} {Γ : Gam} {ta tb te tk : TE} {De : DE} {ds es : List D} {d : D}
theorem ds_while {c : TT} {tb : TS} (J : Nat → Gam → Prop) (m0 : Nat) (h0 : J m0 Γ)
    (hs : ∀ m Γ', J m Γ' → DlT c Γ' fun b Γ1 => (b = true → Ds tb Γ1 ⟨fun Γ2 => ∃ m', m' < m ∧ J m' Γ2, De.rt, De.nx, fun Γ2 => ∃ m', m' < m ∧ J m' Γ2⟩) ∧ (b = false → De.nx Γ1)) : Ds (tWhile c tb) Γ De := fun F σ W Dr g l => by
  refine ⟨fun m σ' H' => ∃ W' Γ', W'.H = H' ∧ Stp F W W' ∧ SR F Γ' σ' W' ∧ J m Γ', ⟨m0, W, Γ, rfl, .refl _, g, h0⟩, ?_⟩
  rintro m σ' H' ⟨W', Γ', rfl, s', g', j⟩
  refine hs m Γ' j F σ' W' _ g' fun b W1 Γ1 s1 g1 q => ?_
  cases b with
  | false => rw [if_neg (by decide)]; exact l.nx σ' W1 Γ1 (s'.trans s1) g1 (q.2 rfl)
  | true =>
    rw [if_pos rfl]
    refine ⟨fun σ2 H2 => ∃ m', m' < m ∧ ∃ W2 Γ2, W2.H = H2 ∧ Stp F W W2 ∧ SR F Γ2 σ2 W2 ∧ J m' Γ2, fun σ2 H2 q => q, ?_⟩
    have s2 := s'.trans s1
    exact q.1 rfl F σ' W1 _ g1 ⟨fun σ4 W4 Γ4 s4 g4 ⟨m', hm, q⟩ => ⟨m', hm, W4, Γ4, rfl, s2.trans s4, g4, q⟩, fun v W4 d s4 ok4 r4 q => l.rt v W4 d (s2.trans s4) ok4 r4 q, fun σ4 W4 Γ4 s4 g4 q => l.nx σ4 W4 Γ4 (s2.trans s4) g4 q, fun σ4 W4 Γ4 s4 g4 ⟨m', hm, q⟩ => ⟨m', hm, W4, Γ4, rfl, s2.trans s4, g4, q⟩⟩
end
/-! ### nested data: what may be compared -/
mutual
def dOk : Nat → D → Bool
  | _, .non => true | _, .bl _ => true | _, .int _ => true | _, .str x => PyData.strOk x
  | 0, _ => false
  | k + 1, .tup ds => dOks k ds | k + 1, .lst ds => dOks k ds | k + 1, .tupN ds => dOks k ds
  | _ + 1, .obj _ _ _ => false | _ + 1, .raw _ => false | _ + 1, .purse => false | _ + 1, .rng _ _ => false | _ + 1, .dct _ _ => false | _ + 1, .scr _ _ => false | _ + 1, .tag _ => false
def dOks : Nat → List D → Bool
  | _, [] => true
  | k, d :: ds => dOk k d && dOks k ds
end
mutual
theorem dOk_py : ∀ (k : Nat) (d : D), dOk k d = true → isPy d = true ∧ PyData.canLay0 (py d) = true ∧ PyData.depth (py d) ≤ k
  | k, .non, _ => ⟨rfl, rfl, Nat.zero_le _⟩
  | k, .bl _, _ => ⟨rfl, rfl, Nat.zero_le _⟩
  | k, .int _, _ => ⟨rfl, rfl, Nat.zero_le _⟩
  | k, .str x, h => ⟨rfl, by cases k <;> exact h, Nat.zero_le _⟩
  | k + 1, .tup ds, h => by
    obtain ⟨h1, h2, h3⟩ := dOks_py k ds h
    exact ⟨h1, h2, Nat.succ_le_succ h3⟩
  | k + 1, .lst ds, h => by
    obtain ⟨h1, h2, h3⟩ := dOks_py k ds h
    exact ⟨h1, h2, Nat.succ_le_succ h3⟩
  | k + 1, .tupN ds, h => by
    obtain ⟨h1, h2, h3⟩ := dOks_py k ds h
    exact ⟨h1, h2, Nat.succ_le_succ h3⟩
  | 0, .tupN _, h => nomatch h
  | 0, .tup _, h => nomatch h
  | 0, .lst _, h => nomatch h
  | 0, .obj _ _ _, h => nomatch h
  | 0, .raw _, h => nomatch h
  | 0, .purse, h => nomatch h
  | 0, .rng _ _, h => nomatch h
  | 0, .dct _ _, h => nomatch h
  | 0, .scr _ _, h => nomatch h
  | 0, .tag _, h => nomatch h
  | _ + 1, .obj _ _ _, h => nomatch h
  | _ + 1, .raw _, h => nomatch h
  | _ + 1, .purse, h => nomatch h
  | _ + 1, .rng _ _, h => nomatch h
  | _ + 1, .dct _ _, h => nomatch h
  | _ + 1, .scr _ _, h => nomatch h
  | _ + 1, .tag _, h => nomatch h
theorem dOks_py : ∀ (k : Nat) (ds : List D), dOks k ds = true → isPys ds = true ∧ PyData.canLayAll0 (pys ds) = true ∧ PyData.depthAll (pys ds) ≤ k
  | k, [], _ => ⟨rfl, rfl, Nat.zero_le _⟩
  | k, d :: ds, h => by
    have h : (dOk k d && dOks k ds) = true := by cases k <;> exact h
    rw [Bool.and_eq_true] at h
    obtain ⟨a1, a2, a3⟩ := dOk_py k d h.1
    obtain ⟨b1, b2, b3⟩ := dOks_py k ds h.2
    exact ⟨by show (isPy d && isPys ds) = true; rw [a1, b1]; rfl, by show (PyData.canLay0 (py d) && PyData.canLayAll0 (pys ds)) = true; rw [a2, b2]; rfl, Nat.max_le.mpr ⟨a3, b3⟩⟩
end
theorem dOk_shaped {k : Nat} {d : D} (h : dOk k d = true) (hk : k ≤ 64) : isPy d = true ∧ SeqAt.shaped (py d) = true := by
  obtain ⟨h1, h2, h3⟩ := dOk_py k d h
  refine ⟨h1, ?_⟩
  show (PyData.canLay0 (py d) && decide (PyData.depth (py d) ≤ 64)) = true
  rw [h2, decide_eq_true (Nat.le_trans h3 hk)]; rfl
theorem dOks_map {α : Type} {k : Nat} {f : α → D} : ∀ {l : List α}, (∀ x ∈ l, dOk k (f x) = true) → dOks k (l.map f) = true
  | [], _ => by cases k <;> rfl
  | x :: l, h => by
    have e : dOks k ((x :: l).map f) = (dOk k (f x) && dOks k (l.map f)) := by cases k <;> rfl
    rw [e, h x List.mem_cons_self, dOks_map fun y hy => h y (List.mem_cons_of_mem _ hy)]; rfl
section
variable {K : PySem.W.Frag} {d : D} {ds es : List D} {k : Nat}
theorem eqv_nil : ∀ ds : List D, PyData.eqvAll (pys ds) (pys []) = ds.isEmpty
  | [] => rfl
  | _ :: _ => rfl
theorem eq_nil (h : dOk k (.lst ds) = true) (hk : k ≤ 64) : DR2 (rEqX K) (.lst ds) (.lst []) (.bl ds.isEmpty) := by
  obtain ⟨h1, h2⟩ := dOk_shaped h hk
  have := eq_deep (K := K) (q := .lst []) h1 rfl h2 rfl
  rw [show PyData.eqv (py (.lst ds)) (py (.lst [])) = PyData.eqvAll (pys ds) (pys []) from rfl, eqv_nil] at this
  exact this
theorem ne_nil (h : dOk k (.lst ds) = true) (hk : k ≤ 64) : DR2 (rNeX K) (.lst ds) (.lst []) (.bl (!ds.isEmpty)) := by
  obtain ⟨h1, h2⟩ := dOk_shaped h hk
  have := ne_deep (K := K) (q := .lst []) h1 rfl h2 rfl
  rw [show PyData.eqv (py (.lst ds)) (py (.lst [])) = PyData.eqvAll (pys ds) (pys []) from rfl, eqv_nil] at this
  exact this
theorem ne_bl (a b : Bool) : DR2 (rNeX K) (.bl a) (.bl b) (.bl (a != b)) := by
  have := ne_deep (K := K) (p := .bl a) (q := .bl b) rfl rfl rfl rfl
  rw [show PyData.eqv (py (.bl a)) (py (.bl b)) = (a == b) from rfl] at this
  exact this
end
section
variable {K : PySem.W.Frag} {Γ : Gam} {ta tb : TE}
/-- whole numbers in a list -/
def ordN (o : List Nat) : List D := o.map fun (k : Nat) => D.int k
theorem inV_ord (c : Nat) : ∀ l : List Nat, inV (.int (c : Int)) ((ordN l).map scV) = decide (c ∈ l)
  | [] => rfl
  | b :: l => by
    show ((decide ((b : Int) = (c : Int))) || inV (.int (c : Int)) ((ordN l).map scV)) = _
    rw [inV_ord c l, Bool.eq_iff_iff]
    simp only [Bool.or_eq_true, decide_eq_true_eq, List.mem_cons, Int.natCast_inj]
    constructor
    · rintro (h | h)
      · exact .inl h.symm
      · exact .inr h
    · rintro (h | h)
      · exact .inl h.symm
      · exact .inr h
theorem sc_ord (l : List Nat) : (ordN l).all isSc = true := by
  unfold ordN
  rw [List.all_map, List.all_eq_true]
  exact fun _ _ => rfl
theorem ev_inO {neg : Bool} {r' : R2} {c : Nat} {l : List Nat} (ha : Ev ta Γ (.int c)) (h : EvB tb Γ (ordN l)) : Ev (tOp (rOr (rIn K neg) r') ta tb) Γ (.bl (if neg then !decide (c ∈ l) else decide (c ∈ l))) := by
  have e := ev_in (neg := neg) (K := K) (r' := r') ha h rfl (sc_ord l)
  rw [show scV (.int (c : Int)) = V.int (c : Int) from rfl, inV_ord c l] at e
  exact e
end
end Dw

/-! sorted(set(t)), t a tuple of ints. -/
namespace Dw
open PySem PySem.Spec PyProof.Rows L2
variable [Tabs0]
section
variable {K : PySem.W.Frag} {w : World} {Γ : Gam} {ta : TE}
end
section
variable {K : PySem.W.Frag} {Γ : Gam} {ta : TE} {xs : List D}
theorem ei_enumL {r : TI} (h : EvB ta Γ xs) : Ei (fun σ H R => iEnum K (tCons ta tNil) σ H R ∨ r σ H R) Γ (enumD xs) := fun F σ W R g k => .inl (h F σ W _ g fun a vs H s ha l => by
  refine ⟨a, vs, rfl, .of ha, k (Ite K a) H s ⟨fun W2 i x dm s2 ku pu hx => ?_, fun H2 s2 => ⟨vs, .of (s2 _ _ ha), by rw [enumD_length, l.length]; exact Nat.le_refl _⟩⟩⟩
  obtain ⟨y, hy, rfl⟩ := enumD_get hx
  obtain ⟨v, hv, rv⟩ := l.get hy
  have h2 : W2.H a = some (.lst vs) := s2 _ _ ha
  refine ⟨⟨vs, v, .of h2, hv⟩, fun u H' ⟨T, z, eu, hT, eH, hz⟩ => ?_⟩
  subst eu; subst eH
  have := hz vs (.of h2)
  rw [hv] at this; cases this
  exact ⟨same_upd hT, rep_new_tup dm hT ⟨_, _, rfl, rfl, v, _, rfl, Rep.mono (W := W.at H) (W' := W2) (fun b u e n => ⟨s2 b u e, ku b u e n⟩) (fun b z => by rw [pu]; exact z) _ _ rv, rfl⟩⟩)
end
end Dw

/-! repr of data: it asks that no other repr is under way (guards), so the defs that call it have a promise of their own. -/
namespace Dw
open PySem PySem.Spec PyProof.Rows L2
variable [Tabs0]
/-- as FnOk, but only where no repr is under way -/
def FnG (P : Program) (w : World) (K : PySem.W.Frag) (mg : Str → Option Value) (base : Heap) (k : Nat) (f : Addr) (fd : FuncData) (ps : List Str) (s : Spc) : Prop :=
  (∀ x, (s.args x).length = ps.length) ∧ ∀ (A : Around) (outer : List Env) (sh : Shared) (H : Hp) (args : Args) (us : List Value) (vs : List V) (Q : VK) (E : XK), Room k A → A.guards = some [] → Env0 P w K mg base A outer sh H → BindsTo sh fd args (ps.zip us) → Vals vs us → toSp s vs H Q E → codeAny (model P w) A (.call (.ref f) args) (CR CX0 outer P w H sh Q E) sh
section
variable {P : Program} {w : World} {K : PySem.W.Frag} {mg : Str → Option Value} {base : Heap}
theorem cells_in {N ps : List Str} {sc : Scope} {n : Nat} (S : FnScope N ps sc) (us : List Value) : ∀ y ∈ ps.zip us, sc.names.lookup y.1 = some .local ∨ (sc.names.lookup y.1 = some .cell ∧ ((cellsFrom n sc.names []).lookup y.1).isSome = true) := by
  rintro ⟨a, b⟩ hy
  exact (S.par a (List.of_mem_zip hy).1).imp id fun q => ⟨q, PySem.W.cellsFrom_some _ _ _ (.inl q)⟩
theorem fnG_ok {x qual : Str} {st : Stmt} {f : Addr} {fd : FuncData} {N ps : List Str} {k : Nat} {s : Spc} (F : Fun K x qual st f fd) (S : FnScope N ps (defScope st)) (len : ∀ x, (s.args x).length = ps.length)
    (hbody : ∀ (cdv : Value) (A : Around) (outer : List Env) (s' : Shared) (H : Hp) (E : XK), Room k (A.deeper (envOfC qual (defScope st) s'.heap.objs.size f cdv)) → (A.deeper (envOfC qual (defScope st) s'.heap.objs.size f cdv)).guards = some [] →
      ∃ t, PSs (cxOf CX0 P w K mg base N qual (defScope st) f cdv A outer s' H E).nox (defBody st) t ∧ ∀ x, s.ok x → Ds t (Gz0 N.length (s.args x)) ⟨fun _ => s.rel x .non, s.rel x, fun _ => False, fun _ => False⟩) : FnG P w K mg base (k + 1) f fd ps s := by
  obtain ⟨oc, od, kV, doc, pm, an, cdv, ct, osl, rfl, lk, hcd⟩ := F.ex
  refine ⟨len, fun A outer sh H args us vs Q E hr hg e0 hb r hsp => ?_⟩
  obtain ⟨t, p, hd⟩ := hbody cdv A outer sh H E (hr.deeper _) hg
  have old : ∀ b o, base.get? b = some o → sh.heap.get? b = some o := fun b o e => (e0.bs b o e).1
  have KX := e0.mod.kin.keeps old
  refine codeAny_call_function hr.depth (KX _ _ lk) rfl S.co S.gen rfl (PySem.W.codeRec_of KX hcd) (hb _ _ _ _ (wpAny_newFunctionEnv_cells S.kind (cells_in S us) ?_))
  rintro env rfl s1 x1
  refine ⟨(e0.mod.nolimit.keeps old).keeps x1.toInCall.keep, codeAny_func (wpAny_mono (p.nox.run [] s1 _ H _ (inv_start S hr.hd e0 (spc_len len _ _ _ _ hsp) r x1) (body_of hsp hd)) (fun fl s' hs => ?_) fun _ _ z => z)⟩
  have done : ∀ {σ' : L2.St} {H' : Hp} {v : V} {u : Value}, Inv (cxOf CX0 P w K mg base N qual (defScope st) f cdv A outer sh H E) [] σ' H' s' → RelV v u → Q v H' → CE outer P w H sh Q u s' := fun {_ H' v _} J rv q => ⟨v, H', J.os, J.bare, J.base, J.hok, rv, q⟩
  match fl, hs with
  | .ret _, ⟨_, _, _, J, rv, q⟩ => exact done J rv q
  | .next, ⟨_, _, J, q⟩ => exact done (v := .non) (u := .none) J rfl q
  | .brk, ⟨_, _, _, q⟩ => exact q.elim
  | .cont, ⟨_, _, _, q⟩ => exact q.elim
section
variable {X : Cx} {k : Nat} {f : Addr} {fd : FuncData} {ps : List Str} {s : Spc} {E : XK} {x : Str} {p pos : Pos} {e : Expr} {es : List Expr} {t : TA}
theorem pe_callG (F : FnG X.prog X.w X.K X.mg X.base k f fd ps s) (hr : Room k X.A) (hG : X.A.guards = some []) (hg : Gl X x) (hm : X.mg x = some (.ref f)) (hk : PySem.W.keepIn X.K (.ref f) = true) (hb : Binds X.K fd ps []) (ha : PA X (e :: es) t)
    (hdb : (x == ("__debug__" : Str)) = false := by decide) (he : starEach (e :: es) X.env = (false, eval e X.env) :: starEach es X.env := by rfl) (hpl : (backTo pos (starEach es X.env)).any (·.1) = false := by rfl) : PE X (.Call (.Name x p) (e :: es) [] pos) (tCall (toSp s) [] E t) := by
  refine ⟨fun pins s1 σ H Q I h => wpAny_Call_Name_kw (ld_glob I hg hm (PySem.W.callWith_K (h₀ := X.base) I.ok.mod.kin hk (thn (ha.run pos pins s1 σ H _ I h) fun us s2 ⟨vs, H1, I1, r, q⟩ => ⟨I1.kIn, ?_⟩) he hpl) hdb)⟩
  have q : toSp s vs H1 Q E := by rw [← List.append_nil vs]; exact q
  have hb := hb s2 us I1.kIn (by rw [List.append_nil, ← r.length]; exact spc_len F.1 _ _ _ _ q)
  rw [List.append_nil] at hb
  refine wpAny_call (codeAny_mono (F.2 X.A X.stack s2 H1 ⟨us, []⟩ us vs Q E hr hG I1.env0 hb r q) fun res s3 hq => ?_)
  match res, hq with
  | .error _, hq => exact (show False from hq).elim
  | .ok (.ret _), hq => exact I1.after hq
  | .ok .next, hq => exact (show False from hq).elim
  | .ok .brk, hq => exact (show False from hq).elim
  | .ok .cont, hq => exact (show False from hq).elim
end
end
/-! ### repr -/
mutual
/-- what can be shown -/
def shOk : D → Bool
  | .non => true | .bl _ => true | .int i => PyData.showable (.int i) | .str x => PyData.showable (.str x)
  | .tup ds => shOks ds | .lst ds => shOks ds | .tupN ds => shOks ds | _ => false
def shOks : List D → Bool
  | [] => true
  | d :: ds => shOk d && shOks ds
end
mutual
theorem shOk_py : ∀ d : D, shOk d = true → PyData.showable (py d) = true ∧ PyData.hasDict (py d) = false
  | .non, _ => ⟨rfl, rfl⟩
  | .bl _, _ => ⟨rfl, rfl⟩
  | .int _, h => ⟨h, rfl⟩
  | .str _, h => ⟨h, rfl⟩
  | .tup ds, h => shOks_py ds h
  | .lst ds, h => shOks_py ds h
  | .tupN ds, h => shOks_py ds h
  | .obj _ _ _, h => nomatch h
  | .raw _, h => nomatch h
  | .purse, h => nomatch h
  | .rng _ _, h => nomatch h
  | .dct _ _, h => nomatch h
  | .scr _ _, h => nomatch h
  | .tag _, h => nomatch h
theorem shOks_py : ∀ ds : List D, shOks ds = true → PyData.showableAll (pys ds) = true ∧ PyData.hasDictAll (pys ds) = false
  | [], _ => ⟨rfl, rfl⟩
  | d :: ds, h => by
    have h : (shOk d && shOks ds) = true := h
    rw [Bool.and_eq_true] at h
    obtain ⟨a1, a2⟩ := shOk_py d h.1
    obtain ⟨b1, b2⟩ := shOks_py ds h.2
    exact ⟨by show (PyData.showable (py d) && PyData.showableAll (pys ds)) = true; rw [a1, b1]; rfl, by show (PyData.hasDict (py d) || PyData.hasDictAll (pys ds)) = false; rw [a2, b2]; rfl⟩
end
section
variable {K : PySem.W.Frag} {Γ : Gam} {ta : TE} {ds : List D} {k : Nat}
end
/-! ### the head, where the law's def has such a promise -/
section
variable {P : Program} {w : World} {K : PySem.W.Frag} {mg mb : Str → Option Value} {k : Nat} {fa a : Addr} {fd : FuncData} {x : Str} {s1 : Shared} {vs : List Value} {ns : List Int} {sp : Spc}
/-- what is tracked at the head: the script, unless the module has it -/
def headH (K : PySem.W.Frag) (a : Addr) (vs : List Value) (ns : List Int) : Hp := fun b => if b = a ∧ K.lookup a = none then some (.frz { cls := .type "list", data := .seq vs.toArray } (.lst (ns.map V.int))) else none
theorem headH_none {b : Addr} (h : b ≠ a) : headH K a vs ns b = none := if_neg fun z => h z.1
end
end Dw

/-! Bits, sums, xs[k] = v, x |= y, reversed(range(n)). -/
namespace Dw
open PySem PySem.Spec PyProof.Rows L2
variable [Tabs0]
section
variable {K : PySem.W.Frag} {Γ : Gam} {ta tb te tk : TE} {De : DE} {ds : List D} {d : D}
abbrev rShl : R2 := rI CPow fun i j => .int (i * 2 ^ j.toNat)
abbrev rOrB : R2 := rI0 fun i j => .int (Builtin.bitOr i j)
abbrev rAndB : R2 := rI0 fun i j => .int (Builtin.bitAnd i j)
theorem dr2_shl1 {k : Nat} (h : k ≤ 1000) : DR2 rShl (.int 1) (.int k) (.int ((2 ^ k : Nat) : Int)) := dr2_rI ⟨by omega, by omega, by decide⟩ fun W => by
  show V.int (1 * 2 ^ (k : Int).toNat) = V.int ((2 ^ k : Nat) : Int)
  rw [Int.one_mul, Int.toNat_natCast, Int.natCast_pow]; rfl
theorem dr2_or {a b : Nat} : DR2 rOrB (.int a) (.int b) (.int ((a ||| b : Nat) : Int)) := dr2_rI0 fun W => by
  show V.int (Builtin.bitOr a b) = V.int ((a ||| b : Nat) : Int)
  rw [Bits.bitOr_pp (by omega) (by omega)]; rfl
theorem dr2_and {a b : Nat} : DR2 rAndB (.int a) (.int b) (.int ((a &&& b : Nat) : Int)) := dr2_rI0 fun W => by
  show V.int (Builtin.bitAnd a b) = V.int ((a &&& b : Nat) : Int)
  rw [bitAnd_pp (by omega) (by omega)]; rfl
theorem ev_sum {ns : List Int} (h : EvB ta Γ (ns.map D.int)) : Ev (tCB (rSum K) (tCons ta tNil)) Γ (.int ns.sum) := fun F σ W Q g k => h F σ W _ g fun p vs H s e l => ⟨p, ns, rfl, .of (by rw [e, RepL.ints.mp l]), k _ H s rfl⟩
theorem repL_rep {W : Wd} {vs : List V} (l : RepL W ds vs) : ∀ n : Nat, RepL W (List.replicate n ds).flatten (List.replicate n vs).flatten
  | 0 => rfl
  | n + 1 => by
    rw [List.replicate_succ, List.replicate_succ, List.flatten_cons, List.flatten_cons]
    exact l.append (repL_rep l n)
/-- xs * n, a new list -/
theorem evn_rep {n : Nat} (h : EvB ta Γ ds) (hn : Ev tb Γ (.int n)) (hz : ds.length * n ≤ sizeLine) (hb : n < 2 ^ 63) : EvN (tOp rTimes ta tb) Γ (List.replicate n ds).flatten := fun F σ W Q g k =>
  h F σ W _ g fun a vs H s e l => hn F σ (W.at H) _ (g.same s) fun u H2 s2 r => .inr ⟨a, n, vs, rfl, r, s2 _ _ e, by omega, by omega, by rw [← l.length, Int.toNat_natCast]; exact hz, fun p hp => by
    rw [Int.toNat_natCast]
    exact k p _ _ (Same.trans s (Same.trans s2 (same_upd hp))) (s.free (s2.free hp)) upd_same (RepL.plus (W := W.at H2) hp (same_upd hp) (repL_rep (RepL.same (W := W.at H) s2 l) n))⟩
/-- xs[k] = v, an own list -/
theorem ds_sub {i : Nat} (h0 : ∃ ds, Γ[i]? = some (.own ds)) (h : Dl te Γ fun d Γ1 => ∃ (ds : List D) (k : Nat), Γ1[i]? = some (.own ds) ∧ Ev tk Γ1 (.int k) ∧ k < ds.length ∧ De.nx (Γ1.set i (.own (ds.set k d)))) : Ds (tAsg te (gSub (tVar i) tk rSetL)) Γ De := fun F σ W Dr g l =>
  h F σ W _ g fun v W1 d Γ1 st g1 r ⟨ds, k, e1, hk, lt, q⟩ => by
    obtain ⟨a, vs, hs, u, f, p, q1, r1⟩ := g1.own i ds e1
    refine ⟨.ref a, hs, hk F σ W1 _ g1 fun w H2 s2 rk => ?_⟩
    have g2 := g1.same s2
    obtain ⟨a', vs', hs', _, _, _, q2, r2⟩ := g2.own i ds e1
    rw [hs] at hs'; cases hs'
    have hl : (k : Int) < (vs'.length : Int) := by rw [← r2.length]; omega
    obtain ⟨st3, g3⟩ := g2.write e1 hs (r2.set (r.same (W := W1) s2) k)
    refine ⟨a, vs', k, k, rfl, rk, q2, ?_, l.nx σ _ _ (st.trans ((Stp.of_same g1.ok s2).trans st3)) g3 q⟩
    unfold ixN
    rw [if_pos (by omega), if_pos hl]; rfl
/-- x |= y -/
theorem ds_orI {i a b : Nat} (h0 : Γ[i]? = some (.val (.int a))) (h : Ev te Γ (.int b)) (q : De.nx (Γ.set i (.val (.int ((a ||| b : Nat) : Int))))) : Ds (tAug i te rOrB) Γ De := fun F σ W Dr g l => by
  obtain ⟨v, e, r⟩ := g.val i _ h0
  refine ⟨v, e, h F σ W _ g fun u H s ru => ⟨a, b, r, ru, ?_⟩⟩
  have e2 : Builtin.bitOr (a : Int) (b : Int) = ((a ||| b : Nat) : Int) := by rw [Bits.bitOr_pp (by omega) (by omega)]; rfl
  show Dr.nx (σ.set i (some (V.int (Builtin.bitOr a b)))) H
  rw [e2]
  exact l.nx _ (W.at H) _ (Stp.of_same g.ok s) ((g.same s).set (d := .int ((a ||| b : Nat) : Int)) rfl) q
theorem di_rev {n : Nat} {Q : List D → Gam → Prop} (h : Ev ta Γ (.int n)) (hn : n < 2 ^ 62) (q : Q (rng n).reverse Γ) : Di (iRevR (tRg1 ta)) Γ Q := fun F σ W R g k => h F σ W _ g fun v H s r => by
  refine ⟨n, r, by omega, by omega, by omega, by omega, ?_⟩
  have hn0 : ((n : Int) - 0).toNat = n := by omega
  refine k (Itc (0 + (((((n : Int) - 0).toNat : Nat) : Int)) - 1) (-1) ((n : Int) - 0).toNat) (W.at H) _ Γ (Stp.of_same g.ok s) (g.same s) ⟨fun W2 i x s2 ok2 hx => ?_, fun W2 s2 ok2 => ?_⟩ q
  · have hi : i < n := by
      have := (List.getElem?_eq_some_iff.mp hx).1
      rw [List.length_reverse, rng_length] at this
      exact this
    rw [List.getElem?_reverse (by rw [rng_length]; exact hi), rng_length] at hx
    obtain ⟨_, rfl⟩ := rng_get hx
    refine ⟨by show i < _; omega, fun u H' ⟨e, hy⟩ => ?_⟩
    subst e hy
    refine ⟨Same.refl _, ?_⟩
    show V.int _ = V.int _
    congr 1
    omega
  · show _ ≤ _
    rw [List.length_reverse, rng_length]; omega
end
end Dw

/-! for i, c in enumerate(a text). -/
namespace Dw
open PySem PySem.Spec PyProof.Rows L2
variable [Tabs0]
/-- each sign of x in a new pair -/
def IteS (x : Str) : It :=
  ⟨fun i _ => i < x.cps.size, fun i H v H' => ∃ T c, v = .ref T ∧ H T = none ∧ H' = upd H T (.tup [.int (i : Nat), .str ⟨#[c]⟩]) ∧ x.cps[i]? = some c, fun i _ => x.cps.size ≤ i⟩
theorem turn_enumS {P : Program} {w : World} {K : PySem.W.Frag} {elts : List Expr} {kk : Nat} {tpos : Pos} (x : Str) (t0 : Tok) (e it : Addr) (nei : e ≠ it) :
    Turn P w K (.Tuple elts kk tpos) (IteS x) [e, it] e (fun i h => (∃ old, IsEnum h e it ((0 : Int) + (i : Int)) old) ∧ h.IsStrIter it (strIterType x) x t0 i ∧ i ≤ x.cps.size) where
  mem := by simp
  obj := fun i h ⟨⟨old, he⟩, ⟨o, ho, hc, hd⟩, _⟩ b hb => by
    rcases (show b = e ∨ b = it by simpa using hb) with z | z
    · subst z; exact ⟨_, he, fun v q => nomatch q⟩
    · subst z; exact ⟨o, ho, fun v q => by rw [hd] at q; cases q⟩
  keep := fun i h h' ⟨⟨old, he⟩, ⟨o, ho, r⟩, hl⟩ k => ⟨⟨old, k e (by simp) _ he⟩, ⟨o, k it (by simp) o ho, r⟩, hl⟩
  item := by
    intro X hP hw hK hc i pins s σ H E I hf st hg
    subst hP; subst hw; subst hK
    have G := GoesN.enumFrom (prog := X.prog) (w := X.w) (A := X.A) (elts := elts) (x1 := kk) (pos := tpos) 0 (Draws.text (A := X.A.in1) (I.ok.hd hc) it x t0) e nei (by simp [nei]) (by simp)
    refine thn (G.goes i s (fun v s2 => ∃ T t c u, v = Value.ref T ∧ s.heap.objs.size ≤ T ∧ x.cps[i]? = some c ∧ s2.heap.IsTuple T #[.int ((0 : Int) + (i : Int)) t, .str ⟨#[c]⟩ u] ∧
        (∃ old, IsEnum s2.heap e it ((0 : Int) + ((i + 1 : Nat) : Int)) old) ∧ s2.heap.IsStrIter it (strIterType x) x t0 (i + 1) ∧ (∀ b o, b ∉ [e, it] → s.heap.get? b = some o → s2.heap.get? b = some o) ∧ ∃ h' tk, s2 = { s with heap := h', toks := tk }) E hg ⟨st.1, st.2.1⟩
      fun v h' tk ⟨T, t, y, ev, hT, ⟨c, u, hy, ey⟩, htu⟩ ⟨ho, hit⟩ kp _ => ⟨T, t, c, u, ev, hT, hy, by rw [← ey]; exact htu, ho, hit, kp, h', tk, rfl⟩) fun r s1 ⟨v, er, hv⟩ => ⟨v, er, thn hv fun _ s2 ⟨T, t, c, u, ev, hT, hy, htu, ho, hit, kp, h', tk, es⟩ => ?_⟩
    subst es; subst ev
    have new : ObjOk X.prog X.w (upd H T (.tup [.int (i : Nat), .str ⟨#[c]⟩])) h' T (.tup [.int (i : Nat), .str ⟨#[c]⟩]) :=
      ⟨by show 2 ≤ sizeLine; decide, [.int ((0 : Int) + (i : Int)) t, .str ⟨#[c]⟩ u], .cons ⟨t, by rw [Int.zero_add]⟩ (.cons ⟨u, rfl⟩ .nil), htu⟩
    have I1 : Inv X pins σ (upd H T (.tup [.int (i : Nat), .str ⟨#[c]⟩])) { s with heap := h', toks := tk } := I.turnedNew (ch := [e, it]) kp hf hT new
    refine ⟨.ref T, _, I1, rfl, ⟨T, c, rfl, I.hok.fresh hT, rfl, hy⟩, ⟨ho, hit, hg⟩, fun b hb => ?_⟩
    have lt : b ≠ T := by
      rcases (show b = e ∨ b = it by simpa using hb) with z | z
      · obtain ⟨old, he⟩ := st.1
        rw [z]; exact Nat.ne_of_lt (Nat.lt_of_lt_of_le (Heap.lt_size he) hT)
      · obtain ⟨o, q, _⟩ := st.2.1
        rw [z]; exact Nat.ne_of_lt (Nat.lt_of_lt_of_le (Heap.lt_size q) hT)
    rw [upd_ne lt]
    exact (hf b hb).1
  done := by
    intro X hP hw hK hc i pins s σ H E I hf st hg
    subst hP; subst hw; subst hK
    have G := GoesN.enumFrom (prog := X.prog) (w := X.w) (A := X.A) (elts := elts) (x1 := kk) (pos := tpos) 0 (Draws.text (A := X.A.in1) (I.ok.hd hc) it x t0) e nei (by simp [nei]) (by simp)
    have en : x.cps.size = i := Nat.le_antisymm hg st.2.2
    rw [en] at G
    exact G.stops s _ E ⟨st.1, st.2.1⟩ fun h' tk kp _ => inv_turned I kp hf
  self := fun A i s Q E ⟨⟨_, he⟩, _⟩ h => wpAny_pyIter_enum he h
def iEnumS (ta : TA) : TI := fun σ H R => ta σ H fun vs H1 => ∃ x, vs = [.str x] ∧ R (IteS x) H1
theorem pi_enumS {X : Cx} {e : Expr} {ta : TA} {p pos tpos : Pos} {elts : List Expr} {kk : Nat} (hg : Gl X "enumerate") (hm : X.mg "enumerate" = none) (ha : PA X [e] ta) (hs : starEach [e] X.env = [(false, eval e X.env)] := by rfl) :
    PI X (.Tuple elts kk tpos) (.Call (.Name "enumerate" p) [e] [] pos) (iEnumS ta) := by
  refine ⟨fun pins s σ H R I h => ?_⟩
  refine Call_ (ld_blt I hg hm boot_enumerate (callWith_type1 (thn (ha.run pos pins s σ H _ I h) fun us s1 ⟨vs, H1, I1, r1, q1⟩ => ?_) hs rfl))
  obtain ⟨x, ex, q⟩ := q1
  subst ex
  obtain ⟨u, eu, ru⟩ := vals1 r1
  subst eu
  obtain ⟨t, rfl⟩ := ru
  refine call_enumerate_str fun h' he hit hsz hk => wpAny_pyIter_enum he ?_
  refine ⟨s1.heap.objs.size + 1, [s1.heap.objs.size + 1, s1.heap.objs.size], _, _, H1, rfl, I1.kept (t' := s1.toks) hk, turn_enumS x t (s1.heap.objs.size + 1) s1.heap.objs.size (Nat.succ_ne_self _), ⟨⟨_, he⟩, hit, Nat.zero_le _⟩, fun b hb => ?_, q⟩
  have hle : s1.heap.objs.size ≤ b := by
    rcases (show b = s1.heap.objs.size + 1 ∨ b = s1.heap.objs.size by simpa using hb) with z | z
    · rw [z]; exact Nat.le_succ _
    · rw [z]; exact Nat.le_refl _
  exact I1.fpOk hle (I1.hok.fresh hle)
theorem enumSA {X : Cx} {e : Expr} {ta : TA} {p pos tpos : Pos} {elts : List Expr} {kk : Nat} (hg : Gl X "enumerate") (hm : X.mg "enumerate" = none) (ha : PA X [e] ta) (hs : starEach [e] X.env = [(false, eval e X.env)] := by rfl) :
    PI X (.Tuple elts kk tpos) (.Call (.Name "enumerate" p) [e] [] pos) (iEnumS ta) := pi_enumS hg hm ha hs
section
variable {K : PySem.W.Frag} {Γ : Gam} {ta : TE}
theorem itS {W : Wd} {x : Str} : ∀ (W2 : Wd) (i : Nat) (d : D), (enumD (signs x))[i]? = some d → (∀ a, W2.U a → W2.H a ≠ none) → (IteS x).go i W2.H ∧ ∀ u H', (IteS x).yld i W2.H u H' → Same W2.H H' ∧ Rep (W2.at H') d u := fun W2 i d hx dm => by
  obtain ⟨y, hy, rfl⟩ := enumD_get hx
  obtain ⟨_, c, hc, rfl⟩ := signs_get hy
  refine ⟨(Array.getElem?_eq_some_iff.mp hc).1, fun u H' ⟨T, z, eu, hT, eH, hz⟩ => ?_⟩
  subst eu; subst eH
  rw [hc] at hz; cases hz
  exact ⟨same_upd hT, rep_new_tup dm hT ⟨_, _, rfl, rfl, _, _, rfl, rfl, rfl⟩⟩
theorem enumS_len (x : Str) : (enumD (signs x)).length = x.cps.size := by
  rw [enumD_length]
  unfold signs
  rw [List.length_map, Array.length_toList]
theorem ei_enumS {x : Str} (h : Ev ta Γ (.str x)) : Ei (iEnumS (tCons ta tNil)) Γ (enumD (signs x)) := fun F σ W R g k => h F σ W _ g fun v H s r => by
  refine ⟨x, by rw [show v = V.str x from r], k (IteS x) H s ⟨fun W2 i d dm s2 ku pu hx => itS (W := W) W2 i d hx dm, fun H2 s2 => ?_⟩⟩
  show x.cps.size ≤ _
  rw [enumS_len]; exact Nat.le_refl _
end
end Dw

/-! *xs in a display, o.m(..). -/
namespace Dw
open PySem PySem.Spec PyProof.Rows L2
variable [Tabs0]
section
variable {K : PySem.W.Frag} {Γ : Gam} {ta te : TE} {t : TA} {ds es : List D} {d : D} {C : Addr} {s : Spc} {E : XK}
theorem eva_star (h : Ev te Γ (.tup ds)) (hr : EvA t Γ es) : EvA (StX.tStar K te t) Γ (ds ++ es) := fun F σ W Q g k =>
  h F σ W _ g fun v H s1 ⟨a, vs, ev, e, nu, l⟩ => ⟨a, vs, ev, .inl (e.sq), hr F σ (W.at H) _ (g.same s1) fun ws H2 s2 r2 => k (vs ++ ws) H2 (Same.trans s1 s2) ((RepL.same (W := W.at H) s2 l).append r2)⟩
theorem starA {X : Cx} {e : Expr} {es : List Expr} {p : Pos} (K : PySem.W.Frag) (he : PE X e te) (hr : PA X es t) (hK : X.K = K := by rfl) (hs : starEach (.Starred e p :: es) X.env = (true, eval e X.env) :: starEach es X.env := by rfl) : PA X (.Starred e p :: es) (StX.tStar K te t) := hK ▸ StX.pa_star he hr hs
end
end Dw

/-! a, b, c = x, y, z. -/
namespace Dw
open PySem PySem.Spec PyProof.Rows L2
variable [Tabs0]
theorem ds_par3 {Γ : Gam} {De : DE} {i j l : Nat} {ta : TA} (h : DlA ta Γ fun ds Γ1 => ∃ x y z, ds = [x, y, z] ∧ De.nx (((Γ1.set i (.val x)).set j (.val y)).set l (.val z))) : Ds (tPar3 i j l ta) Γ De := fun F σ W Dr g k =>
  h F σ W _ g fun vs W1 ds Γ1 s g1 r ⟨x, y, z, e, q⟩ => by
    subst e
    obtain ⟨u, _, rfl, r1, v, _, rfl, r2, w, _, rfl, r3, rfl⟩ := r
    exact ⟨u, v, w, rfl, k.nx _ W1 _ s (((g1.set r1).set r2).set r3) q⟩
end Dw

/-! enumerate of a list that draws go on beside, not, sign * n. -/
namespace Dw
open PySem PySem.Spec PyProof.Rows L2
variable [Tabs0]
section
variable {K : PySem.W.Frag} {Γ : Gam} {ta t : TE}
theorem di_enumL {Q : List D → Gam → Prop} {r : TI} (h : Dl ta Γ fun d Γ1 => ∃ xs, d = .lst xs ∧ Q (enumD xs) Γ1) : Di (fun σ H R => iEnum K (tCons ta tNil) σ H R ∨ r σ H R) Γ Q := fun F σ W R g k => .inl (h F σ W _ g fun v W1 d Γ1 st g1 rd ⟨xs, e, q⟩ => by
  subst e
  obtain ⟨a, vs, rfl, ha, nu, l⟩ := rd
  refine ⟨a, vs, rfl, .of ha, k (Ite K a) W1 (enumD xs) Γ1 st g1 ⟨fun W2 i x s2 ok2 hx => ?_, fun W2 s2 ok2 => ⟨vs, .of (s2.keep a _ ha nu).1, by rw [enumD_length, l.length]; exact Nat.le_refl _⟩⟩ q⟩
  obtain ⟨y, hy, rfl⟩ := enumD_get hx
  obtain ⟨v, hv, rv⟩ := l.get hy
  have h2 := (s2.keep a _ ha nu).1
  refine ⟨⟨vs, v, .of h2, hv⟩, fun u H' ⟨T, z, eu, hT, eH, hz⟩ => ?_⟩
  subst eu; subst eH
  have := hz vs (.of h2)
  rw [hv] at this; cases this
  exact ⟨same_upd hT, rep_new_tup ok2.dom hT ⟨_, _, rfl, rfl, v, _, rfl, rv.stp s2, rfl⟩⟩)
/-! equality of lists of whole numbers, deep -/
theorem eqv_ints : ∀ a b : List Nat, PyData.eqvAll (pys (ordN a)) (pys (ordN b)) = decide (a = b)
  | [], [] => rfl
  | [], y :: ys => by
    show false = _
    simp
  | x :: xs, [] => by
    show false = _
    simp
  | x :: xs, y :: ys => by
    show ((((x : Nat) : Int) == ((y : Nat) : Int)) && PyData.eqvAll (pys (ordN xs)) (pys (ordN ys))) = _
    rw [eqv_ints xs ys, Bool.eq_iff_iff]
    simp
    intro _
    omega
theorem dOk_ordT (a : List (List Nat)) : dOk 2 (.lst (a.map fun o => D.tup (ordN o))) = true := dOks_map fun o _ => dOks_map fun _ _ => rfl
end
end Dw

/-! first, *rest = a tuple; t[::-1]; t[a:b] of any bounds; x in a dict of the module; the head with the bits of the script. -/
namespace Dw
open PySem PySem.Spec PyProof.Rows L2
variable [Tabs0]
/-! ### first, *rest = t -/
theorem unpack_star1T {prog : Program} {w : World} {A : Around} {E : Value → Shared → Prop} {s : Shared} {l : Addr} {b : Value} {its : List Value} {Q : List Value → Shared → Prop} (hl : IsTup s.heap l (b :: its).toArray) (hh : A.handled = none)
    (hz : its.length ≤ 16000) (h : ∀ (h1 : Heap) (tk : Nat), (∀ c o, s.heap.get? c = some o → h1.get? c = some o) → Q [b, .ref h1.objs.size] { s with heap := h1.push { cls := .type "list", data := .seq its.toArray }, toks := tk }) :
    wpAny (model prog w) A (unpackItems (.ref l) 2 (some 1)) Q E s := by
  have lt : l < s.heap.objs.size := by obtain ⟨o, ho, _⟩ := hl; exact Heap.lt_size ho
  have ne : l ≠ s.heap.objs.size := Nat.ne_of_lt lt
  unfold unpackItems notIterableAtAll
  refine wpAny_bind (wpAny_bind (wpAny_specialOf hl.typeIs slot_tuple_iter.lookup (wpAny_pure ?_)))
  simp only [Bool.false_eq_true, if_false]
  refine wpAny_bind (wpAny_holding (iter_tuple hl ?_))
  refine wpAny_bind (wpAny_holding (draw_tuple ne 1 0 _ _ ⟨_, Heap.get?_push_size _ rfl, rfl, rfl⟩ (hl.push _) (by simp) fun ha hit hs => ?_))
  have hla : IsTup ha l (b :: its).toArray := (hl.push _).extBut hs.extBut ne
  rw [Nat.zero_add] at hit
  obtain ⟨oi, hoi, _⟩ := id hit
  obtain ⟨ol, hol, _⟩ := id hla
  rw [if_neg (show ¬ (((b :: its).toArray.toList.drop 0).take 1).length < 1 by simp)]
  refine wpAny_bind (wpAny_holding (PySem.W.kun_collect (s := { s with heap := ha }) (T := "tuple_iterator") (.inr (.inr (.inr rfl))) (Walks.tuple (A := A.in1) hh s.heap.objs.size l ne _) (fun j u st => st.1.typeIs) (k := 1) (by simp) ⟨hit, hla⟩
    (Heap.lt_size hoi) (Heap.lt_size hol) (fun hb tk kp => ?_) (by rw [sizeLine_eq]; simp; omega)))
  show wpAny _ _ (if its.length < 0 then _ else _) _ _ _
  rw [if_neg (Nat.not_lt_zero _)]
  show wpAny _ _ (newList (its.take (its.length - 0)) >>= fun d => pure ([b] ++ [d] ++ its.drop (its.length - 0))) _ _ _
  rw [Nat.sub_zero, List.take_length, List.drop_length]
  have k2 : ∀ c o, s.heap.get? c = some o → hb.get? c = some o := fun c o e => kp c o (Nat.ne_of_lt (Heap.lt_size e)) (hs.extBut c o (Nat.ne_of_lt (Heap.lt_size e)) (Heap.get?_push_of_some _ e))
  unfold newList
  refine wpAny_bind (wpAny_newObj_type (wpAny_pure ?_) (by show its.toArray.size ≤ sizeLine; rw [sizeLine_eq, List.size_toArray]; omega))
  exact h hb tk k2
/-- from a list or a tuple -/
def gStar1X (K : PySem.W.Frag) (g1 g2 : TG) : TG := fun v σ H Q => ∃ a z zs, v = .ref a ∧ (SqL K H a (z :: zs) ∨ SqT K H a (z :: zs)) ∧ zs.length ≤ 16000 ∧ ∀ p, H p = none → g1 z σ (upd H p (.lst zs)) fun σ1 H1 => g2 (.ref p) σ1 H1 Q
theorem pg_star1X {X : Cx} (hc : X.calm = true) {e1 e2 : Expr} {g1 g2 : TG} {k : Nat} {pos sp : Pos} (h1 : PG X e1 g1) (h2 : PG X e2 g2) (hlen : (assignEach [e1, .Starred e2 sp] X.env).length = 2 := by rfl)
    (hst : (assignEach [e1, .Starred e2 sp] X.env).findIdx? (·.1) = some 1 := by rfl) (hm : (assignEach [e1, .Starred e2 sp] X.env).map (·.2) = [assign e1 X.env, assign e2 X.env] := by rfl) :
    PG X (.Tuple [e1, .Starred e2 sp] k pos) (gStar1X X.K g1 g2) := by
  refine ⟨fun pins s σ H v u Q I r hw => ?_⟩
  obtain ⟨a, z, zs, ev, hq, hl, hw⟩ := hw
  rcases hq with hq | hq
  · exact (pg_star1 hc h1 h2 hlen hst hm).run pins s σ H v u Q I r ⟨a, z, zs, ev, hq, hl, hw⟩
  subst ev
  cases r
  obtain ⟨its, rv, pl, hz⟩ := I.tuple hq
  cases rv with
  | cons rz rr =>
    rename_i b l
    rw [assign_Tuple]
    refine wpAny_bind (wpAny_standAt ?_)
    unfold unpack
    rw [hlen, hst, hm]
    refine wpAny_bind (wpAny_holding (unpack_star1T pl (I.ok.hd hc) (by rw [← rr.length]; exact hl) fun ha tk kp => ?_))
    have I1 : Inv X pins σ H { s with heap := ha, toks := tk } := I.kept kp
    have I2 := I1.laid (t' := tk) (o := .lst zs) (h' := ha.push { cls := .type "list", data := .seq l.toArray }) (fun c o e => Heap.get?_push_of_some _ e) (Nat.le_refl _)
      ⟨by have hz' : zs.length + 1 ≤ sizeLine := hz
          omega, l, 0, rr, Heap.get?_push_size _ rfl⟩
    refine assignInOrder_cons (thn (h1.run pins _ σ _ z b _ I2 rz (hw _ (I1.hok.fresh (Nat.le_refl _)))) fun _ s3 ⟨σ3, H3, I3, q3⟩ => ?_)
    exact assignInOrder_cons (thn (h2.run pins s3 σ3 H3 (.ref ha.objs.size) _ Q I3 rfl q3) fun _ s4 ⟨σ4, H4, I4, q4⟩ => assignInOrder_nil ⟨σ4, H4, I4, q4⟩)
theorem star1XA (K : PySem.W.Frag) {X : Cx} (hc : X.calm = true) {e1 e2 : Expr} {g1 g2 : TG} {k : Nat} {pos sp : Pos} (h1 : PG X e1 g1) (h2 : PG X e2 g2) (hK : X.K = K := by rfl) (hlen : (assignEach [e1, .Starred e2 sp] X.env).length = 2 := by rfl)
    (hst : (assignEach [e1, .Starred e2 sp] X.env).findIdx? (·.1) = some 1 := by rfl) (hm : (assignEach [e1, .Starred e2 sp] X.env).map (·.2) = [assign e1 X.env, assign e2 X.env] := by rfl) :
    PG X (.Tuple [e1, .Starred e2 sp] k pos) (gStar1X K g1 g2) := hK ▸ pg_star1X hc h1 h2 hlen hst hm
section
variable {K : PySem.W.Frag} {Γ : Gam}
theorem ds_starL {te : TE} {De : DE} {a b : Nat} (h : Dl te Γ fun d Γ1 => ∃ d0 ds, (d = .lst (d0 :: ds) ∨ d = .tup (d0 :: ds)) ∧ ds.length ≤ 16000 ∧ De.nx ((Γ1.set a (.val d0)).set b (.val (.lst ds)))) : Ds (tAsg te (gStar1X K (gName a) (gName b))) Γ De := fun F σ W Dr s l => h F σ W _ s fun v W1 d Γ1 st g1 r ⟨d0, ds, e, hz, q⟩ => by
  rcases e with e | e
  · subst e
    obtain ⟨p, vs, rfl, hp, nu, z, zs, rfl, r0, r1⟩ := r
    refine ⟨p, z, zs, rfl, .inl (.of hp), by rw [← r1.length]; exact hz, fun n hn => ?_⟩
    have sm : Same W1.H (upd W1.H n (.lst zs)) := same_upd hn
    exact l.nx _ (W1.at _) _ (st.trans (Stp.of_same g1.ok sm)) (((g1.same sm).set (r0.same sm)).set (rep_new_lst g1.ok.dom hn r1)) q
  · subst e
    obtain ⟨p, vs, rfl, hp, nu, z, zs, rfl, r0, r1⟩ := r
    refine ⟨p, z, zs, rfl, .inr (hp.sq), by rw [← r1.length]; exact hz, fun n hn => ?_⟩
    have sm : Same W1.H (upd W1.H n (.lst zs)) := same_upd hn
    exact l.nx _ (W1.at _) _ (st.trans (Stp.of_same g1.ok sm)) (((g1.same sm).set (r0.same sm)).set (rep_new_lst g1.ok.dom hn r1)) q
end
/-! ### t[a:b] -/
abbrev rSlX (K : PySem.W.Frag) : V → Option Int → Option Int → Hp → VK → Prop := fun x lo hi H Q => rSlL K x lo hi H Q ∨ rSlA K x lo hi H Q
theorem slXA {X : Cx} (K : PySem.W.Frag) (hK : X.K = K := by rfl) : SlR X (rSlX K) := hK ▸ sl_list.or sl_tupA
section
variable {K : PySem.W.Frag} {Γ : Gam} {te : TE} {ds : List D}
theorem evn_sliceY {tl th : TO} {lo hi : Option Int} (h : EvB te Γ ds) (h1 : Eo tl Γ lo) (h2 : Eo th Γ hi) : EvN (tSl (rSlX K) te tl th) Γ (cutD ds lo hi) := fun F σ W Q g k => h F σ W _ g fun a vs H s e l => h1 F σ (W.at H) _ (g.same s) fun H1 s1 => h2 F σ ((W.at H).at H1) _ ((g.same s).same s1) fun H2 s2 => by
  have sm : Same H H2 := Same.trans s1 s2
  exact .inl ⟨a, vs, rfl, .of (sm _ _ e), fun p hp => k p _ _ (Same.trans s (Same.trans sm (same_upd hp))) (s.free (sm.free hp)) upd_same (RepL.plus (W := W.at H2) hp (same_upd hp) (repL_cut (RepL.same (W := W.at H) sm l)))⟩
theorem cut_whole {α : Type} (xs : List α) (n : Nat) (lo hi : Option Int) (hn : n = xs.length) (h : HT.sIx n 0 lo = 0 ∧ HT.sIx n n hi = n) : (xs.drop (HT.sIx n 0 lo)).take (HT.sIx n n hi - HT.sIx n 0 lo) = xs := by
  rw [h.1, h.2, List.drop_zero, Nat.sub_zero, hn, List.take_length]
theorem ev_sliceTY {tl th : TO} {lo hi : Option Int} (h : Ev te Γ (.tup ds)) (h1 : Eo tl Γ lo) (h2 : Eo th Γ hi) : Ev (tSl (rSlX K) te tl th) Γ (.tup (cutD ds lo hi)) := fun F σ W Q g k => h F σ W _ g fun v H s ⟨a, vs, ev, e, nu, l⟩ => h1 F σ (W.at H) _ (g.same s) fun H1 s1 => h2 F σ ((W.at H).at H1) _ ((g.same s).same s1) fun H2 s2 => by
  have sm : Same H H2 := Same.trans s1 s2
  subst ev
  refine .inr ⟨a, vs, rfl, (e.same sm).sq, fun hw => ?_, fun hw p hp => k _ _ (Same.trans s (Same.trans sm (same_upd hp))) (rep_new_tup (W := W.at H2) (((g.same s).same s1).same s2).ok.dom hp (repL_cut (RepL.same (W := W.at H) sm l)))⟩
  have e1 : cutD ds lo hi = ds := cut_whole ds ds.length lo hi rfl (by rw [l.length]; exact hw)
  rw [e1] at k
  exact k _ H2 (Same.trans s sm) ⟨a, vs, rfl, e.same sm, nu, RepL.same (W := W.at H) sm l⟩
end
/-! ### x in a written dict -/
section
variable {K : PySem.W.Frag} {w : World} {Γ : Gam} {ta tb : TE} {x : Str}
end
/-! ### the head, with the script's bits -/
end Dw

/-! xs[::-1] of lists and tuples, *xs in a list, written dicts as values. -/
namespace Dw
open PySem PySem.Spec PyProof.Rows L2 HT
variable [Tabs0]
section
variable {prog : Program} {w : World} {A : Around} {E : Value → Shared → Prop} {s : Shared}
end
section
variable {K : PySem.W.Frag} {Γ : Gam} {ta tk te : TE} {ds es : List D} {t : TA}
/-! ### {}, {'a': 1} -/
end
end Dw

/-! t != (), a, b, c = [], x, y, tuple(xs) with draws, cuts of the script. -/
namespace Dw
open PySem PySem.Spec PyProof.Rows L2 HT
variable [Tabs0]
section
variable {K : PySem.W.Frag} {Γ : Gam} {ta te : TE}
theorem dl_tuple {Q : D → Gam → Prop} (h : Dl ta Γ fun d Γ1 => ∃ ds, d = .lst ds ∧ Q (.tup ds) Γ1) : Dl (tCB (rTupleOf K) (tCons ta tNil)) Γ Q := fun F σ W R g k => h F σ W _ g fun v W1 d Γ1 st g1 r ⟨ds, e, q⟩ => by
  subst e
  obtain ⟨p, vs, rfl, e, nu, l⟩ := r
  exact ⟨p, vs, rfl, .inl ⟨.of e, fun n hn => k _ (W1.at _) (.tup ds) Γ1 (st.trans (Stp.of_same g1.ok (same_upd hn))) (g1.same (same_upd hn)) (rep_new_tup g1.ok.dom hn l) q⟩⟩
theorem evn_sliceXY {tl th : TO} {ns : List Int} {lo hi : Option Int} (h : Ev te Γ (.scr K (ns.map V.int))) (h1 : Eo tl Γ lo) (h2 : Eo th Γ hi) : EvN (tSl (rSlX K) te tl th) Γ (intD (cutI ns lo hi)) := fun F σ W Q g k => h F σ W _ g fun v H s r => h1 F σ (W.at H) _ (g.same s) fun H1 s1 => h2 F σ ((W.at H).at H1) _ ((g.same s).same s1) fun H2 s2 => by
  have sm : Same H H2 := Same.trans s1 s2
  obtain ⟨a, e, q⟩ := scr_sq (r.same (W := W.at H) sm)
  refine .inl ⟨a, _, e, q, fun p hp => k p _ _ (Same.trans s (Same.trans sm (same_upd hp))) (s.free (sm.free hp)) upd_same (RepL.ints.mpr ?_)⟩
  unfold cutI L2.cutV
  simp [List.map_take, List.map_drop]
end
end Dw

/-! tuple(range(n)), x not in a list of signs. -/
namespace Dw
open PySem PySem.Spec PyProof.Rows L2
variable [Tabs0]
section
variable {K : PySem.W.Frag} {Γ : Gam} {ta : TE}
end
end Dw

/-! cuts of texts, x is not False, t == (). -/
namespace Dw
open PySem PySem.Spec PyProof.Rows L2 HT
variable [Tabs0]
section
variable {K : PySem.W.Frag} {Γ : Gam} {ta te : TE} {x : Str}
end
end Dw

/-! xs != [] of any list. -/
namespace Dw
open PySem PySem.Spec PyProof.Rows L2 HT
variable [Tabs0]
abbrev rNeL0 (K : PySem.W.Frag) : R2 := fun x y H Q => ∃ a b xs, x = .ref a ∧ y = .ref b ∧ SqL K H a xs ∧ SqL K H b [] ∧ Q (.bl (!xs.isEmpty)) H
theorem op_neL0 {X : Cx} (hu : X.A.units + 64 < cLine) : OpR X (compareOp .NotEq) (rNeL0 X.K) := by
  intro pins s σ H x y v u Q I rx ry h
  obtain ⟨a, b, xs, rfl, rfl, ha, hb, q⟩ := h
  cases rx
  cases ry
  obtain ⟨its, r1, p1, _⟩ := I.list ha
  obtain ⟨its2, r2, p2, _⟩ := I.list hb
  cases r2
  cases xs with
  | nil =>
    cases r1
    refine PySem.EqBoolInt.of_rcne (SeqAt.RcNeAt.lists (e := fun _ => true) p1.isList p2.isList rfl (by omega) (fun j h1 h2 => absurd h2 (by simp))) ?_
    exact ⟨.bl _, H, I, rfl, q⟩
  | cons x xs =>
    cases r1
    refine PySem.EqBoolInt.of_rcne (SeqAt.RcNeAt.lists_lengths p1.isList p2.isList (by simp) (by omega)) ?_
    exact ⟨.bl _, H, I, rfl, q⟩
theorem neL0A {X : Cx} (K : PySem.W.Frag) (hu : X.A.units + 64 < cLine) (hK : X.K = K := by rfl) : OpR X (compareOp .NotEq) (rNeL0 K) := hK ▸ op_neL0 hu
theorem ne_L0 {K : PySem.W.Frag} {ds : List D} : DR2 (rNeL0 K) (.lst ds) (.lst []) (.bl (!ds.isEmpty)) := dr2_flat fun W u v Q ⟨a, vs, eu, e, nu, l⟩ ⟨b, ws, ev, e2, nu2, l2⟩ k => ⟨a, b, vs, eu, ev, .of e, by rw [show ws = [] from l2] at e2; exact .of e2, k _ (by
  have := l.length
  cases ds <;> cases vs <;> first | rfl | (simp at this))⟩
end Dw

/-! a, b = a list; {i: x, j: y}.get(k, z). -/
namespace Dw
open PySem PySem.Spec PyProof.Rows L2 HT
variable [Tabs0]
section
variable {Γ : Gam} {td ty : TE}
end
end Dw

/-! [b for a in xs for b in a]; a value not in a list; repr of a tuple. -/
namespace Dw
open PySem PySem.Spec PyProof.Rows L2 HT
variable [Tabs0]
theorem repL_ord {W : Wd} : ∀ {o : List Nat} {vs : List V}, RepL W (o.map fun k : Nat => D.int k) vs → vs = o.map fun k : Nat => V.int k
  | [], vs, h => h
  | a :: o, vs, h => by
    obtain ⟨v, r, rfl, rv, rr⟩ := h
    rw [show v = V.int a from rv, repL_ord rr]; rfl
theorem ord_repL {W : Wd} : ∀ (o : List Nat), RepL W (o.map fun k : Nat => D.int k) (o.map fun k : Nat => V.int k)
  | [] => rfl
  | a :: o => ⟨_, _, rfl, rfl, ord_repL o⟩
/-! a tuple of whole numbers, not in a list of such -/
end Dw

/-! dicts whose keys are tuples of whole numbers, made and walked by one def. -/
namespace Dw
open PySem PySem.Spec PyProof.Rows L2 HT
variable [Tabs0]
/-! worlds without a frame and without a purse: U holds the dicts -/
def PW (H : Hp) (U : Addr → Prop) : Wd := ⟨H, U, fun _ => False⟩
def NO (Γ : Gam) : Prop := ∀ (i : Nat) (ds : Ow), Γ[i]? ≠ some (.ownX ds)
theorem NO.set {Γ : Gam} (h : NO Γ) (i : Nat) (d : D) : NO (Γ.set i (.val d)) := fun j ds e => by
  by_cases hij : i = j
  · subst hij
    by_cases hl : i < Γ.length
    · rw [List.getElem?_set_self hl] at e; cases e
    · rw [List.getElem?_eq_none (by rw [List.length_set]; omega)] at e; cases e
  · rw [List.getElem?_set_ne hij] at e; exact h j ds e
/-! for over a range; for over a dict with tuple keys -/
end Dw

/-! How long a repr may be. -/
namespace Dw
open PySem PySem.Spec PyProof.Rows L2 HT
variable [Tabs0]
/-! ### the length of a repr -/
mutual
def shB : D → Nat
  | .int i => (PyData.shown (.int i)).length | .str x => 10 * x.length + 2
  | .tup ds => shBs ds + 4 | .lst ds => shBs ds + 4 | .tupN ds => shBs ds + 4
  | _ => 5
def shBs : List D → Nat
  | [] => 0
  | d :: ds => shB d + 2 + shBs ds
end
theorem listText_le (ts : List Str) : (listText ts).length ≤ piled ts + 4 := by
  cases ts with
  | nil => decide
  | cons t r =>
    have h := textFrom_length_pos r 1 (("[" : Str) ++ (if (0 : Nat) > 0 then ", " else "" : String) ++ t) (Nat.succ_pos 0)
    have e : ((("[" : Str) ++ (if (0 : Nat) > 0 then ", " else "" : String) ++ t)).length = 1 + t.length := by
      rw [strLen_append, strLen_append]; rfl
    have hX : (listText (t :: r)).length = (textFrom 1 (("[" : Str) ++ (if (0 : Nat) > 0 then ", " else "" : String) ++ t) r).length + 1 := by
      unfold listText
      rw [strLen_append]; rfl
    rw [hX, h, e, piled_cons]
    omega
theorem tupleText_le (ts : List Str) : (tupleText ts).length ≤ piled ts + 4 := by
  unfold tupleText
  rw [strLen_append, strLen_append]
  have e1 : ((("(" : String) : Str)).length = 1 := rfl
  have e3 : (((if ts.length == 1 then ",)" else ")" : String) : Str)).length ≤ 2 := by split <;> decide
  rw [e1]
  by_cases h : ts = []
  · subst h
    have : (Str.join ", " []).length = 0 := rfl
    omega
  · have := join_length_add ts h
    omega
mutual
theorem shB_le : ∀ (k : Nat) (d : D), dOk k d = true → (PyData.shown (py d)).length ≤ shB d
  | _, .non, _ => by show (("None" : String) : Str).length ≤ 5; decide
  | _, .bl b, _ => by cases b <;> (show (PyData.shown (.bool _)).length ≤ 5) <;> decide
  | _, .int i, _ => Nat.le_refl _
  | k, .str x, h => by
    have e : dOk k (.str x) = PyData.strOk x := by cases k <;> rfl
    rw [e] at h
    have a' : x.cps.all (fun c => decide (c < 1114112)) = true := h
    rw [← Array.all_toList, List.all_eq_true] at a'
    exact PySem.StrLaws.reprText_len x fun c hc => Nat.lt_of_lt_of_le (of_decide_eq_true (a' c hc)) (by decide)
  | k + 1, .tup ds, h => by
    have ih := shBs_le k ds h
    show (tupleText (PyData.shownAll (pys ds))).length ≤ shBs ds + 4
    have := tupleText_le (PyData.shownAll (pys ds))
    omega
  | k + 1, .lst ds, h => by
    have ih := shBs_le k ds h
    show (listText (PyData.shownAll (pys ds))).length ≤ shBs ds + 4
    have := listText_le (PyData.shownAll (pys ds))
    omega
  | k + 1, .tupN ds, h => by
    have ih := shBs_le k ds h
    show (tupleText (PyData.shownAll (pys ds))).length ≤ shBs ds + 4
    have := tupleText_le (PyData.shownAll (pys ds))
    omega
  | 0, .tup _, h => nomatch h
  | 0, .lst _, h => nomatch h
  | 0, .tupN _, h => nomatch h
  | k, .obj _ _ _, h => by cases k <;> exact nomatch h
  | k, .raw _, h => by cases k <;> exact nomatch h
  | k, .purse, h => by cases k <;> exact nomatch h
  | k, .rng _ _, h => by cases k <;> exact nomatch h
  | k, .dct _ _, h => by cases k <;> exact nomatch h
  | k, .scr _ _, h => by cases k <;> exact nomatch h
  | k, .tag _, h => by cases k <;> exact nomatch h
theorem shBs_le : ∀ (k : Nat) (ds : List D), dOks k ds = true → piled (PyData.shownAll (pys ds)) ≤ shBs ds
  | _, [], _ => Nat.zero_le _
  | k, d :: ds, h => by
    have e : dOks k (d :: ds) = (dOk k d && dOks k ds) := by cases k <;> rfl
    rw [e, Bool.and_eq_true] at h
    have h1 := shB_le k d h.1
    have h2 := shBs_le k ds h.2
    show piled (PyData.shown (py d) :: PyData.shownAll (pys ds)) ≤ shB d + 2 + shBs ds
    rw [piled_cons]
    omega
end
end Dw
namespace Dw
open PySem PySem.Spec PyProof.Rows L2 HT
variable [Tabs0]
end Dw

/-! Tuples that are known to have no dict of their own: displays, sums, tuple(xs); t.index(x). -/
namespace Dw
open PySem PySem.Spec PyProof.Rows L2 HT
variable [Tabs0]
theorem Rep.dn {W : Wd} {ds : List D} {v : V} (h : Rep W (.tupN ds) v) : Rep W (.tup ds) v := let ⟨a, vs, e, h, r⟩ := h; ⟨a, vs, e, h.at, r⟩
theorem ev_dn {t : TE} {Γ : Gam} {ds : List D} (h : Ev t Γ (.tupN ds)) : Ev t Γ (.tup ds) := fun F σ W Q g k => h F σ W Q g fun v H s r => k v H s r.dn
theorem Dl.weak {t : TE} {Γ : Gam} {Q : D → Gam → Prop} (h : Dl t Γ fun d Γ1 => Q (weakD d) Γ1) : Dl t Γ Q := fun F σ W R g k => h F σ W R g fun v W' d Γ' s r' l q => k v W' (weakD d) Γ' s r' (Rep.weak d v l) q
theorem rep_new_tupN {W : Wd} {p : Addr} {ds : List D} {vs : List V} {ob : Obj} (dom : ∀ a, W.U a → W.H a ≠ none) (h : W.H p = none) (c : ob.cls = .type "tuple") (d : ob.dict = none) (l : RepL W ds vs) : Rep (W.at (upd W.H p (.frz ob (.tup vs)))) (.tupN ds) (.ref p) :=
  ⟨p, vs, rfl, ⟨ob, upd_same, c, d⟩, fun u => dom p u h, l.same (same_upd h)⟩
/-- a new tuple: its cell is known -/
abbrev NewT (H : Hp) (xs : List V) (Q : VK) : Prop := ∀ (p : Addr) (ob : Obj), ob.cls = .type "tuple" → ob.dict = none → H p = none → Q (.ref p) (upd H p (.frz ob (.tup xs)))
section
variable {X : Cx} {pins : List (Addr × Obj)} {σ : L2.St} {H : Hp} {s : Shared}
theorem new_tup {xs : List V} {us : List Value} {Q : VK} (I : Inv X pins σ H s) (r : Vals xs us) (z : xs.length ≤ sizeLine) (q : NewT H xs Q) : EP X pins σ Q (.ref s.heap.objs.size) { s with heap := s.heap.push { cls := .type "tuple", data := .seq us.toArray } } := by
  have st : (s.heap.push { cls := .type "tuple", data := .seq us.toArray }).get? s.heap.objs.size = some { cls := .type "tuple", data := .seq us.toArray } := Heap.get?_push_size _ rfl
  have J := I.laid (t' := s.toks) (o := .frz { cls := .type "tuple", data := .seq us.toArray } (.tup xs)) (fun b u e => Heap.get?_push_of_some _ e) (Nat.le_refl _) ⟨st, z, us, r, _, st, rfl, _, rfl⟩
  exact ⟨.ref s.heap.objs.size, _, J, rfl, q _ _ rfl rfl (I.hok.fresh (Nat.le_refl _))⟩
end
/-! ### (x, y) -/
def tTupF (t : TA) : TE := fun σ H Q => t σ H fun xs H1 => xs.length ≤ sizeLine ∧ NewT H1 xs Q
theorem pe_tupF {X : Cx} {es : List Expr} {t : TA} {pos : Pos} {x1} (h : PA X es t) : PE X (.Tuple es x1 pos) (tTupF t) :=
  ⟨fun pins s σ H Q I q0 => wpAny_Tuple_spliced (thn (h.run pos pins s σ H _ I q0) fun us s1 ⟨xs, H1, I1, r, z, q⟩ => ⟨r.length ▸ z, new_tup I1 r z q⟩)⟩
section
variable {Γ : Gam} {t : TA} {ds : List D}
theorem ev_tupN (h : EvA t Γ ds) (hz : ds.length ≤ sizeLine) : Ev (tTupF t) Γ (.tupN ds) := fun F σ W Q g k => h F σ W _ g fun vs H s l => ⟨by rw [← l.length]; exact hz, fun p ob c d hp =>
  k _ _ (Same.trans s (same_upd hp)) (rep_new_tupN (W := W.at H) (g.same s).ok.dom hp c d l)⟩
theorem ev_tupF (h : EvA t Γ ds) (hz : ds.length ≤ sizeLine) : Ev (tTupF t) Γ (.tup ds) := ev_dn (ev_tupN h hz)
end
/-! ### t + (x,) -/
abbrev rCatTF (K : PySem.W.Frag) : R2 := fun x y H Q => ∃ a b xs ys, x = .ref a ∧ y = .ref b ∧ SqT K H a xs ∧ SqT K H b ys ∧ xs ≠ [] ∧ ys ≠ [] ∧ xs.length + ys.length ≤ sizeLine ∧ NewT H (xs ++ ys) Q
theorem op_catTF {X : Cx} : OpR X (binaryOp .Add) (rCatTF X.K) := by
  intro pins s σ H x y v u Q I rx ry ⟨a, b, xs, ys, ex, ey, ha, hb, hx, hy, hz, q⟩
  subst ex; subst ey
  cases rx; cases ry
  obtain ⟨i1, r1, p1, _⟩ := I.tuple ha
  obtain ⟨i2, r2, p2, _⟩ := I.tuple hb
  have n1 : i1 ≠ [] := fun z => hx (r1.nil_iff.mp z)
  have n2 : i2 ≠ [] := fun z => hy (r2.nil_iff.mp z)
  exact HT.cat_tup p1 p2 n1 (fun z => absurd z n2) (fun _ => new_tup I (r1.append r2) (by rw [List.length_append]; exact hz) q) (by rw [← r1.length, ← r2.length]; exact hz)
abbrev rPlusF (K : PySem.W.Frag) : R2 := rOr (rPlusE K) (rCatTF K)
theorem plusF {X : Cx} (K : PySem.W.Frag) (hK : X.K = K := by rfl) : OpR X (binaryOp .Add) (rPlusF K) := hK ▸ (plusE X.K).or op_catTF
theorem plF_of {K : PySem.W.Frag} {x y d : D} (h : DR2 (rPlusE K) x y d) : DR2 (rPlusF K) x y d := dr2_l h
/-! ### tuple(xs) -/
abbrev rTupleF (K : PySem.W.Frag) : List V → Hp → VK → Prop := fun xs H Q => ∃ p ys, xs = [.ref p] ∧ SqL K H p ys ∧ NewT H ys Q
theorem cr_tupleF {X : Cx} : CallR X (.type "tuple") (rTupleF X.K) := by
  intro pins s σ H xs us Q I r ⟨p, ys, ex, hq, q⟩
  subst ex
  obtain ⟨u, eu, rx⟩ := vals1 r
  subst eu; cases rx
  obtain ⟨its, r', pl, hz⟩ := I.list hq
  have hl := r'.length
  exact call_tuple_list pl.isList (fun h' kp => new_tup (I.kept (t' := s.toks) kp) r' hz q) (by simp only [List.size_toArray]; omega)
theorem tupleFA {X : Cx} (K : PySem.W.Frag) (hK : X.K = K := by rfl) : CallR X (.type "tuple") (rTupleF K) := hK ▸ cr_tupleF
theorem ev_tupleN {K : PySem.W.Frag} {Γ : Gam} {ta : TE} {ds : List D} (h : EvB ta Γ ds) : Ev (tCB (rTupleF K) (tCons ta tNil)) Γ (.tupN ds) := fun F σ W Q g k => h F σ W _ g fun p vs H s e l =>
  ⟨p, vs, rfl, .of e, fun n ob c d hn => k _ _ (Same.trans s (same_upd hn)) (rep_new_tupN (W := W.at H) (g.same s).ok.dom hn c d l)⟩
theorem ev_tupleF {K : PySem.W.Frag} {Γ : Gam} {ta : TE} {ds : List D} (h : EvB ta Γ ds) : Ev (tCB (rTupleF K) (tCons ta tNil)) Γ (.tup ds) := ev_dn (ev_tupleN h)
/-! ### t.m(x) of such a tuple -/
def tBMN (r : V → List V → Hp → VK → Prop) (to : TE) (t : TA) : TE := fun σ H Q => to σ H fun x H1 => (∃ a vs, x = .ref a ∧ TupN H1 a vs) ∧ t σ H1 fun xs H2 => r x xs H2 Q
section
variable {X : Cx} {o e : Expr} {es : List Expr} {to : TE} {t : TA} {nm : Str} {p1 p2 : Pos} {id : String} {r : V → List V → Hp → VK → Prop}
theorem pe_tm (sl : Slot "tuple" nm id) (ty : typeOf (.builtin id) = pure (.type "method_descriptor")) (hm : MtR X id r) (ho : PE X o to) (ha : PA X (e :: es) t)
    (b1 : attributeBase o nm X.env (eval o X.env) = eval o X.env := by rfl)
    (b2 : ((backTo p2 (starEach (e :: es) X.env)).all (fun z => !z.1) && (backToKw p2 (keywordEach [] X.env)).all (fun z => z.1.isSome) && decide ((e :: es).length + ([] : List Keyword).length + (if ([] : List Keyword).isEmpty then 0 else 1) < 30)) = true := by rfl)
    (b3 : (p1.endLine == p2.line) = true := by rfl) (b4 : starEach (e :: es) X.env = (false, eval e X.env) :: starEach es X.env := by rfl) (b5 : (backTo p2 (starEach es X.env)).any (·.1) = false := by rfl) :
    PE X (.Call (.Attribute o nm p1) (e :: es) [] p2) (tBMN r to t) := ⟨fun pins s σ H Q I q0 => by
  refine wpAny_Call_method_late b1 b2 b3 rfl (thn (ho.run pins s σ H _ I q0) fun v s1 ⟨x, H1, I1, r1, ⟨a, vs, ex, ob, hob, c, d⟩, q1⟩ => ?_)
  subst ex
  cases r1
  obtain ⟨g1, _⟩ : s1.heap.get? a = some ob ∧ _ := I1.hok a _ hob
  refine ⟨"tuple", id, PySem.F.plainAttrs_tuple, sl, ty, ⟨ob, g1, c⟩, fun b e => by cases e; exact ⟨ob, g1, d⟩, ?_⟩
  have A1 := ha.run p2 pins s1 σ H1 _ I1 q1
  rw [b4] at A1 ⊢
  refine Calls.callWith_builtin (by show (false || (backTo p2 (starEach es X.env)).any (·.1)) = false; rw [b5]; rfl) (Calls.evalArgs_plain ?_)
  exact thn A1 fun us s2 ⟨ws, H2, I2, r2, q2⟩ => hm pins s2 σ H2 (V.ref a) ws _ us Q I2 rfl r2 q2⟩
end
abbrev TIdx (K : PySem.W.Frag) (a : Addr) (ys : List V) (y : V) (j : Nat) (H : Hp) (Q : VK) : Prop := SqT K H a ys ∧ flatV y = true ∧ ys.all flatV = true ∧ (∃ z, ys[j]? = some z ∧ eqV z y = true) ∧ (∀ (m : Nat) (z : V), m < j → ys[m]? = some z → eqV z y = false) ∧ Q (.int (j : Nat)) H
def rTIdx (K : PySem.W.Frag) : V → List V → Hp → VK → Prop := fun x xs H Q => ∃ a ys y j, x = V.ref a ∧ xs = [y] ∧ TIdx K a ys y j H Q
theorem mt_tidx {X : Cx} : MtR X "tuple.index" (rTIdx X.K) := by
  intro pins s σ H x xs v us Q I rx rxs ⟨a, ys, y, j, ex, exs, hs, fy, fys, ⟨z, hz, hzj⟩, hno, q⟩
  subst ex; subst exs
  cases rx
  obtain ⟨uy, eu, ry⟩ := vals1 rxs
  subst eu
  obtain ⟨its, rv, ⟨⟨cls, dd, data, sl⟩, ho, hc, n, hd⟩, _⟩ := I.tuple hs
  simp only at hc hd
  subst hc; subst hd
  have look : ∀ (m : Nat) (w : V), ys[m]? = some w → ∃ (u : Value) (hm : m < its.toArray.size), its.toArray[m] = u ∧ eqU y u = eqV w y := fun m w hw => by
    obtain ⟨u, hu, ru⟩ := rv.get hw
    obtain ⟨h1, h2⟩ := List.getElem?_eq_some_iff.mp hu
    exact ⟨u, by simpa using h1, by simpa using h2, eqU_of ru (flat_at fys hw)⟩
  obtain ⟨u0, hj, e0, e1⟩ := look j z hz
  have hl := rv.length
  refine call_meets PySem.F.slot_tuple_index ⟨_, ho, rfl⟩ PySem.F.entry_tuple_index (PySem.F.args_tuple_index_2 _ _) (TI.tuple_indexAt a its.toArray n dd sl uy (eqU y) j hj (by rw [e0, e1]; exact hzj) fun m hm hmj => ?_)
    ⟨ho, fun u' hu' => mem_eqAt ry fy rv fys u' (by simpa using hu'), .int (j : Nat), H, I.tok _, ⟨_, rfl⟩, q⟩
  have hml : m < its.length := by simpa using hm
  have hw : ys[m]? = some ys[m] := List.getElem?_eq_getElem (by omega)
  obtain ⟨u2, _, e2, e3⟩ := look m _ hw
  rw [e2, e3]
  exact hno m _ hmj hw
theorem tidxA {X : Cx} (K : PySem.W.Frag) (hK : X.K = K := by rfl) : MtR X "tuple.index" (rTIdx K) := hK ▸ mt_tidx
section
variable {K : PySem.W.Frag} {Γ : Gam} {ta tb : TE}
theorem idx_not {α : Type} [DecidableEq α] {o : List α} {c : α} {m : Nat} (h : m < o.idxOf c) (hm : m < o.length) : o[m] ≠ c := fun e => by
  have h2 : m < o.findIdx (· == c) := h
  have := List.not_of_lt_findIdx h2
  simp [e] at this
theorem idx_at {α : Type} [DecidableEq α] {o : List α} {c : α} (h : c ∈ o) : o[o.idxOf c]? = some c := by
  have hl : o.idxOf c < o.length := List.idxOf_lt_length_iff.mpr h
  rw [List.getElem?_eq_getElem hl, List.getElem_idxOf hl]
theorem ev_tidxS {o : List Str} {c : Str} (h : Ev ta Γ (.tupN (o.map D.str))) (hb : Ev tb Γ (.str c)) (hm : c ∈ o) : Ev (tBMN (rTIdx K) ta (tCons tb tNil)) Γ (.int (o.idxOf c : Nat)) := fun F σ W Q g k =>
  h F σ W _ g fun v H s ⟨a, vs, ev, e, nu, l⟩ => by
    subst ev
    refine ⟨⟨a, vs, rfl, e⟩, hb F σ (W.at H) _ (g.same s) fun u H2 s2 r => ?_⟩
    obtain rfl : u = V.str c := r
    obtain rfl := RepL.strs.mp l
    refine ⟨a, _, _, o.idxOf c, rfl, rfl, (e.same s2).at.sq, rfl, by rw [List.all_map]; exact List.all_eq_true.mpr fun _ _ => rfl, ⟨V.str c, by rw [List.getElem?_map, idx_at hm]; rfl, by simp [eqV]⟩, fun m z' hmj hz => ?_, k _ H2 (Same.trans s s2) rfl⟩
    have hl : o.idxOf c < o.length := List.idxOf_lt_length_iff.mpr hm
    rw [List.getElem?_map, List.getElem?_eq_getElem (by omega)] at hz
    obtain rfl := Option.some.inj hz
    have ne := idx_not hmj (by omega)
    simp [eqV, ne]
end
end Dw
namespace Dw
open PySem PySem.Spec PyProof.Rows L2 HT
variable [Tabs0]
/-! ### a new tuple, by its cell -/
section
variable {K : PySem.W.Frag} {Γ : Gam} {t : TA} {ta : TE} {ds : List D}
end
end Dw
namespace Dw
open PySem PySem.Spec PyProof.Rows L2 HT
variable [Tabs0]
end Dw

/-! {k: v for x in xs if ..}, k in d, d[k]; a call of a local name that holds a def. -/
namespace Dw
open PySem PySem.Spec PyProof.Rows L2 HT
variable [Tabs0]
section
variable {K : PySem.W.Frag} {Γ : Gam} {wi : TI} {g : TG} {tt : TT} {tk tv ta td ty : TE} {vs : List Nat}
/-! ### a call of a local name that holds a def -/
theorem ev_callL {s : Spc} {i : Nat} {f : Addr} {E : XK} {t : TA} {x : s.ty} {d : D} (hf : Γ[i]? = some (.val (.raw (.ref f)))) (h : EvA t Γ (s.args x)) (np : noPs (s.args x) = true) (ok : s.ok x) (hd : ∀ d', s.rel x d' → d' = d) : Ev (tCallL i f (toSp s) [] E t) Γ d := fun F σ W R g k => by
  obtain ⟨v, e, r⟩ := g.val i _ hf
  obtain rfl : v = V.ref f := r
  exact ⟨e, ev_call (E := E) h np ok hd F σ W R g k⟩
end
end Dw

/-! xs, y = [], e with a cell among them; xs.index(x) of texts. -/
namespace Dw
open PySem PySem.Spec PyProof.Rows L2 HT
variable [Tabs0]
section
variable {K : PySem.W.Frag} {Γ : Gam} {ta tb : TE}
end
end Dw

/-! an own list, lent for the time of one expression whose answer is a tuple of numbers. -/
namespace Dw
open PySem PySem.Spec PyProof.Rows L2 HT
variable [Tabs0]
theorem dl_lend {Γ : Gam} {t : TE} {Q : D → Gam → Prop} (i : Nat) {ds : List D} (hi : Γ[i]? = some (.own ds)) (one : ∀ (j : Nat) (es : Ow), Γ[j]? = some (.ownX es) → j = i)
    (h : Dl t (Γ.set i (.val (.lst ds))) fun d Γ1 => Γ1 = Γ.set i (.val (.lst ds)) ∧ (∃ m : List Nat, d = .tup (m.map fun k : Nat => D.int k)) ∧ Q d Γ) : Dl t Γ Q := fun F σ W R g k => by
  obtain ⟨a, vs, hs, ua, fa, pa, ea, ra⟩ := g.own i ds hi
  obtain ⟨st0, g0⟩ := g.freeze hi hs
  refine h F σ ⟨W.H, fun b => W.U b ∧ b ≠ a, W.P⟩ R g0 fun v W1 d Γ1 st g1 r ⟨eΓ, ⟨m, ed⟩, q⟩ => ?_
  subst eΓ; subst ed
  have ea1 := st.keep a _ ea fun z => z.2 rfl
  have hp : W1.P = W.P := st.pur
  have stp : Stp F W ⟨W1.H, fun b => W1.U b ∨ b = a, W1.P⟩ := ⟨fun b u e n => by
    have hb := st.keep b u e fun z => n z.1
    exact ⟨hb.1, fun z => z.elim hb.2 fun z => n (z ▸ ua)⟩, hp, fun b z => st.fr b z⟩
  refine k v ⟨W1.H, fun b => W1.U b ∨ b = a, W1.P⟩ (.tup (m.map fun k : Nat => D.int k)) Γ stp ⟨⟨fun b z => z.elim (g1.ok.dom b) (fun z => by rw [z, ea1.1]; exact fun q => nomatch q), fun b z => .inl (g1.ok.fu b z), fun b z => let ⟨u, f, p⟩ := g1.ok.pu b z; ⟨.inl u, f, p⟩⟩, g.len, fun j d' e => ?_, fun j es e => ?_, g.apartX⟩ ?_ q
  · obtain ⟨v', e1, r'⟩ := g.val j d' e
    exact ⟨v', e1, r'.stp stp⟩
  · obtain rfl := one j es e
    rw [hi] at e; cases e
    exact ⟨a, vs, hs, .inr rfl, fa, by rw [hp]; exact pa, ea1.1, ra.stp stp⟩
  · obtain ⟨b, ws, e1, hb, nu, l⟩ := r
    have nb : b ≠ a := fun z => by
      rw [z] at hb
      rcases hb with hb | ⟨o, hb⟩
      · rw [ea1.1] at hb; cases hb
      · rw [ea1.1] at hb; cases hb
    refine ⟨b, ws, e1, hb, fun z => z.elim nu nb, ?_⟩
    obtain rfl := repL_ord l
    exact ord_repL m
end Dw

/-! list(d.values()). -/
namespace Dw
open PySem PySem.Spec PyProof.Rows L2 HT
variable [Tabs0]
section
variable {X : Cx} {e : Expr} {te : TE} {p apos cpos pos : Pos}
variable {Γ : Gam} {td : TE}
end
end Dw

/-! xs == [] of any list. -/
namespace Dw
open PySem PySem.Spec PyProof.Rows L2 HT
variable [Tabs0]
/-! ### texts, >= -/
/-! ### range(a, b) -/
end Dw

/-! {"a": 1, ..}, d.get(k, z); cuts and sums of tuples whose cells are known. -/
namespace Dw
open PySem PySem.Spec PyProof.Rows L2 HT
variable [Tabs0]
section
variable {Γ : Gam} {td ty : TE}
end
/-! ### t[a:b], its cell known -/
section
variable {K : PySem.W.Frag} {Γ : Gam} {te : TE} {ds : List D}
end
/-! ### t == () -/
/-! ### a text's count -/
end Dw

/-! min(xs); xs.extend(ys) of an own list; a purse that is made of a number. -/
namespace Dw
open PySem PySem.Spec PyProof.Rows L2 HT
variable [Tabs0]
section
variable {K : PySem.W.Frag} {Γ : Gam} {ta tb : TE}
theorem dl_extend {i : Nat} {ds es : List D} {Q : D → Gam → Prop} (h0 : Γ[i]? = some (.own ds)) (hb : EvB tb Γ es) (hz : ds.length + es.length ≤ sizeLine) (q : Q .non (Γ.set i (.own (ds ++ es)))) : Dl (tBM K "list" rExtend (tVar i) (tCons tb tNil)) Γ Q := fun F σ W R g k => by
  obtain ⟨a, vs, hs, u, f, p, q0, r0⟩ := g.own i ds h0
  refine ⟨.ref a, hs, tyV_lst q0, hb F σ W _ g fun b ws H s e l => ?_⟩
  have g1 := g.same s
  obtain ⟨a', vs', hs', u', f', p', q1, r1⟩ := g1.own i ds h0
  rw [hs] at hs'; cases hs'
  obtain ⟨st, g2⟩ := g1.write h0 hs (r1.append l)
  exact ⟨a, b, vs', ws, rfl, rfl, q1, e, by rw [← r1.length, ← l.length]; exact hz, k .non _ .non _ ((Stp.of_same g.ok s).trans st) g2 rfl q⟩
end
/-- a def that makes a purse of a number -/
def toWell : Sp := fun vs H Q _ => ∃ (F : Addr → Prop) (W : Wd) (cell : Int), W.H = H ∧ WOk F W ∧ RepL W [.int cell] vs ∧
  ∀ (a : Addr) (x y c : Int) (W' : Wd) (H' : Hp), Stp F W W' → WOk F W' → Same W'.H H' → W'.H a = none → H' a = some (.lst [.int x, .int y, .int c]) → 0 ≤ x → 0 ≤ y → y < 2147483647 → Q (.ref a) H'
section
variable {s : Spc} {E : XK} {Γ : Gam} {ta : TE}
end
end Dw

/-! x, ys = e, [] with a cell among them. -/
namespace Dw
open PySem PySem.Spec PyProof.Rows L2 HT
variable [Tabs0]
theorem ds_asg_2o {K : PySem.W.Frag} {Γ : Gam} {De : DE} {i j : Nat} {t1 t2 : TE} (h : Dl t1 Γ fun d Γ1 => ∃ ds, EvN t2 Γ1 ds ∧ De.nx ((Γ1.set i (.val d)).set j (.own ds))) : Ds (tAsg (tTup (tCons t1 (tCons t2 tNil))) (gTup K 2 (gCons (gName i) (gCons (gName j) gNil)))) Γ De := fun F σ W Dr g k =>
  h F σ W _ g fun v W1 d Γ1 st1 g1 rd ⟨ds, h2, q⟩ => h2 F σ W1 _ g1 fun a vs H s n e r => by
    obtain ⟨st2, g2, no2, f2, p2⟩ := g1.plus s n (by rw [e]; exact fun z => nomatch z)
    have rd2 : Rep (W1.plus H a) d v := rd.stp st2
    have g3 := g2.set (i := i) rd2
    have no3 : ¬ ownA (Γ1.set i (.val d)) (σ.set i (some v)) a := fun ⟨k, es, e1, e2⟩ => by
      by_cases hk : i = k
      · subst hk
        by_cases hl : i < Γ1.length
        · rw [List.getElem?_set_self hl] at e1; cases e1
        · rw [List.getElem?_eq_none (by rw [List.length_set]; omega)] at e1; cases e1
      · rw [List.getElem?_set_ne hk] at e1 e2
        exact no2 ⟨k, es, e1, e2⟩
    have g4 := g3.adopt (i := j) (.inr rfl) f2 p2 e r no3
    refine ⟨Nat.le_trans (show 2 ≤ 100000 by decide) (by decide), fun p hp => ?_⟩
    exact ⟨p, [v, .ref a], rfl, TupAt.sq (.mk upd_same), rfl, v, [.ref a], rfl, .ref a, [], rfl, rfl, k.nx _ ((W1.plus H a).at _) _ ((st1.trans st2).trans (Stp.of_same g2.ok (same_upd hp))) (g4.same (same_upd hp)) q⟩
section
variable {s : Spc} {E : XK} {Γ : Gam} {ta : TE}
/-- right(well(number)) -/
theorem dl_wellT {K : PySem.W.Frag} {E2 : XK} {Q : D → Gam → Prop} {x : s.ty} (ha : s.args x = [.purse]) (ok : s.ok x) (hr : ∀ d, s.rel x d → d = .bl true) (h1 : Dl ta Γ fun d Γ1 => (∃ z : Int, d = .int z) ∧ (∃ (i : Nat) (vs : List V), Γ1[i]? = some (.val (.scr K vs))) ∧ Q (.bl true) Γ1) :
    Dl (tCall (toSp s) [] E (tCons (tCall toWell [] E2 (tCons ta tNil)) tNil)) Γ Q := fun F σ W R g k => by
  show tCons ta tNil σ W.H (fun vs H1 => toWell (vs ++ []) H1 (fun v H2 => toSp s ([v] ++ []) H2 R E) E2)
  refine h1 F σ W _ g fun v0 W1 d0 Γ1 s1 g1 r0 ⟨⟨z, ez⟩, ⟨ci, cvs, hcs⟩, q⟩ => ?_
  subst ez
  have r : RepL W1 [.int z] [v0] := RepL.one r0
  refine ⟨_, W1, z, rfl, g1.callOk, r, fun a x' y c' W' H' st ok' sm hn ha' h0 h0' h0y => ?_⟩
  have g2 := g1.call st ok'
  have okc := g2.callOk
  have nu : ¬ W'.U a := g2.ok.new hn
  have tb : ∀ p q, Tabs0.nm p = some q → W'.P p := fun p q z => by
    obtain ⟨v0, e0, hr0⟩ := g1.val ci _ hcs
    obtain ⟨_, _, _, t0⟩ := hr0
    have := t0 p q z
    rw [st.pur]
    exact this
  have nn : Tabs0.nm a = none := by
    cases z : Tabs0.nm a with
    | none => rfl
    | some q => exact absurd hn ((okc.pu a (tb a q z)).2.2.some)
  refine ⟨x, _, ⟨H', fun b => W'.U b ∨ b = a, fun b => W'.P b ∨ b = a⟩, rfl, ⟨fun b z => ?_, fun b z => .inl (okc.fu b z), fun b z => ?_⟩, ?_, ok, fun d v W2 hd st2 ok2 r2 => ?_⟩
  · rcases z with z | rfl
    · exact fun e => okc.dom b z (sm.free e)
    · show H' b ≠ none
      rw [ha']; exact fun e => nomatch e
  · rcases z with z | rfl
    · obtain ⟨u, f, o⟩ := okc.pu b z
      exact ⟨.inl u, f, o.same sm⟩
    · exact ⟨.inr rfl, fun z => nu (okc.fu b z), .of ⟨(x', c'), y, h0, h0', h0y, ha'⟩ nn⟩
  · rw [ha]
    exact RepL.one ⟨a, rfl, .inr rfl, nn, fun p q z => .inl (tb p q z)⟩
  · have hd' := hr d hd
    subst hd'
    have stc : Stp (fun b => F b ∨ ownA Γ1 σ b) W' ⟨W2.H, W2.U, W'.P⟩ := ⟨fun b u e n => by
        have nb : b ≠ a := fun z => by rw [z, hn] at e; cases e
        obtain ⟨e2, n2⟩ := st2.keep b u (sm _ _ e) fun z => z.elim n nb
        exact ⟨e2, n2⟩, rfl, fun b z => by
        refine (st2.fr b z).trans ?_
        show H' b = W'.H b
        cases q : W'.H b with
        | none => exact absurd q (okc.dom b (okc.fu b z))
        | some u => exact sm _ _ q⟩
    have okc2 : WOk (fun b => F b ∨ ownA Γ1 σ b) ⟨W2.H, W2.U, W'.P⟩ := ⟨ok2.dom, ok2.fu, fun b z => by
      have := ok2.pu b (by rw [st2.pur]; exact .inl z)
      exact this⟩
    have st0 : Stp F W ⟨W2.H, W2.U, W'.P⟩ := s1.trans (((st.trans stc)).sub fun _ z => .inl z)
    exact k v ⟨W2.H, W2.U, W'.P⟩ (.bl true) Γ1 st0 (g2.call stc okc2) r2 q
end
end Dw

/-! tuple("abc"); == of truth values. -/
namespace Dw
open PySem PySem.Spec PyProof.Rows L2 HT
variable [Tabs0]
section
variable {K : PySem.W.Frag} {Γ : Gam} {ta : TE}
end
end Dw

/-! ways[i] += e, of an own list of numbers. -/
namespace Dw
open PySem PySem.Spec PyProof.Rows L2
variable [Tabs0]
/-- the thing at a place from the front on -/
def rGetL (K : PySem.W.Frag) : V → V → Hp → VK → Prop := fun o i H Q => ∃ p xs k v, o = .ref p ∧ i = .int (k : Nat) ∧ k < 1000000 ∧ SqL K H p xs ∧ xs[k]? = some v ∧ Q v H
theorem get_list {X : Cx} : PGet X (rGetL X.K) := by
  intro pins s σ H o i ov iv Q I ro ri h
  obtain ⟨p, xs, k, v, rfl, rfl, hk, hp, hv, q⟩ := h
  cases ro
  obtain ⟨t, rfl⟩ := ri
  obtain ⟨its, r, pl, hz⟩ := I.list hp
  obtain ⟨w, ew, rw'⟩ := r.get hv
  exact wpAny_getItem_list pl.isList (by omega) (by omega) (by rw [Int.toNat_natCast]; simpa using ew) ⟨v, H, I, rw', q⟩
theorem ps_augL {X : Cx} {o i e : Expr} {to ti te : TE} {tpos pos : Pos} (ho : PE X o to) (hi : PE X i ti) (he : PE X e te)
    (ha : ∀ ov iv new, augStore i ov iv new = (do holding [new, ov, iv] (setItem ov iv new); release [new, ov, iv] []; pure .next) := by intros; rfl) : PS X (.AugAssign (.Subscript o i tpos) .Add e pos) (tAugS to ti te (rGetL X.K) rIAdd rSetL) :=
  ps_augS ho hi get_list he ipX set_list ha
section
variable {K : PySem.W.Frag} {Γ : Gam} {De : DE} {te tk : TE}
/-- ways[k] += e, all of them numbers -/
theorem ds_augL {i k a b : Nat} {l : List Nat} (h0 : Γ[i]? = some (.own (l.map fun k : Nat => D.int k))) (hk : Ev tk Γ (.int (k : Nat))) (hl : k < l.length) (hz : l.length ≤ 1000000) (ha : l.getD k 0 = a) (he : Ev te Γ (.int (b : Nat)))
    (q : De.nx (Γ.set i (.own ((l.set k (a + b)).map fun k : Nat => D.int k)))) : Ds (tAugS (tVar i) tk te (rGetL K) rIAdd rSetL) Γ De := fun F σ W Dr g le => by
  obtain ⟨p, vs, hs, u, f, n, q1, r1⟩ := g.own i _ h0
  refine ⟨.ref p, hs, hk F σ W _ g fun w H2 s2 rk => ?_⟩
  have g2 := g.same s2
  obtain ⟨p', vs', hs', _, _, _, q2, r2⟩ := g2.own i _ h0
  rw [hs] at hs'; cases hs'
  have ln : l.length = vs'.length := by rw [← r2.length, List.length_map]
  have ek : (l.map fun k : Nat => D.int k)[k]? = some (.int (a : Nat)) := by
    rw [List.getElem?_map, List.getElem?_eq_getElem hl, ← ha, List.getD_eq_getElem?_getD, List.getElem?_eq_getElem hl]; rfl
  obtain ⟨v, ev, rv⟩ := RepL.get r2 ek
  refine ⟨p, vs', k, v, rfl, rk, by omega, .of q2, ev, ?_⟩
  refine he F σ (W.at H2) _ g2 fun y H3 s3 ry => ?_
  have g3 := g2.same s3
  obtain ⟨p', vs3, hs', _, _, _, q3, r3⟩ := g3.own i _ h0
  rw [hs] at hs'; cases hs'
  refine .inl ⟨a, b, rv, ry, ?_⟩
  have ln3 : l.length = vs3.length := by rw [← r3.length, List.length_map]
  have hl3 : (k : Int) < (vs3.length : Int) := by rw [← ln3]; omega
  have rn : RepL (W.at H3) ((l.set k (a + b)).map fun k : Nat => D.int k) (vs3.set k (.int ((a : Int) + (b : Int)))) := by
    have := r3.set (d := .int ((a + b : Nat) : Int)) (v := .int ((a : Int) + (b : Int))) (show _ = _ by rw [Int.natCast_add]) k
    rw [List.map_set]
    exact this
  obtain ⟨st, g4⟩ := g3.write h0 hs rn
  refine ⟨p, vs3, k, k, rfl, rk, q3, ?_, le.nx σ _ _ ((Stp.of_same g.ok (Same.trans s2 s3)).trans st) g4 q⟩
  unfold ixN
  rw [if_pos (by omega), if_pos hl3]; rfl
end
end Dw

/-! A lambda made, with the very heap: all but its maker's table stays. -/
namespace Dw
open PySem PySem.Spec PyProof.Rows L2 LamX
/-- what a lambda's making may have done: nothing, or the maker's table at P is longer and a code object is new -/
def Chg (P : Addr) (q : Str) (H H1 : Hp) : Prop := H1 = H ∨ ∃ (c : Addr) (ps more : Array Value), H P = some (.tbl ps) ∧ H c = none ∧ H1 = upd (upd H P (.tbl (ps ++ more))) c (CodeO c q)
theorem Chg.ne {P : Addr} {q : Str} {H H1 : Hp} (h : Chg P q H H1) {b : Addr} {u : HO} (hb : b ≠ P) (e : H b = some u) : H1 b = some u := by
  rcases h with rfl | ⟨c, ps, more, _, hc, rfl⟩
  · exact e
  · rw [upd_ne (ne_of_none e hc), upd_ne hb]
    exact e
theorem Chg.ext {P : Addr} {q : Str} {H H1 : Hp} (h : Chg P q H H1) : ExtN H H1 := by
  rcases h with rfl | ⟨c, ps, more, hP, hc, rfl⟩
  · exact ExtN.refl _
  · intro b o e n
    rw [upd_ne (ne_of_none e hc), upd_ne (fun z => n ps (Option.some.inj (e.symm.trans (by rw [z]; exact hP))))]
    exact e
section
variable {X : Cx} {pins : List (Addr × Obj)} {σ : L2.St} {H : Hp} {s : Shared}
/-- the tables go on telling the truth -/
theorem tabs_grow {T : List (Addr × Str)} {P c' : Addr} {q : Str} {ps : Array Value} {pos : Pos} (hT : Tabs T H) (hu : ∀ p ∈ T, p.1 = P → p.2 = q) (hP : H P = some (.tbl ps)) (ht : TriplesOk ps.toList)
    (ha : ∀ (pos : Pos) (cv : Value), codeAmong pos ps.toList = some cv → ∃ c, cv = .ref c ∧ H c = some (CodeO c q)) (nC : H c' = none) :
    Tabs T (upd (upd H P (.tbl (ps ++ #[rawInt pos.line, rawInt pos.col, .ref c']))) c' (CodeO c' q)) := by
  have eE : ∀ b o, H b = some o → (∀ ps, o ≠ .tbl ps) → upd (upd H P (.tbl (ps ++ #[rawInt pos.line, rawInt pos.col, .ref c']))) c' (CodeO c' q) b = some o :=
    (Chg.ext (q := q) (.inr ⟨c', ps, _, hP, nC, rfl⟩))
  have eL : (ps ++ #[rawInt pos.line, rawInt pos.col, .ref c']).toList = ps.toList ++ [rawInt pos.line, rawInt pos.col, .ref c'] := by simp
  intro p hp
  by_cases hb : p.1 = P
  · rw [hu p hp hb, hb]
    refine ⟨_, by rw [upd_ne (ne_of_none hP nC), upd_same], by rw [eL]; exact PySem.TriplesOk_snoc _ _ _ _ ht, fun p' cv hcv => ?_⟩
    rw [eL] at hcv
    rcases among_app _ ht hcv with z | z
    · obtain ⟨c0, e1, e2⟩ := ha p' cv z
      exact ⟨c0, e1, eE _ _ e2 codeO_ne⟩
    · exact ⟨c', z, upd_same⟩
  · obtain ⟨ps', a1, a2, a3⟩ := hT p hp
    refine ⟨ps', by rw [upd_ne (ne_of_none a1 nC), upd_ne hb]; exact a1, a2, fun p' cv hcv => ?_⟩
    obtain ⟨c0, e1, e2⟩ := a3 p' cv hcv
    exact ⟨c0, e1, eE _ _ e2 codeO_ne⟩
/-- the lambda is made; what its making did is told -/
theorem lam_make3 {T : List (Addr × Str)} {c P : Addr} {params : Arguments} {body : Expr} {scope : Scope} {pos : Pos} {E Q : Value → Shared → Prop} (I : Inv X pins σ H s) (TB : TabB X.base X.mg c P) (hcode : X.env.code = .ref c)
    (hm : (P, X.env.qual ++ "<lambda>") ∈ T) (hu : ∀ p ∈ T, p.1 = P → p.2 = X.env.qual ++ "<lambda>") (hT : Tabs T H) (hdef : defaultsOf params X.env = ([], [])) (hfree : ∀ y ∈ scope.names, y.2 = .free → ∃ c, X.env.cells.lookup y.1 = some c)
    (h : ∀ (f c' : Addr) (pm ctv : Value) (H1 : Hp) (s' : Shared), Inv X pins σ H1 s' → Chg P (X.env.qual ++ "<lambda>") H H1 → Tabs T H1 →
      s'.heap.get? f = some (PySem.W.kla_obj "<lambda>" (X.env.qual ++ "<lambda>") params body scope (cloFrom X.env.cells scope.names []) pm c' ctv) → H1 f = none → f ∉ frs X.stack → H1 c' = some (CodeO c' (X.env.qual ++ "<lambda>")) → Q (.ref f) s') :
    wpAny (model X.prog X.w) X.A (eval (.Lambda params body scope pos) X.env) Q E s := by
  obtain ⟨ps, hP, ht, ha⟩ := hT _ hm
  have nofr : ∀ f, s.heap.objs.size ≤ f → f ∉ frs X.stack := fun f hf z => by
    rcases List.mem_cons.mp (I.stkSub _ z) with e | e
    · have := I.lt
      rw [← e] at this
      exact Nat.lt_irrefl _ (Nat.lt_of_lt_of_le this hf)
    · exact I.nofs hf e
  have hP' : s.heap.get? P = some { cls := .none, data := .fields ps } := I.hok P _ hP
  have bP := TB.bm.keeps I.bk
  refine PySem.W.kla_eval hdef ?_
  cases hc : codeAmong pos ps.toList with
  | some cv =>
    obtain ⟨c', rfl, hco⟩ := ha pos cv hc
    refine PySem.W.kla_makeFunctionHit (mg := X.mg) (c := c) (P := P) (ps := ps) (closure_ok hfree) I.ok.glob (I.mod.glob.keeps I.bk) hcode (TB.code.keeps I.bk) hP' ht hc bP fun ctv h' tk hx hsz => ?_
    exact h h'.objs.size c' _ ctv H _ (I.kept (t' := tk) fun b o e => Heap.get?_push_of_some _ (hx b o e)) (.inl rfl) hT (Heap.get?_push_size _ rfl) (I.hok.fresh hsz) (nofr _ hsz) hco
  | none =>
    refine PySem.W.kla_makeFunction (mg := X.mg) (c := c) (P := P) (ps := ps) (closure_ok hfree) I.ok.glob (I.mod.glob.keeps I.bk) hcode (TB.code.keeps I.bk) hP' ht hc TB.gP bP fun c' ctv h' tk hx hge hlt hrec htb => ?_
    obtain ⟨c2, oc, vs, t, e2, hoc, hd, hv⟩ := hrec
    cases e2
    have nC : H c' = none := I.hok.fresh hge
    have hsz : s.heap.objs.size ≤ h'.objs.size := Nat.le_trans hge (Nat.le_of_lt hlt)
    have I1 := inv_table (t' := tk) (more := #[rawInt pos.line, rawInt pos.col, .ref c']) (h' := h'.push (PySem.W.kla_obj "<lambda>" (X.env.qual ++ "<lambda>") params body scope (cloFrom X.env.cells scope.names []) ((X.mg "__name__").getD .none) c' ctv)) I hP
      (fun b o hb e => Heap.get?_push_of_some _ (hx b o hb e)) (Heap.get?_push_of_some _ htb) hge ⟨oc, vs, t, Heap.get?_push_of_some _ hoc, hd, hv⟩
    refine h h'.objs.size c' _ ctv _ _ I1 (.inr ⟨c', ps, _, hP, nC, rfl⟩) (tabs_grow hT hu hP ht ha nC) (Heap.get?_push_size _ rfl) ?_ (nofr _ hsz) upd_same
    rw [upd_ne (Nat.ne_of_gt hlt), upd_ne (Nat.ne_of_gt (Nat.lt_of_lt_of_le (Heap.lt_size hP') hsz))]
    exact I.hok.fresh hsz
end
/-! ### the lambda handed to a def -/
section
variable {X : Cx}
end
end Dw

/-! except (A, B) as e: one clause for two classes, that takes all that comes. -/
namespace Dw
open PySem PySem.Spec PyProof.Rows L2 HotX
section
variable {X : Cx} {x1 x2 n : Str} {c1 c2 : Value} {i kk : Nat} {body suite : List Stmt} {b₀ : Stmt} {p1 p2 tpos pos pos' : Pos} {tb : WX → TS} {ts : Addr → Value → Option Addr → TS}
end
end Dw

/-! The exception that is held, within a def that the suite calls. -/
namespace Dw
open PySem PySem.Spec PyProof.Rows L2
variable [Tabs0]
section
variable {X : Cx} {a D : Addr} {oe : Obj}
end
/-! ### promises of defs that may raise: the one that returns, and the one that raises, side by side -/
section
variable {P : Program} {w : World} {K : PySem.W.Frag} {mg : Str → Option Value} {base : Heap} {k : Nat} {f : Addr} {fd : FuncData} {ps : List Str} {sp sp' : Sp}
/-- a def that raises: the class, and no dict -/
structure SpcE where
  ty : Type
  args : ty → List D
  ok : ty → Prop
  cls : Addr
end
end Dw

/-! Defs that an except suite calls, and that neither raise nor loop: nothing is asked of the held exception's context. -/
namespace Dw
open PySem PySem.Spec PyProof.Rows L2
open L2H (RoomH PinOk cxH inv_startH)
variable [Tabs0]
section
variable {P : Program} {w : World} {K : PySem.W.Frag} {mg : Str → Option Value} {base : Heap} {k : Nat} {f : Addr} {fd : FuncData} {ps : List Str} {sp : Addr × Obj → Sp}
/-- the promise of a def f while p is held -/
structure FnS (P : Program) (w : World) (K : PySem.W.Frag) (mg : Str → Option Value) (base : Heap) (k : Nat) (f : Addr) (fd : FuncData) (ps : List Str) (sp : Addr × Obj → Sp) : Prop where
  len : ∀ p vs H Q E, sp p vs H Q E → vs.length = ps.length
  run : ∀ (A : Around) (outer : List Env) (s : Shared) (H : Hp) (args : Args) (us : List Value) (vs : List V) (Q : VK) (E : XK) (p : Addr × Obj), RoomH k A → A.guards = some [] → PinOk outer H s p → Env0 P w K mg base A outer s H → BindsTo s fd args (ps.zip us) → Vals vs us → sp p vs H Q E →
    codeAny (model P w) A (.call (.ref f) args) (CR CX0 outer P w H s Q E) s
end
section
variable {X : Cx} {k : Nat} {f : Addr} {fd : FuncData} {ps : List Str} {sp : Addr × Obj → Sp} {E : L2.St → XK} {x : Str} {q pos : Pos} {e : Expr} {es : List Expr} {t : TA} {p : Addr × Obj}
end
end Dw

/-! try: g = a() / except (A, B) as e: suite; return ("returned", g). -/
namespace Dw
open PySem PySem.Spec PyProof.Rows L2 LamX
variable [Tabs0]
end Dw

/-! told(lambda: body), by data. -/
namespace Dw
open PySem PySem.Spec PyProof.Rows L2 LamX
variable [Tabs0]
/-- the tables that a law knows: all there are -/
structure TabsOk (Tt : List (Addr × Str)) : Prop where
  sound : ∀ p ∈ Tt, Tabs0.nm p.1 = some p.2
  all : ∀ p q, Tabs0.nm p = some q → (p, q) ∈ Tt
theorem tabs_of {F : Addr → Prop} {W : Wd} {Tt : List (Addr × Str)} (ok : WOk F W) (T : TabsOk Tt) (tb : ∀ p q, Tabs0.nm p = some q → W.P p) : Tabs Tt W.H := fun p hp => (ok.pu p.1 (tb _ _ (T.sound p hp))).2.2.tab (T.sound p hp)
/-- a lambda is made: all that is known stays known -/
theorem SR.chg {F : Addr → Prop} {Γ : Gam} {σ : L2.St} {W : Wd} {Tt : List (Addr × Str)} {P : Addr} {q : Str} {H1 : Hp} (g : SR F Γ σ W) (T : TabsOk Tt) (hP : (P, q) ∈ Tt) (tb : ∀ p q, Tabs0.nm p = some q → W.P p) (c : Chg P q W.H H1) (T1 : Tabs Tt H1) :
    Stp F W (W.at H1) ∧ SR F Γ σ (W.at H1) := by
  have pP : W.P P := tb P q (T.sound _ hP)
  obtain ⟨uP, fP, _⟩ := g.ok.pu P pP
  have st : Stp F W (W.at H1) := ⟨fun a u e n => ⟨c.ne (fun z => n (by rw [z]; exact uP)) e, n⟩, rfl, fun a h => by
    cases e : W.H a with
    | none => exact absurd e (g.ok.dom a (g.ok.fu a h))
    | some u => exact c.ne (fun z => fP (by rw [← z]; exact h)) e⟩
  refine ⟨st, ⟨⟨fun a h z => ?_, g.ok.fu, fun a h => ?_⟩, g.len, fun i d e => ?_, fun i ds e => ?_, g.apartX⟩⟩
  · have z : H1 a = none := z
    by_cases hb : a = P
    · obtain ⟨ps, e, _⟩ := T1 _ hP
      rw [hb, show H1 P = _ from e] at z; cases z
    · cases e : W.H a with
      | none => exact g.ok.dom a h e
      | some u => rw [c.ne hb e] at z; cases z
  · obtain ⟨u, f, o⟩ := g.ok.pu a h
    refine ⟨u, f, ?_⟩
    cases n : Tabs0.nm a with
    | some q' =>
      have := T1 _ (T.all a q' n)
      unfold OwnAt
      rw [n]
      exact this
    | none =>
      obtain ⟨x, y, h1, h2, h3, e⟩ := o.purse n
      refine .of ⟨x, y, h1, h2, h3, c.ne (fun z => ?_) e⟩ n
      have := T.sound _ hP
      rw [← show a = P from z, n] at this; cases this
  · obtain ⟨v, e1, r⟩ := g.val i d e
    exact ⟨v, e1, r.stp st⟩
  · obtain ⟨a, vs, e1, u, f, p, e2, r⟩ := g.ownX i ds e
    exact ⟨a, vs, e1, u, f, p, c.ne (fun z => p (by rw [z]; exact pP)) e2, r.stp st⟩
section
variable {K : PySem.W.Frag} {Γ : Gam} {Tt : List (Addr × Str)} {P : Addr} {q wd : Str} {c1 c2 : Value} {n ie i : Nat} {ts : Addr → Value → Option Addr → TS} {t : XK → TE} {d : D} {Q : D → Gam → Prop}
end
/-! ### calls of defs that return, or raise -/
section
variable {Γ : Gam} {s : Spc} {se : SpcE} {sp : Sp} {ta : TA} {E : XK} {d : D}
end
end Dw

/-! Defs that return or raise, by data. -/
namespace Dw
open PySem PySem.Spec PyProof.Rows L2 LamX
variable [Tabs0]
/-! ### raise C() -/
section
variable {X : Cx} {C : Addr} {bmB : List Value} {B newId initId : String}
end
/-! ### what is raised -/
/-- the class, and the fields (none: no dict) -/
structure Exn where
  C : Addr
  fs : List (Str × D)
/-- its dict, as it stands in W -/
def ExHeld (W : Wd) (x : Exn) (ed : Option Addr) : Prop := match x.fs with
  | [] => ed = none
  | f :: fs => ∃ (dd : Addr) (vs : List V), ed = some dd ∧ ¬ W.U dd ∧ W.H dd = some (.xd (((f :: fs).map fun z => z.1).zip vs)) ∧ RepL W ((f :: fs).map fun z => z.2) vs
theorem ExHeld.mono {W W' : Wd} {x : Exn} {ed : Option Addr} (k : ∀ a u, W.H a = some u → ¬ W.U a → W'.H a = some u ∧ ¬ W'.U a) (p : ∀ a, W.P a → W'.P a) (h : ExHeld W x ed) : ExHeld W' x ed := by
  obtain ⟨C, fs⟩ := x
  cases fs with
  | nil => exact h
  | cons f fs =>
    obtain ⟨dd, vs, e, nu, hd, r⟩ := h
    obtain ⟨h1, h2⟩ := k _ _ hd nu
    exact ⟨dd, vs, e, h2, h1, RepL.mono k p _ _ r⟩
theorem ExHeld.same {W : Wd} {H : Hp} {x : Exn} {ed : Option Addr} (s : Same W.H H) (h : ExHeld W x ed) : ExHeld (W.at H) x ed := ExHeld.mono (W := W) (W' := W.at H) (fun a u e n => ⟨s a u e, n⟩) (fun _ z => z) h
section
variable {Γ Γ' : Gam} {x : Exn} {R : Option Addr → Hp → Prop} {t u : TS} {te : TE} {c : TT} {d : D} {i : Nat} {g : TG}
end
/-! ### a def that raises -/
structure SpcX where
  ty : Type
  args : ty → List D
  ok : ty → Prop
  ex : ty → Exn
section
variable {P : Program} {w : World} {K : PySem.W.Frag} {mg : Str → Option Value} {base : Heap}
end
section
variable {Γ : Gam} {s : Spc} {sx : SpcX} {sp : Sp} {ta tk : TA} {E : XK} {d : D} {ds es : List D} {R : Option Addr → Hp → Prop}
end
end Dw

/-! The suite of told, by data: defs that it calls while an exception is held. -/
namespace L2H
theorem RoomH.units {k : Nat} {A : PySem.Around} (r : RoomH k A) : A.units + 64 < PySem.cLine := by have := r.un; omega
end L2H
namespace Dw
open PySem PySem.Spec PyProof.Rows L2 LamX
open L2H (RoomH PinOk cxH inv_startH)
variable [Tabs0]
/-! ### pure readings, where x is held with the dict ed -/
def EvH (t : TE) (Γ : Gam) (x : Exn) (ed : Option Addr) (d : D) : Prop := ∀ (F : Addr → Prop) (σ : L2.St) (W : Wd) (Q : VK), SR F Γ σ W → ExHeld W x ed → (∀ v H, Same W.H H → Rep (W.at H) d v → Q v H) → t σ W.H Q
section
variable {Γ Γ' : Gam} {x : Exn} {ed : Option Addr} {t u : TS} {te ta tb : TE} {c : TT} {d : D} {i : Nat} {K : PySem.W.Frag}
theorem Ev.held (h : Ev te Γ d) : EvH te Γ x ed d := fun F σ W Q g hx k => h F σ W Q g k
end
/-! ### their promise -/
structure SpcS where
  ty : Type
  args : ty → List D
  ok : ty → Prop
  ex : ty → Exn
  out : ty → D
section
variable {P : Program} {w : World} {K : PySem.W.Frag} {mg : Str → Option Value} {base : Heap}
end
section
variable {X : Cx} {k : Nat} {f : Addr} {fd : FuncData} {ps : List Str} {s : SpcS} {E : XK} {n : Str} {q pos : Pos} {e : Expr} {es : List Expr} {t : TA} {a : Addr} {oe : Obj} {cls : Value} {ed : Option Addr}
end
section
variable {Γ : Gam} {s : SpcS} {t : TA} {u : TS} {te ta tb : TE} {x : s.ty} {y : Exn} {a : Addr} {ed : Option Addr} {E : XK} {d d1 d2 : D} {i : Nat}
end
/-! ### counting truth values -/
section
variable {K : PySem.W.Frag} {Γ : Gam} {ta tb : TE} {bs : List Bool}
end
/-! ### told(lambda: ..), where x is raised -/
section
variable {K : PySem.W.Frag} {Γ : Gam} {Tt : List (Addr × Str)} {P : Addr} {q wd : Str} {c1 c2 : Value} {n ie i : Nat} {ts : Addr → Value → Option Addr → TS} {t : XK → TE} {d : D} {Q : D → Gam → Prop} {x : Exn}
end
end Dw

/-! Defs that make lambdas: their code object is known. The head with tables of code objects. -/
namespace Dw
open PySem PySem.Spec PyProof.Rows L2 LamX
variable [Tabs0]
/-- a def of the text, with the address of its code object -/
structure FunC (K : PySem.W.Frag) (x qual : Str) (st : Stmt) (f : Addr) (fd : FuncData) (c : Addr) : Prop where
  ex : ∃ (oc : Value) (od : Option Addr) (kV doc pm : Value) (an : Option Addr) (ct : Value) (osl : Array (Option Value)), fd = PySem.W.fnOf x qual (defArgs st) (defBody st) (defScope st) .none kV doc pm an (.ref c) ct ∧ K.lookup f = some ⟨oc, od, .func fd, osl⟩ ∧ PySem.W.codeIn K (.ref c) qual = true
section
variable {P : Program} {w : World} {K : PySem.W.Frag} {mg : Str → Option Value} {base : Heap}
end
/-! ### the head -/
section
variable {P : Program} {w : World} {K : PySem.W.Frag} {mg mb : Str → Option Value} {k : Nat} {fa a : Addr} {fd : FuncData} {x : Str} {s1 : Shared} {vs : List Value} {ns : List Int} {sp : Spc}
/-- the script, and the tables, empty -/
def headT (K : PySem.W.Frag) (a : Addr) (vs : List Value) (ns : List Int) (ts : List Addr) : Hp := fun b => if b ∈ ts then some (.tbl #[]) else headH K a vs ns b
theorem headT_in {b : Addr} {ts : List Addr} (h : b ∈ ts) : headT K a vs ns ts b = some (.tbl #[]) := if_pos h
theorem headT_out {b : Addr} {ts : List Addr} (h : b ∉ ts) : headT K a vs ns ts b = headH K a vs ns b := if_neg h
theorem head_callT (cs : List (Addr × Addr × Str)) (T : TabsOk (cs.map fun p => (p.2.1, p.2.2)))
    (KX : K.In s1.heap) (hns : s1.heap.Ns mainGlobals mg) (hb : s1.heap.Ns builtinsNs mb) (hbb : ∀ x : Str, x ≠ "__name__" → mb x = bootBuiltins x) (hlim : s1.heap.NoLimit) (hg : s1.gens = #[]) (ha : s1.heap.get? a = some { cls := .type "list", data := .seq vs.toArray }) (hi : IntsAre vs ns) (hl : ns.length ≤ sizeLine) (hr : Room k callerA)
    (hT : ∀ p ∈ cs, s1.heap.get? p.2.1 = some { cls := .none, data := .fields #[] }) (nT : ∀ p ∈ cs, K.lookup p.2.1 = none) (hC : ∀ p ∈ cs, PySem.W.CodeHd s1.heap p.1 p.2.1)
    (hbm : ∃ (bm : Addr) (ob : Obj), mg "__builtins__" = some (.ref bm) ∧ bm ≠ builtinsNs ∧ s1.heap.get? bm = some ob ∧ ob.cls = .type "module" ∧ ob.dict = some builtinsNs ∧ ob.data = .plain)
    (F : ∀ base : Heap, (∀ p ∈ cs, TabB base mg p.1 p.2.1) → FnG P w K mg base k fa fd [x] sp) (hbind : ∀ (s : Shared) (u : Value), BindsTo s fd ⟨[u], []⟩ [(x, u)]) (hx : ∃ y : sp.ty, sp.args y = [.scr K (ns.map V.int)] ∧ sp.ok y ∧ ∀ d, sp.rel y d → d = .bl true) :
    codeAny (model P w) callerA (.call (.ref fa) ⟨[.ref a], []⟩) (fun r s' => r = .ok (.ret (.bool true)) ∧ OldK s1.heap s'.heap ∧ s'.os = s1.os ∧ AllBare s'.gens) s1 := by
  obtain ⟨ts, ets⟩ : ∃ ts : List Addr, ts = cs.map fun p => p.2.1 := ⟨_, rfl⟩
  have memT : ∀ p ∈ cs, p.2.1 ∈ ts := fun p hp => by rw [ets]; exact List.mem_map.mpr ⟨p, hp, rfl⟩
  have ofT : ∀ b ∈ ts, ∃ p ∈ cs, p.2.1 = b := fun b hb => by rw [ets] at hb; exact List.mem_map.mp hb
  have rv := vals_ints hi
  have tabO : ∀ b ∈ ts, s1.heap.get? b = some { cls := .none, data := .fields #[] } := fun b hb => by
    obtain ⟨p, hp, e⟩ := ofT b hb
    rw [← e]; exact hT p hp
  have aT : a ∉ ts := fun z => by
    have q := tabO a z
    rw [ha] at q
    cases (show Data.seq vs.toArray _ = Data.fields #[] from congrArg Obj.data (Option.some.inj q))
  -- what is neither the script nor a table stands in the ground
  have grd : ∀ {b : Addr} {o : Obj}, s1.heap.get? b = some o → (∀ vs n, o.data ≠ .seq vs n) → o.data ≠ .fields #[] → (hidT s1.heap (headT K a vs ns ts)).get? b = some o := fun {b o} e h1 h2 => by
    have nb : b ∉ ts := fun z => by
      rw [tabO b z] at e; cases e
      exact h2 rfl
    refine hidT_get e ?_
    rw [headT_out nb]
    refine headH_none fun z => ?_
    rw [z, ha] at e; cases e
    exact h1 _ _ rfl
  have dictG : ∀ {b : Addr} {o : Obj} {es : Array DictEntry} {ep : Nat}, s1.heap.get? b = some o → o.data = .dict es ep → (hidT s1.heap (headT K a vs ns ts)).get? b = some o := fun e d =>
    grd e (fun _ _ z => by rw [d] at z; cases z) (fun z => by rw [d] at z; cases z)
  have nsK : ∀ {b : Addr} {m : Str → Option Value}, s1.heap.Ns b m → (hidT s1.heap (headT K a vs ns ts)).Ns b m := fun ⟨o, es, ep, e, d, r⟩ => ⟨o, es, ep, dictG e d, d, r⟩
  have nK : ∀ b ∈ ts, K.lookup b = none := fun b hb => by
    obtain ⟨p, hp, e⟩ := ofT b hb
    rw [← e]; exact nT p hp
  have kin : K.In (hidT s1.heap (headT K a vs ns ts)) := fun b o e => hidT_get (KX b o e) (by
    have nb : b ∉ ts := fun z => by rw [nK b z] at e; cases e
    rw [headT_out nb]
    exact if_neg fun z => by rw [z.1, z.2] at e; cases e)
  have hS : SqL K (headT K a vs ns ts) a (ns.map V.int) := by
    cases q : K.lookup a with
    | none => exact .inl (.inr ⟨_, (headT_out aT).trans (if_pos ⟨rfl, q⟩)⟩)
    | some o =>
      have e := KX a o q
      rw [ha] at e; cases e
      exact .inr ⟨_, vs.toArray, _, q, rfl, rfl, rfl, by rw [List.size_toArray, hi.length]; exact hl, by simpa using rv⟩
  have hok : HOk P w (headT K a vs ns ts) s1.heap := fun b u z => by
    by_cases hb : b ∈ ts
    · rw [headT_in hb] at z; cases z
      exact tabO b hb
    · rw [headT_out hb] at z
      by_cases q : b = a ∧ K.lookup a = none
      · have z' := (if_pos q).symm.trans z
        cases z'
        rw [q.1]
        exact ⟨ha, by rw [List.length_map]; exact hl, vs, _, rv, ha⟩
      · cases (if_neg q).symm.trans z
  have hM : Mod K mg (hidT s1.heap (headT K a vs ns ts)) := ⟨kin, nsK hns, ⟨mb, nsK hb, hbb⟩, hlim.imp fun mc h => ⟨nsK h.1, h.2⟩⟩
  have TB : ∀ p ∈ cs, TabB (hidT s1.heap (headT K a vs ns ts)) mg p.1 p.2.1 := fun p hp => by
    have hTp := hT p hp
    refine ⟨?_, ?_, fun z => ?_⟩
    · obtain ⟨o, us, file, tf, flags, tg, inF, text, tt, e1, r1, r2, r3, r⟩ := hC p hp
      refine ⟨o, us, file, tf, flags, tg, inF, text, tt, grd e1 (fun _ _ z => ?_) (fun z => ?_), r1, r2, r3, r⟩
      · rw [r2] at z; cases z
      · rw [r2] at z; cases z
        simp at r3
    · obtain ⟨bm, ob, b1, b2, b3, b4, b5, b6⟩ := hbm
      refine ⟨bm, ob, b1, b2, fun q => ?_, fun q => ?_, grd b3 (fun _ _ z => ?_) (fun z => ?_), b4, b5, b6⟩
      · obtain ⟨o, es, ep, e, hd, _⟩ := hns
        rw [q, e] at b3; cases b3
        rw [hd] at b6; cases b6
      · rw [q, hTp] at b3; cases b3
        cases b6
      · rw [b6] at z; cases z
      · rw [b6] at z; cases z
    · obtain ⟨o, es, ep, e, hd, _⟩ := hns
      rw [z, hTp] at e; cases e
      cases hd
  obtain ⟨y, e1, o1, r1⟩ := hx
  have tabI : ∀ p q, Tabs0.nm p = some q → p ∈ ts := fun p q z => by
    obtain ⟨c, hc, e⟩ := List.mem_map.mp (T.all p q z)
    cases e
    exact memT c hc
  have rS : Rep ⟨headT K a vs ns ts, fun b => b ∈ ts, fun b => b ∈ ts⟩ (.scr K (ns.map V.int)) (.ref a) := by
    refine ⟨a, rfl, ?_, tabI⟩
    rcases hS with (h | ⟨o, h⟩) | q
    · exact .inl ⟨_, h, aT, .inl rfl⟩
    · exact .inl ⟨_, h, aT, .inr ⟨o, rfl⟩⟩
    · exact .inr q
  have hsp : toSp sp [.ref a] (headT K a vs ns ts) (fun v _ => v = .bl true) (fun _ _ _ => False) := by
    refine ⟨y, fun _ => False, ⟨headT K a vs ns ts, fun b => b ∈ ts, fun b => b ∈ ts⟩, rfl, ⟨fun b h z => ?_, fun b h => h.elim, fun b h => ⟨h, fun z => z, ?_⟩⟩, by rw [e1]; exact RepL.one rS, o1, fun d v W' h _ _ rp => by rw [r1 d h] at rp; exact rp⟩
    · have z : headT K a vs ns ts b = none := z
      rw [headT_in h] at z; cases z
    · obtain ⟨p, hp, e⟩ := ofT b h
      have nm : Tabs0.nm b = some p.2.2 := by
        rw [← e]; exact T.sound (p.2.1, p.2.2) (List.mem_map.mpr ⟨p, hp, rfl⟩)
      unfold OwnAt
      rw [nm]
      exact TabS.nil (headT_in h)
  refine codeAny_mono ((F _ TB).2 callerA [] s1 _ ⟨[.ref a], []⟩ [.ref a] [.ref a] _ _ hr rfl ⟨rfl, hM, fun b o e => of_hidT e, Nat.le_of_eq (hidT_size _ _), trivial, fun b hb => absurd (show b ∈ ([] : List Addr) from hb) (by simp), hok, .of_eq hg⟩ (hbind s1 (.ref a)) (.cons rfl .nil) hsp) fun r s' h => ?_
  match r, h with
  | .error _, h => exact (show False from h).elim
  | .ok .next, h => exact (show False from h).elim
  | .ok .brk, h => exact (show False from h).elim
  | .ok .cont, h => exact (show False from h).elim
  | .ok (.ret u), ⟨v, H', os, bare, un, hok', r', q⟩ =>
    have q' : v = .bl true := q
    subst q'
    obtain rfl : u = Value.bool true := r'
    have key : ∀ b o, b ∉ ts → s1.heap.get? b = some o → s'.heap.get? b = some o := fun b o nb e => by
      by_cases c : b = a ∧ K.lookup a = none
      · have z : headT K a vs ns ts b = _ := (headT_out nb).trans (if_pos c)
        have e3 := (hok b _ z).1
        rw [e] at e3; cases e3
        exact (hok' b _ (un.frzs b _ _ z)).1
      · exact un.keep b o e ((headT_out nb).trans (if_neg c)) (by intro z; exact absurd (show b ∈ ([] : List Addr) from z) (by simp)) (by simp)
    have grown : ∀ b ∈ ts, ∃ more : Array Value, s'.heap.get? b = some { cls := .none, data := .fields more } := fun b hb => by
      obtain ⟨more, z⟩ := un.tbls b #[] (headT_in hb)
      exact ⟨_, hok' b _ z⟩
    refine ⟨rfl, ⟨fun b o e => ?_, fun b o e => ?_⟩, os, bare⟩
    · by_cases hb : b ∈ ts
      · obtain ⟨more, hm⟩ := grown b hb
        rw [tabO b hb] at e; cases e
        obtain ⟨p, hp, ep⟩ := ofT b hb
        have CT := (hC p hp).tab (hT p hp)
        rw [ep] at CT
        exact .inr (.inl ⟨CT.isCodeTable, rfl, #[], more, rfl, by rw [Array.empty_append]; exact hm⟩)
      · exact .inl (key b o hb e)
    · by_cases hb : b ∈ ts
      · obtain ⟨more, hm⟩ := grown b hb
        exact ⟨_, hm⟩
      · exact ⟨o, key b o hb e⟩
end
/-- the table of a def of the law's text is empty, its code object stands -/
def TabOf (K : PySem.W.Frag) (f : Addr) (h : Heap) : Prop := ∀ (c P : Addr) (o : Obj) (fd : FuncData) (e : Value) (dd : Option Addr) (vs : Array Value) (sl : Array (Option Value)), K.lookup f = some o → o.data = .func fd → fd.code = .ref c → K.lookup c = some ⟨e, dd, .fields vs, sl⟩ → vs[11]? = some (.ref P) →
  h.get? P = some { cls := .none, data := .fields #[] } ∧ PySem.W.CodeHd h c P
end Dw

/-! The end of a law with tables of code objects. -/
namespace Dw
open PySem PySem.Spec PyProof.Rows L2 LamX
/-- what the end must bring -/
def EndT (l : PySem.W.OpenLaw) (w : World) (K : PySem.W.Frag) (mg : Str → Option Value) (k : Nat) (fa : Addr) (x : Str) (h : Heap) (sp : Spc) : Prop :=
  ∃ (fd : FuncData) (I : Tabs0) (cs : List (Addr × Addr × Str)), (∀ (s : Shared) (u : Value), BindsTo s fd ⟨[u], []⟩ [(x, u)]) ∧ @TabsOk I (cs.map fun p => (p.2.1, p.2.2)) ∧ (∀ p ∈ cs, h.get? p.2.1 = some { cls := .none, data := .fields #[] }) ∧ (∀ p ∈ cs, K.lookup p.2.1 = none) ∧ (∀ p ∈ cs, PySem.W.CodeHd h p.1 p.2.1) ∧
    ∀ base : Heap, (∀ p ∈ cs, TabB base mg p.1 p.2.1) → @FnG I l.prog w K mg base k fa fd [x] sp
theorem walk_GT {l : PySem.W.OpenLaw} {k : Nat} {x : Str} {q : Program} {loose : List Str} {XP : (Str → Option Value) → Heap → Prop} {YP : World → Heap → Prop} {d : DefRec} {K : Params → PySem.W.Frag} {sp : PySem.W.Frag → Spc} (hn : l.most = some 63) (hdf : d.params.defaults = []) (hr : Room k callerA)
    (hY : ∀ (w : World) (h : Heap), YP w h → (K w.params).In h) (hsp : ∀ (K : PySem.W.Frag) (ns : List Int), ns.length ≤ 63 → (∀ z ∈ ns, Builtin.Int.intBits z ≤ 1048576) → ∃ y : (sp K).ty, (sp K).args y = [.scr K (ns.map V.int)] ∧ (sp K).ok y ∧ ∀ d, (sp K).rel y d → d = .bl true)
    (F : ∀ (w : World) (mg : Str → Option Value) (fa : Addr) (h : Heap), (K w.params).In h → h.Ns mainGlobals mg → mg d.name = some (.ref fa) → (∀ (y : Str) (f : Addr), ((recsOf q).any fun e => e.name == y) = true → mg y = some (.ref f) → TabOf (K w.params) f h) → EndT l w (K w.params) mg k fa x h (sp (K w.params))) :
    PySem.W.WalkO q loose XP YP l.row.toRowW d [] (fun f vs => PySem.call f vs) := by
  refine Att.attach_callB hn hdf fun w _ s1 mg mb fa _ _ _ _ a _ ns G Y _ _ _ hmg hobj hints hlen hbits hg => ?_
  have KX := hY w _ Y
  obtain ⟨fd, I, cs, hb, T, hT, nT, hC, hF⟩ := F w mg fa _ KX G.T.g hmg fun y f hy hm c P o1 fd1 e dd vs1 sl k1 k2 k3 k4 k5 => by
    obtain ⟨dL, hm1, hn1⟩ := List.any_eq_true.mp hy
    have hn2 : dL.name = y := beq_iff_eq.mp hn1
    obtain ⟨a', o', fd', c', P', h1, h2, h3, h4, h5, h6⟩ := G.T.tab dL hm1
    rw [hn2, hm] at h1; cases h1
    have g1 := KX _ _ k1
    rw [g1] at h2; cases h2
    rw [k2] at h3; cases h3
    rw [k3] at h4; cases h4
    have CH := PySem.W.CodeHd.of h5 h6
    obtain ⟨⟨oc, vc, e1, _, e3, e4⟩, hP⟩ := h6
    have g2 := KX _ _ k4
    rw [g2] at e1; cases e1
    cases e3
    rw [k5] at e4; cases e4
    exact ⟨hP, CH⟩
  exact @head_callT I _ _ _ _ _ _ _ _ _ _ _ _ _ _ cs T KX G.T.g G.T.b G.T.builtins G.T.nolimit hg hobj hints (Nat.le_trans hlen (by decide)) hr hT nT hC G.T.bmain hF hb (hsp _ ns hlen hbits)
end Dw

/-! What is told of an error's class, by a row of truth values. -/
namespace Dw
open PySem PySem.Spec PyProof.Rows L2 LamX
theorem TabsOk.uniq [Tabs0] {Tt : List (Addr × Str)} (T : TabsOk Tt) {P : Addr} {q : Str} (h : (P, q) ∈ Tt) : ∀ p ∈ Tt, p.1 = P → p.2 = q := fun p hp e => by
  have h1 := T.sound p hp
  have h2 := T.sound (P, q) h
  rw [e] at h1
  rw [h1] at h2
  exact Option.some.inj h2
end Dw

/-! [f for a in xs if p for b in ys if q]; all of whole numbers. -/
namespace Dw
open PySem PySem.Spec PyProof.Rows L2
variable [Tabs0]
/-- what is walked stands out of the reach of what changes -/
structure ItK (W : Wd) (J : It) (xs : List D) : Prop where
  go : ∀ (W1 : Wd) (i : Nat) (x : D), (∀ a u, W.H a = some u → ¬ W.U a → W1.H a = some u ∧ ¬ W1.U a) → W1.P = W.P → xs[i]? = some x → J.go i W1.H ∧ ∀ v H', J.yld i W1.H v H' → Same W1.H H' ∧ Rep (W1.at H') x v
  stop : ∀ (W1 : Wd), (∀ a u, W.H a = some u → ¬ W.U a → W1.H a = some u ∧ ¬ W1.U a) → J.stop xs.length W1.H
section
variable {K : PySem.W.Frag} {Γ : Gam} {t : TE} {ta : TA} {xs : List D}
end
section
variable {Γ : Gam} {wi wi1 : TI} {g g1 : TG} {tt tt1 : TT} {te : TE} {vs vs1 : List Nat}
end

/-! ### all of whole numbers -/
theorem int_range : ∀ is : List Int, (List.range is.length).all (fun j => (is.getD j 0) != 0) = is.all fun z => z != 0
  | [] => rfl
  | b :: bs => by
    rw [List.length_cons, List.range_succ_eq_map, List.all_cons, List.all_map, List.all_cons, ← int_range bs]
    all_goals rfl
theorem truth_ints {prog : Program} {w : World} {A : Around} {is : List Int} {its : List Value} (e : Vals (is.map V.int) its) :
    TruthOf prog w A (fun i v => its.toArray[i]? = some v) (fun i => (is.getD i 0) != 0) := fun i v s Q E hv hq => by
  have hv' : its[i]? = some v := by simpa using hv
  have key : ∀ {is : List Int} {its : List Value} {i : Nat} {v : Value}, Vals (is.map V.int) its → its[i]? = some v → ∃ t, v = .int (is.getD i 0) t := by
    intro is its i v h
    induction is generalizing its i with
    | nil => cases h; intro z; simp at z
    | cons z is ih =>
      cases h with
      | cons r1 r2 =>
        intro hz
        cases i with
        | zero =>
          obtain ⟨t, e⟩ := r1
          rw [List.getElem?_cons_zero] at hz
          exact ⟨t, by rw [← Option.some.inj hz, e]; rfl⟩
        | succ i =>
          obtain ⟨t, e⟩ := ih r2 (by simpa using hz)
          exact ⟨t, by rw [e]; rfl⟩
  obtain ⟨t, rfl⟩ := key e hv'
  have hq' : Q ((is.getD i 0) != 0) s := hq
  exact PySem.P.truthy_int hq'
def rAllI (K : PySem.W.Frag) : List V → Hp → VK → Prop := fun vs H Q => ∃ (a : Addr) (is : List Int), vs = [V.ref a] ∧ SqL K H a (is.map V.int) ∧ Q (.bl (is.all fun z => z != 0)) H
theorem cr_allI {X : Cx} (hc : X.calm = true) : CallR X (.builtin "all") (rAllI X.K) := by
  intro pins s σ H vs us Q I r h
  obtain ⟨a, is, rfl, hs, q⟩ := h
  obtain ⟨its, rv, hl, _⟩ := I.list hs
  rw [Vals.ref1 r]
  refine call_all_walk (iter_any hl.isList fun s₂ e2 st hne => ?_)
  subst e2
  refine ⟨_, _, _, _, _, _, _, rfl, Walks.list (A := X.A.in1) (I.ok.hd hc) _ a hne its.toArray, st, truth_ints rv, fun h' tk hk => ?_⟩
  refine ⟨.bl _, H, I.kept fun b o eo => hk b o (fun hmem => ?_) (Heap.get?_push_of_some _ eo), ?_, q⟩
  · rcases List.mem_cons.mp hmem with e1 | hmem
    · exact absurd (e1 ▸ Heap.lt_size eo) (Nat.lt_irrefl _)
    · cases hmem
  · show Value.bool _ = Value.bool _
    have hl2 : its.length = is.length := by rw [← rv.length, List.length_map]
    rw [← int_range, List.size_toArray, hl2]
theorem allIA (K : PySem.W.Frag) {X : Cx} (hc : X.calm = true := by rfl) (hK : X.K = K := by rfl) : CallR X (.builtin "all") (rAllI K) := hK ▸ cr_allI hc
theorem ev_allI {K : PySem.W.Frag} {Γ : Gam} {ta : TE} {is : List Int} (h : EvB ta Γ (is.map D.int)) : Ev (tCB (rAllI K) (tCons ta tNil)) Γ (.bl (is.all fun z => z != 0)) := fun F σ W Q g k => h F σ W _ g fun p vs H s e l => ⟨p, is, rfl, .of (by rw [e, RepL.ints.mp l]), k _ H s rfl⟩
/-! ### xs = [e, ..], a list of one's own that is drawn -/
end Dw

/-! max of a list; sorted of a tuple of whole numbers. -/
namespace Dw
open PySem PySem.Spec PyProof.Rows L2
variable [Tabs0]
section
variable {K : PySem.W.Frag} {Γ : Gam} {ta tb : TE}
end
end Dw

/-! Errors with a field: made, asked for their class and their field, shown. -/
namespace Dw
open PySem PySem.Spec PyProof.Rows L2 LamX
variable [Tabs0]
/-! ### X(given), where X's __init__ stores it -/
section
variable {P : Program} {w : World} {K : PySem.W.Frag} {mg : Str → Option Value} {base : Heap}
end
/-! ### raise X(e) -/
/-! ### asking the held error -/
section
variable {X : Cx} {a D0 : Addr} {oe : Obj} {ed : Option Addr}
end
end Dw

/-! Errors with fields, as told's suite reads them; repr of any data. -/
namespace Dw
open PySem PySem.Spec PyProof.Rows L2 LamX
variable [Tabs0]
/-! ### repr of any data -/
def rReprX (K : PySem.W.Frag) : List V → Hp → VK → Prop := fun xs H Q => ∃ (v : V) (d : PyData), xs = [v] ∧ Dp K H v d ∧ d.showable = true ∧ d.hasDict = false ∧ d.depth ≤ 64 ∧ d.shown.length ≤ sizeLine ∧ Q (.str d.shown) H
theorem cr_reprX {X : Cx} (hu : X.A.units + 66 < PySem.cLine) (hG : X.A.guards = some []) : CallR X (.builtin "repr") (rReprX X.K) := by
  intro pins s σ H xs us Q I r h
  obtain ⟨v, d, rfl, hd, h1, h2, h3, h4, q⟩ := h
  obtain ⟨u, rfl, ru⟩ := vals1 r
  cases d with
  | none =>
    cases hd
    obtain rfl : u = Value.none := ru
    exact P.repr_of_none ⟨.str _, H, I.tok _, ⟨_, rfl⟩, q⟩
  | bool b =>
    cases hd
    obtain rfl : u = Value.bool b := ru
    cases b
    · exact P.repr_of_bool ⟨.str _, H, I.tok _, ⟨_, rfl⟩, q⟩
    · exact P.repr_of_bool ⟨.str _, H, I.tok _, ⟨_, rfl⟩, q⟩
  | int i =>
    cases hd
    obtain ⟨t, rfl⟩ := ru
    exact P.repr_of_int (of_decide_eq_true h1) ⟨.str _, H, I.tok _, ⟨_, rfl⟩, q⟩
  | str x =>
    cases hd
    obtain ⟨t, rfl⟩ := ru
    exact P.repr_of_str ⟨.str _, H, I.tok _, ⟨_, rfl⟩, q⟩ h4
  | list ds =>
    cases hd with | lst e l => ?_
    cases ru
    obtain ⟨as, r1⟩ := Dp.reads I (.list ds) _ _ (.lst e l) rfl
    exact repr_of_reads' r1 h1 (PyData.noDict_hsm h2) hG (by omega) (fun _ _ e => e) (fun h' u tk hk => ⟨.str _, H, I.kept (t' := tk) hk, ⟨_, rfl⟩, q⟩) h4
  | tuple ds =>
    cases hd with | tup e l => ?_
    cases ru
    obtain ⟨as, r1⟩ := Dp.reads I (.tuple ds) _ _ (.tup e l) rfl
    exact repr_of_reads' r1 h1 (PyData.noDict_hsm h2) hG (by omega) (fun _ _ e => e) (fun h' u tk hk => ⟨.str _, H, I.kept (t' := tk) hk, ⟨_, rfl⟩, q⟩) h4
  | dict kv => cases hd
theorem reprX {X : Cx} {k : Nat} (K : PySem.W.Frag) (hr : Room k X.A) (hG : X.A.guards = some []) (hK : X.K = K := by rfl) : CallR X (.builtin "repr") (rReprX K) := hK ▸ cr_reprX (by have := hr.un; omega) hG
/-! ### held readings -/
section
variable {Γ : Gam} {x : Exn} {ed : Option Addr} {t tr : TA} {te ta tb : TE} {d : D} {ds es : List D} {K : PySem.W.Frag}
theorem rep_reprX {W : Wd} {k : Nat} {v : V} {Q : VK} (r : Rep W d v) (h1 : dOk k d = true) (hk : k ≤ 64) (h2 : shOk d = true) (h3 : shB d ≤ sizeLine) (q : Q (.str (PyData.shown (py d))) W.H) : rReprX K [v] W.H Q := by
  obtain ⟨p1, _, p3⟩ := dOk_py k _ h1
  obtain ⟨s1, s2⟩ := shOk_py _ h2
  exact ⟨v, _, rfl, dp_of d v p1 r, s1, s2, Nat.le_trans p3 hk, Nat.le_trans (shB_le k d h1) h3, q⟩
theorem ev_reprX {k : Nat} (h : Ev te Γ d) (h1 : dOk k d = true) (hk : k ≤ 64) (h2 : shOk d = true) (h3 : shB d ≤ sizeLine) : Ev (tCB (rReprX K) (tCons te tNil)) Γ (.str (PyData.shown (py d))) := fun F σ W Q g q =>
  h F σ W _ g fun v H s r => rep_reprX (W := W.at H) r h1 hk h2 h3 (q _ H s rfl)
theorem dl_reprX {Q : D → Gam → Prop} (h : Dl te Γ fun d Γ1 => (∃ k, k ≤ 64 ∧ dOk k d = true) ∧ shOk d = true ∧ shB d ≤ sizeLine ∧ Q (.str (PyData.shown (py d))) Γ1) : Dl (tCB (rReprX K) (tCons te tNil)) Γ Q := fun F σ W R g q =>
  h F σ W _ g fun v W1 d Γ1 s g1 r ⟨⟨k, hk, h1⟩, h2, h3, z⟩ => rep_reprX r h1 hk h2 h3 (q _ W1 (.str _) Γ1 s g1 rfl z)
end
end Dw

/-! x -= e; a = b = e. -/
namespace Dw
open PySem PySem.Spec PyProof.Rows L2
variable [Tabs0]
section
variable {Γ : Gam} {te : TE} {De : DE} {d : D}
end
end Dw

/-! A tuple of whole numbers in a list of such: in, index. -/
namespace Dw
open PySem PySem.Spec PyProof.Rows L2
variable [Tabs0]
def tupsD (l : List (List Nat)) : List D := l.map fun p => D.tup (ordN p)
theorem plain_ordN : ∀ o : List Nat, PyData.plainAll (pys (ordN o)) = true
  | [] => rfl
  | k :: o => by
    show (PyData.plain (.int k) && PyData.plainAll (pys (ordN o))) = true
    rw [plain_ordN o]; rfl
@[reducible] def dtT : PySem.W.Datum (List Nat) where
  toD o := py (.tup (ordN o))
  plain o := plain_ordN o
  eqv a b := eqv_ints a b
  depth := 1
  depth_le o := (dOk_py 1 (.tup (ordN o)) (dOks_map fun _ _ => rfl)).2.2
end Dw

/-! sorted of a list of tuples of whole numbers that stands in order; an expression read in one of two ways. -/
namespace Dw
open PySem PySem.Spec PyProof.Rows L2
variable [Tabs0]
def intN (o : List Nat) : List Int := o.map fun k : Nat => (k : Int)
theorem ordN_ints (o : List Nat) : ordN o = (intN o).map D.int := by unfold ordN intN; rw [List.map_map]; rfl
theorem rep_key {W : Wd} {o : List Nat} {v : V} (h : Rep W (.tup (ordN o)) v) : ∃ p, v = .ref p ∧ TupAt W.H p ((intN o).map V.int) := by
  obtain ⟨p, vs, eu, e, nu, l⟩ := h
  rw [ordN_ints] at l
  rw [RepL.ints.mp l] at e
  exact ⟨p, eu, e⟩
end Dw

/-! x, ys, zs = e, [..], [..] where ys and zs are one's own. -/
namespace Dw
open PySem PySem.Spec PyProof.Rows L2
variable [Tabs0]
theorem own_setV {Γ : Gam} {σ : L2.St} {a : Addr} {i : Nat} {d : D} {v : Option V} (h : ¬ ownA Γ σ a) : ¬ ownA (Γ.set i (.val d)) (σ.set i v) a := fun ⟨k, fs, e1, e2⟩ => by
  by_cases hk : k = i
  · rw [hk] at e1
    have hl : i < (Γ.set i (Sl.val d)).length := (List.getElem?_eq_some_iff.mp e1).1
    rw [List.length_set] at hl
    rw [List.getElem?_set_self hl] at e1
    cases e1
  · rw [List.getElem?_set_ne (Ne.symm hk)] at e1 e2
    exact h ⟨k, fs, e1, e2⟩
end Dw

/-! sorted of alike data; sorted(xs, key=lambda x: (len(x), x)) of tuples of whole numbers. -/
namespace Dw
open PySem PySem.Spec PyProof.Rows L2 LamX
section
variable {X : Cx} {pins : List (Addr × Obj)} {σ : L2.St} {H : Hp} {s : Shared} {β : Type}
theorem each_vals {g : β → V} : ∀ {bs : List β} {its : List Value}, Vals (bs.map g) its → PySem.W.EachIs (fun v b => RelV (g b) v) its bs
  | [], _, .nil => .nil
  | _ :: _, _, .cons r rs => .cons r (each_vals rs)
theorem vals_each {g : β → V} : ∀ {bs : List β} {its : List Value}, PySem.W.EachIs (fun v b => RelV (g b) v) its bs → Vals (bs.map g) its
  | _, _, .nil => .nil
  | _, _, .cons r rs => .cons r (vals_each rs)
theorem each_reads (I : Inv X pins σ H s) : ∀ {bs : List (V × PyData)} {its : List Value}, PySem.W.EachIs (fun v (b : V × PyData) => RelV b.1 v) its bs → (∀ b ∈ bs, Dp X.K H b.1 b.2) → PySem.W.EachIs (fun v (b : V × PyData) => ∃ as, Reads s.heap v b.2 as) its bs
  | _, _, .nil, _ => .nil
  | b :: _, _, .cons r rs, h => .cons (Dp.reads I b.2 b.1 _ (h b List.mem_cons_self) r) (each_reads I rs fun c hc => h c (List.mem_cons_of_mem _ hc))
end
/-- sorted(xs), xs a list of alike data: a new list in order -/
def rSortD (K : PySem.W.Frag) : List V → Hp → VK → Prop := fun vs H Q => ∃ (a : Addr) (bs : List (V × PyData)), vs = [V.ref a] ∧ SqL K H a (bs.map (·.1)) ∧ (∀ b ∈ bs, Dp K H b.1 b.2) ∧ PySem.W.AllAlike (bs.map (·.2)) ∧ PySem.W.Sortable (bs.map (·.2)) ∧ (∀ b ∈ bs, b.2.depth ≤ 20) ∧
  ∀ p, H p = none → Q (.ref p) (upd H p (.lst ((bs.mergeSort (PySem.W.dataLe false (·.2))).map (·.1))))
theorem cr_sortD {X : Cx} (hu : X.A.units + 64 < cLine) : CallR X (.builtin "sorted") (rSortD X.K) := by
  intro pins s σ H vs us Q I r h
  obtain ⟨a, bs, rfl, hs, hD, hal, hsk, hdp, q⟩ := h
  obtain ⟨its, rv, hl, hz⟩ := I.list hs
  rw [Vals.ref1 r]
  have e := each_vals (g := fun b : V × PyData => b.1) rv
  refine PySem.W.sorted_data (enc := fun b : V × PyData => b.2) hl.isList e (each_reads I e hD) hal hsk (by rw [List.length_map] at hz; exact hz) (fun b hb => ?_) fun out ho eo => ?_
  · have := hdp b hb
    omega
  · obtain ⟨ep, he'⟩ := PyProof.Rows.sortedAll_at s.heap its (List.toArray out)
    have hlen : ((bs.mergeSort (PySem.W.dataLe false (·.2))).map (·.1)).length ≤ sizeLine := by
      rw [List.length_map, List.length_mergeSort]; rw [List.length_map] at hz; exact hz
    exact ⟨.ref _, upd H (s.heap.objs.size + 1) (.lst ((bs.mergeSort (PySem.W.dataLe false (·.2))).map (·.1))), I.laid (t' := s.toks) (fun _ _ => PyProof.Rows.sortedAll_old) (Nat.le_succ _) ⟨hlen, out, ep, vals_each eo, he'⟩, rfl, q _ (I.hok.fresh (Nat.le_succ _))⟩
/-! ### key=lambda x: (len(x), x) -/
def lenKey (ns : List Int) : PyData := .tuple [.int ns.length, .tuple (ns.map .int)]
theorem reads_ints {h : Heap} : ∀ {ns : List Int} {us : List Value}, Vals (ns.map V.int) us → ReadsAll h us (ns.map .int) []
  | [], _, .nil => .nil
  | n :: ns, _, .cons ⟨t, e⟩ rs => by
    subst e
    exact .cons (as := []) (bs := []) (.int n t) (reads_ints rs)
section
variable {X : Cx} {pins : List (Addr × Obj)} {σ : L2.St} {H : Hp} {s : Shared}
theorem lam_key_run {a qual : Str} {params : Arguments} {scope : Scope} {p1 p2 p3 p4 p5 : Pos} {cx : Nat} {f c' p : Addr} {pm ctv : Value} {A : Around} {ns : List Int} (I : Inv X pins σ H s)
    (hA : A.depth < recursionLimit)
    (hf : s.heap.get? f = some (PySem.W.kla_obj "<lambda>" qual params (.Tuple [.Call (.Name "len" p1) [.Name a p2] [] p3, .Name a p4] cx p5) scope [] pm c' ctv)) (hco : H c' = some (CodeO c' qual)) (ht : SqT X.K H p (ns.map V.int))
    (hbind : ∀ v, bindArgs (PySem.W.kla_fn "<lambda>" qual params (.Tuple [.Call (.Name "len" p1) [.Name a p2] [] p3, .Name a p4] cx p5) scope [] pm (.ref c') ctv) ⟨[v], []⟩ = pure [(a, v)])
    (kd : scope.kind = .function) (co : scope.isCoroutine = false) (gen : scope.isGenerator = false) (hcell : ∀ y ∈ scope.names, y.2 ≠ .cell) (hloc : scope.names.lookup a = some .local) (hlen : scope.names.lookup ("len" : Str) = some NameKind.globalImplicit) (hml : X.mg "len" = none)
    (hd : (a == ("__debug__" : Str)) = false := by decide) :
    wpAny (model X.prog X.w) A (call (.ref f) [.ref p]) (PySem.W.KeyPure (lenKey ns) s) (fun _ _ => False) s := by
  obtain ⟨⟨oc, vs, t, hoc, hdc, hvc⟩, _, _⟩ := I.hok c' _ hco
  obtain ⟨its, rv, hT, hz⟩ := I.tuple ht
  have hlen' := rv.length
  rw [List.length_map] at hlen' hz
  have hn := line63
  refine wpAny_call (PySem.W.kla_callFunE hA hf rfl co gen rfl ⟨c', oc, vs, t, rfl, hoc, hdc, hvc⟩ ?_)
  rw [hbind]
  refine wpAny_pure (wpAny_newFunctionEnv hcell (fun y hy => by rw [List.mem_singleton.mp hy]; exact hloc) (fun h₁ hns hsb => ⟨I.nolimit.fresh _ hsb, ?_⟩) kd)
  show codeAny _ _ (.expr _ (PySem.W.envX qual scope s.heap.objs.size f (.ref c') [])) _ _
  have kp : ∀ b o, s.heap.get? b = some o → h₁.get? b = some o := fun b o e => hsb.extBut b o (Nat.ne_of_lt (Heap.lt_size e)) (Heap.get?_push_of_some _ e)
  have hT1 : IsTup h₁ p its.toArray := let ⟨o, ho, r⟩ := hT; ⟨o, kp _ _ ho, r⟩
  have nm : ∀ {E : Value → Shared → Prop} {Q : Value → Shared → Prop} {A : Around} {tk : Nat} {g : Heap} {pz : Pos}, g.Ns s.heap.objs.size (fun x => [(a, Value.ref p)].reverse.lookup x) → Q (.ref p) { s with heap := g, toks := tk } →
      wpAny (model X.prog X.w) A (eval (.Name a pz) (PySem.W.envX qual scope s.heap.objs.size f (.ref c') [])) Q E { s with heap := g, toks := tk } := fun {E Q A tk g pz} hg hq =>
    wpAny_Name (wpAny_loadName_local kd hloc hg (by simp) hq) hd
  obtain ⟨mb, b1, b2⟩ := I.mod.blt
  have old : ∀ b o, X.base.get? b = some o → h₁.get? b = some o := fun b o e => kp _ _ (I.bk b o e)
  refine PySem.W.kla_codeExpr (wpAny_Tuple_spliced ?_)
  show wpAny _ _ (spliced ((false, eval (.Call (.Name "len" p1) [.Name a p2] [] p3) _) :: (false, eval (.Name a p4) _) :: [])) _ _ _
  refine Calls.spliced_cons (wpAny_Call_Name_kw (Calls.Name_function_global kd hlen (Calls.loadGlobal_builtin (I.mod.glob.keeps old) hml (b1.keeps old) ((b2 "len" (by decide)).trans rfl) ?_) (by decide)))
  refine PyProof.Rows.callWith_builtin1 (e := .Name a p2) (rest := []) (Calls.spliced_cons (nm hns (Calls.spliced_nil ?_))) rfl rfl
  refine PyProof.Rows.len_tuple hT1 (by simp only [List.size_toArray] <;> omega) ?_
  refine Calls.spliced_cons (nm hns (Calls.spliced_nil ⟨show 2 ≤ sizeLine by decide, ?_⟩))
  refine ⟨_, _, rfl, fun b o e => Heap.get?_push_of_some _ (kp b o e), ?_⟩
  obtain ⟨o, ho, hc, n, hdt⟩ := hT1
  refine Reads.tuple (as := []) (Heap.get?_push_size _ rfl) rfl rfl (ReadsAll.cons (as := []) (bs := []) ?_ (ReadsAll.cons (as := []) (bs := []) ?_ .nil))
  · rw [show its.toArray.size = ns.length by rw [List.size_toArray, hlen']]
    exact .int _ _
  · exact Reads.tuple (Heap.get?_push_of_some _ ho) hc hdt (by simpa using reads_ints rv)
end

theorem sqt_ext {K : PySem.W.Frag} {H H1 : Hp} {p : Addr} {xs : List V} (e : ExtN H H1) (h : SqT K H p xs) : SqT K H1 p xs := by
  rcases h with (h | ⟨o, h⟩) | h
  · exact .inl (.inl (e _ _ h fun _ z => nomatch z))
  · exact .inl (.inr ⟨o, e _ _ h fun _ z => nomatch z⟩)
  · exact .inr h
theorem sql_ext {K : PySem.W.Frag} {H H1 : Hp} {p : Addr} {xs : List V} (e : ExtN H H1) (h : SqL K H p xs) : SqL K H1 p xs := by
  rcases h with (h | ⟨o, h⟩) | h
  · exact .inl (.inl (e _ _ h fun _ z => nomatch z))
  · exact .inl (.inr ⟨o, e _ _ h fun _ z => nomatch z⟩)
  · exact .inr h
/-- sorted(xs, key=lambda x: (len(x), x)) -/
def tSortKL (K : PySem.W.Frag) (T : List (Addr × Str)) (P : Addr) (q : Str) (t : TE) : TE := fun σ H Q => t σ H fun v H0 => ∃ (a : Addr) (bs : List (V × List Int)), v = .ref a ∧ SqL K H0 a (bs.map (·.1)) ∧ (∀ b ∈ bs, ∃ p, b.1 = .ref p ∧ SqT K H0 p (b.2.map V.int)) ∧ Tabs T H0 ∧
  ∀ H1, Chg P q H0 H1 → Tabs T H1 → ∀ p, H1 p = none → Q (.ref p) (upd H1 p (.lst ((bs.mergeSort (PySem.W.dataLe false (fun b : V × List Int => lenKey b.2))).map (·.1))))
theorem key_alike (bs : List (V × List Int)) : PySem.W.AllAlike (bs.map fun b => lenKey b.2) := by
  refine PySem.W.AllAlike.of fun b b' => ?_
  have e := PySem.W.alike_ints b.2 b'.2
  show PySem.W.alike (.tuple [.int _, .tuple _]) (.tuple [.int _, .tuple _]) = true
  simp [PySem.W.alike, PySem.W.alikeAll, e]
theorem pe_sortKL {X : Cx} {T : List (Addr × Str)} {te : TE} {e : Expr} {a : Str} {c P : Addr} {params : Arguments} {scope : Scope} {p pos lpos kpos p1 p2 p3 p4 p5 : Pos} {cx : Nat} (he : PE X e te) (hg : Gl X "sorted") (hm : X.mg "sorted" = none) (hml : X.mg "len" = none)
    (TB : TabB X.base X.mg c P) (hcode : X.env.code = .ref c) (hmT : (P, X.env.qual ++ "<lambda>") ∈ T) (hu : ∀ p ∈ T, p.1 = P → p.2 = X.env.qual ++ "<lambda>") (hr : Room 1 X.A) (hdef : defaultsOf params X.env = ([], []))
    (hclo : cloFrom X.env.cells scope.names [] = []) (hfree : ∀ y ∈ scope.names, y.2 ≠ .free)
    (hbind : ∀ (q : Str) (cl : List (Str × Addr)) (pm cv ctv v : Value), bindArgs (PySem.W.kla_fn "<lambda>" q params (.Tuple [.Call (.Name "len" p1) [.Name a p2] [] p3, .Name a p4] cx p5) scope cl pm cv ctv) ⟨[v], []⟩ = pure [(a, v)])
    (kd : scope.kind = .function) (co : scope.isCoroutine = false) (gen : scope.isGenerator = false) (hcell : ∀ y ∈ scope.names, y.2 ≠ .cell) (hloc : scope.names.lookup a = some .local) (hlen : scope.names.lookup ("len" : Str) = some NameKind.globalImplicit)
    (hd : (a == ("__debug__" : Str)) = false := by decide) (hse : starEach [e] X.env = [(false, eval e X.env)] := by rfl) :
    PE X (.Call (.Name "sorted" p) [e] [⟨some "key", .Lambda params (.Tuple [.Call (.Name "len" p1) [.Name a p2] [] p3, .Name a p4] cx p5) scope lpos, kpos⟩] pos) (tSortKL X.K T P (X.env.qual ++ "<lambda>") te) := by
  refine ⟨fun pins s σ H Q I h => ?_⟩
  refine wpAny_Call_Name_kw (ld_blt (u := .builtin "sorted") I hg hm (by decide +kernel) ?_)
  refine PyProof.Rows.callWith_kw (e := e) (rest := []) ?_ (by rw [hse]; rfl) (by rw [hse]; rfl) rfl rfl
  rw [hse]
  show wpAny _ _ (spliced [(false, eval e X.env)]) _ _ s
  refine Calls.spliced_cons (thn (he.run pins s σ H _ I h) fun u s1 ⟨v, H0, I1, r1, q1⟩ => Calls.spliced_nil ?_)
  obtain ⟨l, bs, rfl, hs, hb, hT, q⟩ := q1
  obtain rfl : u = Value.ref l := r1
  show wpAny _ _ (evalAll [do let v ← eval (.Lambda params _ scope lpos) X.env; standAt pos; pure v]) _ _ s1
  refine wpAny_evalAll_cons (wpAny_bind (lam_make3 I1 TB hcode hmT hu hT hdef (fun y hy z => absurd z (hfree y hy)) fun f c' pm ctv H1 s2 I2 cg T1 hf hfn hfr hco => wpAny_bind (wpAny_standAt (wpAny_pure (wpAny_evalAll_nil ?_)))))
  rw [hclo] at hf
  show wpAny _ _ (call (.builtin "sorted") [.ref l] [(Str.ofString "key", .ref f)]) _ _ s2
  have ext := cg.ext
  obtain ⟨its, rv, hl, hz⟩ := I2.list (sql_ext ext hs)
  have hz' : bs.length ≤ sizeLine := by rw [List.length_map] at hz; exact hz
  have ee := each_vals (g := fun b : V × List Int => b.1) rv
  have hu2 := hr.un
  refine PySem.W.sorted_key_data (b := false) (fun b : V × List Int => lenKey b.2) hl.isList ee (key_alike bs) (PySem.W.Sortable.tuples fun _ => ⟨_, _, rfl⟩) hz' (fun b _ => ?_) (PyProof.Rows.ksk_s1 _ _) (fun _ => PyProof.Rows.ksk_l1 _ _) (fun _ => PyProof.Rows.ksk_t1 _ _) (fun v b hR hbm h tk kp => ?_) fun out c h' tk kp hnone hD hol eo => ?_
  · have hd : (lenKey b.2).depth ≤ 2 := by
      have := PySem.W.depth_ints b.2
      simp only [lenKey, PyData.depth, PyData.depthAll]
      omega
    omega
  · obtain ⟨p, ep, hp⟩ := hb b hbm
    rw [ep] at hR
    obtain rfl : v = Value.ref p := hR
    exact lam_key_run (I2.kept (t' := tk) kp) (show X.A.depth < _ from hr.depth) (kp f _ hf) hco (sqt_ext ext hp) (fun v => hbind _ _ _ _ _ v) kd co gen hcell hloc hlen hml hd
  · have hlen2 : ((bs.mergeSort (PySem.W.dataLe false (fun b : V × List Int => lenKey b.2))).map (·.1)).length ≤ sizeLine := by
      rw [List.length_map, List.length_mergeSort]; exact hz'
    exact ⟨.ref _, upd H1 (s2.heap.objs.size + 1) (.lst ((bs.mergeSort (PySem.W.dataLe false (fun b : V × List Int => lenKey b.2))).map (·.1))), I2.laid (t' := tk) kp (Nat.le_succ _) ⟨hlen2, out, c, vals_each eo, hD⟩, rfl, q H1 cg T1 _ (I2.hok.fresh (Nat.le_succ _))⟩
end Dw

/-! Tagged data (what stands beside it: all tables may change); sorted lots by data. -/
namespace Dw
open PySem PySem.Spec PyProof.Rows L2 LamX
variable [Tabs0]
/-! ### tags -/
section
variable {Γ : Gam} {t : TE} {d e : D} {i : Nat} {Q : D → Gam → Prop}
def TabIn (W : Wd) : Prop := ∀ p q, Tabs0.nm p = some q → W.P p
/-- a slot that knows of the tables -/
def TgS (s : Sl) : Prop := s = .val .purse ∨ ∃ d, s = .val (.tag d)
theorem TgS.purse : TgS (.val .purse) := .inl rfl
theorem TgS.tag {d : D} : TgS (.val (.tag d)) := .inr ⟨d, rfl⟩
theorem SR.tabs {F : Addr → Prop} {Γ : Gam} {σ : L2.St} {W : Wd} {s : Sl} (g : SR F Γ σ W) (h : Γ[i]? = some s) (ht : TgS s) : TabIn W := by
  rcases ht with rfl | ⟨d, rfl⟩
  · obtain ⟨_, _, _, _, _, _, t⟩ := g.val i .purse h
    exact t
  · obtain ⟨_, _, _, t⟩ := g.val i (.tag d) h
    exact t
theorem ev_untag (h : Ev t Γ (.tag d)) : Ev t Γ d := fun F σ W Q g k => h F σ W Q g fun v H s r => k v H s r.1
theorem ev_tag {s : Sl} (hs : Γ[i]? = some s) (ht : TgS s) (h : Ev t Γ d) : Ev t Γ (.tag d) := fun F σ W Q g k => h F σ W Q g fun v H s r => k v H s ⟨r, g.tabs hs ht⟩
end
/-! ### the order of lots -/
def lotLe (a b : List Nat) : Bool := decide (a.length < b.length ∨ (a.length = b.length ∧ a ≤ b))
theorem intN_lt : ∀ a b : List Nat, intN a < intN b ↔ a < b
  | [], [] => by constructor <;> intro h <;> exact absurd h (List.lt_irrefl _)
  | [], y :: ys => by
    show (([] : List Int) < (y : Int) :: intN ys) ↔ _
    simp
  | x :: xs, [] => by
    show ((x : Int) :: intN xs < []) ↔ _
    simp
  | x :: xs, y :: ys => by
    show ((x : Int) :: intN xs < (y : Int) :: intN ys) ↔ _
    rw [List.cons_lt_cons_iff, List.cons_lt_cons_iff, intN_lt xs ys, Int.ofNat_lt, Int.ofNat_inj]
theorem intN_len (a : List Nat) : (intN a).length = a.length := List.length_map ..
theorem pys_intN : ∀ a : List Nat, (intN a).map PyData.int = pys (ordN a)
  | [] => rfl
  | x :: xs => congrArg (PyData.int (x : Int) :: ·) (pys_intN xs)
theorem key_le (v w : V) (a b : List Nat) : PySem.W.dataLe false (fun b : V × List Int => lenKey b.2) (v, intN a) (w, intN b) = lotLe a b := by
  show (!PySem.W.dataLt (.tuple [.int (intN b).length, .tuple ((intN b).map .int)]) (.tuple [.int (intN a).length, .tuple ((intN a).map .int)])) = _
  rw [PySem.W.dataLt_pair (by simp [PySem.W.alike]) (by rw [PySem.W.alike]; exact PySem.W.alike_ints _ _), PySem.W.dataLt_int, PySem.W.dataLt_tuple]
  have e1 : PyData.eqv (.int (intN b).length) (.int (intN a).length) = decide (b.length = a.length) := by
    show (((intN b).length : Int) == ((intN a).length : Int)) = _
    rw [intN_len, intN_len, Bool.eq_iff_iff, beq_iff_eq, decide_eq_true_eq, Int.ofNat_inj]
  have e2 : PyData.eqv (.tuple ((intN b).map .int)) (.tuple ((intN a).map .int)) = decide (b = a) := by
    show PyData.eqvAll _ _ = _
    rw [pys_intN, pys_intN, eqv_ints]
  rw [e1, e2]
  have e3 : PyProof.Rows.lexLt itemOrd (PySem.W.keyToksAll ((intN b).map .int)) (PySem.W.keyToksAll ((intN a).map .int)) = decide (b < a) := by
    rw [show PyProof.Rows.lexLt itemOrd (PySem.W.keyToksAll ((intN b).map .int)) (PySem.W.keyToksAll ((intN a).map .int)) = PySem.W.rowLt ((intN b).map .int) ((intN a).map .int) from rfl, PySem.W.dataLt_ints]
    exact decide_eq_decide.mpr (intN_lt b a)
  rw [e3]
  unfold lotLe
  rw [intN_len, intN_len]
  by_cases h1 : b.length = a.length
  · rw [if_pos (decide_eq_true h1)]
    by_cases h2 : b = a
    · rw [if_pos (decide_eq_true h2), h2]
      simp
    · rw [if_neg (by simpa using h2)]
      by_cases h3 : b < a
      · have : ¬ a ≤ b := fun z => List.not_lt.mpr z h3
        simp [h1, h3, this]
      · have : a ≤ b := List.not_lt.mp h3
        simp [h1, h3, this]
  · rw [if_neg (by simpa using h1)]
    have e4 : PySem.W.dataLt (.int b.length) (.int a.length) = decide (b.length < a.length) := by
      rw [PySem.W.dataLt_int]
      exact decide_eq_decide.mpr Int.ofNat_lt
    rw [Bool.eq_iff_iff]
    simp only [Bool.not_eq_true', decide_eq_false_iff_not, decide_eq_true_eq]
    omega
theorem lotLe_trans (a b c : List Nat) : lotLe a b = true → lotLe b c = true → lotLe a c = true := by
  unfold lotLe
  simp only [decide_eq_true_eq]
  rintro (h | ⟨h, h'⟩) (k | ⟨k, k'⟩)
  · exact .inl (by omega)
  · exact .inl (by omega)
  · exact .inl (by omega)
  · exact .inr ⟨by omega, List.le_trans h' k'⟩
theorem lotLe_total (a b : List Nat) : (lotLe a b || lotLe b a) = true := by
  unfold lotLe
  simp only [Bool.or_eq_true, decide_eq_true_eq]
  rcases Nat.lt_trichotomy a.length b.length with h | h | h
  · exact .inl (.inl h)
  · rcases List.le_total a b with k | k
    · exact .inl (.inr ⟨h, k⟩)
    · exact .inr (.inr ⟨h.symm, k⟩)
  · exact .inr (.inl h)
theorem lotLe_anti {a b : List Nat} (h : lotLe a b = true) (k : lotLe b a = true) : a = b := by
  unfold lotLe at h k
  simp only [decide_eq_true_eq] at h k
  rcases h with h | ⟨h, h'⟩ <;> rcases k with k | ⟨k, k'⟩
  · omega
  · omega
  · omega
  · exact List.le_antisymm h' k'
/-! ### what is sorted, as data -/
theorem repL_pairs {α : Type} {W : Wd} {c : α → D} : ∀ {zs : List (V × α)}, (∀ z ∈ zs, Rep W (c z.2) z.1) → RepL W (zs.map fun z => c z.2) (zs.map fun z => z.1)
  | [], _ => rfl
  | z :: zs, h => ⟨z.1, _, rfl, h z List.mem_cons_self, repL_pairs fun y hy => h y (List.mem_cons_of_mem _ hy)⟩
theorem pairs_rep {α : Type} {W : Wd} {c : α → D} : ∀ {l : List α} {vs : List V}, RepL W (l.map c) vs → ∀ z ∈ vs.zip l, Rep W (c z.2) z.1
  | [], _, _, z, hz => by simp at hz
  | a :: l, _, ⟨v, r, e, h1, h2⟩, z, hz => by
    rw [e, List.zip_cons_cons] at hz
    rcases List.mem_cons.mp hz with rfl | hz
    · exact h1
    · exact pairs_rep h2 z hz
theorem zip_fst {α : Type} {W : Wd} {c : α → D} {l : List α} {vs : List V} (h : RepL W (l.map c) vs) : (vs.zip l).map (·.1) = vs ∧ (vs.zip l).map (·.2) = l := by
  have e := h.length
  rw [List.length_map] at e
  exact ⟨List.map_fst_zip (by omega), List.map_snd_zip (by omega)⟩
/-- a list of pairs sorted by what stands for the second -/
theorem sort_rep {α β : Type} {W : Wd} {c : α → D} {l : List α} {vs : List V} {f : α → β} {r : V × β → V × β → Bool} {le : α → α → Bool} (h : RepL W (l.map c) vs) (hr : ∀ v w a b, r (v, f a) (w, f b) = le a b) :
    RepL W ((l.mergeSort le).map c) ((((vs.zip l).map fun z => (z.1, f z.2)).mergeSort r).map (·.1)) := by
  have e1 : ((vs.zip l).map fun z => (z.1, f z.2)).mergeSort r = ((vs.zip l).mergeSort fun y z => le y.2 z.2).map fun z => (z.1, f z.2) :=
    (List.map_mergeSort (f := fun z : V × α => (z.1, f z.2)) (s := r) (r := fun y z => le y.2 z.2) fun a _ b _ => (hr _ _ _ _).symm).symm
  have e2 : ((vs.zip l).mergeSort fun y z => le y.2 z.2).map (·.2) = l.mergeSort le := by
    rw [List.map_mergeSort (s := le) fun a _ b _ => rfl, (zip_fst h).2]
  rw [e1, List.map_map, ← e2, List.map_map]
  exact repL_pairs fun z hz => pairs_rep h z ((List.mergeSort_perm _ _).mem_iff.mp hz)
section
variable {K : PySem.W.Frag} {Γ : Gam} {Tt : List (Addr × Str)} {P : Addr} {q : Str} {i : Nat} {te : TE} {l : List (List Nat)} {Q : D → Gam → Prop}
/-- sorted(lots, key=lambda lot: (len(lot), lot)) -/
theorem dl_sortKL {s : Sl} (T : TabsOk Tt) (hP : (P, q) ∈ Tt) (hs : Γ[i]? = some s) (ht : TgS s) (h : EvB te Γ (tupsD l)) (hq : Q (.lst (tupsD (l.mergeSort lotLe))) Γ) : Dl (tSortKL K Tt P q te) Γ Q := fun F σ W R g k =>
  h F σ W _ g fun a vs H st e r => by
    have g0 : SR F Γ σ (W.at H) := g.same st
    have tb : TabIn (W.at H) := g.tabs hs ht
    refine ⟨a, (vs.zip l).map fun z => (z.1, intN z.2), rfl, .of ?_, fun b hb => ?_, tabs_of g0.ok T tb, fun H1 c T1 p hp => ?_⟩
    · rw [List.map_map]
      exact ((zip_fst r).1.symm ▸ e : H a = some (.lst ((vs.zip l).map (·.1))))
    · obtain ⟨z, hz, rfl⟩ := List.mem_map.mp hb
      obtain ⟨p, ep, hp⟩ := rep_key (pairs_rep r z hz)
      exact ⟨p, ep, hp.sq⟩
    · obtain ⟨st1, g1⟩ := g0.chg T hP tb c T1
      have g1 : SR F Γ σ (W.at H1) := g1
      have r1 : RepL (W.at H1) (tupsD l) vs := r.stp st1
      have r2 := sort_rep (f := intN) (r := PySem.W.dataLe false (fun b : V × List Int => lenKey b.2)) (le := lotLe) r1 key_le
      have sm := same_upd (H := H1) (o := .lst ((((vs.zip l).map fun z => (z.1, intN z.2)).mergeSort (PySem.W.dataLe false (fun b : V × List Int => lenKey b.2))).map (·.1))) hp
      exact k (.ref p) (W.at (upd H1 p _)) _ Γ (((Stp.of_same g.ok st).trans st1).trans (Stp.of_same (W := W.at H1) g1.ok sm)) (SR.same (W := W.at H1) sm g1) (rep_new_lst (W := W.at H1) g1.ok.dom hp r2) hq
end
/-! ### sorted of alike data -/
theorem ev_sortD {K : PySem.W.Frag} {Γ : Gam} {ta : TE} {α : Type} {c : α → D} {l : List α} {le : α → α → Bool} (h : EvB ta Γ (l.map c)) (hp : ∀ a ∈ l, isPy (c a) = true) (hal : PySem.W.AllAlike (l.map fun a => py (c a))) (hsk : PySem.W.Sortable (l.map fun a => py (c a))) (hd : ∀ a ∈ l, (py (c a)).depth ≤ 20)
    (hle : ∀ a b, PySem.W.dataLe false (fun a => py (c a)) a b = le a b) : EvN (tCB (rSortD K) (tCons ta tNil)) Γ ((l.mergeSort le).map c) := fun F σ W Q g k =>
  h F σ W _ g fun a vs H s e r => by
    have g0 : SR F Γ σ (W.at H) := g.same s
    have es : ((vs.zip l).map fun z => (z.1, py (c z.2))).map (·.2) = l.map fun a => py (c a) := by
      have z : ((vs.zip l).map (·.2)).map (fun a => py (c a)) = l.map fun a => py (c a) := by rw [(zip_fst r).2]
      rw [← z, List.map_map, List.map_map]; rfl
    refine ⟨a, (vs.zip l).map fun z => (z.1, py (c z.2)), rfl, .of ?_, fun b hb => ?_, by rw [es]; exact hal, by rw [es]; exact hsk, fun b hb => ?_, fun p hn => ?_⟩
    · rw [List.map_map]
      exact ((zip_fst r).1.symm ▸ e : H a = some (.lst ((vs.zip l).map (·.1))))
    · obtain ⟨z, hz, rfl⟩ := List.mem_map.mp hb
      exact dp_of _ _ (hp _ (List.of_mem_zip hz).2) (pairs_rep r z hz)
    · obtain ⟨z, hz, rfl⟩ := List.mem_map.mp hb
      exact hd _ (List.of_mem_zip hz).2
    · have r2 := sort_rep (f := fun a => py (c a)) (r := PySem.W.dataLe false (fun b : V × PyData => b.2)) (le := le) r fun v w a b => hle a b
      exact k p _ _ (Same.trans s (same_upd hn)) (s.free hn) upd_same (RepL.plus (W := W.at H) hn (same_upd hn) r2)
theorem sortDA {X : Cx} {k : Nat} (K : PySem.W.Frag) (hr : Room k X.A) (hK : X.K = K := by rfl) : CallR X (.builtin "sorted") (rSortD K) := hK ▸ cr_sortD hr.units
end Dw

/-! A def that makes a lambda for sorted. -/
namespace Dw
open PySem PySem.Spec PyProof.Rows L2 LamX
variable [Tabs0]
section
variable {P : Program} {w : World} {K : PySem.W.Frag} {mg : Str → Option Value} {base : Heap}
theorem fnC_ok {x qual : Str} {st : Stmt} {f c : Addr} {fd : FuncData} {N ps : List Str} {k : Nat} {s : Spc} (F : FunC K x qual st f fd c) (S : FnScope N ps (defScope st)) (len : ∀ x, (s.args x).length = ps.length)
    (hbody : ∀ (A : Around) (outer : List Env) (s' : Shared) (H : Hp) (E : XK), Room k (A.deeper (envOfC qual (defScope st) s'.heap.objs.size f (.ref c))) →
      ∃ t, PSs (cxOf CX0 P w K mg base N qual (defScope st) f (.ref c) A outer s' H E).nox (defBody st) t ∧ ∀ x, s.ok x → Ds t (Gz0 N.length (s.args x)) ⟨fun _ => s.rel x .non, s.rel x, fun _ => False, fun _ => False⟩) :
    FnOk P w K mg base CX0 (k + 1) f fd ps (toSp s) := by
  obtain ⟨oc, od, kV, doc, pm, an, ct, osl, rfl, lk, hcd⟩ := F.ex
  refine fn_of lk hcd S (spc_len len) fun A outer sh H vs Q E hr hsp => ?_
  obtain ⟨t, p, hb⟩ := hbody A outer sh H E hr
  exact ⟨t, p.nox, body_of hsp hb⟩
end
end Dw
namespace Dw
open PySem PySem.Spec PyProof.Rows L2
variable [Tabs0]
/-- an own list, lent for the time of a test -/
theorem evt_lend {Γ : Gam} {t : TT} {b : Bool} (i : Nat) {ds : List D} (hi : Γ[i]? = some (.own ds)) (h : EvT t (Γ.set i (.val (.lst ds))) b) : EvT t Γ b := fun F σ W Q g k => by
  obtain ⟨a, vs, hs, _⟩ := g.own i ds hi
  obtain ⟨st, g2⟩ := g.freeze hi hs
  exact h F σ ⟨W.H, fun b => W.U b ∧ b ≠ a, W.P⟩ Q g2 k
end Dw
namespace Dw
open PySem PySem.Spec PyProof.Rows L2
variable [Tabs0]
end Dw

/-! told of what changes tables; several tables. -/
namespace Dw
open PySem PySem.Spec PyProof.Rows L2 LamX
variable [Tabs0]
section
variable {K : PySem.W.Frag} {Γ : Gam} {Tt : List (Addr × Str)} {P : Addr} {q wd : Str} {c1 c2 : Value} {n ie i : Nat} {ts : Addr → Value → Option Addr → TS} {t : XK → TE} {Q Q1 : D → Gam → Prop}
end
section
variable {Γ : Gam} {s : Spc} {sp : Sp} {ta tk : TA} {E : XK} {ds es : List D} {Q : D → Gam → Prop}
end
end Dw
namespace Dw
open PySem
theorem mem_lk {p : Addr} {q : Str} : ∀ {l : List (Addr × Str)}, l.lookup p = some q → (p, q) ∈ l
  | [], h => by cases h
  | a :: l, h => by
    cases e : p == a.1 with
    | true =>
      rw [List.lookup, e] at h
      have h : some a.2 = some q := h
      have e1 : p = a.1 := by simpa using e
      rw [e1, ← Option.some.inj h]
      exact List.mem_cons_self
    | false =>
      rw [List.lookup, e] at h
      exact List.mem_cons_of_mem _ (mem_lk h)
/-- tables by their list -/
theorem tabsOk_of {l : List (Addr × Str)} (nd : (l.map (·.1)).Nodup) : @TabsOk ⟨fun a => l.lookup a⟩ l := by
  refine @TabsOk.mk ⟨fun a => l.lookup a⟩ l (fun p hp => ?_) fun p q z => mem_lk z
  show l.lookup p.1 = some p.2
  induction l with
  | nil => cases hp
  | cons a l ih =>
    obtain ⟨n1, n2⟩ := List.nodup_cons.mp nd
    rcases List.mem_cons.mp hp with rfl | hp
    · simp [List.lookup]
    · have : p.1 ≠ a.1 := fun z => n1 (List.mem_map.mpr ⟨p, hp, z⟩)
      have e : (p.1 == a.1) = false := by simpa using this
      rw [List.lookup, e]
      exact ih n2 hp
theorem f_cons {α : Type} {P : α → Prop} {a : α} {l : List α} (h : P a) (t : ∀ p ∈ l, P p) : ∀ p ∈ a :: l, P p := fun p hp => (List.mem_cons.mp hp).elim (fun e => e ▸ h) (t p)
theorem f_nil {α : Type} {P : α → Prop} : ∀ p ∈ ([] : List α), P p := fun _ h => absurd h (by simp)
end Dw

/-! sorted(set(xs)), xs a list of whole numbers. -/
namespace Dw
open PySem PySem.Spec PyProof.Rows L2
variable [Tabs0]
section
variable {P : Program} {w : World} {A : Around} {E : Value → Shared → Prop} {s : Shared}
end
def rSetL (K : PySem.W.Frag) (w : World) : List V → Hp → VK → Prop := fun vs H Q => ∃ (a : Addr) (ns : List Int), vs = [V.ref a] ∧ SqL K H a (ns.map V.int) ∧ ns.length < 64 ∧
  ∀ (p : Addr) (c : Nat), H p = none → c ≤ ns.length → Q (.ref p) (upd H p (SetO w p (fun j => decide (j ∈ ns)) c))
end Dw

/-! own dicts: d = {}, d[k] = v, d[k] -/
namespace Dw
open PySem PySem.Spec PyProof.Rows L2
variable [Tabs0]
section
variable {K : PySem.W.Frag} {Γ : Gam} {ta tb te tk ty : TE} {De : DE} {ds : List D} {d : D}
end
end Dw

namespace K34
open PySem PySem.Spec PyProof.Rows L2 Dw
variable [Tabs0]
/-! ### the text by places -/
def topS (i : Nat) : Stmt := PySem.Challenge.pw_rankedrules_k34_whole_cases_beside_reaso.main.body.getD i (.Pass ⟨0, 0, 0, 0⟩)
abbrev s_is_name : Stmt := topS 21
abbrev N_is_name : List Str := ["value", "letter"]
theorem sc_is_name : FnScope N_is_name ["value"] (defScope s_is_name) := ⟨rfl, rfl, rfl, by decide +kernel, rfl, by decide +kernel, by decide +kernel⟩
abbrev s_are_names : Stmt := topS 22
abbrev N_are_names : List Str := ["values", "one", "other", "value"]
theorem sc_are_names : FnScope N_are_names ["values"] (defScope s_are_names) := ⟨rfl, rfl, rfl, by decide +kernel, rfl, by decide +kernel, by decide +kernel⟩
abbrev s_is_number : Stmt := topS 23
abbrev N_is_number : List Str := ["word", "digit"]
theorem sc_is_number : FnScope N_is_number ["word"] (defScope s_is_number) := ⟨rfl, rfl, rfl, by decide +kernel, rfl, by decide +kernel, by decide +kernel⟩
abbrev s_is_any_row : Stmt := topS 24
abbrev N_is_any_row : List Str := ["value", "sign"]
theorem sc_is_any_row : FnScope N_is_any_row ["value"] (defScope s_is_any_row) := ⟨rfl, rfl, rfl, by decide +kernel, rfl, by decide +kernel, by decide +kernel⟩
abbrev s_is_row : Stmt := topS 25
abbrev N_is_row : List Str := ["value", "many"]
theorem sc_is_row : FnScope N_is_row ["value", "many"] (defScope s_is_row) := ⟨rfl, rfl, rfl, by decide +kernel, rfl, by decide +kernel, by decide +kernel⟩
abbrev s_is_whole : Stmt := topS 26
abbrev N_is_whole : List Str := ["value"]
theorem sc_is_whole : FnScope N_is_whole ["value"] (defScope s_is_whole) := ⟨rfl, rfl, rfl, by decide +kernel, rfl, by decide +kernel, by decide +kernel⟩
abbrev s_is_index : Stmt := topS 27
abbrev N_is_index : List Str := ["value", "many"]
theorem sc_is_index : FnScope N_is_index ["value", "many"] (defScope s_is_index) := ⟨rfl, rfl, rfl, by decide +kernel, rfl, by decide +kernel, by decide +kernel⟩
abbrev s_check_row : Stmt := topS 28
abbrev N_check_row : List Str := ["row", "many"]
theorem sc_check_row : FnScope N_check_row ["row", "many"] (defScope s_check_row) := ⟨rfl, rfl, rfl, by decide +kernel, rfl, by decide +kernel, by decide +kernel⟩
abbrev s_check_rule : Stmt := topS 29
abbrev N_check_rule : List Str := ["rule", "many"]
theorem sc_check_rule : FnScope N_check_rule ["rule", "many"] (defScope s_check_rule) := ⟨rfl, rfl, rfl, by decide +kernel, rfl, by decide +kernel, by decide +kernel⟩
abbrev s_check_known : Stmt := topS 30
abbrev N_check_known : List Str := ["name", "names"]
theorem sc_check_known : FnScope N_check_known ["name", "names"] (defScope s_check_known) := ⟨rfl, rfl, rfl, by decide +kernel, rfl, by decide +kernel, by decide +kernel⟩
abbrev s_read_book : Stmt := topS 34
abbrev N_read_book : List Str := ["text", "head", "_", "tail", "names", "first", "rows", "row"]
theorem sc_read_book : FnScope N_read_book ["text"] (defScope s_read_book) := ⟨rfl, rfl, rfl, by decide +kernel, rfl, by decide +kernel, by decide +kernel⟩
abbrev s_read_mark : Stmt := topS 36
abbrev N_read_mark : List Str := ["word"]
theorem sc_read_mark : FnScope N_read_mark ["word"] (defScope s_read_mark) := ⟨rfl, rfl, rfl, by decide +kernel, rfl, by decide +kernel, by decide +kernel⟩
abbrev s_read_candidates : Stmt := topS 37
abbrev N_read_candidates : List Str := ["text", "read_word", "parts", "names", "many", "marks", "part", "words", "row", "word"]
theorem sc_read_candidates : FnScope N_read_candidates ["text", "read_word"] (defScope s_read_candidates) := ⟨rfl, rfl, rfl, by decide +kernel, rfl, by decide +kernel, by decide +kernel⟩
abbrev s_read_case : Stmt := topS 38
abbrev N_read_case : List Str := ["text"]
theorem sc_read_case : FnScope N_read_case ["text"] (defScope s_read_case) := ⟨rfl, rfl, rfl, by decide +kernel, rfl, by decide +kernel, by decide +kernel⟩
abbrev s_sign_of : Stmt := topS 40
abbrev N_sign_of : List Str := ["mark", "rival"]
theorem sc_sign_of : FnScope N_sign_of ["mark", "rival"] (defScope s_sign_of) := ⟨rfl, rfl, rfl, by decide +kernel, rfl, by decide +kernel, by decide +kernel⟩
abbrev s_row_between : Stmt := topS 41
abbrev N_row_between : List Str := ["mine", "theirs", "mark", "rival"]
theorem sc_row_between : FnScope N_row_between ["mine", "theirs"] (defScope s_row_between) := ⟨rfl, rfl, rfl, by decide +kernel, rfl, by decide +kernel, by decide +kernel⟩
abbrev s_check_book : Stmt := topS 44
abbrev N_check_book : List Str := ["book"]
theorem sc_check_book : FnScope N_check_book ["book"] (defScope s_check_book) := ⟨rfl, rfl, rfl, by decide +kernel, rfl, by decide +kernel, by decide +kernel⟩
abbrev s_head_of : Stmt := topS 46
abbrev N_head_of : List Str := ["rules", "rule"]
theorem sc_head_of : FnScope N_head_of ["rules"] (defScope s_head_of) := ⟨rfl, rfl, rfl, by decide +kernel, rfl, by decide +kernel, by decide +kernel⟩
abbrev s_rules_of : Stmt := topS 47
abbrev N_rules_of : List Str := ["head", "many", "rule"]
theorem sc_rules_of : FnScope N_rules_of ["head", "many"] (defScope s_rules_of) := ⟨rfl, rfl, rfl, by decide +kernel, rfl, by decide +kernel, by decide +kernel⟩
abbrev s_sides : Stmt := topS 48
abbrev N_sides : List Str := ["row", "better", "worse", "rule", "sign"]
theorem sc_sides : FnScope N_sides ["row"] (defScope s_sides) := ⟨rfl, rfl, rfl, by decide +kernel, rfl, by decide +kernel, by decide +kernel⟩
abbrev s_rules_behind : Stmt := topS 49
abbrev N_rules_behind : List Str := ["head", "told", "many", "taken", "better", "worse", "rule"]
theorem sc_rules_behind : FnScope N_rules_behind ["head", "told", "many"] (defScope s_rules_behind) := ⟨rfl, rfl, rfl, by decide +kernel, rfl, by decide +kernel, by decide +kernel⟩
abbrev s_steps : Stmt := topS 50
abbrev N_steps : List Str := ["rows", "many", "told", "row", "head"]
theorem sc_steps : FnScope N_steps ["rows", "many"] (defScope s_steps) := ⟨rfl, rfl, rfl, by decide +kernel, rfl, by decide +kernel, by decide +kernel⟩
abbrev s_openings : Stmt := topS 51
abbrev N_openings : List Str := ["behind", "ways", "head", "rules", "rule"]
theorem sc_openings : FnScope N_openings ["behind"] (defScope s_openings) := ⟨rfl, rfl, rfl, by decide +kernel, rfl, by decide +kernel, by decide +kernel⟩
abbrev s_endings : Stmt := topS 52
abbrev N_endings : List Str := ["behind", "ways", "head", "rule"]
theorem sc_endings : FnScope N_endings ["behind"] (defScope s_endings) := ⟨rfl, rfl, rfl, by decide +kernel, rfl, by decide +kernel, by decide +kernel⟩
abbrev s_count_fitting : Stmt := topS 53
abbrev N_count_fitting : List Str := ["rows", "many"]
theorem sc_count_fitting : FnScope N_count_fitting ["rows", "many"] (defScope s_count_fitting) := ⟨rfl, rfl, rfl, by decide +kernel, rfl, by decide +kernel, by decide +kernel⟩
abbrev s_heads_above : Stmt := topS 54
abbrev N_heads_above : List Str := ["rows", "many", "behind", "before", "after", "rule", "head", "rules"]
theorem sc_heads_above : FnScope N_heads_above ["rows", "many"] (defScope s_heads_above) := ⟨rfl, rfl, rfl, by decide +kernel, rfl, by decide +kernel, by decide +kernel⟩
abbrev s_has_sign : Stmt := topS 56
abbrev N_has_sign : List Str := ["row", "rules", "sign", "rule"]
theorem sc_has_sign : FnScope N_has_sign ["row", "rules", "sign"] (defScope s_has_sign) := ⟨rfl, rfl, rfl, by decide +kernel, rfl, by decide +kernel, by decide +kernel⟩
abbrev s_split : Stmt := topS 57
abbrev N_split : List Str := ["rows", "many", "made", "left", "still", "barred", "layer", "index", "row", "rule"]
theorem sc_split : FnScope N_split ["rows", "many"] (defScope s_split) := ⟨rfl, rfl, rfl, by decide +kernel, rfl, by decide +kernel, by decide +kernel⟩
abbrev s_some_fits : Stmt := topS 58
abbrev N_some_fits : List Str := ["rows", "many", "_", "still"]
theorem sc_some_fits : FnScope N_some_fits ["rows", "many"] (defScope s_some_fits) := ⟨rfl, rfl, rfl, by decide +kernel, rfl, by decide +kernel, by decide +kernel⟩
abbrev s_Book_rows : Stmt := inClass (topS 43) 3
abbrev N_Book_rows : List Str := ["self"]
theorem sc_Book_rows : FnScope N_Book_rows ["self"] (defScope s_Book_rows) := ⟨rfl, rfl, rfl, by decide +kernel, rfl, by decide +kernel, by decide +kernel⟩
abbrev s_Book_names : Stmt := inClass (topS 43) 2
abbrev N_Book_names : List Str := ["self"]
theorem sc_Book_names : FnScope N_Book_names ["self"] (defScope s_Book_names) := ⟨rfl, rfl, rfl, by decide +kernel, rfl, by decide +kernel, by decide +kernel⟩
abbrev s_check_some_fits : Stmt := topS 59
abbrev N_check_some_fits : List Str := ["book"]
theorem sc_check_some_fits : FnScope N_check_some_fits ["book"] (defScope s_check_some_fits) := ⟨rfl, rfl, rfl, by decide +kernel, rfl, by decide +kernel, by decide +kernel⟩
abbrev s_layers : Stmt := topS 60
abbrev N_layers : List Str := ["book", "made", "still"]
theorem sc_layers : FnScope N_layers ["book"] (defScope s_layers) := ⟨rfl, rfl, rfl, by decide +kernel, rfl, by decide +kernel, by decide +kernel⟩
abbrev s_all_lots : Stmt := topS 62
abbrev N_all_lots : List Str := ["many", "lots", "head"]
theorem sc_all_lots : FnScope N_all_lots ["many"] (defScope s_all_lots) := ⟨rfl, rfl, rfl, by decide +kernel, rfl, by decide +kernel, by decide +kernel⟩
abbrev s_has_part : Stmt := topS 63
abbrev N_has_part : List Str := ["lot", "others", "other", "index"]
theorem sc_has_part : FnScope N_has_part ["lot", "others"] (defScope s_has_part) := ⟨rfl, rfl, rfl, by decide +kernel, rfl, by decide +kernel, by decide +kernel⟩
abbrev s_judge : Stmt := topS 65
abbrev N_judge : List Str := ["book", "row", "many", "kept"]
theorem sc_judge : FnScope N_judge ["book", "row"] (defScope s_judge) := ⟨rfl, rfl, rfl, by decide +kernel, rfl, by decide +kernel, by decide +kernel⟩
abbrev s_meets_all : Stmt := topS 66
abbrev N_meets_all : List Str := ["lot", "heads", "head"]
theorem sc_meets_all : FnScope N_meets_all ["lot", "heads"] (defScope s_meets_all) := ⟨rfl, rfl, rfl, by decide +kernel, rfl, by decide +kernel, by decide +kernel⟩
abbrev s_least_lots : Stmt := topS 68
abbrev N_least_lots : List Str := ["heads", "many", "least", "lot"]
theorem sc_least_lots : FnScope N_least_lots ["heads", "many"] (defScope s_least_lots) := ⟨rfl, rfl, rfl, by decide +kernel, rfl, by decide +kernel, by decide +kernel⟩
abbrev s_reasons : Stmt := topS 67
abbrev N_reasons : List Str := ["book", "rule", "many"]
theorem sc_reasons : FnScope N_reasons ["book", "rule"] (defScope s_reasons) := ⟨rfl, rfl, rfl, by decide +kernel, rfl, by decide +kernel, by decide +kernel⟩
abbrev s_check_case : Stmt := topS 71
abbrev N_check_case : List Str := ["case"]
theorem sc_check_case : FnScope N_check_case ["case"] (defScope s_check_case) := ⟨rfl, rfl, rfl, by decide +kernel, rfl, by decide +kernel, by decide +kernel⟩
abbrev s_Case_marks : Stmt := inClass (topS 70) 3
abbrev N_Case_marks : List Str := ["self"]
theorem sc_Case_marks : FnScope N_Case_marks ["self"] (defScope s_Case_marks) := ⟨rfl, rfl, rfl, by decide +kernel, rfl, by decide +kernel, by decide +kernel⟩
abbrev s_case_fits : Stmt := topS 72
abbrev N_case_fits : List Str := ["case", "book"]
theorem sc_case_fits : FnScope N_case_fits ["case", "book"] (defScope s_case_fits) := ⟨rfl, rfl, rfl, by decide +kernel, rfl, by decide +kernel, by decide +kernel⟩
abbrev s_check_case_beside : Stmt := topS 73
abbrev N_check_case_beside : List Str := ["book", "case"]
theorem sc_check_case_beside : FnScope N_check_case_beside ["book", "case"] (defScope s_check_case_beside) := ⟨rfl, rfl, rfl, by decide +kernel, rfl, by decide +kernel, by decide +kernel⟩
abbrev s_Case_names : Stmt := inClass (topS 70) 2
abbrev N_Case_names : List Str := ["self"]
theorem sc_Case_names : FnScope N_Case_names ["self"] (defScope s_Case_names) := ⟨rfl, rfl, rfl, by decide +kernel, rfl, by decide +kernel, by decide +kernel⟩
abbrev s_row_against : Stmt := topS 74
abbrev N_row_against : List Str := ["case", "one", "other"]
theorem sc_row_against : FnScope N_row_against ["case", "one", "other"] (defScope s_row_against) := ⟨rfl, rfl, rfl, by decide +kernel, rfl, by decide +kernel, by decide +kernel⟩
abbrev s_rows_of : Stmt := topS 75
abbrev N_rows_of : List Str := ["case", "one", "other"]
theorem sc_rows_of : FnScope N_rows_of ["case", "one"] (defScope s_rows_of) := ⟨rfl, rfl, rfl, by decide +kernel, rfl, by decide +kernel, by decide +kernel⟩
abbrev s_told_by : Stmt := topS 76
abbrev N_told_by : List Str := ["case", "one"]
theorem sc_told_by : FnScope N_told_by ["case", "one"] (defScope s_told_by) := ⟨rfl, rfl, rfl, by decide +kernel, rfl, by decide +kernel, by decide +kernel⟩
abbrev s_barred : Stmt := topS 77
abbrev N_barred : List Str := ["case", "many", "name"]
theorem sc_barred : FnScope N_barred ["case"] (defScope s_barred) := ⟨rfl, rfl, rfl, by decide +kernel, rfl, by decide +kernel, by decide +kernel⟩
abbrev s_wins : Stmt := topS 79
abbrev N_wins : List Str := ["book", "case", "name"]
theorem sc_wins : FnScope N_wins ["book", "case", "name"] (defScope s_wins) := ⟨rfl, rfl, rfl, by decide +kernel, rfl, by decide +kernel, by decide +kernel⟩
abbrev s_possible : Stmt := topS 80
abbrev N_possible : List Str := ["book", "case", "many", "name"]
theorem sc_possible : FnScope N_possible ["book", "case"] (defScope s_possible) := ⟨rfl, rfl, rfl, by decide +kernel, rfl, by decide +kernel, by decide +kernel⟩
abbrev s_sure : Stmt := topS 81
abbrev N_sure : List Str := ["book", "case", "fitting", "name"]
theorem sc_sure : FnScope N_sure ["book", "case"] (defScope s_sure) := ⟨rfl, rfl, rfl, by decide +kernel, rfl, by decide +kernel, by decide +kernel⟩
abbrev s__law_cell : Stmt := topS 83
abbrev N__law_cell : List Str := ["_law_cells", "_law_k", "_law_made", "_law_own"]
theorem sc__law_cell : FnScope N__law_cell ["_law_cells", "_law_k"] (defScope s__law_cell) := ⟨rfl, rfl, rfl, by decide +kernel, rfl, by decide +kernel, by decide +kernel⟩
abbrev s__law_well : Stmt := topS 84
abbrev N__law_well : List Str := ["_law_cell_here"]
theorem sc__law_well : FnScope N__law_well ["_law_cell_here"] (defScope s__law_well) := ⟨rfl, rfl, rfl, by decide +kernel, rfl, by decide +kernel, by decide +kernel⟩
abbrev s__law_dip : Stmt := topS 85
abbrev N__law_dip : List Str := ["_law_jar", "_law_many", "_law_mixed", "_law_stock", "_law_digit"]
theorem sc__law_dip : FnScope N__law_dip ["_law_jar", "_law_many"] (defScope s__law_dip) := ⟨rfl, rfl, rfl, by decide +kernel, rfl, by decide +kernel, by decide +kernel⟩
abbrev s__law_pick : Stmt := topS 86
abbrev N__law_pick : List Str := ["_law_jar", "_law_things"]
theorem sc__law_pick : FnScope N__law_pick ["_law_jar", "_law_things"] (defScope s__law_pick) := ⟨rfl, rfl, rfl, by decide +kernel, rfl, by decide +kernel, by decide +kernel⟩
abbrev s__law_tags : Stmt := topS 87
abbrev N__law_tags : List Str := ["_law_jar", "_law_many", "_law_stock", "_law_at", "_law_step", "_law_k"]
theorem sc__law_tags : FnScope N__law_tags ["_law_jar", "_law_many"] (defScope s__law_tags) := ⟨rfl, rfl, rfl, by decide +kernel, rfl, by decide +kernel, by decide +kernel⟩
abbrev s__law_orders : Stmt := topS 88
abbrev N__law_orders : List Str := ["_law_many", "_law_found", "_law_turn", "_law_longer", "_law_part", "_law_k"]
theorem sc__law_orders : FnScope N__law_orders ["_law_many"] (defScope s__law_orders) := ⟨rfl, rfl, rfl, by decide +kernel, rfl, by decide +kernel, by decide +kernel⟩
abbrev s__law_holds : Stmt := topS 89
abbrev N__law_holds : List Str := ["_law_row_here", "_law_order", "_law_k"]
theorem sc__law_holds : FnScope N__law_holds ["_law_row_here", "_law_order"] (defScope s__law_holds) := ⟨rfl, rfl, rfl, by decide +kernel, rfl, by decide +kernel, by decide +kernel⟩
abbrev s__law_turned : Stmt := topS 90
abbrev N__law_turned : List Str := ["_law_row_here", "_law_sign"]
theorem sc__law_turned : FnScope N__law_turned ["_law_row_here"] (defScope s__law_turned) := ⟨rfl, rfl, rfl, by decide +kernel, rfl, by decide +kernel, by decide +kernel⟩
abbrev s__law_row : Stmt := topS 91
abbrev N__law_row : List Str := ["_law_jar", "_law_many", "_law_k"]
theorem sc__law_row : FnScope N__law_row ["_law_jar", "_law_many"] (defScope s__law_row) := ⟨rfl, rfl, rfl, by decide +kernel, rfl, by decide +kernel, by decide +kernel⟩
abbrev s__law_rows : Stmt := topS 92
abbrev N__law_rows : List Str := ["_law_jar", "_law_many", "_law_most", "_law_order", "_law_found", "_law_is_kept", "_law_turn", "_law_row_here"]
theorem sc__law_rows : FnScope N__law_rows ["_law_jar", "_law_many", "_law_most"] (defScope s__law_rows) := ⟨rfl, rfl, rfl, by decide +kernel, rfl, by decide +kernel, by decide +kernel⟩
abbrev s__law_fits : Stmt := topS 93
abbrev N__law_fits : List Str := ["_law_rows_here", "_law_many", "_law_found", "_law_order", "_law_row_here"]
theorem sc__law_fits : FnScope N__law_fits ["_law_rows_here", "_law_many"] (defScope s__law_fits) := ⟨rfl, rfl, rfl, by decide +kernel, rfl, by decide +kernel, by decide +kernel⟩
abbrev s__law_book_page : Stmt := topS 94
abbrev N__law_book_page : List Str := ["_law_tags_here", "_law_rows_here", "_law_row_here"]
theorem sc__law_book_page : FnScope N__law_book_page ["_law_tags_here", "_law_rows_here"] (defScope s__law_book_page) := ⟨rfl, rfl, rfl, by decide +kernel, rfl, by decide +kernel, by decide +kernel⟩
abbrev s__law_folk : Stmt := topS 95
abbrev N__law_folk : List Str := ["_law_jar", "_law_many", "_law_least", "_law_most", "_law_top", "_law_found", "_law_tag", "_law_marks", "_law_k"]
theorem sc__law_folk : FnScope N__law_folk ["_law_jar", "_law_many", "_law_least", "_law_most"] (defScope s__law_folk) := ⟨rfl, rfl, rfl, by decide +kernel, rfl, by decide +kernel, by decide +kernel⟩
abbrev s__law_case_page : Stmt := topS 96
abbrev N__law_case_page : List Str := ["_law_folk_here", "_law_tag", "_law_marks", "_law_mark"]
theorem sc__law_case_page : FnScope N__law_case_page ["_law_folk_here"] (defScope s__law_case_page) := ⟨rfl, rfl, rfl, by decide +kernel, rfl, by decide +kernel, by decide +kernel⟩
abbrev s__law_lots : Stmt := topS 97
abbrev N__law_lots : List Str := ["_law_others", "_law_found", "_law_rule", "_law_pair", "_law_lot"]
theorem sc__law_lots : FnScope N__law_lots ["_law_others"] (defScope s__law_lots) := ⟨rfl, rfl, rfl, by decide +kernel, rfl, by decide +kernel, by decide +kernel⟩
abbrev s_Case___init__ : Stmt := inClass (topS 70) 0
abbrev N_Case___init__ : List Str := ["self", "text", "parts"]
theorem sc_Case___init__ : FnScope N_Case___init__ ["self", "text"] (defScope s_Case___init__) := ⟨rfl, rfl, rfl, by decide +kernel, rfl, by decide +kernel, by decide +kernel⟩
abbrev s__law_two : Stmt := topS 98
abbrev N__law_two : List Str := ["_law_lot", "_law_rule", "_law_many", "_law_first", "_law_second", "_law_k"]
theorem sc__law_two : FnScope N__law_two ["_law_lot", "_law_rule", "_law_many"] (defScope s__law_two) := ⟨rfl, rfl, rfl, by decide +kernel, rfl, by decide +kernel, by decide +kernel⟩
abbrev s__law_reasons_right : Stmt := topS 99
abbrev N__law_reasons_right : List Str := ["_law_base", "_law_many", "_law_rule", "_law_found", "_law_lot", "_law_is_wider", "_law_k", "_law_less"]
theorem sc__law_reasons_right : FnScope N__law_reasons_right ["_law_base", "_law_many"] (defScope s__law_reasons_right) := ⟨rfl, rfl, rfl, by decide +kernel, rfl, by decide +kernel, by decide +kernel⟩
abbrev s_Book___init__ : Stmt := inClass (topS 43) 0
abbrev N_Book___init__ : List Str := ["self", "text", "parts"]
theorem sc_Book___init__ : FnScope N_Book___init__ ["self", "text"] (defScope s_Book___init__) := ⟨rfl, rfl, rfl, by decide +kernel, rfl, by decide +kernel, by decide +kernel⟩
abbrev s__law_right : Stmt := topS 100
abbrev N__law_right : List Str := ["_law_jar", "_law_turn", "_law_many", "_law_rows_here", "_law_row_here", "_law_base", "_law_folk_here", "_law_mine", "_law_can", "_law_must", "_law_out", "_law_tag", "_law_marks", "_law_told", "_law_more"]
theorem sc__law_right : FnScope N__law_right ["_law_jar"] (defScope s__law_right) := ⟨rfl, rfl, rfl, by decide +kernel, rfl, by decide +kernel, by decide +kernel⟩
abbrev s_law : Stmt := topS 101
abbrev N_law : List Str := ["_law_cells", "_law_k"]
theorem sc_law : FnScope N_law ["_law_cells"] (defScope s_law) := ⟨rfl, rfl, rfl, by decide +kernel, rfl, by decide +kernel, by decide +kernel⟩
/-! ### what the top has written -/
structure Txt (K : PySem.W.Frag) (w : World) (mg : Str → Option Value) where
  C_Book : Addr
  m_Book : mg "Book" = some (.ref C_Book)
  cl_Book : Cls K C_Book
  C_Case : Addr
  m_Case : mg "Case" = some (.ref C_Case)
  cl_Case : Cls K C_Case
  f_is_name : Addr
  e_is_name : FuncData
  F_is_name : Fun K "is_name" "is_name" s_is_name f_is_name e_is_name
  b_is_name : Binds K e_is_name ["value"] []
  m_is_name : mg "is_name" = some (.ref f_is_name)
  f_are_names : Addr
  e_are_names : FuncData
  F_are_names : Fun K "are_names" "are_names" s_are_names f_are_names e_are_names
  b_are_names : Binds K e_are_names ["values"] []
  m_are_names : mg "are_names" = some (.ref f_are_names)
  f_is_number : Addr
  e_is_number : FuncData
  F_is_number : Fun K "is_number" "is_number" s_is_number f_is_number e_is_number
  b_is_number : Binds K e_is_number ["word"] []
  m_is_number : mg "is_number" = some (.ref f_is_number)
  f_is_any_row : Addr
  e_is_any_row : FuncData
  F_is_any_row : Fun K "is_any_row" "is_any_row" s_is_any_row f_is_any_row e_is_any_row
  b_is_any_row : Binds K e_is_any_row ["value"] []
  m_is_any_row : mg "is_any_row" = some (.ref f_is_any_row)
  f_is_row : Addr
  e_is_row : FuncData
  F_is_row : Fun K "is_row" "is_row" s_is_row f_is_row e_is_row
  b_is_row : Binds K e_is_row ["value", "many"] []
  m_is_row : mg "is_row" = some (.ref f_is_row)
  f_is_whole : Addr
  e_is_whole : FuncData
  F_is_whole : Fun K "is_whole" "is_whole" s_is_whole f_is_whole e_is_whole
  b_is_whole : Binds K e_is_whole ["value"] []
  m_is_whole : mg "is_whole" = some (.ref f_is_whole)
  f_is_index : Addr
  e_is_index : FuncData
  F_is_index : Fun K "is_index" "is_index" s_is_index f_is_index e_is_index
  b_is_index : Binds K e_is_index ["value", "many"] []
  m_is_index : mg "is_index" = some (.ref f_is_index)
  f_check_row : Addr
  e_check_row : FuncData
  F_check_row : Fun K "check_row" "check_row" s_check_row f_check_row e_check_row
  b_check_row : Binds K e_check_row ["row", "many"] []
  m_check_row : mg "check_row" = some (.ref f_check_row)
  f_check_rule : Addr
  e_check_rule : FuncData
  F_check_rule : Fun K "check_rule" "check_rule" s_check_rule f_check_rule e_check_rule
  b_check_rule : Binds K e_check_rule ["rule", "many"] []
  m_check_rule : mg "check_rule" = some (.ref f_check_rule)
  f_check_known : Addr
  e_check_known : FuncData
  F_check_known : Fun K "check_known" "check_known" s_check_known f_check_known e_check_known
  b_check_known : Binds K e_check_known ["name", "names"] []
  m_check_known : mg "check_known" = some (.ref f_check_known)
  f_read_book : Addr
  e_read_book : FuncData
  F_read_book : Fun K "read_book" "read_book" s_read_book f_read_book e_read_book
  b_read_book : Binds K e_read_book ["text"] []
  m_read_book : mg "read_book" = some (.ref f_read_book)
  f_read_mark : Addr
  e_read_mark : FuncData
  F_read_mark : Fun K "read_mark" "read_mark" s_read_mark f_read_mark e_read_mark
  b_read_mark : Binds K e_read_mark ["word"] []
  m_read_mark : mg "read_mark" = some (.ref f_read_mark)
  f_read_candidates : Addr
  e_read_candidates : FuncData
  F_read_candidates : Fun K "read_candidates" "read_candidates" s_read_candidates f_read_candidates e_read_candidates
  b_read_candidates : Binds K e_read_candidates ["text", "read_word"] []
  m_read_candidates : mg "read_candidates" = some (.ref f_read_candidates)
  f_read_case : Addr
  e_read_case : FuncData
  F_read_case : Fun K "read_case" "read_case" s_read_case f_read_case e_read_case
  b_read_case : Binds K e_read_case ["text"] []
  m_read_case : mg "read_case" = some (.ref f_read_case)
  f_sign_of : Addr
  e_sign_of : FuncData
  F_sign_of : Fun K "sign_of" "sign_of" s_sign_of f_sign_of e_sign_of
  b_sign_of : Binds K e_sign_of ["mark", "rival"] []
  m_sign_of : mg "sign_of" = some (.ref f_sign_of)
  f_row_between : Addr
  e_row_between : FuncData
  F_row_between : Fun K "row_between" "row_between" s_row_between f_row_between e_row_between
  b_row_between : Binds K e_row_between ["mine", "theirs"] []
  m_row_between : mg "row_between" = some (.ref f_row_between)
  f_check_book : Addr
  e_check_book : FuncData
  F_check_book : Fun K "check_book" "check_book" s_check_book f_check_book e_check_book
  b_check_book : Binds K e_check_book ["book"] []
  m_check_book : mg "check_book" = some (.ref f_check_book)
  f_head_of : Addr
  e_head_of : FuncData
  F_head_of : Fun K "head_of" "head_of" s_head_of f_head_of e_head_of
  b_head_of : Binds K e_head_of ["rules"] []
  m_head_of : mg "head_of" = some (.ref f_head_of)
  f_rules_of : Addr
  e_rules_of : FuncData
  F_rules_of : Fun K "rules_of" "rules_of" s_rules_of f_rules_of e_rules_of
  b_rules_of : Binds K e_rules_of ["head", "many"] []
  m_rules_of : mg "rules_of" = some (.ref f_rules_of)
  f_sides : Addr
  e_sides : FuncData
  F_sides : Fun K "sides" "sides" s_sides f_sides e_sides
  b_sides : Binds K e_sides ["row"] []
  m_sides : mg "sides" = some (.ref f_sides)
  f_rules_behind : Addr
  e_rules_behind : FuncData
  F_rules_behind : Fun K "rules_behind" "rules_behind" s_rules_behind f_rules_behind e_rules_behind
  b_rules_behind : Binds K e_rules_behind ["head", "told", "many"] []
  m_rules_behind : mg "rules_behind" = some (.ref f_rules_behind)
  f_steps : Addr
  e_steps : FuncData
  F_steps : Fun K "steps" "steps" s_steps f_steps e_steps
  b_steps : Binds K e_steps ["rows", "many"] []
  m_steps : mg "steps" = some (.ref f_steps)
  f_openings : Addr
  e_openings : FuncData
  F_openings : Fun K "openings" "openings" s_openings f_openings e_openings
  b_openings : Binds K e_openings ["behind"] []
  m_openings : mg "openings" = some (.ref f_openings)
  f_endings : Addr
  e_endings : FuncData
  F_endings : Fun K "endings" "endings" s_endings f_endings e_endings
  b_endings : Binds K e_endings ["behind"] []
  m_endings : mg "endings" = some (.ref f_endings)
  f_count_fitting : Addr
  e_count_fitting : FuncData
  F_count_fitting : Fun K "count_fitting" "count_fitting" s_count_fitting f_count_fitting e_count_fitting
  b_count_fitting : Binds K e_count_fitting ["rows", "many"] []
  m_count_fitting : mg "count_fitting" = some (.ref f_count_fitting)
  f_heads_above : Addr
  e_heads_above : FuncData
  F_heads_above : Fun K "heads_above" "heads_above" s_heads_above f_heads_above e_heads_above
  b_heads_above : Binds K e_heads_above ["rows", "many"] []
  m_heads_above : mg "heads_above" = some (.ref f_heads_above)
  f_has_sign : Addr
  e_has_sign : FuncData
  F_has_sign : Fun K "has_sign" "has_sign" s_has_sign f_has_sign e_has_sign
  b_has_sign : Binds K e_has_sign ["row", "rules", "sign"] []
  m_has_sign : mg "has_sign" = some (.ref f_has_sign)
  f_split : Addr
  e_split : FuncData
  F_split : Fun K "split" "split" s_split f_split e_split
  b_split : Binds K e_split ["rows", "many"] []
  m_split : mg "split" = some (.ref f_split)
  f_some_fits : Addr
  e_some_fits : FuncData
  F_some_fits : Fun K "some_fits" "some_fits" s_some_fits f_some_fits e_some_fits
  b_some_fits : Binds K e_some_fits ["rows", "many"] []
  m_some_fits : mg "some_fits" = some (.ref f_some_fits)
  f_Book_rows : Addr
  e_Book_rows : FuncData
  F_Book_rows : Fun K "rows" "Book.rows" s_Book_rows f_Book_rows e_Book_rows
  b_Book_rows : Binds K e_Book_rows ["self"] []
  q_Book_rows : Addr
  p_Book_rows : PropOf K C_Book "rows" q_Book_rows f_Book_rows
  f_Book_names : Addr
  e_Book_names : FuncData
  F_Book_names : Fun K "names" "Book.names" s_Book_names f_Book_names e_Book_names
  b_Book_names : Binds K e_Book_names ["self"] []
  q_Book_names : Addr
  p_Book_names : PropOf K C_Book "names" q_Book_names f_Book_names
  f_check_some_fits : Addr
  e_check_some_fits : FuncData
  F_check_some_fits : Fun K "check_some_fits" "check_some_fits" s_check_some_fits f_check_some_fits e_check_some_fits
  b_check_some_fits : Binds K e_check_some_fits ["book"] []
  m_check_some_fits : mg "check_some_fits" = some (.ref f_check_some_fits)
  f_layers : Addr
  e_layers : FuncData
  F_layers : Fun K "layers" "layers" s_layers f_layers e_layers
  b_layers : Binds K e_layers ["book"] []
  m_layers : mg "layers" = some (.ref f_layers)
  f_all_lots : Addr
  e_all_lots : FuncData
  F_all_lots : Fun K "all_lots" "all_lots" s_all_lots f_all_lots e_all_lots
  b_all_lots : Binds K e_all_lots ["many"] []
  m_all_lots : mg "all_lots" = some (.ref f_all_lots)
  f_has_part : Addr
  e_has_part : FuncData
  F_has_part : Fun K "has_part" "has_part" s_has_part f_has_part e_has_part
  b_has_part : Binds K e_has_part ["lot", "others"] []
  m_has_part : mg "has_part" = some (.ref f_has_part)
  f_judge : Addr
  e_judge : FuncData
  F_judge : Fun K "judge" "judge" s_judge f_judge e_judge
  b_judge : Binds K e_judge ["book", "row"] []
  m_judge : mg "judge" = some (.ref f_judge)
  f_meets_all : Addr
  e_meets_all : FuncData
  F_meets_all : Fun K "meets_all" "meets_all" s_meets_all f_meets_all e_meets_all
  b_meets_all : Binds K e_meets_all ["lot", "heads"] []
  m_meets_all : mg "meets_all" = some (.ref f_meets_all)
  f_least_lots : Addr
  e_least_lots : FuncData
  F_least_lots : Fun K "least_lots" "least_lots" s_least_lots f_least_lots e_least_lots
  b_least_lots : Binds K e_least_lots ["heads", "many"] []
  m_least_lots : mg "least_lots" = some (.ref f_least_lots)
  f_reasons : Addr
  e_reasons : FuncData
  F_reasons : Fun K "reasons" "reasons" s_reasons f_reasons e_reasons
  b_reasons : Binds K e_reasons ["book", "rule"] []
  m_reasons : mg "reasons" = some (.ref f_reasons)
  f_check_case : Addr
  e_check_case : FuncData
  F_check_case : Fun K "check_case" "check_case" s_check_case f_check_case e_check_case
  b_check_case : Binds K e_check_case ["case"] []
  m_check_case : mg "check_case" = some (.ref f_check_case)
  f_Case_marks : Addr
  e_Case_marks : FuncData
  F_Case_marks : Fun K "marks" "Case.marks" s_Case_marks f_Case_marks e_Case_marks
  b_Case_marks : Binds K e_Case_marks ["self"] []
  q_Case_marks : Addr
  p_Case_marks : PropOf K C_Case "marks" q_Case_marks f_Case_marks
  f_case_fits : Addr
  e_case_fits : FuncData
  F_case_fits : Fun K "case_fits" "case_fits" s_case_fits f_case_fits e_case_fits
  b_case_fits : Binds K e_case_fits ["case", "book"] []
  m_case_fits : mg "case_fits" = some (.ref f_case_fits)
  f_check_case_beside : Addr
  e_check_case_beside : FuncData
  F_check_case_beside : Fun K "check_case_beside" "check_case_beside" s_check_case_beside f_check_case_beside e_check_case_beside
  b_check_case_beside : Binds K e_check_case_beside ["book", "case"] []
  m_check_case_beside : mg "check_case_beside" = some (.ref f_check_case_beside)
  f_Case_names : Addr
  e_Case_names : FuncData
  F_Case_names : Fun K "names" "Case.names" s_Case_names f_Case_names e_Case_names
  b_Case_names : Binds K e_Case_names ["self"] []
  q_Case_names : Addr
  p_Case_names : PropOf K C_Case "names" q_Case_names f_Case_names
  f_row_against : Addr
  e_row_against : FuncData
  F_row_against : Fun K "row_against" "row_against" s_row_against f_row_against e_row_against
  b_row_against : Binds K e_row_against ["case", "one", "other"] []
  m_row_against : mg "row_against" = some (.ref f_row_against)
  f_rows_of : Addr
  e_rows_of : FuncData
  F_rows_of : Fun K "rows_of" "rows_of" s_rows_of f_rows_of e_rows_of
  b_rows_of : Binds K e_rows_of ["case", "one"] []
  m_rows_of : mg "rows_of" = some (.ref f_rows_of)
  f_told_by : Addr
  e_told_by : FuncData
  F_told_by : Fun K "told_by" "told_by" s_told_by f_told_by e_told_by
  b_told_by : Binds K e_told_by ["case", "one"] []
  m_told_by : mg "told_by" = some (.ref f_told_by)
  f_barred : Addr
  e_barred : FuncData
  F_barred : Fun K "barred" "barred" s_barred f_barred e_barred
  b_barred : Binds K e_barred ["case"] []
  m_barred : mg "barred" = some (.ref f_barred)
  f_wins : Addr
  e_wins : FuncData
  F_wins : Fun K "wins" "wins" s_wins f_wins e_wins
  b_wins : Binds K e_wins ["book", "case", "name"] []
  m_wins : mg "wins" = some (.ref f_wins)
  f_possible : Addr
  e_possible : FuncData
  F_possible : Fun K "possible" "possible" s_possible f_possible e_possible
  b_possible : Binds K e_possible ["book", "case"] []
  m_possible : mg "possible" = some (.ref f_possible)
  f_sure : Addr
  e_sure : FuncData
  F_sure : Fun K "sure" "sure" s_sure f_sure e_sure
  b_sure : Binds K e_sure ["book", "case"] []
  m_sure : mg "sure" = some (.ref f_sure)
  f__law_cell : Addr
  e__law_cell : FuncData
  F__law_cell : Fun K "_law_cell" "_law_cell" s__law_cell f__law_cell e__law_cell
  b__law_cell : Binds K e__law_cell ["_law_cells", "_law_k"] []
  m__law_cell : mg "_law_cell" = some (.ref f__law_cell)
  f__law_well : Addr
  e__law_well : FuncData
  F__law_well : Fun K "_law_well" "_law_well" s__law_well f__law_well e__law_well
  b__law_well : Binds K e__law_well ["_law_cell_here"] []
  m__law_well : mg "_law_well" = some (.ref f__law_well)
  f__law_dip : Addr
  e__law_dip : FuncData
  F__law_dip : Fun K "_law_dip" "_law_dip" s__law_dip f__law_dip e__law_dip
  b__law_dip : Binds K e__law_dip ["_law_jar", "_law_many"] []
  m__law_dip : mg "_law_dip" = some (.ref f__law_dip)
  f__law_pick : Addr
  e__law_pick : FuncData
  F__law_pick : Fun K "_law_pick" "_law_pick" s__law_pick f__law_pick e__law_pick
  b__law_pick : Binds K e__law_pick ["_law_jar", "_law_things"] []
  m__law_pick : mg "_law_pick" = some (.ref f__law_pick)
  f__law_tags : Addr
  e__law_tags : FuncData
  F__law_tags : Fun K "_law_tags" "_law_tags" s__law_tags f__law_tags e__law_tags
  b__law_tags : Binds K e__law_tags ["_law_jar", "_law_many"] []
  m__law_tags : mg "_law_tags" = some (.ref f__law_tags)
  f__law_orders : Addr
  e__law_orders : FuncData
  F__law_orders : Fun K "_law_orders" "_law_orders" s__law_orders f__law_orders e__law_orders
  b__law_orders : Binds K e__law_orders ["_law_many"] []
  m__law_orders : mg "_law_orders" = some (.ref f__law_orders)
  f__law_holds : Addr
  e__law_holds : FuncData
  F__law_holds : Fun K "_law_holds" "_law_holds" s__law_holds f__law_holds e__law_holds
  b__law_holds : Binds K e__law_holds ["_law_row_here", "_law_order"] []
  m__law_holds : mg "_law_holds" = some (.ref f__law_holds)
  f__law_turned : Addr
  e__law_turned : FuncData
  F__law_turned : Fun K "_law_turned" "_law_turned" s__law_turned f__law_turned e__law_turned
  b__law_turned : Binds K e__law_turned ["_law_row_here"] []
  m__law_turned : mg "_law_turned" = some (.ref f__law_turned)
  f__law_row : Addr
  e__law_row : FuncData
  F__law_row : Fun K "_law_row" "_law_row" s__law_row f__law_row e__law_row
  b__law_row : Binds K e__law_row ["_law_jar", "_law_many"] []
  m__law_row : mg "_law_row" = some (.ref f__law_row)
  f__law_rows : Addr
  e__law_rows : FuncData
  F__law_rows : Fun K "_law_rows" "_law_rows" s__law_rows f__law_rows e__law_rows
  b__law_rows : Binds K e__law_rows ["_law_jar", "_law_many", "_law_most"] []
  m__law_rows : mg "_law_rows" = some (.ref f__law_rows)
  f__law_fits : Addr
  e__law_fits : FuncData
  F__law_fits : Fun K "_law_fits" "_law_fits" s__law_fits f__law_fits e__law_fits
  b__law_fits : Binds K e__law_fits ["_law_rows_here", "_law_many"] []
  m__law_fits : mg "_law_fits" = some (.ref f__law_fits)
  f__law_book_page : Addr
  e__law_book_page : FuncData
  F__law_book_page : Fun K "_law_book_page" "_law_book_page" s__law_book_page f__law_book_page e__law_book_page
  b__law_book_page : Binds K e__law_book_page ["_law_tags_here", "_law_rows_here"] []
  m__law_book_page : mg "_law_book_page" = some (.ref f__law_book_page)
  f__law_folk : Addr
  e__law_folk : FuncData
  F__law_folk : Fun K "_law_folk" "_law_folk" s__law_folk f__law_folk e__law_folk
  b__law_folk : Binds K e__law_folk ["_law_jar", "_law_many", "_law_least", "_law_most"] []
  m__law_folk : mg "_law_folk" = some (.ref f__law_folk)
  f__law_case_page : Addr
  e__law_case_page : FuncData
  F__law_case_page : Fun K "_law_case_page" "_law_case_page" s__law_case_page f__law_case_page e__law_case_page
  b__law_case_page : Binds K e__law_case_page ["_law_folk_here"] []
  m__law_case_page : mg "_law_case_page" = some (.ref f__law_case_page)
  f__law_lots : Addr
  e__law_lots : FuncData
  F__law_lots : Fun K "_law_lots" "_law_lots" s__law_lots f__law_lots e__law_lots
  b__law_lots : Binds K e__law_lots ["_law_others"] []
  m__law_lots : mg "_law_lots" = some (.ref f__law_lots)
  f_Case___init__ : Addr
  e_Case___init__ : FuncData
  F_Case___init__ : Fun K "__init__" "Case.__init__" s_Case___init__ f_Case___init__ e_Case___init__
  b_Case___init__ : Binds K e_Case___init__ ["self", "text"] []
  mk_Case : Mk K C_Case f_Case___init__
  f__law_two : Addr
  e__law_two : FuncData
  F__law_two : Fun K "_law_two" "_law_two" s__law_two f__law_two e__law_two
  b__law_two : Binds K e__law_two ["_law_lot", "_law_rule", "_law_many"] []
  m__law_two : mg "_law_two" = some (.ref f__law_two)
  f__law_reasons_right : Addr
  e__law_reasons_right : FuncData
  F__law_reasons_right : Fun K "_law_reasons_right" "_law_reasons_right" s__law_reasons_right f__law_reasons_right e__law_reasons_right
  b__law_reasons_right : Binds K e__law_reasons_right ["_law_base", "_law_many"] []
  m__law_reasons_right : mg "_law_reasons_right" = some (.ref f__law_reasons_right)
  f_Book___init__ : Addr
  e_Book___init__ : FuncData
  F_Book___init__ : Fun K "__init__" "Book.__init__" s_Book___init__ f_Book___init__ e_Book___init__
  b_Book___init__ : Binds K e_Book___init__ ["self", "text"] []
  mk_Book : Mk K C_Book f_Book___init__
  f__law_right : Addr
  e__law_right : FuncData
  F__law_right : Fun K "_law_right" "_law_right" s__law_right f__law_right e__law_right
  b__law_right : Binds K e__law_right ["_law_jar"] []
  m__law_right : mg "_law_right" = some (.ref f__law_right)
  f_law : Addr
  e_law : FuncData
  F_law : Fun K "law" "law" s_law f_law e_law
  b_law : Binds K e_law ["_law_cells"] []
  m_law : mg "law" = some (.ref f_law)
  lc_all_lots : Addr
  lt_all_lots : Addr
  FC_all_lots : FunC K "all_lots" "all_lots" s_all_lots f_all_lots e_all_lots lc_all_lots
  tts : List (Addr × Str)
  tabs : TabsOk tts
  hm_all_lots : (lt_all_lots, (envOfC "all_lots" (defScope s_all_lots) 0 f_all_lots (.ref lc_all_lots)).qual ++ "<lambda>") ∈ tts
  n_abs : mg "abs" = none
  n_all : mg "all" = none
  n_any : mg "any" = none
  n_bool : mg "bool" = none
  n_divmod : mg "divmod" = none
  n_enumerate : mg "enumerate" = none
  n_int : mg "int" = none
  n_isinstance : mg "isinstance" = none
  n_len : mg "len" = none
  n_list : mg "list" = none
  n_max : mg "max" = none
  n_min : mg "min" = none
  n_range : mg "range" = none
  n_repr : mg "repr" = none
  n_reversed : mg "reversed" = none
  n_sorted : mg "sorted" = none
  n_str : mg "str" = none
  n_sum : mg "sum" = none
  n_tuple : mg "tuple" = none
  n_zip : mg "zip" = none
  t_DIGITS : Tok
  c_DIGITS : mg "DIGITS" = some (.str "0123456789" t_DIGITS)
  t_LEAST_CANDIDATES : Tok
  c_LEAST_CANDIDATES : mg "LEAST_CANDIDATES" = some (.int 2 t_LEAST_CANDIDATES)
  t_LETTERS : Tok
  c_LETTERS : mg "LETTERS" = some (.str "abcdefghijklmnopqrstuvwxyz" t_LETTERS)
  t_MOST_CANDIDATES : Tok
  c_MOST_CANDIDATES : mg "MOST_CANDIDATES" = some (.int 8 t_MOST_CANDIDATES)
  t_MOST_LETTERS : Tok
  c_MOST_LETTERS : mg "MOST_LETTERS" = some (.int 8 t_MOST_LETTERS)
  t_MOST_MARKS : Tok
  c_MOST_MARKS : mg "MOST_MARKS" = some (.int 99 t_MOST_MARKS)
  t_MOST_ROWS : Tok
  c_MOST_ROWS : mg "MOST_ROWS" = some (.int 20 t_MOST_ROWS)
  t_MOST_RULES : Tok
  c_MOST_RULES : mg "MOST_RULES" = some (.int 8 t_MOST_RULES)
  t_SIGNS : Tok
  c_SIGNS : mg "SIGNS" = some (.str "+-." t_SIGNS)
  no_text : NoAttr K C_Book "_text"
  no_names : NoAttr K C_Book "_names"
  no_rows : NoAttr K C_Book "_rows"
  ins_Book : InsOk K C_Book
  cno_text : NoAttr K C_Case "_text"
  cno_names : NoAttr K C_Case "_names"
  cno_marks : NoAttr K C_Case "_marks"
  ins_Case : InsOk K C_Case
end K34

namespace K34
open PySem PySem.Spec PyProof.Rows L2 Dw
variable [Tabs0]
/-- a row's signs, as codes -/
def isSign (c : Nat) : Prop := c = 43 ∨ c = 45 ∨ c = 46
structure RowOk (l : List Nat) (n : Nat) : Prop where
  len : l.length = n
  all : ∀ c ∈ l, isSign c
def sgn (l : List Nat) (k : Nat) : Nat := l.getD k 46
theorem ch_dot : (Str.ofString ".") = ch 46 := by decide +kernel
theorem ch_plus : (Str.ofString "+") = ch 43 := by decide +kernel
theorem ch_minus : (Str.ofString "-") = ch 45 := by decide +kernel
theorem sgn_at {l : List Nat} {n k : Nat} (h : l.length = n) (hk : k < n) : atI (tx l).cps.toList (k : Int) = some (sgn l k) := by
  have hl : k < l.length := by omega
  rw [tx_cps]
  refine atI_nat ?_
  unfold sgn
  rw [List.getElem?_eq_getElem hl, List.getD_eq_getElem?_getD, List.getElem?_eq_getElem hl]
  rfl
theorem sgn_is {l : List Nat} {n : Nat} (h : RowOk l n) (k : Nat) : isSign (sgn l k) := by
  unfold sgn
  rw [List.getD_eq_getElem?_getD]
  cases q : l[k]? with
  | none => exact .inr (.inr rfl)
  | some c => exact h.all c (List.mem_of_getElem? q)
theorem isSign.lt {c : Nat} (h : isSign c) : c < 1114112 := by rcases h with h | h | h <;> omega
/-- the signs of a row along an order, without the dots -/
def told (l : List Nat) (o : List Nat) : List Nat := (o.map (sgn l)).filter (fun c => !decide (c = 46))
/-- whether a row holds -/
def holdsB (l : List Nat) (o : List Nat) : Bool :=
  match told l o with
  | [] => true
  | c :: _ => decide (c = 43)
def ordD (o : List Nat) : List D := o.map fun (k : Nat) => D.int k
theorem small8 {n : Nat} (h : n ≤ 8) : n ≤ sizeLine := Nat.le_trans h (by decide)
end K34

namespace K34
open PySem PySem.Spec PyProof.Rows L2 Dw
variable [Tabs0]
/-! flipped -/
def flip1 (c : Nat) : Nat := if c = 43 then 45 else if c = 45 then 43 else 46
def flipped (l : List Nat) : List Nat := l.map flip1
theorem flip_get {c : Nat} (h : isSign c) : valV (mergeK [] ([(Str.ofString "+", Str.ofString "-"), (Str.ofString "-", Str.ofString "+"), (Str.ofString ".", Str.ofString ".")].map fun p => ((Sum.inr p.1 : Key), V.str p.2))) (Sum.inr (ch c)) = some (.str (ch (flip1 c))) := by
  rcases h with rfl | rfl | rfl <;> decide +kernel
theorem flip1_is {c : Nat} (h : isSign c) : isSign (flip1 c) := by
  rcases h with rfl | rfl | rfl <;> first | exact .inl rfl | exact .inr (.inl rfl) | exact .inr (.inr rfl)
def spFlip : Spc where
  ty := List Nat
  args := fun l => [.str (tx l)]
  ok := fun l => ∃ n, RowOk l n ∧ n ≤ 8
  rel := fun l d => d = .str (tx (flipped l))
def spSigns : Spc where
  ty := Nat
  args := fun n => [.purse, .int n]
  ok := fun n => n ≤ 8
  rel := fun n d => ∃ l, RowOk l n ∧ d = .str (tx l)
def spDraw : Spc where
  ty := Nat
  args := fun n => [.purse, .int n]
  ok := fun n => 0 < n ∧ n < 100000
  rel := fun n d => ∃ r : Nat, r < n ∧ d = .int r
end K34

namespace K34
open PySem PySem.Spec PyProof.Rows L2 Dw
variable [Tabs0]
structure NameOk (l : List Nat) : Prop where
  lo : 1 ≤ l.length
  hi : l.length ≤ 8
  all : ∀ c ∈ l, 97 ≤ c ∧ c ≤ 122
theorem lettersS : Str.ofString "abcdefghijklmnopqrstuvwxyz" = tx ((List.range 26).map (97 + ·)) := by decide +kernel
theorem signsS : Str.ofString "+-." = tx [43, 45, 46] := by decide +kernel
theorem NameOk.len {l : List Nat} (h : NameOk l) : (tx l).length ≤ sizeLine := by rw [tx_len]; exact small8 h.hi
theorem RowOk.sz {l : List Nat} {n : Nat} (h : RowOk l n) (hn : n ≤ 8) : (tx l).length ≤ sizeLine := by rw [tx_len, h.len]; exact small8 hn
theorem all_yes {α : Type} {xs : List α} {b : α → Bool} (h : ∀ x ∈ xs, b x = true) : xs.all b = true := List.all_eq_true.mpr h
theorem ev_cast {t : TE} {Γ : Gam} {d d' : D} (h : d = d') (e : Ev t Γ d) : Ev t Γ d' := h ▸ e
def nameD (ls : List (List Nat)) : List D := ls.map fun l => D.str (tx l)
structure NamesOk (ls : List (List Nat)) : Prop where
  lo : 1 ≤ ls.length
  hi : ls.length ≤ 8
  all : ∀ l ∈ ls, NameOk l
  inc : ∀ p ∈ ls.zip (ls.drop 1), p.1 < p.2
theorem zip_names (ls ms : List (List Nat)) : zipD (nameD ls) (nameD ms) = (ls.zip ms).map fun p => D.tup [.str (tx p.1), .str (tx p.2)] := by
  unfold zipD nameD
  rw [List.zip_map, List.map_map]; rfl
end K34

namespace K34
open PySem PySem.Spec PyProof.Rows L2 Dw
variable [Tabs0]
theorem ev_notT {K : PySem.W.Frag} {t : TE} {Γ : Gam} {b : Bool} (h : EvT (tTru K t) Γ b) : Ev (tNotT K t) Γ (.bl (!b)) := fun F σ W Q g k => by
  have e := h F σ W (fun c H => Q (.bl (!c)) H) g fun H s => k _ H s rfl
  exact e
structure LotOk (o : List Nat) (m : Nat) : Prop where
  lt : ∀ k ∈ o, k < m
  inc : o.Pairwise (· < ·)
end K34

namespace K34
open PySem PySem.Spec PyProof.Rows L2 Dw
variable [Tabs0]
/-! plain data: what a claim or a certificate may be -/
mutual
def plW (z : Nat) : Nat → D → Bool
  | _, .non => true | _, .bl _ => true | _, .int _ => true | _, .str x => PyData.strOk x && decide (x.length ≤ 100000)
  | k + 1, .tup ds => decide (ds.length ≤ z) && plWs z k ds
  | k + 1, .lst ds => decide (ds.length ≤ z) && plWs z k ds
  | k + 1, .dct ks ds => decide (ds.length ≤ z) && plWs z k ds
  | 0, .tup _ => false | 0, .lst _ => false | 0, .dct _ _ => false
  | _, .obj _ _ _ => false | _, .raw _ => false | _, .purse => false | _, .rng _ _ => false | _, .scr _ _ => false | _, .tag _ => false | _, .tupN _ => false
def plWs (z : Nat) : Nat → List D → Bool
  | _, [] => true
  | k, d :: ds => plW z k d && plWs z k ds
end
abbrev plB := plW 60
abbrev plBs := plWs 60
theorem plWs_iff {z k : Nat} : ∀ {ds : List D}, plWs z k ds = true ↔ ∀ d ∈ ds, plW z k d = true
  | [] => by simp [plWs]
  | d :: ds => by
    have e : plWs z k (d :: ds) = (plW z k d && plWs z k ds) := by cases k <;> rfl
    rw [e, Bool.and_eq_true, plWs_iff (ds := ds)]
    simp
theorem plBs_iff {k : Nat} {ds : List D} : plBs k ds = true ↔ ∀ d ∈ ds, plB k d = true := plWs_iff
mutual
theorem plW_mono {z z' : Nat} (hz : z ≤ z') : ∀ (k m : Nat) (d : D), k ≤ m → plW z k d = true → plW z' m d = true
  | _, _, .non, _, _ => by unfold plW; rfl
  | _, _, .bl _, _, _ => by unfold plW; rfl
  | _, _, .int _, _, _ => by unfold plW; rfl
  | k, m, .str x, _, h => by
    have e : plW z k (.str x) = (PyData.strOk x && decide (x.length ≤ 100000)) := by cases k <;> rfl
    have e2 : plW z' m (.str x) = (PyData.strOk x && decide (x.length ≤ 100000)) := by cases m <;> rfl
    rw [e2, ← e, h]
  | k + 1, m + 1, .tup ds, hm, h => by
    have h : (decide (ds.length ≤ z) && plWs z k ds) = true := h
    show (decide (ds.length ≤ z') && plWs z' m ds) = true
    rw [Bool.and_eq_true] at h ⊢
    exact ⟨decide_eq_true (Nat.le_trans (of_decide_eq_true h.1) hz), plWs_mono hz k m ds (by omega) h.2⟩
  | k + 1, m + 1, .lst ds, hm, h => by
    have h : (decide (ds.length ≤ z) && plWs z k ds) = true := h
    show (decide (ds.length ≤ z') && plWs z' m ds) = true
    rw [Bool.and_eq_true] at h ⊢
    exact ⟨decide_eq_true (Nat.le_trans (of_decide_eq_true h.1) hz), plWs_mono hz k m ds (by omega) h.2⟩
  | k + 1, m + 1, .dct ks ds, hm, h => by
    have h : (decide (ds.length ≤ z) && plWs z k ds) = true := h
    show (decide (ds.length ≤ z') && plWs z' m ds) = true
    rw [Bool.and_eq_true] at h ⊢
    exact ⟨decide_eq_true (Nat.le_trans (of_decide_eq_true h.1) hz), plWs_mono hz k m ds (by omega) h.2⟩
  | 0, _, .tup _, _, h => nomatch h
  | 0, _, .lst _, _, h => nomatch h
  | 0, _, .dct _ _, _, h => nomatch h
  | k + 1, 0, .tup _, hm, _ => absurd hm (by omega)
  | k + 1, 0, .lst _, hm, _ => absurd hm (by omega)
  | k + 1, 0, .dct _ _, hm, _ => absurd hm (by omega)
  | k, _, .obj _ _ _, _, h => by cases k <;> exact nomatch h
  | k, _, .raw _, _, h => by cases k <;> exact nomatch h
  | k, _, .purse, _, h => by cases k <;> exact nomatch h
  | k, _, .rng _ _, _, h => by cases k <;> exact nomatch h
  | k, _, .scr _ _, _, h => by cases k <;> exact nomatch h
  | k, _, .tag _, _, h => by cases k <;> exact nomatch h
  | k, _, .tupN _, _, h => by cases k <;> exact nomatch h
theorem plWs_mono {z z' : Nat} (hz : z ≤ z') : ∀ (k m : Nat) (ds : List D), k ≤ m → plWs z k ds = true → plWs z' m ds = true
  | _, _, [], _, _ => by unfold plWs; rfl
  | k, m, d :: ds, hm, h => by
    have e : plWs z k (d :: ds) = (plW z k d && plWs z k ds) := by cases k <;> rfl
    have e2 : plWs z' m (d :: ds) = (plW z' m d && plWs z' m ds) := by cases m <;> rfl
    rw [e, Bool.and_eq_true] at h
    rw [e2, plW_mono hz k m d hm h.1, plWs_mono hz k m ds hm h.2]; rfl
end
theorem plB_mono (k m : Nat) (d : D) (h : k ≤ m) (q : plB k d = true) : plB m d = true := plW_mono (Nat.le_refl _) k m d h q
mutual
theorem plB_np : ∀ (k : Nat) (d : D), plB k d = true → noP d = true
  | _, .non, _ => rfl
  | _, .bl _, _ => rfl
  | _, .int _, _ => rfl
  | _, .str _, _ => rfl
  | k + 1, .tup ds, h => plBs_np k ds (by have h : (decide (ds.length ≤ 60) && plBs k ds) = true := h; rw [Bool.and_eq_true] at h; exact h.2)
  | k + 1, .lst ds, h => plBs_np k ds (by have h : (decide (ds.length ≤ 60) && plBs k ds) = true := h; rw [Bool.and_eq_true] at h; exact h.2)
  | k + 1, .dct _ ds, h => plBs_np k ds (by have h : (decide (ds.length ≤ 60) && plBs k ds) = true := h; rw [Bool.and_eq_true] at h; exact h.2)
  | 0, .tup _, h => nomatch h
  | 0, .lst _, h => nomatch h
  | 0, .dct _ _, h => nomatch h
  | k, .obj _ _ _, h => by cases k <;> exact nomatch h
  | _, .raw _, _ => rfl
  | k, .purse, h => by cases k <;> exact nomatch h
  | _, .rng _ _, _ => rfl
  | k, .scr _ _, h => by cases k <;> exact nomatch h
  | k, .tag _, h => by cases k <;> exact nomatch h
  | k, .tupN _, h => by cases k <;> exact nomatch h
theorem plBs_np : ∀ (k : Nat) (ds : List D), plBs k ds = true → noPs ds = true
  | _, [], _ => rfl
  | k, d :: ds, h => by
    have e : plBs k (d :: ds) = (plB k d && plBs k ds) := by cases k <;> rfl
    rw [e, Bool.and_eq_true] at h
    show (noP d && noPs ds) = true
    rw [plB_np k d h.1, plBs_np k ds h.2]; rfl
end
/-- a plain value -/
def Pv (d : D) : Prop := plB 12 d = true
theorem Pv.ty {d : D} (h : Pv d) : hasTy d = true := by
  cases d <;> first | rfl | exact nomatch h
theorem Pv.np {d : D} (h : Pv d) : noP d = true := plB_np _ _ h
theorem Pv.str {x : Str} (h : Pv (.str x)) : okS x ∧ x.length ≤ 100000 := by
  have h : (PyData.strOk x && decide (x.length ≤ 100000)) = true := h
  rw [Bool.and_eq_true, decide_eq_true_eq] at h
  exact h
theorem Pv.tup {ds : List D} (h : Pv (.tup ds)) : ds.length ≤ 60 ∧ ∀ d ∈ ds, Pv d := by
  have h : (decide (ds.length ≤ 60) && plBs 11 ds) = true := h
  rw [Bool.and_eq_true, decide_eq_true_eq] at h
  exact ⟨h.1, fun d hd => plB_mono 11 12 d (by decide) (plBs_iff.mp h.2 d hd)⟩
theorem np1 {d : D} {r : List D} (h : Pv d) (hr : noPs r = true) : noPs (d :: r) = true := by
  show (noP d && noPs r) = true
  rw [h.np, hr]; rfl
theorem pv_strs {l : List Nat} (h : ∀ c ∈ l, c < 1114112) (hz : l.length ≤ 100000) : Pv (.str (tx l)) := by
  show (PyData.strOk (tx l) && decide ((tx l).length ≤ 100000)) = true
  rw [show PyData.strOk (tx l) = true from okS_tx h, tx_len, decide_eq_true hz]; rfl
/-! what isinstance tells -/
def isStrB : D → Bool | .str _ => true | _ => false
def isIntB : D → Bool | .int _ => true | .bl _ => true | _ => false
def isBoolB : D → Bool | .bl _ => true | _ => false
section
variable {K : PySem.W.Frag} {d : D}
theorem kit_str (h : hasTy d = true) : PySem.W.kitOne K (tyD d) (.type "str") = some (isStrB d) := by cases d <;> first | rfl | exact nomatch h
theorem kit_int (h : hasTy d = true) : PySem.W.kitOne K (tyD d) (.type "int") = some (isIntB d) := by cases d <;> first | rfl | exact nomatch h
theorem kit_bool (h : hasTy d = true) : PySem.W.kitOne K (tyD d) (.type "bool") = some (isBoolB d) := by cases d <;> first | rfl | exact nomatch h
theorem str_of (h : isStrB d = true) : ∃ x, d = .str x := by cases d <;> first | exact ⟨_, rfl⟩ | exact nomatch h
end
def wholeB : D → Bool | .int _ => true | _ => false
theorem whole_eq (d : D) : (isIntB d && !isBoolB d) = wholeB d := by cases d <;> rfl
theorem whole_of {d : D} (h : wholeB d = true) : ∃ i, d = .int i := by cases d <;> first | exact ⟨_, rfl⟩ | exact nomatch h
def spWholeG : Spc where
  ty := D
  args := fun d => [d]
  ok := fun d => Pv d
  rel := fun d e => e = .bl (wholeB d)
def idxB : D → Int → Bool | .int i, m => decide (0 ≤ i) && decide (i < m) | _, _ => false
theorem idx_whole (d : D) (m : Int) : (wholeB d && idxB d m) = idxB d m := by cases d <;> first | rfl | exact Bool.true_and _
def spIndexG : Spc where
  ty := D × Nat
  args := fun x => [x.1, .int x.2]
  ok := fun x => Pv x.1
  rel := fun x e => e = .bl (idxB x.1 x.2)
/-- a text of some codes -/
def rowC (l : List Nat) : Bool := decide (1 ≤ l.length) && decide (l.length ≤ 8) && l.all fun c => decide (c ∈ [43, 45, 46])
def anyRowB : D → Bool | .str x => rowC x.cps.toList | _ => false
theorem rowC_ok {l : List Nat} : rowC l = true ↔ RowOk l l.length ∧ 1 ≤ l.length ∧ l.length ≤ 8 := by
  unfold rowC
  rw [Bool.and_eq_true, Bool.and_eq_true, decide_eq_true_eq, decide_eq_true_eq, List.all_eq_true]
  constructor
  · rintro ⟨⟨h1, h2⟩, h⟩
    refine ⟨⟨rfl, fun c hc => ?_⟩, h1, h2⟩
    have := of_decide_eq_true (h c hc)
    simp only [List.mem_cons, List.not_mem_nil, or_false] at this
    exact this
  · rintro ⟨h, h1, h2⟩
    refine ⟨⟨h1, h2⟩, fun c hc => decide_eq_true ?_⟩
    rcases h.all c hc with rfl | rfl | rfl <;> decide
def spAnyG : Spc where
  ty := D
  args := fun d => [d]
  ok := fun d => Pv d
  rel := fun d e => e = .bl (anyRowB d)
def lenB : D → Nat → Bool | .str x, n => decide (x.length = n) | _, _ => false
def rowB (d : D) (n : Nat) : Bool := anyRowB d && lenB d n
def spRowG : Spc where
  ty := D × Nat
  args := fun x => [x.1, .int x.2]
  ok := fun x => Pv x.1
  rel := fun x e => e = .bl (rowB x.1 x.2)
theorem rowB_iff {d : D} {n : Nat} : rowB d n = true ↔ ∃ l, d = .str (tx l) ∧ RowOk l n ∧ 1 ≤ n ∧ n ≤ 8 := by
  constructor
  · intro h
    unfold rowB at h
    rw [Bool.and_eq_true] at h
    cases d <;> first | exact absurd h.1 Bool.false_ne_true | skip
    rename_i x
    obtain ⟨h1, h2⟩ := h
    obtain ⟨r, a, b⟩ := rowC_ok.mp h1
    have h2 : decide (x.length = n) = true := h2
    rw [decide_eq_true_eq] at h2
    have e : x.cps.toList.length = n := by rw [← h2]; rfl
    rw [e] at r a b
    exact ⟨x.cps.toList, congrArg D.str (of_tx x), r, a, b⟩
  · rintro ⟨l, rfl, r, a, b⟩
    show (rowC (tx l).cps.toList && decide ((tx l).length = n)) = true
    rw [tx_cps, tx_len, r.len, decide_eq_true rfl, Bool.and_true]
    exact rowC_ok.mpr (by rw [r.len]; exact ⟨r, a, b⟩)
def letterC (c : Nat) : Bool := decide (c ∈ (List.range 26).map (97 + ·))
theorem letter_iff {c : Nat} : letterC c = true ↔ 97 ≤ c ∧ c ≤ 122 := by
  unfold letterC
  rw [decide_eq_true_eq, List.mem_map]
  constructor
  · rintro ⟨a, h, rfl⟩
    have := List.mem_range.mp h
    omega
  · rintro ⟨h1, h2⟩
    exact ⟨c - 97, List.mem_range.mpr (by omega), by omega⟩
def nmC (l : List Nat) : Bool := decide (1 ≤ l.length) && decide (l.length ≤ 8) && l.all letterC
theorem nmC_ok {l : List Nat} : nmC l = true ↔ NameOk l := by
  unfold nmC
  rw [Bool.and_eq_true, Bool.and_eq_true, decide_eq_true_eq, decide_eq_true_eq, List.all_eq_true]
  exact ⟨fun ⟨⟨h1, h2⟩, h⟩ => ⟨h1, h2, fun c hc => letter_iff.mp (h c hc)⟩, fun h => ⟨⟨h.lo, h.hi⟩, fun c hc => letter_iff.mpr (h.all c hc)⟩⟩
def nmB : D → Bool | .str x => nmC x.cps.toList | _ => false
def spNameG : Spc where
  ty := D
  args := fun d => [d]
  ok := fun d => Pv d
  rel := fun d e => e = .bl (nmB d)
theorem nmB_iff {d : D} : nmB d = true ↔ ∃ l, d = .str (tx l) ∧ NameOk l := by
  constructor
  · intro h
    cases d <;> first | exact absurd h Bool.false_ne_true | skip
    rename_i x
    exact ⟨x.cps.toList, congrArg D.str (of_tx x), nmC_ok.mp h⟩
  · rintro ⟨l, rfl, h⟩
    show nmC (tx l).cps.toList = true
    rw [tx_cps]
    exact nmC_ok.mpr h
end K34

namespace K34
open PySem PySem.Spec PyProof.Rows L2 Dw
variable [Tabs0]
theorem d_is_whole {P : Program} {w : World} {K : PySem.W.Frag} {mg : Str → Option Value} {base : Heap} (T : Txt K w mg) : FnOk P w K mg base CX0 1 T.f_is_whole T.e_is_whole ["value"] (toSp (spWholeG)) := by
  refine fn_ok T.F_is_whole sc_is_whole (fun _ => rfl) fun cdv A outer s' H E hr => ?_
  refine ⟨_, (pss_one (ps_ret (pe_and (pe_callB (isiA K) (by rfl) T.n_isinstance (by decide +kernel) (pa_cons (pv 0) (pa_cons (pe_bltn (v := .ty "int") (by rfl) T.n_int (by decide +kernel) rfl) pa_nil))) (pe_one (notA K (pe_callB (isiA K) (by rfl) T.n_isinstance (by decide +kernel) (pa_cons (pv 0) (pa_cons (pe_bltn (v := .ty "bool") (by rfl) T.n_bool (by decide +kernel) rfl) pa_nil)))))))), fun x hx => ?_⟩
  obtain ⟨d, rfl⟩ : ∃ l : D, l = x := ⟨x, rfl⟩
  have hd : Pv d := hx
  refine ds_ret (Ev.dl (ev_cast (congrArg D.bl (whole_eq d)) (ev_andV (a := isIntB d) (b := !isBoolB d) (ev_isi (ev_var rfl) ev_raw (.inl hd.ty) (.ty "int") (kit_int hd.ty)) fun _ => ev_notT (b := isBoolB d) (evt_tru_bl (ev_isi (ev_var rfl) ev_raw (.inl hd.ty) (.ty "bool") (kit_bool hd.ty))))) rfl)
end K34

namespace K34
open PySem PySem.Spec PyProof.Rows L2 Dw
variable [Tabs0]
theorem d_is_index {P : Program} {w : World} {K : PySem.W.Frag} {mg : Str → Option Value} {base : Heap} (T : Txt K w mg) : FnOk P w K mg base CX0 2 T.f_is_index T.e_is_index ["value", "many"] (toSp (spIndexG)) := by
  refine fn_ok T.F_is_index sc_is_index (fun _ => rfl) fun cdv A outer s' H E hr => ?_
  refine ⟨_, (pss_one (ps_ret (pe_and (pe_call (d_is_whole T) (hr.mono (by decide)) (by rfl) T.m_is_whole T.F_is_whole.kp T.b_is_whole .nil pass0 (pa_cons (pv 0) pa_nil)) (pe_one (pe_chain opLe opLt pe_int (pv 0) (pv 1)))))), fun x hx => ?_⟩
  obtain ⟨d, m⟩ := x
  have hd : Pv d := hx
  refine ds_ret (Ev.dl (ev_cast (congrArg D.bl (idx_whole d m)) (ev_andV (a := wholeB d) (b := idxB d m) (ev_call (s := spWholeG) (x := d) (eva_cons (ev_var rfl) eva_nil) (np1 hd rfl) hd fun d h => h) fun h => ?_)) rfl)
  obtain ⟨i, rfl⟩ := whole_of h
  exact ev_chain ev_int (ev_var rfl) (fun _ => ev_var rfl) dr2_le fun _ => lt_int'
end K34

namespace K34
open PySem PySem.Spec PyProof.Rows L2 Dw
variable [Tabs0]
theorem d_is_any_row {P : Program} {w : World} {K : PySem.W.Frag} {mg : Str → Option Value} {base : Heap} (T : Txt K w mg) : FnOk P w K mg base CX0 1 T.f_is_any_row T.e_is_any_row ["value"] (toSp (spAnyG)) := by
  refine fn_ok T.F_is_any_row sc_is_any_row (fun _ => rfl) fun cdv A outer s' H E hr => ?_
  refine ⟨_, (pss_cons (ps_if (PW.pt (pw_or (pt_not (truA K (pe_callB (isiA K) (by rfl) T.n_isinstance (by decide +kernel) (pa_cons (pv 0) (pa_cons (pe_bltn (v := .ty "str") (by rfl) T.n_str (by decide +kernel) rfl) pa_nil))))) (pw_or1 (pt_not (pt_chain opLe opLe pe_int (pe_callB (lenA K) (by rfl) T.n_len (by decide +kernel) (pa_cons (pv 0) pa_nil)) (pe_glob (v := .int 8) (by rfl) T.c_MOST_RULES ⟨_, rfl⟩)))))) (pss_one (ps_ret pe_bl)) pss_nil) (pss_one (ps_ret (pe_callB (allA K) (by rfl) T.n_all (by decide +kernel) (pa_cons (pe_lc (own := [("sign", 1)]) rfl sc_is_any_row.nd (piR K (pv 0)) (blkOk_by (own := [("sign", 1)]) (N := N_is_any_row) (sc := (defScope s_is_any_row)) (by decide +kernel)) (fun _ _ _ _ _ => pg_name (i := 1) sc_is_any_row.nd rfl (Or.inl rfl)) (fun _ _ _ _ _ => pts_nil) (fun _ _ _ _ _ => (pe_cmpR (inA K) (pv 1) (pe_glob (v := .str "+-.") (by rfl) T.c_SIGNS ⟨_, rfl⟩) (by rfl)))) pa_nil))))), fun x hx => ?_⟩
  obtain ⟨d, rfl⟩ : ∃ l : D, l = x := ⟨x, rfl⟩
  have hd : Pv d := hx
  by_cases hs : isStrB d = true
  · obtain ⟨s, rfl⟩ := str_of hs
    obtain ⟨l, rfl⟩ : ∃ l, s = tx l := ⟨_, of_tx s⟩
    have hz := hd.str.2
    rw [tx_len] at hz
    have hc : (decide ((1 : Int) ≤ ((tx l).length : Int)) && decide (((tx l).length : Int) ≤ 8)) = (decide (1 ≤ l.length) && decide (l.length ≤ 8)) := by
      rw [tx_len]
      congr 1
      · exact decide_eq_decide.mpr (by omega)
      · exact decide_eq_decide.mpr (by omega)
    refine ds_seq (ds_if (EvT.dl (b := !(decide (1 ≤ l.length) && decide (l.length ≤ 8))) ?_ ⟨fun h => ?_, fun h => ?_⟩))
    · have e := evt_or (Γ := Gz0 2 (spAnyG.args (.str (tx l)))) (a := false) (b := !(decide ((1 : Int) ≤ ((tx l).length : Int)) && decide (((tx l).length : Int) ≤ 8))) (evt_not (a := true) (evt_tru_bl (K := K) (ev_isi (K := K) (ta := tVar 0) (d := .str (tx l)) (ev_var rfl) ev_raw (.inl rfl) (.ty "str") rfl))) fun _ => evt_not (evt_chain (ta := tC (.int 1)) (tb := tCB (Dw.rLen K) (tCons (tVar 0) tNil)) (tc := tC (.int 8)) ev_int (ev_lenS (ev_var rfl) (small (by rw [tx_len]; exact hz))) (fun _ => ev_int) dr2_le fun _ => dr2_le)
      rw [hc] at e
      exact e
    · refine ds_ret (Ev.dl ev_bl ?_)
      show D.bl false = D.bl (rowC (tx l).cps.toList)
      unfold rowC
      rw [tx_cps, show (decide (1 ≤ l.length) && decide (l.length ≤ 8)) = false by rw [Bool.not_eq_true'] at h; exact h]; rfl
    · refine ds_next (ds_ret (Ev.dl (ev_all_lc (xs := l) (c := fun c => .str (ch c)) (b := fun c => decide (c ∈ [43, 45, 46])) ?_ (by omega) fun c hc => ⟨[1], _, dg_name, fun i hi => hi, evt_yes, ev_op (ev_var rfl) ev_str ?_⟩) ?_))
      · have := ej_str (K := K) (ta := tVar 0) (Γ := Gz0 2 (spAnyG.args (.str (tx l)))) (x := tx l) (ev_var rfl)
        rw [signs_tx, List.map_map] at this
        exact this
      · rw [signsS]; exact in_code
      · show D.bl _ = D.bl (rowC (tx l).cps.toList)
        unfold rowC
        rw [tx_cps, show (decide (1 ≤ l.length) && decide (l.length ≤ 8)) = true by rw [Bool.not_eq_false'] at h; exact h]; rfl
  · have hs : isStrB d = false := by simpa using hs
    refine ds_seq (ds_if (EvT.dl (b := true) (evt_or (a := true) (b := false) (evt_not (a := false) (evt_tru_bl (ev_isi (ev_var rfl) ev_raw (.inl hd.ty) (.ty "str") (by rw [kit_str hd.ty, hs])))) fun h => (nomatch h)) ⟨fun _ => ds_ret (Ev.dl ev_bl ?_), fun h => (nomatch h)⟩))
    cases d <;> first | rfl | exact nomatch hs
end K34

namespace K34
open PySem PySem.Spec PyProof.Rows L2 Dw
variable [Tabs0]
theorem d_is_row {P : Program} {w : World} {K : PySem.W.Frag} {mg : Str → Option Value} {base : Heap} (T : Txt K w mg) : FnOk P w K mg base CX0 2 T.f_is_row T.e_is_row ["value", "many"] (toSp (spRowG)) := by
  refine fn_ok T.F_is_row sc_is_row (fun _ => rfl) fun cdv A outer s' H E hr => ?_
  refine ⟨_, (pss_one (ps_ret (pe_and (pe_call (d_is_any_row T) (hr.mono (by decide)) (by rfl) T.m_is_any_row T.F_is_any_row.kp T.b_is_any_row .nil pass0 (pa_cons (pv 0) pa_nil)) (pe_one (pe_cmpR (eqA K hr.units) (pe_callB (lenA K) (by rfl) T.n_len (by decide +kernel) (pa_cons (pv 0) pa_nil)) (pv 1) (nomark _)))))), fun x hx => ?_⟩
  obtain ⟨d, n⟩ := x
  have hd : Pv d := hx
  refine ds_ret (Ev.dl (ev_andV (a := anyRowB d) (b := lenB d n) (ev_call (s := spAnyG) (x := d) (eva_cons (ev_var rfl) eva_nil) (np1 hd rfl) hd fun d h => h) fun h => ?_) rfl)
  cases d <;> first | exact absurd h Bool.false_ne_true | skip
  rename_i s
  refine ev_op (ev_lenS (ev_var rfl) (small hd.str.2)) (ev_var rfl) (eq_ib ?_)
  exact decide_eq_decide.mpr (by omega)
end K34

namespace K34
open PySem PySem.Spec PyProof.Rows L2 Dw
variable [Tabs0]
theorem d_is_name {P : Program} {w : World} {K : PySem.W.Frag} {mg : Str → Option Value} {base : Heap} (T : Txt K w mg) : FnOk P w K mg base CX0 1 T.f_is_name T.e_is_name ["value"] (toSp (spNameG)) := by
  refine fn_ok T.F_is_name sc_is_name (fun _ => rfl) fun cdv A outer s' H E hr => ?_
  refine ⟨_, (pss_cons (ps_if (PW.pt (pw_or (pt_not (truA K (pe_callB (isiA K) (by rfl) T.n_isinstance (by decide +kernel) (pa_cons (pv 0) (pa_cons (pe_bltn (v := .ty "str") (by rfl) T.n_str (by decide +kernel) rfl) pa_nil))))) (pw_or1 (pt_not (pt_chain opLe opLe pe_int (pe_callB (lenA K) (by rfl) T.n_len (by decide +kernel) (pa_cons (pv 0) pa_nil)) (pe_glob (v := .int 8) (by rfl) T.c_MOST_LETTERS ⟨_, rfl⟩)))))) (pss_one (ps_ret pe_bl)) pss_nil) (pss_one (ps_ret (pe_callB (allA K) (by rfl) T.n_all (by decide +kernel) (pa_cons (pe_lc (own := [("letter", 1)]) rfl sc_is_name.nd (piR K (pv 0)) (blkOk_by (own := [("letter", 1)]) (N := N_is_name) (sc := (defScope s_is_name)) (by decide +kernel)) (fun _ _ _ _ _ => pg_name (i := 1) sc_is_name.nd rfl (Or.inl rfl)) (fun _ _ _ _ _ => pts_nil) (fun _ _ _ _ _ => (pe_cmpR (inA K) (pv 1) (pe_glob (v := .str "abcdefghijklmnopqrstuvwxyz") (by rfl) T.c_LETTERS ⟨_, rfl⟩) (by rfl)))) pa_nil))))), fun x hx => ?_⟩
  obtain ⟨d, rfl⟩ : ∃ l : D, l = x := ⟨x, rfl⟩
  have hd : Pv d := hx
  by_cases hs : isStrB d = true
  · obtain ⟨s, rfl⟩ := str_of hs
    obtain ⟨l, rfl⟩ : ∃ l, s = tx l := ⟨_, of_tx s⟩
    have hz := hd.str.2
    rw [tx_len] at hz
    have hc : (decide ((1 : Int) ≤ ((tx l).length : Int)) && decide (((tx l).length : Int) ≤ 8)) = (decide (1 ≤ l.length) && decide (l.length ≤ 8)) := by
      rw [tx_len]
      congr 1
      · exact decide_eq_decide.mpr (by omega)
      · exact decide_eq_decide.mpr (by omega)
    refine ds_seq (ds_if (EvT.dl (b := !(decide (1 ≤ l.length) && decide (l.length ≤ 8))) ?_ ⟨fun h => ?_, fun h => ?_⟩))
    · have e := evt_or (Γ := Gz0 2 (spNameG.args (.str (tx l)))) (a := false) (b := !(decide ((1 : Int) ≤ ((tx l).length : Int)) && decide (((tx l).length : Int) ≤ 8))) (evt_not (a := true) (evt_tru_bl (K := K) (ev_isi (K := K) (ta := tVar 0) (d := .str (tx l)) (ev_var rfl) ev_raw (.inl rfl) (.ty "str") rfl))) fun _ => evt_not (evt_chain (ta := tC (.int 1)) (tb := tCB (Dw.rLen K) (tCons (tVar 0) tNil)) (tc := tC (.int 8)) ev_int (ev_lenS (ev_var rfl) (small (by rw [tx_len]; exact hz))) (fun _ => ev_int) dr2_le fun _ => dr2_le)
      rw [hc] at e
      exact e
    · refine ds_ret (Ev.dl ev_bl ?_)
      show D.bl false = D.bl (nmC (tx l).cps.toList)
      unfold nmC
      rw [tx_cps, show (decide (1 ≤ l.length) && decide (l.length ≤ 8)) = false by rw [Bool.not_eq_true'] at h; exact h]; rfl
    · refine ds_next (ds_ret (Ev.dl (ev_all_lc (xs := l) (c := fun c => .str (ch c)) (b := letterC) ?_ (by omega) fun c hc => ⟨[1], _, dg_name, fun i hi => hi, evt_yes, ev_op (ev_var rfl) ev_str ?_⟩) ?_))
      · have := ej_str (K := K) (ta := tVar 0) (Γ := Gz0 2 (spNameG.args (.str (tx l)))) (x := tx l) (ev_var rfl)
        rw [signs_tx, List.map_map] at this
        exact this
      · rw [lettersS]; exact in_code
      · show D.bl _ = D.bl (nmC (tx l).cps.toList)
        unfold nmC
        rw [tx_cps, show (decide (1 ≤ l.length) && decide (l.length ≤ 8)) = true by rw [Bool.not_eq_false'] at h; exact h]; rfl
  · have hs : isStrB d = false := by simpa using hs
    refine ds_seq (ds_if (EvT.dl (b := true) (evt_or (a := true) (b := false) (evt_not (a := false) (evt_tru_bl (ev_isi (ev_var rfl) ev_raw (.inl hd.ty) (.ty "str") (by rw [kit_str hd.ty, hs])))) fun h => (nomatch h)) ⟨fun _ => ds_ret (Ev.dl ev_bl ?_), fun h => (nomatch h)⟩))
    cases d <;> first | rfl | exact nomatch hs

end K34

namespace K34
open PySem PySem.Spec PyProof.Rows L2 Dw
variable [Tabs0]
def bookTx (ls rs : List (List Nat)) : List Nat := TL.joinL [32] ((TL.joinL [32] ls ++ [58]) :: rs)
def bookD (C : Addr) (ls rs : List (List Nat)) : D := .obj C ["_text", "_names", "_rows"] [.str (tx (bookTx ls rs)), .tup (nameD ls), .tup (nameD rs)]
structure BookOk (ls rs : List (List Nat)) : Prop where
  names : NamesOk ls
  few : rs.length ≤ 20
  rows : ∀ r ∈ rs, RowOk r ls.length
theorem kit_self {K : PySem.W.Frag} {C : Addr} : PySem.W.kitOne K (.ref C) (.ref C) = some true := by
  unfold PySem.W.kitOne
  rw [if_pos]
  first | exact beq_self_eq_true _ | simp | rfl
abbrev Bk := List (List Nat) × List (List Nat)
def spCheck (C : Addr) : Spc where
  ty := Bk
  args := fun x => [bookD C x.1 x.2]
  ok := fun _ => True
  rel := fun _ d => d = .non
def spBNames (C : Addr) : Spc where
  ty := Bk
  args := fun x => [bookD C x.1 x.2]
  ok := fun _ => True
  rel := fun x d => d = .tup (nameD x.1)
def spBRows (C : Addr) : Spc where
  ty := Bk
  args := fun x => [bookD C x.1 x.2]
  ok := fun _ => True
  rel := fun x d => d = .tup (nameD x.2)
/-! signs fused -/
def chD (l : List Nat) : List D := l.map fun c => D.str (ch c)
theorem inV_ch (c : Nat) : ∀ l : List Nat, inV (.str (ch c)) ((chD l).map scV) = decide (c ∈ l)
  | [] => rfl
  | b :: l => by
    show ((ch b == ch c) || inV (.str (ch c)) ((chD l).map scV)) = _
    rw [inV_ch c l, Bool.eq_iff_iff]
    simp only [Bool.or_eq_true, beq_iff_eq, ch_eq, decide_eq_true_eq, List.mem_cons]
    constructor
    · rintro (h | h)
      · exact .inl h.symm
      · exact .inr h
    · rintro (h | h)
      · exact .inl h.symm
      · exact .inr h
theorem sc_ch (l : List Nat) : (chD l).all isSc = true := by
  induction l with
  | nil => rfl
  | cons c l ih => exact ih
end K34

namespace K34
open PySem PySem.Spec PyProof.Rows L2 Dw
variable [Tabs0]
theorem d_check_book {P : Program} {w : World} {K : PySem.W.Frag} {mg : Str → Option Value} {base : Heap} (T : Txt K w mg) : FnOk P w K mg base CX0 1 T.f_check_book T.e_check_book ["book"] (toSp (spCheck T.C_Book)) := by
  refine fn_ok T.F_check_book sc_check_book (fun _ => rfl) fun cdv A outer s' H E hr => ?_
  refine ⟨_, (pss_one (ps_if (pt_not (truA K (pe_callB (isiA K) (by rfl) T.n_isinstance (by decide +kernel) (pa_cons (pv 0) (pa_cons (pe_glob (v := .ref T.C_Book) (by rfl) T.m_Book rfl) pa_nil))))) (pss_one ps_never) pss_nil)), fun x hx => ?_⟩
  obtain ⟨ls, rs⟩ := x
  exact ds_if (EvT.dl (b := false) (evt_not (a := true) (evt_tru_bl (ev_isi (ev_var rfl) ev_raw (.inr ⟨_, _, _, rfl, T.ins_Book⟩) (.own _) kit_self))) ⟨fun h => (nomatch h), fun _ => ds_next rfl⟩)
end K34

namespace K34
open PySem PySem.Spec PyProof.Rows L2 Dw
variable [Tabs0]
theorem d_Book_names {P : Program} {w : World} {K : PySem.W.Frag} {mg : Str → Option Value} {base : Heap} (T : Txt K w mg) : FnOk P w K mg base CX0 1 T.f_Book_names T.e_Book_names ["self"] (toSp (spBNames T.C_Book)) := by
  refine fn_ok T.F_Book_names sc_Book_names (fun _ => rfl) fun cdv A outer s' H E hr => ?_
  refine ⟨_, (pss_one (ps_ret (fldA K (pv 0)))), fun x hx => ?_⟩
  obtain ⟨ls, rs⟩ := x
  exact ds_ret (Ev.dl (ev_fld T.cl_Book T.no_names (ev_var rfl) (by rfl)) rfl)
end K34

namespace K34
open PySem PySem.Spec PyProof.Rows L2 Dw
variable [Tabs0]
theorem d_Book_rows {P : Program} {w : World} {K : PySem.W.Frag} {mg : Str → Option Value} {base : Heap} (T : Txt K w mg) : FnOk P w K mg base CX0 1 T.f_Book_rows T.e_Book_rows ["self"] (toSp (spBRows T.C_Book)) := by
  refine fn_ok T.F_Book_rows sc_Book_rows (fun _ => rfl) fun cdv A outer s' H E hr => ?_
  refine ⟨_, (pss_one (ps_ret (fldA K (pv 0)))), fun x hx => ?_⟩
  obtain ⟨ls, rs⟩ := x
  exact ds_ret (Ev.dl (ev_fld T.cl_Book T.no_rows (ev_var rfl) (by rfl)) rfl)
end K34

namespace K34
open PySem PySem.Spec PyProof.Rows L2 Dw
variable [Tabs0]
theorem np_name (ls : List (List Nat)) : noPs (nameD ls) = true := noPs_map (fun _ => rfl) ls
theorem np_ord (o : List Nat) : noPs (ordD o) = true := noPs_map (fun _ => rfl) o
theorem np_tup {ds : List D} (h : noPs ds = true) : noPs [.tup ds] = true := by show (noPs ds && true) = true; rw [h]; rfl
theorem np_book (C : Addr) (ls rs : List (List Nat)) : noPs [bookD C ls rs] = true := by
  show ((true && ((noPs (nameD ls)) && (noPs (nameD rs) && true))) && true) = true
  rw [np_name, np_name]; rfl
theorem joinL_len {m : Nat} : ∀ ls : List (List Nat), (∀ p ∈ ls, p.length ≤ m) → (TL.joinL [32] ls).length ≤ ls.length * (m + 1)
  | [], _ => Nat.zero_le _
  | [p], h => by
    have := h p (List.mem_singleton.mpr rfl)
    show p.length ≤ 1 * (m + 1)
    omega
  | p :: q :: r, h => by
    have h1 := h p List.mem_cons_self
    have h2 := joinL_len (q :: r) fun x hx => h x (List.mem_cons_of_mem _ hx)
    show (p ++ ([32] ++ TL.joinL [32] (q :: r))).length ≤ (List.length (q :: r) + 1) * (m + 1)
    rw [List.length_append, List.length_append, Nat.add_mul]
    show p.length + (1 + _) ≤ _
    omega
theorem joinL_mem {c : Nat} : ∀ ls : List (List Nat), c ∈ TL.joinL [32] ls → c = 32 ∨ ∃ p ∈ ls, c ∈ p
  | [], h => absurd h (by simp [TL.joinL])
  | [p], h => .inr ⟨p, List.mem_singleton.mpr rfl, h⟩
  | p :: q :: r, h => by
    have h : c ∈ p ++ ([32] ++ TL.joinL [32] (q :: r)) := h
    rcases List.mem_append.mp h with h | h
    · exact .inr ⟨p, List.mem_cons_self, h⟩
    · rcases List.mem_append.mp h with h | h
      · exact .inl (List.mem_singleton.mp h)
      · rcases joinL_mem (q :: r) h with h | ⟨x, hx, hc⟩
        · exact .inl h
        · exact .inr ⟨x, List.mem_cons_of_mem _ hx, hc⟩
theorem bookTx_eq (ls : List (List Nat)) : ∀ rs : List (List Nat), bookTx ls rs = TL.joinL [32] ls ++ ([58] ++ TL.joinL [32] ([] :: rs))
  | [] => rfl
  | q :: r => by
    show (TL.joinL [32] ls ++ [58]) ++ ([32] ++ TL.joinL [32] (q :: r)) = TL.joinL [32] ls ++ ([58] ++ ([] ++ ([32] ++ TL.joinL [32] (q :: r))))
    rw [List.nil_append, List.append_assoc]
theorem spaceS : Str.ofString " " = tx [32] := by decide +kernel
theorem colonS : Str.ofString ":" = tx [58] := by decide +kernel
theorem split_sp {ps : List (List Nat)} (hne : ps ≠ []) (h : ∀ p ∈ ps, 32 ∉ p) : Txt.split (tx (TL.joinL [32] ps)) (Str.ofString " ") = ps.map tx := by
  rw [spaceS]
  refine (SX.split_S (a := TL.joinL [32] ps) (b := [32]) (by simp) (by decide)).trans ?_
  rw [SX.spl_join hne h]; rfl
theorem part_sp {p q : List Nat} (h : 58 ∉ p) : Txt.partition (tx (p ++ ([58] ++ q))) (Str.ofString ":") = (tx p, tx [58], tx q) := by
  rw [colonS]
  exact SX.partition_some (by simp) (SX.par_head q h)
theorem BookOk.h58 {ls rs : List (List Nat)} (h : BookOk ls rs) : 58 ∉ TL.joinL [32] ls := fun hm => by
  rcases joinL_mem ls hm with h' | ⟨p, hp, hc⟩
  · cases h'
  · have := (h.names.all p hp).all 58 hc; omega
theorem BookOk.h32 {ls rs : List (List Nat)} (h : BookOk ls rs) : ∀ p ∈ ls, 32 ∉ p := fun p hp hc => by
  have := (h.names.all p hp).all 32 hc; omega
theorem BookOk.r32 {ls rs : List (List Nat)} (h : BookOk ls rs) : ∀ p ∈ [] :: rs, 32 ∉ p := fun p hp hc => by
  rcases List.mem_cons.mp hp with rfl | hp
  · exact absurd hc (by simp)
  · rcases (h.rows p hp).all 32 hc with h | h | h <;> cases h
theorem BookOk.hl {ls rs : List (List Nat)} (h : BookOk ls rs) : (TL.joinL [32] ls).length ≤ 72 := by
  have := joinL_len (m := 8) ls fun p hp => (h.names.all p hp).hi
  have := h.names.hi
  omega
theorem BookOk.tl {ls rs : List (List Nat)} (h : BookOk ls rs) : (TL.joinL [32] ([] :: rs)).length ≤ 189 := by
  have e := joinL_len (m := 8) ([] :: rs) fun p hp => by
    rcases List.mem_cons.mp hp with rfl | hp
    · exact Nat.zero_le _
    · rw [(h.rows p hp).len]; exact h.names.hi
  rw [List.length_cons] at e
  have := h.few
  omega
theorem BookOk.len {ls rs : List (List Nat)} (h : BookOk ls rs) : (tx (bookTx ls rs)).length ≤ 300 := by
  rw [tx_len, bookTx_eq, List.length_append, List.length_append]
  have := h.hl
  have := h.tl
  show _ + (1 + _) ≤ _
  omega
def spInit : Spc where
  ty := Bk
  args := fun x => [.str (tx (bookTx x.1 x.2))]
  ok := fun x => BookOk x.1 x.2
  rel := fun x d => d = .tup [.str (tx (bookTx x.1 x.2)), .tup (nameD x.1), .tup (nameD x.2)]
theorem nameD_map (ls : List (List Nat)) : (ls.map tx).map D.str = nameD ls := by rw [List.map_map]; rfl
end K34

namespace K34
open PySem PySem.Spec PyProof.Rows L2 Dw
variable [Tabs0]
structure FuOk (ls rs : List (List Nat)) (o : List Nat) : Prop where
  book : BookOk ls rs
  lot : LotOk o rs.length
theorem inc_len {m : Nat} : ∀ (o : List Nat) (lo : Nat), lo ≤ m → (∀ k ∈ o, lo ≤ k ∧ k < m) → o.Pairwise (· < ·) → o.length + lo ≤ m
  | [], lo, h, _, _ => by rw [List.length_nil]; omega
  | a :: o, lo, h, hk, hp => by
    obtain ⟨h1, h2⟩ := hk a List.mem_cons_self
    obtain ⟨p1, p2⟩ := List.pairwise_cons.mp hp
    have := inc_len o (a + 1) (by omega) (fun k hm => ⟨p1 k hm, (hk k (List.mem_cons_of_mem _ hm)).2⟩) p2
    rw [List.length_cons]; omega
theorem lot_len {o : List Nat} {m : Nat} (h : LotOk o m) : o.length ≤ m := inc_len o 0 (Nat.zero_le _) (fun k hk => ⟨Nat.zero_le _, h.lt k hk⟩) h.inc
end K34

namespace K34
open PySem PySem.Spec PyProof.Rows L2 Dw
variable [Tabs0]
def lots : Nat → List (List Nat)
  | 0 => [[]]
  | n + 1 => lots n ++ (lots n).map (· ++ [n])
theorem lots_len : ∀ n, (lots n).length = 2 ^ n
  | 0 => rfl
  | n + 1 => by
    show (lots n ++ (lots n).map _).length = _
    rw [List.length_append, List.length_map, lots_len n, Nat.pow_succ]; omega
theorem lots_ok : ∀ n, ∀ o ∈ lots n, LotOk o n
  | 0, o, h => by
    rw [List.mem_singleton.mp h]
    exact ⟨fun k h => absurd h (by simp), List.Pairwise.nil⟩
  | n + 1, o, h => by
    rcases List.mem_append.mp h with h | h
    · have := lots_ok n o h
      exact ⟨fun k hk => Nat.lt_succ_of_lt (this.lt k hk), this.inc⟩
    · obtain ⟨p, hp, rfl⟩ := List.mem_map.mp h
      have := lots_ok n p hp
      refine ⟨fun k hk => ?_, List.pairwise_append.mpr ⟨this.inc, List.pairwise_singleton _ _, fun a ha b hb => ?_⟩⟩
      · rcases List.mem_append.mp hk with hk | hk
        · exact Nat.lt_succ_of_lt (this.lt k hk)
        · rw [List.mem_singleton.mp hk]; exact Nat.lt_succ_self n
      · rw [List.mem_singleton.mp hb]; exact this.lt a ha
def ordT (os : List (List Nat)) : List D := os.map fun o => D.tup (ordD o)
theorem ordD_snoc (o : List Nat) (i : Nat) : ordD o ++ [D.int i] = ordD (o ++ [i]) := by
  unfold ordD
  rw [List.map_append]; rfl
theorem ordD_len (o : List Nat) : (ordD o).length = o.length := List.length_map ..
theorem ordT_len (o : List (List Nat)) : (ordT o).length = o.length := List.length_map ..
end K34

namespace K34
open PySem PySem.Spec PyProof.Rows L2 Dw
variable [Tabs0]
def nameB (l : List Nat) : Bool := decide (1 ≤ l.length) && decide (l.length ≤ 8) && l.all fun c => decide (97 ≤ c) && decide (c ≤ 122)
theorem nameB_ok {l : List Nat} (h : nameB l = true) : NameOk l := by
  unfold nameB at h
  rw [Bool.and_eq_true, Bool.and_eq_true, List.all_eq_true] at h
  exact ⟨of_decide_eq_true h.1.1, of_decide_eq_true h.1.2, fun c hc => by
    have := h.2 c hc
    rw [Bool.and_eq_true] at this
    exact ⟨of_decide_eq_true this.1, of_decide_eq_true this.2⟩⟩
theorem lt_of_ne : ∀ a b : List Nat, a ≠ b → ¬ b < a → a < b
  | [], [], h, _ => absurd rfl h
  | [], b :: bs, _, _ => List.nil_lt_cons b bs
  | a :: as, [], _, h => absurd (List.nil_lt_cons a as) h
  | a :: as, b :: bs, h, h' => by
    rw [List.cons_lt_cons_iff] at h' ⊢
    by_cases e : a = b
    · subst e
      exact .inr ⟨rfl, lt_of_ne as bs (fun z => h (by rw [z])) fun z => h' (.inr ⟨rfl, z⟩)⟩
    · exact .inl (by
        have : ¬ b < a := fun z => h' (.inl z)
        omega)
theorem rising_inc : ∀ (x : Str) (r : List Str), risingS x r = true → (x :: r).Nodup → ∀ p ∈ (((x :: r).map fun s => s.cps.toList).zip (r.map fun s => s.cps.toList)), p.1 < p.2
  | x, [], _, _, p, hp => by cases hp
  | x, y :: r, h, nd, p, hp => by
    have h : (!ltCps y.cps.toList x.cps.toList && risingS y r) = true := h
    rw [Bool.and_eq_true, ltCps_eq, Bool.not_eq_true', decide_eq_false_iff_not] at h
    obtain ⟨n1, n2⟩ := List.nodup_cons.mp nd
    rcases List.mem_cons.mp hp with rfl | hp
    · exact lt_of_ne _ _ (fun z => n1 (by
        have z' : x.cps.toList = y.cps.toList := z
        have : x = y := by rw [of_tx x, of_tx y, z']
        rw [this]; exact List.mem_cons_self)) h.1
    · exact rising_inc y r h.2 n2 p hp
theorem nameD_len (ls : List (List Nat)) : (nameD ls).length = ls.length := List.length_map ..
theorem nodup_tx {l : List (List Nat)} (h : l.Nodup) : (l.map tx).Nodup := by
  rw [List.nodup_iff_pairwise_ne] at h ⊢
  exact List.pairwise_map.mpr (h.imp fun h z => h (tx_eq.mp z))
end K34

namespace K34
open PySem PySem.Spec PyProof.Rows L2 Dw
variable [Tabs0]
theorem flipped_ok {l : List Nat} {n : Nat} (h : RowOk l n) : RowOk (flipped l) n := by
  refine ⟨by unfold flipped; rw [List.length_map, h.len], fun c hc => ?_⟩
  unfold flipped at hc
  obtain ⟨b, hb, rfl⟩ := List.mem_map.mp hc
  exact flip1_is (h.all b hb)
end K34

namespace K34
open PySem PySem.Spec PyProof.Rows L2 Dw
variable [Tabs0]
theorem sum_tx {m : Nat} : ∀ ls : List (List Nat), (∀ p ∈ ls, p.length ≤ m) → ((ls.map tx).map (·.length)).sum ≤ ls.length * m
  | [], _ => Nat.zero_le _
  | p :: r, h => by
    have h1 := h p List.mem_cons_self
    have h2 := sum_tx r fun x hx => h x (List.mem_cons_of_mem _ hx)
    rw [List.map_cons, List.map_cons, List.sum_cons, tx_len, List.length_cons, Nat.add_mul]
    omega
theorem join_sp (ls : List (List Nat)) : Txt.join (Str.ofString " ") (ls.map tx) = tx (TL.joinL [32] ls) := by rw [spaceS, join_tx]
end K34

namespace K34
open PySem PySem.Spec PyProof.Rows L2 Dw
variable [Tabs0]
theorem dr2_pow {i j : Int} (h : CPow i j) : DR2 (rI CPow fun i j => .int (i ^ j.toNat)) (.int i) (.int j) (.int (i ^ j.toNat)) := dr2_rI h fun _ => rfl
theorem scr_at {ns : List Int} {spot : Nat} (h : spot < ns.length) : atI (ns.map V.int) (spot : Int) = some (.int (ns.getD spot 0)) := by
  refine atI_nat ?_
  rw [List.getElem?_map, List.getElem?_eq_getElem h, List.getD_eq_getElem?_getD, List.getElem?_eq_getElem h]; rfl
end K34

namespace K34
open PySem PySem.Spec PyProof.Rows L2 Dw
variable [Tabs0]
/-! lots and rankings of any plain values -/
theorem eqv_ints : ∀ xs ys : List Int, PyData.eqvAll (pys (xs.map D.int)) (pys (ys.map D.int)) = decide (xs = ys)
  | [], [] => rfl
  | [], y :: ys => by
    show false = _
    simp
  | x :: xs, [] => by
    show false = _
    simp
  | x :: xs, y :: ys => by
    show ((x == y) && PyData.eqvAll (pys (xs.map D.int)) (pys (ys.map D.int))) = _
    rw [eqv_ints xs ys, Bool.eq_iff_iff]
    simp
/-! names of any plain values -/
def codesOf : D → List Nat | .str x => x.cps.toList | _ => []
def incB (ls : List (List Nat)) : Bool := (ls.zip (ls.drop 1)).all fun p => decide (p.1 < p.2)
def namesB (ds : List D) : Bool := ds.all nmB && incB (ds.map codesOf)
theorem all_names : ∀ {ds : List D}, ds.all nmB = true → ds = nameD (ds.map codesOf) ∧ ∀ l ∈ ds.map codesOf, NameOk l
  | [], _ => ⟨rfl, fun l h => absurd h (by simp)⟩
  | d :: r, h => by
    rw [List.all_cons, Bool.and_eq_true] at h
    obtain ⟨l, rfl, hl⟩ := nmB_iff.mp h.1
    obtain ⟨e, hr⟩ := all_names h.2
    have ec : codesOf (.str (tx l)) = l := tx_cps l
    rw [List.map_cons, ec]
    refine ⟨?_, fun x hx => ?_⟩
    · show D.str (tx l) :: r = D.str (tx l) :: nameD (r.map codesOf)
      rw [← e]
    · rcases List.mem_cons.mp hx with rfl | hx
      · exact hl
      · exact hr x hx
theorem codes_name (ls : List (List Nat)) : (nameD ls).map codesOf = ls := by
  unfold nameD
  rw [List.map_map]
  have e : (codesOf ∘ fun l => D.str (tx l)) = id := by funext l; exact tx_cps l
  rw [e, List.map_id]
theorem namesB_iff {ds : List D} : namesB ds = true ↔ ∃ ls, ds = nameD ls ∧ (∀ l ∈ ls, NameOk l) ∧ ∀ p ∈ ls.zip (ls.drop 1), p.1 < p.2 := by
  unfold namesB incB
  rw [Bool.and_eq_true]
  constructor
  · rintro ⟨h1, h2⟩
    obtain ⟨e, hn⟩ := all_names h1
    exact ⟨_, e, hn, fun p hp => of_decide_eq_true (List.all_eq_true.mp h2 p hp)⟩
  · rintro ⟨ls, rfl, h1, h2⟩
    rw [codes_name]
    refine ⟨?_, List.all_eq_true.mpr fun p hp => decide_eq_true (h2 p hp)⟩
    unfold nameD
    rw [List.all_map, List.all_eq_true]
    exact fun l hl => nmB_iff.mpr ⟨l, rfl, h1 l hl⟩
def spNamesG : Spc where
  ty := List D
  args := fun ds => [.tup ds]
  ok := fun ds => Pv (.tup ds)
  rel := fun ds e => e = .bl (namesB ds)
theorem cut_tail (ds : List D) : Dw.cutD ds (some 1) none = ds.drop 1 := by
  unfold Dw.cutD
  rw [HT.sIx_none]
  have e : HT.sIx ds.length 0 (some 1) = min 1 ds.length := by
    show (if (1 : Int) < 0 then ((1 : Int) + (ds.length : Int)).toNat else min (1 : Int).toNat ds.length) = _
    rw [if_neg (by decide)]; rfl
  rw [e]
  cases ds with
  | nil => rfl
  | cons d r =>
    rw [show min 1 (d :: r).length = 1 by simp [Nat.min_def], List.take_of_length_le (by simp)]
theorem pv_names {ls : List (List Nat)} (h : ∀ l ∈ ls, NameOk l) (hz : ls.length ≤ 60) : Pv (.tup (nameD ls)) := by
  show (decide ((nameD ls).length ≤ 60) && plBs 11 (nameD ls)) = true
  rw [show (nameD ls).length = ls.length from List.length_map .., decide_eq_true hz, Bool.true_and, plBs_iff]
  intro d hd
  obtain ⟨l, hl, rfl⟩ := List.mem_map.mp hd
  have := h l hl
  exact pv_strs (fun c hc => by have := this.all c hc; omega) (by have := this.hi; omega)
theorem names_ok {ls : List (List Nat)} (h : NamesOk ls) : namesB (nameD ls) = true := namesB_iff.mpr ⟨ls, rfl, h.all, h.inc⟩
theorem row_ok {l : List Nat} {n : Nat} (h : RowOk l n) (h1 : 1 ≤ n) (h8 : n ≤ 8) : rowB (.str (tx l)) n = true := rowB_iff.mpr ⟨l, rfl, h, h1, h8⟩
theorem pv_row {l : List Nat} {n : Nat} (h : RowOk l n) (h8 : n ≤ 8) : Pv (.str (tx l)) := pv_strs (fun c hc => (h.all c hc).lt) (by rw [h.len]; omega)
end K34

namespace K34
open PySem PySem.Spec PyProof.Rows L2 Dw
variable [Tabs0]
theorem d_are_names {P : Program} {w : World} {K : PySem.W.Frag} {mg : Str → Option Value} {base : Heap} (T : Txt K w mg) : FnOk P w K mg base CX0 2 T.f_are_names T.e_are_names ["values"] (toSp (spNamesG)) := by
  refine fn_ok T.F_are_names sc_are_names (fun _ => rfl) fun cdv A outer s' H E hr => ?_
  refine ⟨_, (pss_cons (ps_if (pt_not (truA K (pe_callB (allA K) (by rfl) T.n_all (by decide +kernel) (pa_cons (pe_lc (own := [("value", 3)]) rfl sc_are_names.nd (piR K (pv 0)) (blkOk_by (own := [("value", 3)]) (N := N_are_names) (sc := (defScope s_are_names)) (by decide +kernel)) (fun _ _ _ _ _ => pg_name (i := 3) sc_are_names.nd rfl (Or.inl rfl)) (fun _ _ _ _ _ => pts_nil) (fun _ _ _ _ _ => (pe_call (d_is_name T) (hr.mono (by decide)) (by rfl) T.m_is_name T.F_is_name.kp T.b_is_name .nil pass0 (pa_cons (pv 3) pa_nil)))) pa_nil)))) (pss_one (ps_ret pe_bl)) pss_nil) (pss_one (ps_ret (pe_callB (allA K) (by rfl) T.n_all (by decide +kernel) (pa_cons (pe_lc (own := [("one", 1), ("other", 2)]) rfl sc_are_names.nd (zipA K (by rfl) T.n_zip (pa_cons (pv 0) (pa_cons (pe_slice (slXA K) (pv 0) (po_some pe_int) po_none) pa_nil))) (blkOk_by (own := [("one", 1), ("other", 2)]) (N := N_are_names) (sc := (defScope s_are_names)) (by decide +kernel)) (fun _ _ _ _ _ => tupA K 2 rfl (pgs_cons (pg_name (i := 1) sc_are_names.nd rfl (Or.inl rfl)) (pgs_cons (pg_name (i := 2) sc_are_names.nd rfl (Or.inl rfl)) pgs_nil))) (fun _ _ _ _ _ => pts_nil) (fun _ _ _ _ _ => (pe_cmpR opLt (pv 1) (pv 2) (nomark _)))) pa_nil))))), fun x hx => ?_⟩
  obtain ⟨ds, rfl⟩ : ∃ l : List D, l = x := ⟨x, rfl⟩
  have hd : Pv (.tup ds) := hx
  obtain ⟨hz, hp⟩ := hd.tup
  refine ds_seq (ds_if (EvT.dl (b := !ds.all nmB) (evt_not (evt_tru_bl (ev_all_lc (K := K) (xs := ds) (c := fun d => d) (b := nmB) ?it (by omega) fun k hk => ⟨[3], _, dg_name, fun i hi => hi, evt_yes, ev_call (s := spNameG) (x := k) (eva_cons (ev_var rfl) eva_nil) (np1 (hp k hk) rfl) (hp k hk) fun d h => h⟩))) ⟨fun h => ?_, fun h => ds_next ?_⟩))
  case it => rw [List.map_id']; exact ej_tup (ev_var rfl)
  · refine ds_ret (Ev.dl ev_bl ?_)
    show D.bl false = D.bl (namesB ds)
    unfold namesB
    rw [Bool.not_eq_true'] at h
    rw [h]; rfl
  · rw [Bool.not_eq_false'] at h
    obtain ⟨e, hn⟩ := all_names h
    generalize hls : ds.map codesOf = ls at e hn
    subst e
    have el : (nameD ls).length = ls.length := List.length_map ..
    refine ds_ret (Ev.dl (ev_all_lc (xs := ls.zip (ls.drop 1)) (c := fun p => .tup [.str (tx p.1), .str (tx p.2)]) (b := fun p => decide (p.1 < p.2)) ?_ ?_ ?_) ?_)
    · rw [← zip_names]
      have e : nameD (ls.drop 1) = Dw.cutD (nameD ls) (some 1) none := by
        rw [cut_tail]
        unfold nameD
        rw [List.map_drop]
      rw [e]
      exact ei_zipT (ev_var rfl) (ev_sliceTY (ev_var rfl) (eo_some ev_int) eo_none)
    · rw [List.length_zip]; omega
    · intro p hp
      exact ⟨[1] ++ [2], _, dg_tup2 dg_name dg_name, fun i hi => hi, evt_yes, ev_op (ev_var rfl) (ev_var rfl) lt_tx⟩
    · show D.bl (incB ls) = D.bl (namesB (nameD ls))
      unfold namesB
      rw [h, codes_name]; rfl

end K34

namespace K34
open PySem PySem.Spec PyProof.Rows L2 Dw
variable [Tabs0]
/-! the layers -/
def rowAt (rs : List (List Nat)) (i : Nat) : List Nat := rs.getD i []
def minB (rs : List (List Nat)) (still : List Nat) (k : Nat) : Bool := still.any fun i => decide (sgn (rowAt rs i) k = 45)
def plusB (rs : List (List Nat)) (lay : List Nat) (i : Nat) : Bool := lay.any fun k => decide (sgn (rowAt rs i) k = 43)
def openB (rs : List (List Nat)) (i : Nat) : Bool := (rowAt rs i).any fun c => !decide (c = 46)
def open0 (rs : List (List Nat)) : List Nat := (List.range rs.length).filter (openB rs)
def layF (rs : List (List Nat)) : Nat → List (List Nat) → List Nat → List Nat → List (List Nat) × List Nat
  | 0, made, _, still => (made, still)
  | f + 1, made, left, still =>
    if still = [] then (if left = [] then made else made ++ [left], [])
    else if left.filter (fun k => !minB rs still k) = [] then (made, still)
    else layF rs f (made ++ [left.filter fun k => !minB rs still k]) (left.filter (minB rs still)) (still.filter fun i => !plusB rs (left.filter fun k => !minB rs still k) i)
def splitM (rs : List (List Nat)) (n : Nat) : List (List Nat) × List Nat := layF rs (n + 1) [] (List.range n) (open0 rs)
/-- a row that some layer settles, all ahead of it being dots, and none of it a minus -/
def Settled (rs : List (List Nat)) (made : List (List Nat)) (i : Nat) : Prop := ∃ pre lay post, made = pre ++ lay :: post ∧ (∀ l ∈ pre, ∀ k ∈ l, sgn (rowAt rs i) k = 46) ∧ (∀ k ∈ lay, sgn (rowAt rs i) k ≠ 45) ∧ ∃ k ∈ lay, sgn (rowAt rs i) k = 43
structure LayI (rs : List (List Nat)) (n : Nat) (made : List (List Nat)) (left still : List Nat) : Prop where
  perm : (made.flatten ++ left).Perm (List.range n)
  ne : ∀ l ∈ made, l ≠ []
  sub : still.Sublist (open0 rs)
  dots : ∀ i ∈ still, ∀ l ∈ made, ∀ k ∈ l, sgn (rowAt rs i) k = 46
  done : ∀ i ∈ open0 rs, i ∉ still → Settled rs made i
  inc : left.Sublist (List.range n)
theorem Settled.more {rs made i} (l : List (List Nat)) (h : Settled rs made i) : Settled rs (made ++ l) i := by
  obtain ⟨pre, lay, post, rfl, h1, h2, h3⟩ := h
  exact ⟨pre, lay, post ++ l, by simp, h1, h2, h3⟩
theorem filter_split (p : Nat → Bool) : ∀ l : List Nat, ((l.filter fun k => !p k) ++ l.filter p).Perm l
  | [] => .refl _
  | a :: l => by
    have ih := filter_split p l
    cases h : p a with
    | true =>
      rw [List.filter_cons_of_neg (by simp [h]), List.filter_cons_of_pos h]
      exact (List.perm_middle).trans (ih.cons a)
    | false =>
      rw [List.filter_cons_of_pos (by simp [h]), List.filter_cons_of_neg (by simp [h])]
      exact ih.cons a
theorem LayI.next {rs n made left still} (hs : ∀ i c, sgn (rowAt rs i) c = 43 ∨ sgn (rowAt rs i) c = 45 ∨ sgn (rowAt rs i) c = 46) (h : LayI rs n made left still) (hl : left.filter (fun k => !minB rs still k) ≠ []) :
    LayI rs n (made ++ [left.filter fun k => !minB rs still k]) (left.filter (minB rs still)) (still.filter fun i => !plusB rs (left.filter fun k => !minB rs still k) i) := by
  have nomin : ∀ i ∈ still, ∀ k ∈ left.filter (fun k => !minB rs still k), sgn (rowAt rs i) k ≠ 45 := fun i hi k hk z => by
    have h1 := (List.mem_filter.mp hk).2
    have : minB rs still k = true := List.any_eq_true.mpr ⟨i, hi, decide_eq_true z⟩
    rw [this] at h1; cases h1
  refine ⟨?_, fun l hm => ?_, (List.filter_sublist).trans h.sub, fun i hi l hm k hk => ?_, fun i hi hn => ?_, (List.filter_sublist).trans h.inc⟩
  · rw [List.flatten_append, List.append_assoc]
    refine (List.Perm.append_left _ ?_).trans h.perm
    simp only [List.flatten_cons, List.flatten_nil, List.append_nil]
    exact filter_split _ left
  · rcases List.mem_append.mp hm with hm | hm
    · exact h.ne l hm
    · rw [List.mem_singleton.mp hm]; exact hl
  · obtain ⟨hi, hp⟩ := List.mem_filter.mp hi
    rcases List.mem_append.mp hm with hm | hm
    · exact h.dots i hi l hm k hk
    · rw [List.mem_singleton.mp hm] at hk
      rcases hs i k with z | z | z
      · have : plusB rs (left.filter fun k => !minB rs still k) i = true := List.any_eq_true.mpr ⟨k, hk, decide_eq_true z⟩
        rw [this] at hp; cases hp
      · exact absurd z (nomin i hi k hk)
      · exact z
  · by_cases hi2 : i ∈ still
    · have hp : plusB rs (left.filter fun k => !minB rs still k) i = true := by
        cases q : plusB rs (left.filter fun k => !minB rs still k) i with
        | true => rfl
        | false => exact absurd (List.mem_filter.mpr ⟨hi2, by rw [q]; rfl⟩) hn
      obtain ⟨k, hk, z⟩ := List.any_eq_true.mp hp
      exact ⟨made, _, [], by simp, fun l hm k hk => h.dots i hi2 l hm k hk, nomin i hi2, k, hk, of_decide_eq_true z⟩
    · exact (h.done i hi hi2).more _
theorem lay_len {rs : List (List Nat)} {left still : List Nat} (hl : left.filter (fun k => !minB rs still k) ≠ []) : (left.filter (minB rs still)).length < left.length := by
  have := (filter_split (minB rs still) left).length_eq
  rw [List.length_append] at this
  have h2 : 0 < (left.filter fun k => !minB rs still k).length := List.length_pos_iff.mpr hl
  omega
theorem layI_0 (rs : List (List Nat)) (n : Nat) : LayI rs n [] (List.range n) (open0 rs) :=
  ⟨.refl _, fun l h => absurd h (by simp), List.Sublist.refl _, fun i _ l h => absurd h (by simp), fun i h h' => absurd h h', List.Sublist.refl _⟩
/-- how the making ends -/
theorem layF_end {rs : List (List Nat)} {n : Nat} (hs : ∀ i c, sgn (rowAt rs i) c = 43 ∨ sgn (rowAt rs i) c = 45 ∨ sgn (rowAt rs i) c = 46) : ∀ (f : Nat) (made : List (List Nat)) (left still : List Nat), LayI rs n made left still → left.length < f →
    (∃ ls, layF rs f made left still = (ls, []) ∧ LayI rs n ls [] []) ∨ (∃ ls lf st, layF rs f made left still = (ls, st) ∧ st ≠ [] ∧ LayI rs n ls lf st ∧ lf.filter (fun k => !minB rs st k) = [])
  | 0, _, _, _, _, h => absurd h (Nat.not_lt_zero _)
  | f + 1, made, left, still, h, hf => by
    unfold layF
    by_cases h1 : still = []
    · subst h1
      rw [if_pos rfl]
      refine .inl ⟨_, rfl, ?_⟩
      by_cases h2 : left = []
      · rw [if_pos h2]; subst h2; exact h
      · rw [if_neg h2]
        refine ⟨?_, fun l hm => ?_, h.sub, fun i hi => absurd hi (by simp), fun i hi hn => (h.done i hi hn).more _, List.nil_sublist _⟩
        · have := h.perm
          simpa using this
        · rcases List.mem_append.mp hm with hm | hm
          · exact h.ne l hm
          · rw [List.mem_singleton.mp hm]; exact h2
    · rw [if_neg h1]
      by_cases h2 : left.filter (fun k => !minB rs still k) = []
      · rw [if_pos h2]; exact .inr ⟨_, _, _, rfl, h1, h, h2⟩
      · rw [if_neg h2]
        exact layF_end hs f _ _ _ (h.next hs h2) (by have := lay_len h2; omega)
/-- a row along an order: dots, then a sign -/
theorem told_dots {l : List Nat} : ∀ {p : List Nat}, (∀ k ∈ p, sgn l k = 46) → told l p = []
  | [], _ => rfl
  | k :: p, h => by
    have ih := told_dots (l := l) (p := p) fun j hj => h j (List.mem_cons_of_mem _ hj)
    unfold told at ih ⊢
    rw [List.map_cons, List.filter_cons_of_neg (by rw [h k List.mem_cons_self]; decide)]
    exact ih
theorem told_app (l p q : List Nat) : told l (p ++ q) = told l p ++ told l q := by
  unfold told
  rw [List.map_append, List.filter_append]
theorem holds_lay {l : List Nat} : ∀ {q : List Nat}, (∀ k ∈ q, sgn l k = 43 ∨ sgn l k = 46) → (∃ k ∈ q, sgn l k = 43) → ∀ r, holdsB l (q ++ r) = true
  | [], _, h, _ => by obtain ⟨k, hk, _⟩ := h; cases hk
  | k :: q, h, h2, r => by
    rcases h k List.mem_cons_self with z | z
    · unfold holdsB told
      rw [List.cons_append, List.map_cons, List.filter_cons_of_pos (by rw [z]; decide), z]; rfl
    · have : told l (k :: q ++ r) = told l (q ++ r) := by
        unfold told
        rw [List.cons_append, List.map_cons, List.filter_cons_of_neg (by rw [z]; decide)]
      unfold holdsB
      rw [this]
      obtain ⟨j, hj, zj⟩ := h2
      rcases List.mem_cons.mp hj with rfl | hj
      · rw [z] at zj; cases zj
      · exact holds_lay (fun x hx => h x (List.mem_cons_of_mem _ hx)) ⟨j, hj, zj⟩ r
theorem holds_pre {l p q : List Nat} (h : ∀ k ∈ p, sgn l k = 46) : holdsB l (p ++ q) = holdsB l q := by
  unfold holdsB
  rw [told_app, told_dots h]; rfl
theorem holds_dots {l p : List Nat} (h : ∀ k ∈ p, sgn l k = 46) : holdsB l p = true := by
  unfold holdsB
  rw [told_dots h]
/-- layers each in some order -/
def walked (g : List Nat → List Nat) (ls : List (List Nat)) : List Nat := (ls.map g).flatten
theorem walked_perm {g : List Nat → List Nat} (hg : ∀ l, (g l).Perm l) : ∀ ls : List (List Nat), (walked g ls).Perm ls.flatten
  | [] => .refl _
  | l :: ls => by
    show (g l ++ walked g ls).Perm (l ++ ls.flatten)
    exact (hg l).append (walked_perm hg ls)
theorem settled_holds {rs : List (List Nat)} {ls : List (List Nat)} {i : Nat} (hs : ∀ i c, sgn (rowAt rs i) c = 43 ∨ sgn (rowAt rs i) c = 45 ∨ sgn (rowAt rs i) c = 46) {g : List Nat → List Nat} (hg : ∀ l, (g l).Perm l) (h : Settled rs ls i) : holdsB (rowAt rs i) (walked g ls) = true := by
  obtain ⟨pre, lay, post, rfl, h1, h2, k, hk, hk2⟩ := h
  have e : walked g (pre ++ lay :: post) = walked g pre ++ (g lay ++ walked g post) := by
    unfold walked
    simp
  rw [e, holds_pre fun k hk => ?_]
  · refine holds_lay (fun j hj => ?_) ⟨k, (hg lay).mem_iff.mpr hk, hk2⟩ _
    rcases hs i j with z | z | z
    · exact .inl z
    · exact absurd z (h2 j ((hg lay).mem_iff.mp hj))
    · exact .inr z
  · have hm := (walked_perm hg pre).mem_iff.mp hk
    obtain ⟨l, hl, hk⟩ := List.mem_flatten.mp hm
    exact h1 l hl k hk
theorem closed_dots {rs : List (List Nat)} {i : Nat} (hi : i < rs.length) (h : i ∉ open0 rs) (k : Nat) : sgn (rowAt rs i) k = 46 := by
  have hn : openB rs i = false := by
    cases q : openB rs i with
    | false => rfl
    | true => exact absurd (List.mem_filter.mpr ⟨List.mem_range.mpr hi, q⟩) h
  unfold openB at hn
  unfold sgn
  rw [List.getD_eq_getElem?_getD]
  cases q : (rowAt rs i)[k]? with
  | none => rfl
  | some c =>
    have := (List.any_eq_false.mp hn) c (List.mem_of_getElem? q)
    simpa using this
/-- where the layers end well, each order through them fits -/
theorem lay_fits {rs : List (List Nat)} {n : Nat} {ls : List (List Nat)} (hs : ∀ i c, sgn (rowAt rs i) c = 43 ∨ sgn (rowAt rs i) c = 45 ∨ sgn (rowAt rs i) c = 46) (h : LayI rs n ls [] []) {g : List Nat → List Nat} (hg : ∀ l, (g l).Perm l) :
    (walked g ls).Perm (List.range n) ∧ ∀ i, i < rs.length → holdsB (rowAt rs i) (walked g ls) = true := by
  refine ⟨(walked_perm hg ls).trans (by have := h.perm; simpa using this), fun i hi => ?_⟩
  by_cases ho : i ∈ open0 rs
  · exact settled_holds hs hg (h.done i ho (by simp))
  · exact holds_dots fun k _ => closed_dots hi ho k
/-- where they end badly, no order fits -/
theorem lay_stuck' {rs : List (List Nat)} {n : Nat} {ls : List (List Nat)} {lf st : List Nat} (h : LayI rs n ls lf st) (hne : st ≠ []) (hl : lf.filter (fun k => !minB rs st k) = []) (hr : ∀ i, i < rs.length → (rowAt rs i).length ≤ n) (o : List Nat) (ho : o.Perm (List.range n)) : ∃ i ∈ st, holdsB (rowAt rs i) o = false := by
  have bar : ∀ k ∈ lf, ∃ i ∈ st, sgn (rowAt rs i) k = 45 := fun k hk => by
    have : minB rs st k = true := by
      cases q : minB rs st k with
      | true => rfl
      | false =>
        have hm : k ∈ lf.filter (fun k => !minB rs st k) := List.mem_filter.mpr ⟨hk, by rw [q]; rfl⟩
        rw [hl] at hm; cases hm
    obtain ⟨i, hi, z⟩ := List.any_eq_true.mp this
    exact ⟨i, hi, of_decide_eq_true z⟩
  have inn : ∀ i ∈ st, i < rs.length := fun i hi => List.mem_range.mp (List.mem_filter.mp (h.sub.subset hi)).1
  have pl : ∀ k < n, k ∉ lf → ∀ i ∈ st, sgn (rowAt rs i) k = 46 := fun k hk hn i hi => by
    have : k ∈ ls.flatten ++ lf := h.perm.mem_iff.mpr (List.mem_range.mpr hk)
    rcases List.mem_append.mp this with hm | hm
    · obtain ⟨l, hl, hk⟩ := List.mem_flatten.mp hm
      exact h.dots i hi l hl k hk
    · exact absurd hm hn
  have hlf : ∃ k ∈ lf, k < n := by
    obtain ⟨i, hi⟩ := List.exists_mem_of_ne_nil st hne
    have ho := (List.mem_filter.mp (h.sub.subset hi)).2
    obtain ⟨c, hc, z⟩ := List.any_eq_true.mp ho
    obtain ⟨k, hk, e⟩ := List.mem_iff_getElem.mp hc
    have hkn : k < n := Nat.lt_of_lt_of_le hk (hr i (inn i hi))
    by_cases hk2 : k ∈ lf
    · exact ⟨k, hk2, hkn⟩
    · have := pl k hkn hk2 i hi
      unfold sgn at this
      rw [List.getD_eq_getElem?_getD, List.getElem?_eq_getElem hk] at this
      have this : (rowAt rs i)[k] = 46 := this
      rw [e] at this
      rw [this] at z; cases z
  obtain ⟨k0, hk0, hk0n⟩ := hlf
  -- the first of the order that is in no layer
  have first : ∀ o : List Nat, (∃ k ∈ o, k ∈ lf) → ∃ p k q, o = p ++ k :: q ∧ k ∈ lf ∧ ∀ j ∈ p, j ∉ lf := fun o => by
    induction o with
    | nil => rintro ⟨k, hk, _⟩; cases hk
    | cons a o ih =>
      intro hx
      by_cases ha : a ∈ lf
      · exact ⟨[], a, o, rfl, ha, fun j hj => absurd hj (by simp)⟩
      · obtain ⟨k, hk, hk2⟩ := hx
        rcases List.mem_cons.mp hk with rfl | hk
        · exact absurd hk2 ha
        · obtain ⟨p, j, q, e, h1, h2⟩ := ih ⟨k, hk, hk2⟩
          refine ⟨a :: p, j, q, by rw [e]; rfl, h1, fun x hx => ?_⟩
          rcases List.mem_cons.mp hx with rfl | hx
          · exact ha
          · exact h2 x hx
  obtain ⟨p, k, q, e, h1, h2⟩ := first o ⟨k0, ho.mem_iff.mpr (List.mem_range.mpr hk0n), hk0⟩
  obtain ⟨i, hi, z⟩ := bar k h1
  refine ⟨i, hi, ?_⟩
  rw [e, holds_pre fun j hj => pl j (List.mem_range.mp (ho.mem_iff.mp (by rw [e]; exact List.mem_append_left _ hj))) (h2 j hj) i hi]
  unfold holdsB told
  rw [List.map_cons, List.filter_cons_of_pos (by rw [z]; decide), z]; rfl
/-! all orders -/
def allM (n : Nat) : Nat → List (List Nat)
  | 0 => [[]]
  | i + 1 => (allM n i).flatMap fun o => ((List.range n).filter fun k => !decide (k ∈ o)).map fun k => o ++ [k]
theorem allM_mem (n : Nat) : ∀ (i : Nat) (o : List Nat), o ∈ allM n i ↔ o.length = i ∧ o.Nodup ∧ ∀ k ∈ o, k < n
  | 0, o => by
    show o ∈ [[]] ↔ _
    constructor
    · intro h; rw [List.mem_singleton.mp h]; exact ⟨rfl, List.nodup_nil, fun k h => absurd h (by simp)⟩
    · rintro ⟨h, _⟩
      rw [List.length_eq_zero_iff.mp h]; exact List.mem_singleton.mpr rfl
  | i + 1, o => by
    show o ∈ List.flatMap _ _ ↔ _
    rw [List.mem_flatMap]
    constructor
    · rintro ⟨p, hp, ho⟩
      obtain ⟨k, hk, rfl⟩ := List.mem_map.mp ho
      obtain ⟨hk1, hk2⟩ := List.mem_filter.mp hk
      obtain ⟨l, nd, lt⟩ := (allM_mem n i p).mp hp
      have hkp : k ∉ p := by simpa using hk2
      refine ⟨by rw [List.length_append, l]; rfl, ?_, fun j hj => ?_⟩
      · rw [List.nodup_append]
        exact ⟨nd, by simp, fun a ha b hb e => by rw [List.mem_singleton.mp hb] at e; subst e; exact hkp ha⟩
      · rcases List.mem_append.mp hj with hj | hj
        · exact lt j hj
        · rw [List.mem_singleton.mp hj]; exact List.mem_range.mp hk1
    · rintro ⟨l, nd, lt⟩
      have hne : o ≠ [] := fun z => by rw [z] at l; cases l
      have e := List.dropLast_concat_getLast hne
      have nd' := nd
      rw [← e, List.nodup_append] at nd'
      refine ⟨o.dropLast, (allM_mem n i _).mpr ⟨by rw [List.length_dropLast, l]; rfl, nd'.1, fun k hk => lt k (List.dropLast_subset o hk)⟩, List.mem_map.mpr ⟨o.getLast hne, List.mem_filter.mpr ⟨List.mem_range.mpr (lt _ (List.getLast_mem hne)), ?_⟩, e⟩⟩
      have : o.getLast hne ∉ o.dropLast := fun z => nd'.2.2 _ z _ (List.mem_singleton.mpr rfl) rfl
      simpa using this
theorem nd_perm : ∀ (o m : List Nat), o.Nodup → (∀ k ∈ o, k ∈ m) → m.length ≤ o.length → o.Perm m
  | [], m, _, _, h => by
    have : m = [] := List.length_eq_zero_iff.mp (Nat.le_zero.mp h)
    subst this; exact .refl _
  | a :: o, m, nd, hm, hl => by
    have p := List.perm_cons_erase (hm a List.mem_cons_self)
    obtain ⟨n1, n2⟩ := List.nodup_cons.mp nd
    refine ((nd_perm o (m.erase a) n2 (fun k hk => (List.mem_erase_of_ne (fun e : k = a => n1 (by rw [← e]; exact hk))).mpr (hm k (List.mem_cons_of_mem _ hk))) ?_).cons a).trans p.symm
    have := p.length_eq
    rw [List.length_cons] at this hl
    omega
theorem perm_iff {n : Nat} {o : List Nat} : o.Perm (List.range n) ↔ o.length = n ∧ o.Nodup ∧ ∀ k ∈ o, k < n := by
  constructor
  · intro h
    exact ⟨by rw [h.length_eq, List.length_range], h.nodup_iff.mpr List.nodup_range, fun k hk => List.mem_range.mp (h.mem_iff.mp hk)⟩
  · rintro ⟨l, nd, lt⟩
    exact nd_perm o _ nd (fun k hk => List.mem_range.mpr (lt k hk)) (by rw [List.length_range, l]; exact Nat.le_refl _)
def fitM (rs : List (List Nat)) (n : Nat) : List (List Nat) := (allM n n).filter fun o => rs.all fun r => holdsB r o
theorem fitM_mem {rs : List (List Nat)} {n : Nat} {o : List Nat} : o ∈ fitM rs n ↔ o.Perm (List.range n) ∧ ∀ r ∈ rs, holdsB r o = true := by
  unfold fitM
  rw [List.mem_filter, allM_mem, perm_iff, List.all_eq_true]
theorem all_rows {rs : List (List Nat)} {p : List Nat → Prop} : (∀ r ∈ rs, p r) ↔ ∀ i, i < rs.length → p (rowAt rs i) := by
  constructor
  · intro h i hi
    unfold rowAt
    rw [List.getD_eq_getElem?_getD, List.getElem?_eq_getElem hi]
    exact h _ (List.getElem_mem hi)
  · intro h r hr
    obtain ⟨i, hi, rfl⟩ := List.mem_iff_getElem.mp hr
    have := h i hi
    unfold rowAt at this
    rw [List.getD_eq_getElem?_getD, List.getElem?_eq_getElem hi] at this
    exact this
end K34

namespace K34
open PySem PySem.Spec PyProof.Rows L2 Dw
variable [Tabs0]
theorem np_to {o : List Nat} {r : List D} (h : noPs r = true) : noPs (.tup (ordD o) :: r) = true := by show (noPs (ordD o) && noPs r) = true; rw [np_ord, h]; rfl
theorem np_lo {o : List Nat} {r : List D} (h : noPs r = true) : noPs (.lst (ordD o) :: r) = true := by show (noPs (ordD o) && noPs r) = true; rw [np_ord, h]; rfl
theorem np_tn {o : List (List Nat)} {r : List D} (h : noPs r = true) : noPs (.tup (nameD o) :: r) = true := by show (noPs (nameD o) && noPs r) = true; rw [np_name, h]; rfl
theorem np_ln {o : List (List Nat)} {r : List D} (h : noPs r = true) : noPs (.lst (nameD o) :: r) = true := by show (noPs (nameD o) && noPs r) = true; rw [np_name, h]; rfl
theorem np_bk {C : Addr} {ls rs : List (List Nat)} {r : List D} (h : noPs r = true) : noPs (bookD C ls rs :: r) = true := by
  have e := np_book C ls rs
  have e : (noP (bookD C ls rs) && true) = true := e
  rw [Bool.and_true] at e
  show (noP (bookD C ls rs) && noPs r) = true
  rw [e, h]; rfl
theorem rowAt_at {rs : List (List Nat)} {i : Nat} (h : i < rs.length) : atI (nameD rs) (i : Int) = some (.str (tx (rowAt rs i))) := by
  refine atI_nat ?_
  unfold nameD rowAt
  rw [List.getElem?_map, List.getElem?_eq_getElem h, List.getD_eq_getElem?_getD, List.getElem?_eq_getElem h]; rfl
theorem rowAt_ok {rs : List (List Nat)} {n i : Nat} (h : ∀ r ∈ rs, RowOk r n) (hi : i < rs.length) : RowOk (rowAt rs i) n := by
  unfold rowAt
  rw [List.getD_eq_getElem?_getD, List.getElem?_eq_getElem hi]
  exact h _ (List.getElem_mem hi)
theorem rowAt_sgn {rs : List (List Nat)} {n : Nat} (h : ∀ r ∈ rs, RowOk r n) (i c : Nat) : sgn (rowAt rs i) c = 43 ∨ sgn (rowAt rs i) c = 45 ∨ sgn (rowAt rs i) c = 46 := by
  by_cases hi : i < rs.length
  · exact sgn_is (rowAt_ok h hi) c
  · unfold rowAt sgn
    rw [List.getD_eq_getElem?_getD (l := rs), List.getElem?_eq_none (by omega)]
    exact .inr (.inr rfl)
/-- the plain texts of a row -/
theorem ev_inC {K : PySem.W.Frag} {ta t : TE} {Γ : Gam} {r' : R2} {c : Nat} {l : List Nat} (ha : Ev ta Γ (.str (ch c))) (h : EvB t Γ (chD l)) : Ev (tOp (rOr (rIn K false) r') ta t) Γ (.bl (decide (c ∈ l))) := by
  have e := ev_in (neg := false) (K := K) (r' := r') ha h rfl (sc_ch l)
  rw [show (if false = true then !inV (scV (.str (ch c))) ((chD l).map scV) else inV (scV (.str (ch c))) ((chD l).map scV)) = decide (c ∈ l) from inV_ch c l] at e
  exact e
theorem sgn_ev {K : PySem.W.Frag} {ta tb : TE} {Γ : Gam} {l : List Nat} {n k : Nat} (h : RowOk l n) (h8 : n ≤ 8) (hk : k < n) (ha : Ev ta Γ (.str (tx l))) (hb : Ev tb Γ (.int k)) : Ev (tOp (rIx K) ta tb) Γ (.str (ch (sgn l k))) := ev_op ha hb (dr2_ixS (h.sz h8) (sgn_at h.len hk))
theorem mem_mapB {l : List Nat} {f : Nat → Nat} {c : Nat} : decide (c ∈ l.map f) = l.any fun k => decide (f k = c) := by
  rw [Bool.eq_iff_iff, decide_eq_true_eq, List.mem_map, List.any_eq_true]
  simp only [decide_eq_true_eq]
theorem ok_ordT1 (l : List Nat) : dOk 1 (.tup (ordD l)) = true := dOks_map fun _ _ => rfl
theorem holds_at {l o : List Nat} {i k : Nat} (q : o[i]? = some k) (h : ∀ j ∈ o.take i, sgn l j = 46) (hk : sgn l k ≠ 46) : holdsB l o = decide (sgn l k = 43) := by
  obtain ⟨hi, e⟩ := List.getElem?_eq_some_iff.mp q
  have e1 : o = o.take i ++ k :: o.drop (i + 1) := by
    rw [← e, List.getElem_cons_drop, List.take_append_drop]
  have e2 : holdsB l o = holdsB l (o.take i ++ k :: o.drop (i + 1)) := by rw [← e1]
  rw [e2, holds_pre h]
  unfold holdsB told
  rw [List.map_cons, List.filter_cons_of_pos (by simp [hk])]
def spHasSign : Spc where
  ty := List Nat × List Nat × Nat
  args := fun x => [.str (tx x.1), .lst (ordD x.2.1), .str (ch x.2.2)]
  ok := fun x => ∃ n, RowOk x.1 n ∧ n ≤ 8 ∧ x.2.1.length ≤ 8 ∧ ∀ k ∈ x.2.1, k < n
  rel := fun x d => d = .bl (x.2.1.any fun k => decide (sgn x.1 k = x.2.2))
def rowsD (b : Bool) (rs : List (List Nat)) : D := if b = true then .lst (nameD rs) else .tup (nameD rs)
def spSplit : Spc where
  ty := List (List Nat) × Nat × Bool
  args := fun x => [rowsD x.2.2 x.1, .int x.2.1]
  ok := fun x => (∀ r ∈ x.1, RowOk r x.2.1) ∧ x.2.1 ≤ 8 ∧ x.1.length ≤ 1000
  rel := fun x d => d = .tup [.lst (ordT (splitM x.1 x.2.1).1), .lst (ordD (splitM x.1 x.2.1).2)]
theorem np_rd {b : Bool} {o : List (List Nat)} {r : List D} (h : noPs r = true) : noPs (rowsD b o :: r) = true := by
  cases b with
  | true => exact np_ln h
  | false => exact np_tn h
theorem ev_rowsD {K : PySem.W.Frag} {ta tb : TE} {Γ : Gam} {b : Bool} {rs : List (List Nat)} {i : Nat} (hi : i < rs.length) (ha : Ev ta Γ (rowsD b rs)) (hb : Ev tb Γ (.int i)) : Ev (tOp (rIx K) ta tb) Γ (.str (tx (rowAt rs i))) := by
  cases b with
  | true => exact ev_ix (Ev.b (ds := nameD rs) ha) hb (rowAt_at hi)
  | false => exact ev_ixT (ds := nameD rs) ha hb (rowAt_at hi)
theorem ei_rowsD {K : PySem.W.Frag} {ta : TE} {Γ : Gam} {b : Bool} {rs : List (List Nat)} (ha : Ev ta Γ (rowsD b rs)) : Ei (fun σ H R => iEnum K (tCons ta tNil) σ H R ∨ iEnumT K (tCons ta tNil) σ H R) Γ (enumD (nameD rs)) := by
  cases b with
  | true => exact ei_enumL (Ev.b (ds := nameD rs) ha)
  | false => exact ei_enumT ha
theorem enum_rows (rs : List (List Nat)) : enumD (nameD rs) = (List.range rs.length).map fun (i : Nat) => D.tup [.int i, .str (tx (rowAt rs i))] := by
  apply List.ext_getElem?
  intro i
  by_cases hi : i < rs.length
  · obtain ⟨x, hx⟩ : ∃ x, (enumD (nameD rs))[i]? = some x := ⟨_, List.getElem?_eq_getElem (by rw [enumD_length, nameD_len]; exact hi)⟩
    obtain ⟨y, hy, rfl⟩ := enumD_get hx
    rw [hx, List.getElem?_map, List.getElem?_range hi]
    have hy' : (rs.map fun l => D.str (tx l))[i]? = some y := hy
    rw [List.getElem?_map, List.getElem?_eq_getElem hi] at hy'
    cases hy'
    show _ = some (D.tup [.int i, .str (tx (rowAt rs i))])
    unfold rowAt
    rw [List.getD_eq_getElem?_getD, List.getElem?_eq_getElem hi]; rfl
  · rw [List.getElem?_eq_none (by rw [enumD_length, nameD_len]; omega), List.getElem?_eq_none (by simpa using hi)]
theorem open_of {rs : List (List Nat)} {n i : Nat} (h : RowOk (rowAt rs i) n) : (decide (43 ∈ rowAt rs i) || decide (45 ∈ rowAt rs i)) = openB rs i := by
  unfold openB
  rw [Bool.eq_iff_iff, Bool.or_eq_true, decide_eq_true_eq, decide_eq_true_eq, List.any_eq_true]
  constructor
  · rintro (h | h)
    · exact ⟨_, h, rfl⟩
    · exact ⟨_, h, rfl⟩
  · rintro ⟨c, hc, hn⟩
    rcases h.all c hc with rfl | rfl | rfl
    · exact .inl hc
    · exact .inr hc
    · exact absurd hn (by decide)
theorem nin_filter {p : Nat → Bool} (l : List Nat) : (l.filter fun k => !decide (k ∈ l.filter p)) = l.filter fun k => !p k := by
  refine List.filter_congr fun k hk => ?_
  congr 1
  rw [Bool.eq_iff_iff, decide_eq_true_eq, List.mem_filter]
  exact ⟨fun h => h.2, fun h => ⟨hk, h⟩⟩
theorem isEmpty_ord (l : List Nat) : (ordD l).isEmpty = decide (l = []) := by cases l <;> rfl
theorem ordT_snoc (ms : List (List Nat)) (l : List Nat) : ordT ms ++ [D.tup (ordD l)] = ordT (ms ++ [l]) := by unfold ordT; rw [List.map_append]; rfl
end K34

namespace K34
open PySem PySem.Spec PyProof.Rows L2 Dw
variable [Tabs0]
theorem d_has_sign {P : Program} {w : World} {K : PySem.W.Frag} {mg : Str → Option Value} {base : Heap} (T : Txt K w mg) : FnOk P w K mg base CX0 1 T.f_has_sign T.e_has_sign ["row", "rules", "sign"] (toSp (spHasSign)) := by
  refine fn_ok T.F_has_sign sc_has_sign (fun _ => rfl) fun cdv A outer s' H E hr => ?_
  refine ⟨_, (pss_one (ps_ret (pe_cmpR (inA K) (pv 2) (pe_lc (own := [("rule", 3)]) rfl sc_has_sign.nd (piR K (pv 1)) (blkOk_by (own := [("rule", 3)]) (N := N_has_sign) (sc := (defScope s_has_sign)) (by decide +kernel)) (fun _ _ _ _ _ => pg_name (i := 3) sc_has_sign.nd rfl (Or.inl rfl)) (fun _ _ _ _ _ => pts_nil) (fun _ _ _ _ _ => (pe_ix (ixA K) (pv 0) (pv 3) (fun _ _ => rfl)))) (by rfl)))), fun x hx => ?_⟩
  obtain ⟨l, o, c⟩ := x
  obtain ⟨n, hl, h8, hz, hk⟩ := hx
  have hl : RowOk l n := hl
  have hz : o.length ≤ 8 := hz
  have hk : ∀ k ∈ o, k < n := hk
  refine ds_ret (Ev.dl (ev_cast (congrArg D.bl mem_mapB) (ev_inC (l := o.map (sgn l)) (ev_var rfl) (EvN.b ?_))) rfl)
  have e : chD (o.map (sgn l)) = o.map fun k => D.str (ch (sgn l k)) := by unfold chD; rw [List.map_map]; rfl
  rw [e]
  exact evn_lc1 (xs := o) (c := fun k : Nat => D.int k) (ej_list (ev_var (d := .lst (ordD o)) rfl).b) (by omega) fun k hk' => ⟨[3], _, dg_name, fun i hi => hi, evt_yes, sgn_ev hl h8 (hk k hk') (ev_var rfl) (ev_var rfl)⟩
end K34

namespace K34
open PySem PySem.Spec PyProof.Rows L2 Dw
variable [Tabs0]
theorem lay_step {rs : List (List Nat)} {f : Nat} {made : List (List Nat)} {left still : List Nat} (h1 : still ≠ []) : layF rs (f + 1) made left still = if left.filter (fun k => !minB rs still k) = [] then (made, still) else layF rs f (made ++ [left.filter fun k => !minB rs still k]) (left.filter (minB rs still)) (still.filter fun i => !plusB rs (left.filter fun k => !minB rs still k) i) := by
  show (if still = [] then _ else _) = _
  rw [if_neg h1]
theorem lay_done {rs : List (List Nat)} {f : Nat} {made : List (List Nat)} {left : List Nat} : layF rs (f + 1) made left [] = (if left = [] then made else made ++ [left], []) := by
  show (if _ then _ else _) = _
  rw [if_pos rfl]
/-- what stays so while layers are made -/
structure Mk (rs : List (List Nat)) (n m : Nat) (made : List (List Nat)) (left still : List Nat) : Prop where
  eq : layF rs m made left still = splitM rs n
  lt : left.length < m
  few : made.length + left.length ≤ n
  ltn : ∀ k ∈ left, k < n
  ltr : ∀ i ∈ still, i < rs.length
  fst : still.length ≤ rs.length
  flat : made.flatten.length + left.length ≤ n
theorem mk_0 (rs : List (List Nat)) (n : Nat) : Mk rs n (n + 1) [] (List.range n) (open0 rs) := ⟨rfl, by rw [List.length_range]; omega, by rw [List.length_range]; exact Nat.le_of_eq (Nat.zero_add n), fun k h => List.mem_range.mp h, fun i h => List.mem_range.mp (List.mem_filter.mp h).1, by
  have := List.length_filter_le (openB rs) (List.range rs.length)
  rw [List.length_range] at this; exact this, by rw [List.length_range]; exact Nat.le_of_eq (Nat.zero_add n)⟩
theorem Mk.next {rs n m made left still} (h : Mk rs n (m + 1) made left still) (h1 : still ≠ []) (h2 : left.filter (fun k => !minB rs still k) ≠ []) : Mk rs n m (made ++ [left.filter fun k => !minB rs still k]) (left.filter (minB rs still)) (still.filter fun i => !plusB rs (left.filter fun k => !minB rs still k) i) := by
  have l := lay_len h2
  have e := h.eq
  rw [lay_step h1, if_neg h2] at e
  refine ⟨e, by have := h.lt; omega, ?_, fun k hk => h.ltn k (List.mem_filter.mp hk).1, fun i hi => h.ltr i (List.mem_filter.mp hi).1, Nat.le_trans (List.length_filter_le _ _) h.fst, ?_⟩
  · have := h.few
    rw [List.length_append]
    show made.length + 1 + _ ≤ n
    omega
  · have := h.flat
    have e2 := (filter_split (minB rs still) left).length_eq
    rw [List.length_append] at e2
    rw [List.flatten_append, List.length_append]
    simp only [List.flatten_cons, List.flatten_nil, List.append_nil]
    omega
def layOut (rs : List (List Nat)) (n : Nat) : D := .tup [.lst (ordT (splitM rs n).1), .lst (ordD (splitM rs n).2)]
theorem minB_any {rs : List (List Nat)} {still : List Nat} {k : Nat} : decide (45 ∈ still.map fun i => sgn (rowAt rs i) k) = minB rs still k := mem_mapB
def spLay (C : Addr) : Spc where
  ty := Bk
  args := fun x => [bookD C x.1 x.2]
  ok := fun x => BookOk x.1 x.2
  rel := fun x d => d = if (splitM x.2 x.1.length).2 = [] then .tup (ordT (splitM x.2 x.1.length).1) else .non
theorem BookOk.n8 {ls rs} (h : BookOk ls rs) : ls.length ≤ 8 := h.names.hi
theorem ev_names {C : Addr} {K : PySem.W.Frag} {t : TE} {Γ : Gam} {ls rs : List (List Nat)} (h : Ev t Γ (.tup (nameD ls))) : Ev (tCB (Dw.rLen K) (tCons t tNil)) Γ (.int (ls.length : Nat)) := ev_cast (congrArg (fun n : Nat => D.int n) (nameD_len ls)) (ev_lenT (ds := nameD ls) h)
end K34

namespace K34
open PySem PySem.Spec PyProof.Rows L2 Dw
variable [Tabs0]
theorem d_split {P : Program} {w : World} {K : PySem.W.Frag} {mg : Str → Option Value} {base : Heap} (T : Txt K w mg) : FnOk P w K mg base CX0 2 T.f_split T.e_split ["rows", "many"] (toSp (spSplit)) := by
  refine fn_ok T.F_split sc_split (fun _ => rfl) fun cdv A outer s' H E hr => ?_
  refine ⟨_, (pss_cons (ps_set (i := 2) sc_split.nd rfl (Or.inl rfl) (pe_lst pa_nil)) (pss_cons (ps_set (i := 3) sc_split.nd rfl (Or.inl rfl) (pe_listRg rfl (by rfl) T.n_list (prg_1 (by rfl) T.n_range (pv 1)))) (pss_cons (ps_set (i := 4) sc_split.nd rfl (Or.inr rfl) (pe_lc (own := [("index", 7), ("row", 8)]) rfl sc_split.nd (enumTA K (by rfl) T.n_enumerate (pa_cons (pv 0) pa_nil)) (blkOk_by (own := [("index", 7), ("row", 8)]) (N := N_split) (sc := (defScope s_split)) (by decide +kernel)) (fun _ _ _ _ _ => tupA K 2 rfl (pgs_cons (pg_name (i := 7) sc_split.nd rfl (Or.inl rfl)) (pgs_cons (pg_name (i := 8) sc_split.nd rfl (Or.inl rfl)) pgs_nil))) (fun _ _ _ _ _ => pts_one (PW.pt (pw_or (pt_cmpR (inA K) pe_str (pv 8) (by rfl)) (pw_or1 (pt_cmpR (inA K) pe_str (pv 8) (by rfl)))))) (fun _ _ _ _ _ => (pv 7)))) (pss_cons (ps_while PassesOwn.never (truA K (pv 4)) (pss_cons (ps_set (i := 5) sc_split.nd rfl (Or.inr rfl) (pe_lc (own := [("rule", 9)]) rfl sc_split.nd (piR K (pv 3)) (blkOk_by (own := [("rule", 9)]) (N := N_split) (sc := (defScope s_split)) (by decide +kernel)) (fun _ _ _ _ _ => pg_name (i := 9) sc_split.nd rfl (Or.inr rfl)) (fun _ _ _ _ _ => pts_one (pt_cmpR (inA K) pe_str (pe_lc (own := [("index", 7)]) rfl sc_split.nd (piR K (pv 4)) (blkOk_by (own := [("index", 7)]) (N := N_split) (sc := (relS { kind := .function, names := [(".0", .local), ("rule", .cell), ("rows", .free), ("still", .free)], isGenerator := false, isCoroutine := false, more := [] } (defScope s_split))) (by decide +kernel)) (fun _ _ _ _ _ => pg_name (i := 7) sc_split.nd rfl (Or.inl rfl)) (fun _ _ _ _ _ => pts_nil) (fun _ _ _ _ _ => (pe_ix (ixA K) (pe_ix (ixA K) (pv 0) (pv 7) (fun _ _ => rfl)) (pv 9) (fun _ _ => rfl)))) (by rfl))) (fun _ _ _ _ _ => (pv 9)))) (pss_cons (ps_set (i := 6) sc_split.nd rfl (Or.inr rfl) (pe_lc (own := [("rule", 9)]) rfl sc_split.nd (piR K (pv 3)) (blkOk_by (own := [("rule", 9)]) (N := N_split) (sc := (defScope s_split)) (by decide +kernel)) (fun _ _ _ _ _ => pg_name (i := 9) sc_split.nd rfl (Or.inl rfl)) (fun _ _ _ _ _ => pts_one (pt_cmpR (ninA K) (pv 9) (pv 5) (by rfl))) (fun _ _ _ _ _ => (pv 9)))) (pss_cons (ps_if (pt_not (truA K (pv 6))) (pss_one (ps_ret (pe_tup (pa_cons (pv 2) (pa_cons (pv 4) pa_nil))))) pss_nil) (pss_cons (ps_expr (bmA K PySem.F.plainAttrs_list PySem.F.slot_list_append PySem.F.type_list_append mt_append (pv 2) (pa_cons (pe_callTy (tupleA K) (by rfl) T.n_tuple (by decide +kernel) (pa_cons (pv 6) pa_nil)) pa_nil))) (pss_cons (ps_set (i := 3) sc_split.nd rfl (Or.inl rfl) (pv 5)) (pss_one (ps_set (i := 4) sc_split.nd rfl (Or.inr rfl) (pe_lc (own := [("index", 7)]) rfl sc_split.nd (piR K (pv 4)) (blkOk_by (own := [("index", 7)]) (N := N_split) (sc := (defScope s_split)) (by decide +kernel)) (fun _ _ _ _ _ => pg_name (i := 7) sc_split.nd rfl (Or.inl rfl)) (fun _ _ _ _ _ => pts_one (pt_not (truA K (pe_call (d_has_sign T) (hr.mono (by decide)) (by rfl) T.m_has_sign T.F_has_sign.kp T.b_has_sign .nil pass0 (pa_cons (pe_ix (ixA K) (pv 0) (pv 7) (fun _ _ => rfl)) (pa_cons (pv 6) (pa_cons pe_str pa_nil))))))) (fun _ _ _ _ _ => (pv 7))))))))))) (pss_cons (ps_if (truA K (pv 3)) (pss_one (ps_expr (bmA K PySem.F.plainAttrs_list PySem.F.slot_list_append PySem.F.type_list_append mt_append (pv 2) (pa_cons (pe_callTy (tupleA K) (by rfl) T.n_tuple (by decide +kernel) (pa_cons (pv 3) pa_nil)) pa_nil)))) pss_nil) (pss_one (ps_ret (pe_tup (pa_cons (pv 2) (pa_cons (pv 4) pa_nil)))))))))), fun x hx => ?_⟩
  obtain ⟨rs, n, b⟩ := x
  obtain ⟨hr', h8, hz⟩ := hx
  have hr' : ∀ r ∈ rs, RowOk r n := hr'
  have h8 : n ≤ 8 := h8
  have hz : rs.length ≤ 1000 := hz
  have hat : ∀ i, i < rs.length → RowOk (rowAt rs i) n := fun i hi => rowAt_ok hr' hi
  refine ds_seq (ds_asg_own (evn_lst eva_nil (Nat.zero_le _)) ?_)
  refine ds_seq (ds_asg (Ev.dl (EvN.ev (evn_listRg (n := n) (ev_var rfl) (by omega))) ?_))
  refine ds_seq (ds_asg (Ev.dl (ev_cast (d' := .lst (ordD (open0 rs))) rfl (EvN.ev (evn_lc (xs := List.range rs.length) (c := fun (i : Nat) => D.tup [.int i, .str (tx (rowAt rs i))]) (p := openB rs) (f := fun (i : Nat) => D.int i) ?it (by rw [List.length_range]; omega) fun i hi => ⟨[7] ++ [8], _, dg_tup2 dg_name dg_name, fun i hi => hi, ?tst, fun _ => ev_var rfl⟩))) ?_))
  case it =>
    rw [← enum_rows]
    exact ei_rowsD (ev_var rfl)
  case tst =>
    rw [← open_of (hat i (List.mem_range.mp hi))]
    have e1 := in_code (K := K) (l := rowAt rs i) (c := 43)
    have e2 := in_code (K := K) (l := rowAt rs i) (c := 45)
    rw [← ch_plus] at e1
    rw [← ch_minus] at e2
    exact evt_or (evt_test (ev_op ev_str (ev_var rfl) e1)) fun _ => evt_test (ev_op ev_str (ev_var rfl) e2)
  refine ds_seq (ds_while (fun m Γ' => ∃ (made : List (List Nat)) (left still : List Nat) (s5 s6 s7 s8 s9 : Sl), Γ' = [.val (rowsD b rs), .val (.int n), .own (ordT made), .val (.lst (ordD left)), .val (.lst (ordD still)), s5, s6, s7, s8, s9] ∧ Mk rs n m made left still)
    (n + 1) ⟨[], List.range n, open0 rs, _, _, _, _, _, rfl, mk_0 rs n⟩ fun m Γ' ⟨made, left, still, s5, s6, s7, s8, s9, e, mk⟩ => ?_)
  subst e
  obtain ⟨f, rfl⟩ : ∃ f, m = f + 1 := ⟨m - 1, by have := mk.lt; omega⟩
  refine EvT.dl (evt_tru_lst (ev_var (d := .lst (ordD still)) rfl).b) ⟨fun h => ?_, fun h => ?_⟩
  · have h1 : still ≠ [] := fun z => by rw [z] at h; cases h
    have l8 : left.length ≤ 8 := by have := mk.few; omega
    refine ds_seq (ds_asg (Ev.dl (ev_cast (d' := .lst (ordD (left.filter (minB rs still)))) rfl (EvN.ev (evn_lc (xs := left) (c := fun k : Nat => D.int k) (p := minB rs still) (f := fun k : Nat => D.int k) (ej_list (ev_var (d := .lst (ordD left)) rfl).b) (by omega) fun k hk => ⟨[9], _, dg_name, fun i hi => hi, ?bt, fun _ => ev_var rfl⟩))) ?_))
    case bt =>
      rw [← minB_any]
      refine evt_test (ev_inC (l := still.map fun i => sgn (rowAt rs i) k) (ev_cast (congrArg D.str ch_minus) ev_str) (EvN.b ?_))
      have e : chD (still.map fun i => sgn (rowAt rs i) k) = still.map fun i => D.str (ch (sgn (rowAt rs i) k)) := by unfold chD; rw [List.map_map]; rfl
      rw [e]
      exact evn_lc1 (xs := still) (c := fun i : Nat => D.int i) (ej_list (ev_var (d := .lst (ordD still)) rfl).b) (by have := mk.fst; omega) fun i hi => ⟨[7], _, dg_name, fun i hi => hi, evt_yes, sgn_ev (hat i (mk.ltr i hi)) h8 (mk.ltn k hk) (ev_rowsD (mk.ltr i hi) (ev_var (d := rowsD b rs) rfl) (ev_var rfl)) (ev_var rfl)⟩
    refine ds_seq (ds_asg (Ev.dl (ev_cast (d' := .lst (ordD (left.filter fun k => !minB rs still k))) ?c1 (EvN.ev (evn_lc (xs := left) (c := fun k : Nat => D.int k) (p := fun k => !decide (k ∈ left.filter (minB rs still))) (f := fun k : Nat => D.int k) (ej_list (ev_var (d := .lst (ordD left)) rfl).b) (by omega) fun k hk => ⟨[9], _, dg_name, fun i hi => hi, evt_test (ev_inO (neg := true) (l := left.filter (minB rs still)) (ev_var rfl) (ev_var (d := .lst (ordD (left.filter (minB rs still)))) rfl).b), fun _ => ev_var rfl⟩))) ?_))
    case c1 => rw [nin_filter]; rfl
    refine ds_seq (ds_if (EvT.dl (evt_not (evt_tru_lst (ev_var (d := .lst (ordD (left.filter fun k => !minB rs still k))) rfl).b)) ⟨fun h2 => ?_, fun h2 => ds_next ?_⟩))
    · rw [isEmpty_ord, Bool.not_not] at h2
      have h2 := of_decide_eq_true h2
      have e := mk.eq
      rw [lay_step h1, if_pos h2] at e
      refine ds_freeze 2 rfl (ds_ret (Ev.dl (ev_tup (eva_cons (ev_var (d := .lst (ordT made)) rfl) (eva_cons (ev_var (d := .lst (ordD still)) rfl) eva_nil)) (small (show 2 ≤ 100000 by decide))) ?_))
      show D.tup [.lst (ordT made), .lst (ordD still)] = layOut rs n
      unfold layOut
      rw [← e]
    · rw [isEmpty_ord, Bool.not_not] at h2
      have h2 := of_decide_eq_false h2
      have mk2 := mk.next h1 h2
      refine ds_seq (ds_drop (dl_append ⟨_, rfl⟩ (dla_cons (Ev.dl (ev_tuple (ev_var (d := .lst (ordD (left.filter fun k => !minB rs still k))) rfl).b) (dla_nil ⟨_, ordT made, rfl, rfl, ?_, ?_⟩)))))
      · rw [ordT_len]; have := mk.few; exact Nat.lt_of_le_of_lt (by omega : made.length ≤ 8) (by decide)
      · rw [ordT_snoc]
        refine ds_seq (ds_asg (Ev.dl (ev_var (d := .lst (ordD (left.filter (minB rs still)))) rfl) ?_))
        refine ds_asg (Ev.dl (EvN.ev (evn_lc (xs := still) (c := fun k : Nat => D.int k) (p := fun i => !plusB rs (left.filter fun k => !minB rs still k) i) (f := fun k : Nat => D.int k) (ej_list (ev_var (d := .lst (ordD still)) rfl).b) (by have := mk.fst; omega) fun i hi => ⟨[7], _, dg_name, fun i hi => hi, evt_not (evt_tru_bl (ev_call (s := spHasSign) (x := (rowAt rs i, left.filter fun k => !minB rs still k, 43)) (eva_cons (ev_rowsD (mk.ltr i hi) (ev_var (d := rowsD b rs) rfl) (ev_var rfl)) (eva_cons (ev_var rfl) (eva_cons (ev_cast (congrArg D.str ch_plus) ev_str) eva_nil))) (np_lo (r := [_]) rfl) ⟨n, hat i (mk.ltr i hi), h8, Nat.le_trans (List.length_filter_le _ _) l8, fun k hk => mk.ltn k (List.mem_filter.mp hk).1⟩ fun d h => h)), fun _ => ev_var rfl⟩)) ?_)
        exact ⟨f, Nat.lt_succ_self f, _, _, _, _, _, _, _, _, rfl, mk2⟩
  · have h1 : still = [] := by
      rw [isEmpty_ord] at h
      simpa using h
    subst h1
    have e := mk.eq
    rw [lay_done] at e
    have fin : ∀ (ms : List (List Nat)) (s3 s4' : Sl), ms = (splitM rs n).1 → Ds (tRet (tTup (tCons (tVar 2) (tCons (tVar 4) tNil)))) [.val (rowsD b rs), .val (.int n), .own (ordT ms), s3, .val (.lst (ordD [])), s5, s6, s7, s8, s9] { nx := fun _ => spSplit.rel (rs, n, b) D.non, rt := spSplit.rel (rs, n, b) } := fun ms s3 s4' hm => by
      refine ds_freeze 2 rfl (ds_ret (Ev.dl (ev_tup (eva_cons (ev_var (d := .lst (ordT ms)) rfl) (eva_cons (ev_var (d := .lst (ordD [])) rfl) eva_nil)) (small (show 2 ≤ 100000 by decide))) ?_))
      show D.tup [.lst (ordT ms), .lst (ordD [])] = layOut rs n
      unfold layOut
      rw [hm, show (splitM rs n).2 = [] by rw [← e]]
    refine ds_seq (ds_if (EvT.dl (evt_tru_lst (ev_var (d := .lst (ordD left)) rfl).b) ⟨fun h2 => ?_, fun h2 => ds_next ?_⟩))
    · have h2 : left ≠ [] := fun z => by rw [z] at h2; cases h2
      rw [if_neg h2] at e
      refine ds_drop (dl_append ⟨_, rfl⟩ (dla_cons (Ev.dl (ev_tuple (ev_var (d := .lst (ordD left)) rfl).b) (dla_nil ⟨_, ordT made, rfl, rfl, ?_, ?_⟩))))
      · rw [ordT_len]; have := mk.few; exact Nat.lt_of_le_of_lt (by omega : made.length ≤ 8) (by decide)
      · rw [ordT_snoc]
        exact fin _ _ s5 (by rw [← e])
    · have h2 : left = [] := by rw [isEmpty_ord] at h2; simpa using h2
      rw [if_pos h2] at e
      exact fin _ _ s5 (by rw [← e])
end K34

namespace K34
open PySem PySem.Spec PyProof.Rows L2 Dw
variable [Tabs0]
theorem d_layers {P : Program} {w : World} {K : PySem.W.Frag} {mg : Str → Option Value} {base : Heap} (T : Txt K w mg) : FnOk P w K mg base CX0 3 T.f_layers T.e_layers ["book"] (toSp (spLay T.C_Book)) := by
  refine fn_ok T.F_layers sc_layers (fun _ => rfl) fun cdv A outer s' H E hr => ?_
  refine ⟨_, (pss_cons (ps_expr (pe_call (d_check_book T) (hr.mono (by decide)) (by rfl) T.m_check_book T.F_check_book.kp T.b_check_book .nil pass0 (pa_cons (pv 0) pa_nil))) (pss_cons (ps_asg (pe_call (d_split T) (hr.mono (by decide)) (by rfl) T.m_split T.F_split.kp T.b_split .nil pass0 (pa_cons (pe_prop (pv 0) T.cl_Book T.p_Book_rows (d_Book_rows T) (hr.mono (by decide)) T.b_Book_rows .nil pass0 rfl) (pa_cons (pe_callB (lenA K) (by rfl) T.n_len (by decide +kernel) (pa_cons (pe_prop (pv 0) T.cl_Book T.p_Book_names (d_Book_names T) (hr.mono (by decide)) T.b_Book_names .nil pass0 rfl) pa_nil)) pa_nil))) (tupA K 2 rfl (pgs_cons (pg_name (i := 1) sc_layers.nd rfl (Or.inl rfl)) (pgs_cons (pg_name (i := 2) sc_layers.nd rfl (Or.inl rfl)) pgs_nil)))) (pss_one (ps_ret (pe_ifExp (truA K (pv 2)) pe_non (pe_callTy (tupleA K) (by rfl) T.n_tuple (by decide +kernel) (pa_cons (pv 1) pa_nil))))))), fun x hx => ?_⟩
  obtain ⟨ls, rs⟩ := x
  have hb : BookOk ls rs := hx
  refine ds_seq (ds_drop (Ev.dl (ev_call (s := spCheck T.C_Book) (x := (ls, rs)) (eva_cons (ev_var rfl) eva_nil) (np_book _ ls rs) trivial fun d h => h) ?_))
  refine ds_seq (ds_asg_g (Ev.dl (ev_call (s := spSplit) (x := (rs, ls.length, false)) (eva_cons (ev_prop (s := spBRows T.C_Book) (x := (ls, rs)) (ev_var rfl) rfl (np_book _ ls rs) trivial fun d h => h) (eva_cons (ev_names (C := T.C_Book) (rs := rs) (ev_prop (s := spBNames T.C_Book) (x := (ls, rs)) (ev_var rfl) rfl (np_book _ ls rs) trivial fun d h => h)) eva_nil)) (np_rd (b := false) (r := [_]) rfl) ⟨hb.rows, hb.n8, Nat.le_trans hb.few (by decide)⟩ fun d h => h) ⟨[1] ++ [2], _, dg_tup2 dg_name dg_name, ?_⟩))
  refine ds_ret (Ev.dl (ev_if (a := !(ordD (splitM rs ls.length).2).isEmpty) (evt_tru_lst (ev_var (d := .lst (ordD (splitM rs ls.length).2)) rfl).b) (fun _ => ev_non) fun _ => ev_tuple (ev_var (d := .lst (ordT (splitM rs ls.length).1)) rfl).b) ?_)
  show (if _ then _ else _) = if _ then _ else _
  rw [isEmpty_ord]
  by_cases h : (splitM rs ls.length).2 = []
  · rw [if_pos h, if_neg (by rw [h]; decide)]
  · rw [if_neg h, if_pos (by simp [h])]
end K34

namespace K34
open PySem PySem.Spec PyProof.Rows L2 Dw
variable [Tabs0]
theorem ev_inOT {K : PySem.W.Frag} {Γ : Gam} {ta tb : TE} {neg : Bool} {r' : R2} {c : Nat} {l : List Nat} (ha : Ev ta Γ (.int c)) (h : Ev tb Γ (.tup (ordN l))) : Ev (tOp (rOr (rIn K neg) r') ta tb) Γ (.bl (if neg then !decide (c ∈ l) else decide (c ∈ l))) := by
  have e := ev_inT (neg := neg) (K := K) (r' := r') ha h rfl (sc_ord l)
  rw [show scV (.int (c : Int)) = V.int (c : Int) from rfl, inV_ord c l] at e
  exact e
def extM (n : Nat) (o : List Nat) : List (List Nat) := ((List.range n).filter fun k => !decide (k ∈ o)).map fun k => o ++ [k]
theorem allM_succ (n i : Nat) : allM n (i + 1) = (allM n i).flatMap (extM n) := rfl
end K34

namespace K34
open PySem PySem.Spec PyProof.Rows L2 Dw
variable [Tabs0]
/-! rankings as tuples that may be asked for a place -/
end K34

namespace K34
open PySem PySem.Spec PyProof.Rows L2 Dw
variable [Tabs0]
def selQ (rs : List (List Nat)) (o : List Nat) : List (List Nat) := o.map fun i => rowAt rs i
def Fit (rs : List (List Nat)) (n : Nat) : Prop := ∃ o : List Nat, o.Perm (List.range n) ∧ ∀ r ∈ rs, holdsB r o = true
def SgnOk (rs : List (List Nat)) (n : Nat) : Prop := (∀ i c, sgn (rowAt rs i) c = 43 ∨ sgn (rowAt rs i) c = 45 ∨ sgn (rowAt rs i) c = 46) ∧ ∀ i, i < rs.length → (rowAt rs i).length ≤ n
theorem selQ_len (rs : List (List Nat)) (o : List Nat) : (selQ rs o).length = o.length := List.length_map ..
theorem selQ_at {rs : List (List Nat)} {o : List Nat} {j : Nat} (h : j < o.length) : rowAt (selQ rs o) j = rowAt rs o[j] := by
  unfold selQ
  conv => lhs; unfold rowAt
  rw [List.getD_eq_getElem?_getD, List.getElem?_map, List.getElem?_eq_getElem h]; rfl
theorem fit_sel {rs : List (List Nat)} {n : Nat} {p q : List Nat} (h : Fit (selQ rs q) n) (hs : ∀ k ∈ p, k ∈ q) : Fit (selQ rs p) n := by
  obtain ⟨o, ho, hh⟩ := h
  refine ⟨o, ho, fun r hr => ?_⟩
  obtain ⟨k, hk, rfl⟩ := List.mem_map.mp hr
  exact hh _ (List.mem_map.mpr ⟨k, hs k hk, rfl⟩)
/-- where the layers end badly, the rows that stay open fit no order -/
theorem stuck_open {rs : List (List Nat)} {n : Nat} {ls : List (List Nat)} {lf st : List Nat} (h : LayI rs n ls lf st) (hne : st ≠ []) (hl : lf.filter (fun k => !minB rs st k) = []) (hr : ∀ i, i < rs.length → (rowAt rs i).length ≤ n) : ¬ Fit (selQ rs st) n := by
  rintro ⟨o, ho, hh⟩
  obtain ⟨i, hi, z⟩ := lay_stuck' h hne hl hr o ho
  rw [hh _ (List.mem_map.mpr ⟨i, hi, rfl⟩)] at z; cases z
def Still (rs : List (List Nat)) (n : Nat) : List Nat := (splitM rs n).2
theorem still_cases {rs : List (List Nat)} {n : Nat} (h : SgnOk rs n) : (Still rs n = [] ∧ Fit rs n) ∨ ∃ ls lf, Still rs n ≠ [] ∧ LayI rs n ls lf (Still rs n) ∧ lf.filter (fun k => !minB rs (Still rs n) k) = [] ∧ ¬ Fit (selQ rs (Still rs n)) n := by
  rcases layF_end h.1 (n + 1) [] (List.range n) (open0 rs) (layI_0 rs n) (by rw [List.length_range]; omega) with ⟨ls, e, hh⟩ | ⟨ls, lf, st, e, h1, hh, h2⟩
  · have e : splitM rs n = (ls, []) := e
    refine .inl ⟨by unfold Still; rw [e], ?_⟩
    obtain ⟨w1, w2⟩ := lay_fits h.1 hh (g := fun l => l) (fun l => .refl _)
    exact ⟨_, w1, all_rows.mpr w2⟩
  · have e : splitM rs n = (ls, st) := e
    have e2 : Still rs n = st := by unfold Still; rw [e]
    refine .inr ⟨ls, lf, ?_⟩
    rw [e2]
    exact ⟨h1, hh, h2, stuck_open hh h1 h2 h.2⟩
theorem still_fit {rs : List (List Nat)} {n : Nat} (h : SgnOk rs n) : Still rs n = [] ↔ Fit rs n := by
  constructor
  · intro e
    rcases still_cases h with ⟨_, f⟩ | ⟨_, _, z, _⟩
    · exact f
    · exact absurd e z
  · intro f
    rcases still_cases h with ⟨e, _⟩ | ⟨ls, lf, z, hh, h2, nf⟩
    · exact e
    · obtain ⟨o, ho, hf⟩ := f
      refine absurd ⟨o, ho, fun r hr => ?_⟩ nf
      obtain ⟨k, hk, rfl⟩ := List.mem_map.mp hr
      exact all_rows.mp hf k (List.mem_range.mp (List.mem_filter.mp (hh.sub.subset hk)).1)
/-! the lot that is told -/
def qStep (rs : List (List Nat)) (n : Nat) (kept : List Nat) (i : Nat) : List Nat :=
  if Still (selQ rs (kept.filter fun j => !decide (j = i))) n = [] then kept else kept.filter fun j => !decide (j = i)
structure QI (rs : List (List Nat)) (n : Nat) (kept seen : List Nat) : Prop where
  sub : kept.Sublist (List.range rs.length)
  nf : ¬ Fit (selQ rs kept) n
  min : ∀ i ∈ seen, i ∈ kept → Fit (selQ rs (kept.filter fun j => !decide (j = i))) n
theorem sel_sgn {rs : List (List Nat)} {n : Nat} (h : SgnOk rs n) {o : List Nat} (ho : ∀ k ∈ o, k < rs.length) : SgnOk (selQ rs o) n := by
  refine ⟨fun i c => ?_, fun i hi => ?_⟩
  · by_cases hi : i < o.length
    · rw [selQ_at hi]; exact h.1 _ _
    · unfold rowAt sgn
      rw [List.getD_eq_getElem?_getD (l := selQ rs o), List.getElem?_eq_none (by rw [selQ_len]; omega)]
      exact .inr (.inr rfl)
  · rw [selQ_len] at hi
    rw [selQ_at hi]
    exact h.2 _ (ho _ (List.getElem_mem hi))
theorem QI.next {rs : List (List Nat)} {n : Nat} (h : SgnOk rs n) {kept seen : List Nat} (q : QI rs n kept seen) (i : Nat) : QI rs n (qStep rs n kept i) (seen ++ [i]) := by
  have hf : ∀ k ∈ kept.filter (fun j => !decide (j = i)), k < rs.length := fun k hk => List.mem_range.mp (q.sub.subset (List.mem_filter.mp hk).1)
  unfold qStep
  by_cases e : Still (selQ rs (kept.filter fun j => !decide (j = i))) n = []
  · rw [if_pos e]
    refine ⟨q.sub, q.nf, fun j hj hk => ?_⟩
    rcases List.mem_append.mp hj with hj | hj
    · exact q.min j hj hk
    · rw [List.mem_singleton.mp hj]
      exact (still_fit (sel_sgn h hf)).mp e
  · rw [if_neg e]
    refine ⟨List.filter_sublist.trans q.sub, fun f => e ((still_fit (sel_sgn h hf)).mpr f), fun j hj hk => ?_⟩
    have hk' := (List.mem_filter.mp hk).1
    rcases List.mem_append.mp hj with hj | hj
    · refine fit_sel (q.min j hj hk') fun k hk2 => ?_
      obtain ⟨a, b⟩ := List.mem_filter.mp hk2
      exact List.mem_filter.mpr ⟨(List.mem_filter.mp a).1, b⟩
    · have := (List.mem_filter.mp hk).2
      rw [List.mem_singleton.mp hj] at this
      simp at this
/-! all lots of some things -/
theorem sgnOk {rs : List (List Nat)} {n : Nat} (h : ∀ r ∈ rs, RowOk r n) : SgnOk rs n := ⟨rowAt_sgn h, fun i hi => Nat.le_of_eq (rowAt_ok h hi).len⟩
theorem fit_iff {rs : List (List Nat)} {n : Nat} : fitM rs n ≠ [] ↔ Fit rs n := by
  constructor
  · intro h
    obtain ⟨o, ho⟩ := List.exists_mem_of_ne_nil _ h
    obtain ⟨p, q⟩ := fitM_mem.mp ho
    exact ⟨o, p, q⟩
  · rintro ⟨o, p, q⟩ z
    have := fitM_mem.mpr ⟨p, q⟩
    rw [z] at this; cases this
def spSome : Spc where
  ty := List (List Nat) × Nat × Bool
  args := fun x => [rowsD x.2.2 x.1, .int x.2.1]
  ok := fun x => (∀ r ∈ x.1, RowOk r x.2.1) ∧ x.2.1 ≤ 8 ∧ x.1.length ≤ 1000
  rel := fun x d => d = .bl (decide (Still x.1 x.2.1 = []))
end K34

namespace K34
open PySem PySem.Spec PyProof.Rows L2 Dw
variable [Tabs0]
theorem d_some_fits {P : Program} {w : World} {K : PySem.W.Frag} {mg : Str → Option Value} {base : Heap} (T : Txt K w mg) : FnOk P w K mg base CX0 3 T.f_some_fits T.e_some_fits ["rows", "many"] (toSp (spSome)) := by
  refine fn_ok T.F_some_fits sc_some_fits (fun _ => rfl) fun cdv A outer s' H E hr => ?_
  refine ⟨_, (pss_cons (ps_asg (pe_call (d_split T) (hr.mono (by decide)) (by rfl) T.m_split T.F_split.kp T.b_split .nil pass0 (pa_cons (pv 0) (pa_cons (pv 1) pa_nil))) (tupA K 2 rfl (pgs_cons (pg_name (i := 2) sc_some_fits.nd rfl (Or.inl rfl)) (pgs_cons (pg_name (i := 3) sc_some_fits.nd rfl (Or.inl rfl)) pgs_nil)))) (pss_one (ps_ret (notA K (pv 3))))), fun x hx => ?_⟩
  obtain ⟨rs, n, b⟩ := x
  obtain ⟨hr', h8, hz⟩ := hx
  refine ds_seq (ds_asg_g (Ev.dl (ev_call (s := spSplit) (x := (rs, n, b)) (eva_cons (ev_var rfl) (eva_cons (ev_var rfl) eva_nil)) (np_rd (r := [_]) rfl) ⟨hr', h8, hz⟩ fun d h => h) ⟨[2] ++ [3], _, dg_tup2 dg_name dg_name, ?_⟩))
  refine ds_ret (Ev.dl (ev_notT (evt_tru_lst (ev_var (d := .lst (ordD (splitM rs n).2)) rfl).b)) ?_)
  show D.bl _ = D.bl _
  rw [isEmpty_ord, Bool.not_not]; rfl
end K34

namespace K34
open PySem PySem.Spec PyProof.Rows L2 Dw
variable [Tabs0]
/-! heads as bits -/
def headOf (l : List Nat) : Nat := (l.map fun k => 2 ^ k).sum
def hd (p : Nat → Bool) (n : Nat) : Nat := headOf ((List.range n).filter p)
theorem headOf_snoc (l : List Nat) (k : Nat) : headOf (l ++ [k]) = headOf l + 2 ^ k := by unfold headOf; rw [List.map_append, List.sum_append]; simp
theorem hd_succ (p : Nat → Bool) (n : Nat) : hd p (n + 1) = hd p n + if p n = true then 2 ^ n else 0 := by
  unfold hd
  rw [List.range_succ, List.filter_append]
  cases h : p n with
  | true => rw [List.filter_cons_of_pos h, List.filter_nil, headOf_snoc, if_pos rfl]
  | false => rw [List.filter_cons_of_neg (by rw [h]; decide), List.filter_nil, List.append_nil, if_neg (by decide)]; rfl
theorem hd_lt (p : Nat → Bool) : ∀ n, hd p n < 2 ^ n
  | 0 => by
    have : hd p 0 = 0 := rfl
    rw [this]; decide
  | n + 1 => by
    have := hd_lt p n
    rw [hd_succ, Nat.pow_succ]
    split <;> omega
theorem hd_bit (p : Nat → Bool) : ∀ n k, (hd p n).testBit k = (decide (k < n) && p k)
  | 0, k => by
    have : hd p 0 = 0 := rfl
    rw [this]; simp
  | n + 1, k => by
    have ih := hd_bit p n k
    have lt := hd_lt p n
    rw [hd_succ]
    cases h : p n with
    | false =>
      rw [if_neg (by decide), Nat.add_zero, ih]
      by_cases hk : k = n
      · subst hk; rw [h]; simp
      · have : decide (k < n + 1) = decide (k < n) := decide_eq_decide.mpr (by omega)
        rw [this]
    | true =>
      have e := Nat.two_pow_add_eq_or_of_lt lt 1
      rw [Nat.mul_one] at e
      rw [if_pos rfl, Nat.add_comm, e, Nat.testBit_or, Nat.testBit_two_pow, ih]
      by_cases hk : k = n
      · subst hk; rw [h]; simp
      · have e1 : decide (n = k) = false := decide_eq_false (by omega)
        have : decide (k < n + 1) = decide (k < n) := decide_eq_decide.mpr (by omega)
        rw [e1, this]; rfl
theorem and_zero {a b : Nat} : a &&& b = 0 ↔ ∀ k, ¬ (a.testBit k = true ∧ b.testBit k = true) := by
  constructor
  · intro h k hk
    have := congrArg (fun z => z.testBit k) h
    simp only [Nat.testBit_and, Nat.zero_testBit, hk.1, hk.2] at this
    cases this
  · intro h
    apply Nat.eq_of_testBit_eq
    intro k
    rw [Nat.testBit_and, Nat.zero_testBit]
    cases p : a.testBit k with
    | false => rfl
    | true =>
      cases q : b.testBit k with
      | false => rfl
      | true => exact absurd ⟨p, q⟩ (h k)
def sideM (c : Nat) (r : List Nat) : Nat := hd (fun k => decide (sgn r k = c)) r.length
def sidesM (r : List Nat) : Nat × Nat := (sideM 43 r, sideM 45 r)
theorem side_bit {c : Nat} {r : List Nat} {k : Nat} (hc : c ≠ 46) : (sideM c r).testBit k = decide (sgn r k = c) := by
  unfold sideM
  rw [hd_bit]
  by_cases h : k < r.length
  · simp [h]
  · have : sgn r k = 46 := by unfold sgn; rw [List.getD_eq_getElem?_getD, List.getElem?_eq_none (by omega)]; rfl
    rw [this]
    have : decide (46 = c) = false := decide_eq_false fun z => hc z.symm
    rw [this]; simp
def takenM (head : Nat) (told : List (Nat × Nat)) : Nat := told.foldl (fun t s => if s.1 &&& head = 0 then t ||| s.2 else t) head
theorem taken_bit (head k : Nat) : ∀ (told : List (Nat × Nat)) (t : Nat), (told.foldl (fun t s => if s.1 &&& head = 0 then t ||| s.2 else t) t).testBit k = (t.testBit k || told.any fun s => decide (s.1 &&& head = 0) && s.2.testBit k)
  | [], t => by simp
  | s :: told, t => by
    rw [List.foldl_cons, taken_bit head k told, List.any_cons]
    by_cases h : s.1 &&& head = 0
    · rw [if_pos h, Nat.testBit_or, decide_eq_true h, Bool.true_and, Bool.or_assoc]
    · rw [if_neg h, decide_eq_false h, Bool.false_and, Bool.false_or]
def behindM (head : Nat) (told : List (Nat × Nat)) (n : Nat) : List Nat := (List.range n).filter fun k => decide (takenM head told &&& 2 ^ k = 0)
theorem two_bit {a k : Nat} : decide (a &&& 2 ^ k = 0) = !a.testBit k := by
  rw [Bool.eq_iff_iff, decide_eq_true_eq, and_zero, Bool.not_eq_true']
  constructor
  · intro h
    cases q : a.testBit k with
    | false => rfl
    | true => exact absurd ⟨q, by rw [Nat.testBit_two_pow]; simp⟩ (h k)
  · rintro h j ⟨h1, h2⟩
    rw [Nat.testBit_two_pow] at h2
    have : k = j := of_decide_eq_true h2
    subst this
    rw [h] at h1; cases h1
/-- whether k may come right behind the head: no row has a minus for it, and no plus in the head -/
def openBit (rs : List (List Nat)) (head k : Nat) : Bool := !head.testBit k && rs.all fun r => !(decide (sideM 43 r &&& head = 0) && decide (sgn r k = 45))
theorem behind_eq (rs : List (List Nat)) (head n : Nat) : behindM head (rs.map sidesM) n = (List.range n).filter (openBit rs head) := by
  unfold behindM
  refine List.filter_congr fun k _ => ?_
  rw [two_bit]
  unfold takenM openBit
  rw [taken_bit, Bool.not_or, List.any_map]
  congr 1
  rw [List.not_any_eq_all_not]
  congr 1
  funext r
  show (!(decide (sideM 43 r &&& head = 0) && (sideM 45 r).testBit k)) = _
  rw [side_bit (by decide)]
def stepsM (rs : List (List Nat)) (n : Nat) : List (List Nat) := (List.range (2 ^ n)).map fun head => behindM head (rs.map sidesM) n
/-- the ways, head by head from the last one down -/
def endStep (behind : List (List Nat)) (ways : List Nat) (head : Nat) : List Nat := ways.set head (((behind.getD head []).map fun k => ways.getD (head ||| 2 ^ k) 0).sum)
def endTo (behind : List (List Nat)) (i : Nat) : List Nat := ((List.range (behind.length - 1)).reverse.take i).foldl (endStep behind) (List.replicate behind.length 1)
def endM (behind : List (List Nat)) : List Nat := endTo behind (behind.length - 1)
def countM (rs : List (List Nat)) (n : Nat) : Nat := (endM (stepsM rs n)).getD 0 0
theorem endTo_len (behind : List (List Nat)) : ∀ i, (endTo behind i).length = behind.length := by
  intro i
  unfold endTo
  generalize (List.range (behind.length - 1)).reverse.take i = l
  have : ∀ (l : List Nat) (w : List Nat), (l.foldl (endStep behind) w).length = w.length := fun l => by
    induction l with
    | nil => intro w; rfl
    | cons a l ih => intro w; rw [List.foldl_cons, ih]; unfold endStep; rw [List.length_set]
  rw [this, List.length_replicate]
theorem rev_get {m i : Nat} (h : i < m) : (List.range m).reverse[i]? = some (m - 1 - i) := by
  rw [List.getElem?_reverse (by simpa using h), List.length_range, List.getElem?_range (by omega)]
theorem endTo_succ {behind : List (List Nat)} {i : Nat} (h : i < behind.length - 1) : endTo behind (i + 1) = endStep behind (endTo behind i) (behind.length - 1 - 1 - i) := by
  unfold endTo
  rw [List.take_add_one, rev_get h, List.foldl_append]; rfl
theorem getD_set_ne {l : List Nat} {i j v : Nat} (h : i ≠ j) : (l.set i v).getD j 0 = l.getD j 0 := by
  rw [List.getD_eq_getElem?_getD, List.getElem?_set_ne h, ← List.getD_eq_getElem?_getD]
theorem getD_set_self {l : List Nat} {i v : Nat} (h : i < l.length) : (l.set i v).getD i 0 = v := by
  rw [List.getD_eq_getElem?_getD, List.getElem?_set_self h]; rfl
/-- what is written stays: ways from the head m - 1 - i on are final once i steps are done -/
theorem endTo_keep {behind : List (List Nat)} {i : Nat} (h : i ≤ behind.length - 1) {j : Nat} (hj : behind.length - 1 - i ≤ j) : (endM behind).getD j 0 = (endTo behind i).getD j 0 := by
  unfold endM
  obtain ⟨d, hd⟩ : ∃ d, behind.length - 1 = i + d := ⟨behind.length - 1 - i, by omega⟩
  have : ∀ d, i + d ≤ behind.length - 1 → (endTo behind (i + d)).getD j 0 = (endTo behind i).getD j 0 := fun d => by
    induction d with
    | zero => intro _; rfl
    | succ d ih =>
      intro hd
      rw [← Nat.add_assoc, endTo_succ (by omega)]
      unfold endStep
      rw [getD_set_ne (by omega)]
      exact ih (by omega)
  conv => lhs; rw [hd]
  exact this d (by omega)
theorem end_last {behind : List (List Nat)} (h : 0 < behind.length) : (endM behind).getD (behind.length - 1) 0 = 1 := by
  rw [endTo_keep (i := 0) (by omega) (by omega)]
  unfold endTo
  simp only [List.take_zero, List.foldl_nil]
  rw [List.getD_eq_getElem?_getD, List.getElem?_replicate, if_pos (by omega)]; rfl
theorem end_at {behind : List (List Nat)} {head : Nat} (h : head < behind.length - 1) (up : ∀ k ∈ behind.getD head [], head < head ||| 2 ^ k) : (endM behind).getD head 0 = ((behind.getD head []).map fun k => (endM behind).getD (head ||| 2 ^ k) 0).sum := by
  obtain ⟨i, hi⟩ : ∃ i, head = behind.length - 1 - 1 - i ∧ i < behind.length - 1 := ⟨behind.length - 1 - 1 - head, by omega, by omega⟩
  rw [endTo_keep (i := i + 1) (by omega) (j := head) (by omega), endTo_succ hi.2, ← hi.1]
  unfold endStep
  rw [getD_set_self (by rw [endTo_len]; omega)]
  congr 1
  refine List.map_congr_left fun k hk => ?_
  exact (endTo_keep (i := i) (by omega) (by have := up k hk; omega)).symm
theorem steps_len (rs : List (List Nat)) (n : Nat) : (stepsM rs n).length = 2 ^ n := by unfold stepsM; rw [List.length_map, List.length_range]
theorem steps_at {rs : List (List Nat)} {n head : Nat} (h : head < 2 ^ n) : (stepsM rs n).getD head [] = (List.range n).filter (openBit rs head) := by
  unfold stepsM
  rw [List.getD_eq_getElem?_getD, List.getElem?_map, List.getElem?_range h]
  show behindM _ _ _ = _
  rw [behind_eq]
theorem or_up {head k : Nat} (h : head.testBit k = false) : head < head ||| 2 ^ k := by
  have h1 : head ≤ head ||| 2 ^ k := Nat.left_le_or
  rcases Nat.lt_or_eq_of_le h1 with h2 | h2
  · exact h2
  · have := congrArg (fun z => z.testBit k) h2
    simp only [Nat.testBit_or, Nat.testBit_two_pow] at this
    rw [h] at this; simp at this
theorem open_bit {rs : List (List Nat)} {head k : Nat} (h : openBit rs head k = true) : head.testBit k = false := by
  unfold openBit at h
  rw [Bool.and_eq_true, Bool.not_eq_true'] at h
  exact h.1
end K34

namespace K34
open PySem PySem.Spec PyProof.Rows L2 Dw
variable [Tabs0]
theorem sum_cast : ∀ l : List Nat, ((l.map fun k : Nat => (k : Int)).sum : Int) = ((l.sum : Nat) : Int)
  | [] => rfl
  | a :: l => by rw [List.map_cons, List.sum_cons, List.sum_cons, sum_cast l]; omega
def lolD (l : List (List Nat)) : List D := l.map fun o => D.lst (ordN o)
def sidD (l : List (Nat × Nat)) : List D := l.map fun s => D.tup [.int (s.1 : Nat), .int (s.2 : Nat)]
theorem np_ll {o : List (List Nat)} {r : List D} (h : noPs r = true) : noPs (.lst (lolD o) :: r) = true := by
  have e : noPs (lolD o) = true := noPs_map (f := fun o => D.lst (ordN o)) (fun l => np_ord l) o
  show (noPs (lolD o) && noPs r) = true; rw [e, h]; rfl
theorem np_sd {o : List (Nat × Nat)} {r : List D} (h : noPs r = true) : noPs (.lst (sidD o) :: r) = true := by
  have e : noPs (sidD o) = true := noPs_map (f := fun s : Nat × Nat => D.tup [.int (s.1 : Nat), .int (s.2 : Nat)]) (fun l => rfl) o
  show (noPs (sidD o) && noPs r) = true; rw [e, h]; rfl
def ordX (b : Bool) (l : List Nat) : D := if b = true then .lst (ordD l) else .tup (ordD l)
def spHeadOf : Spc where
  ty := List Nat × Bool
  args := fun x => [ordX x.2 x.1]
  ok := fun x => x.1.length ≤ 1000 ∧ ∀ k ∈ x.1, k ≤ 1000
  rel := fun x d => d = .int (headOf x.1 : Nat)
theorem ei_ordX {K : PySem.W.Frag} {ta : TE} {Γ : Gam} {b : Bool} {l : List Nat} (ha : Ev ta Γ (ordX b l)) : Ei (iAnyR K ta) Γ (l.map fun k : Nat => D.int k) := by
  cases b with
  | true => exact ej_list (Ev.b (ds := ordD l) ha)
  | false => exact ej_tup ha
def spSides : Spc where
  ty := List Nat
  args := fun r => [.str (tx r)]
  ok := fun r => ∃ n, RowOk r n ∧ n ≤ 8
  rel := fun r d => d = .tup [.int (sideM 43 r : Nat), .int (sideM 45 r : Nat)]
theorem enum_signs (r : List Nat) : enumD (Dw.signs (tx r)) = (List.range r.length).map fun (i : Nat) => D.tup [.int i, .str (ch (sgn r i))] := by
  apply List.ext_getElem?
  intro i
  have ls : (Dw.signs (tx r)).length = r.length := by rw [signs_tx, List.length_map, List.length_map]
  by_cases hi : i < r.length
  · obtain ⟨x, hx⟩ : ∃ x, (enumD (Dw.signs (tx r)))[i]? = some x := ⟨_, List.getElem?_eq_getElem (by rw [enumD_length, ls]; exact hi)⟩
    obtain ⟨y, hy, rfl⟩ := enumD_get hx
    rw [hx, List.getElem?_map, List.getElem?_range hi]
    rw [signs_tx, List.map_map, List.getElem?_map, List.getElem?_eq_getElem hi] at hy
    cases hy
    show _ = some (D.tup [D.int i, D.str (ch (sgn r i))])
    unfold sgn
    rw [List.getD_eq_getElem?_getD, List.getElem?_eq_getElem hi]; rfl
  · rw [List.getElem?_eq_none (by rw [enumD_length, ls]; omega), List.getElem?_eq_none (by simpa using hi)]
def spBehind : Spc where
  ty := Nat × List (Nat × Nat) × Nat
  args := fun x => [.int (x.1 : Nat), .lst (sidD x.2.1), .int (x.2.2 : Nat)]
  ok := fun x => x.2.2 ≤ 8 ∧ x.2.1.length ≤ 1000
  rel := fun x d => d = .lst (ordD (behindM x.1 x.2.1 x.2.2))
def spSteps : Spc where
  ty := List (List Nat) × Nat × Bool
  args := fun x => [rowsD x.2.2 x.1, .int (x.2.1 : Nat)]
  ok := fun x => (∀ r ∈ x.1, RowOk r x.2.1) ∧ x.2.1 ≤ 8 ∧ x.1.length ≤ 1000
  rel := fun x d => d = .lst (lolD (stepsM x.1 x.2.1))
structure EndOk (b : List (List Nat)) : Prop where
  lo : 1 ≤ b.length
  hi : b.length ≤ 256
  in_ : ∀ head, head < b.length → ∀ k ∈ b.getD head [], head ||| 2 ^ k < b.length ∧ k ≤ 8
  few : ∀ head, (b.getD head []).length ≤ 8
def spEnd : Spc where
  ty := List (List Nat)
  args := fun b => [.lst (lolD b)]
  ok := fun b => EndOk b
  rel := fun b d => d = .lst (ordD (endM b))
def spCount : Spc where
  ty := List (List Nat) × Nat × Bool
  args := fun x => [rowsD x.2.2 x.1, .int (x.2.1 : Nat)]
  ok := fun x => (∀ r ∈ x.1, RowOk r x.2.1) ∧ x.2.1 ≤ 8 ∧ x.1.length ≤ 1000
  rel := fun x d => d = .int (countM x.1 x.2.1 : Nat)
theorem pow8 {n : Nat} (h : n ≤ 8) : 2 ^ n ≤ 256 := Nat.le_trans (Nat.pow_le_pow_right (by decide) h) (by decide)
theorem steps_ok {rs : List (List Nat)} {n : Nat} (h : n ≤ 8) : EndOk (stepsM rs n) := by
  refine ⟨by rw [steps_len]; exact Nat.two_pow_pos n, by rw [steps_len]; exact pow8 h, fun head hh k hk => ?_, fun head => ?_⟩
  · rw [steps_len] at hh ⊢
    rw [steps_at hh] at hk
    have kn := List.mem_range.mp (List.mem_filter.mp hk).1
    exact ⟨Nat.or_lt_two_pow hh (Nat.pow_lt_pow_right (by decide) kn), by omega⟩
  · by_cases hh : head < 2 ^ n
    · rw [steps_at hh]
      have := List.length_filter_le (openBit rs head) (List.range n)
      rw [List.length_range] at this
      omega
    · rw [List.getD_eq_getElem?_getD, List.getElem?_eq_none (by rw [steps_len]; omega)]; exact Nat.zero_le _
theorem ei_rows {K : PySem.W.Frag} {ta : TE} {Γ : Gam} {b : Bool} {rs : List (List Nat)} (ha : Ev ta Γ (rowsD b rs)) : Ei (iAnyR K ta) Γ (rs.map fun r => D.str (tx r)) := by
  cases b with
  | true => exact ej_list (Ev.b (ds := nameD rs) ha)
  | false => exact ej_tup ha
theorem lolD_at {l : List (List Nat)} {i : Nat} (h : i < l.length) : atI (lolD l) (i : Int) = some (.lst (ordD (l.getD i []))) := by
  refine atI_nat ?_
  unfold lolD
  rw [List.getElem?_map, List.getElem?_eq_getElem h, List.getD_eq_getElem?_getD, List.getElem?_eq_getElem h]; rfl
theorem ordD_at {l : List Nat} {i : Nat} (h : i < l.length) : atI (ordD l) (i : Int) = some (.int (l.getD i 0 : Nat)) := by
  refine atI_nat ?_
  unfold ordD
  rw [List.getElem?_map, List.getElem?_eq_getElem h, List.getD_eq_getElem?_getD, List.getElem?_eq_getElem h]; rfl
theorem ordD_set (l : List Nat) (i v : Nat) : (ordD l).set i (.int (v : Nat)) = ordD (l.set i v) := by unfold ordD; rw [List.map_set]
theorem rep_one (m : Nat) : (List.replicate m [D.int (1 : Nat)]).flatten = ordD (List.replicate m 1) := by
  unfold ordD
  rw [List.map_replicate]
  induction m with
  | zero => rfl
  | succ m ih => rw [List.replicate_succ, List.flatten_cons, ih, List.replicate_succ]; rfl
theorem nz_nat (a : Nat) : (!(((a : Nat) : Int) != 0)) = decide (a = 0) := by
  rw [Bool.eq_iff_iff]; simp
end K34

namespace K34
open PySem PySem.Spec PyProof.Rows L2 Dw
variable [Tabs0]
theorem d_head_of {P : Program} {w : World} {K : PySem.W.Frag} {mg : Str → Option Value} {base : Heap} (T : Txt K w mg) : FnOk P w K mg base CX0 1 T.f_head_of T.e_head_of ["rules"] (toSp (spHeadOf)) := by
  refine fn_ok T.F_head_of sc_head_of (fun _ => rfl) fun cdv A outer s' H E hr => ?_
  refine ⟨_, (pss_one (ps_ret (pe_callB (sumA K) (by rfl) T.n_sum (by decide +kernel) (pa_cons (pe_lc (own := [("rule", 1)]) rfl sc_head_of.nd (piR K (pv 0)) (blkOk_by (own := [("rule", 1)]) (N := N_head_of) (sc := (defScope s_head_of)) (by decide +kernel)) (fun _ _ _ _ _ => pg_name (i := 1) sc_head_of.nd rfl (Or.inl rfl)) (fun _ _ _ _ _ => pts_nil) (fun _ _ _ _ _ => (pe_op op_shl pe_int (pv 1)))) pa_nil)))), fun x hx => ?_⟩
  obtain ⟨l, b⟩ := x
  obtain ⟨hz, hk⟩ := hx
  have hz : l.length ≤ 1000 := hz
  have hk : ∀ k ∈ l, k ≤ 1000 := hk
  refine ds_ret (Ev.dl (ev_cast (d' := .int (headOf l : Nat)) ?c (ev_sum (ns := l.map fun k => ((2 ^ k : Nat) : Int)) (EvN.b ?e))) rfl)
  case c =>
    unfold headOf
    rw [← sum_cast, List.map_map]; rfl
  case e =>
    rw [List.map_map]
    exact evn_lc1 (xs := l) (c := fun k : Nat => D.int k) (f := fun k => D.int ((2 ^ k : Nat) : Int)) (ei_ordX (b := b) (ev_var (d := ordX b l) rfl)) (by omega) fun k hk' => ⟨[1], _, dg_name, fun i hi => hi, evt_yes, ev_op ev_int (ev_var rfl) (dr2_shl1 (hk k hk'))⟩
end K34

namespace K34
open PySem PySem.Spec PyProof.Rows L2 Dw
variable [Tabs0]
theorem d_sides {P : Program} {w : World} {K : PySem.W.Frag} {mg : Str → Option Value} {base : Heap} (T : Txt K w mg) : FnOk P w K mg base CX0 2 T.f_sides T.e_sides ["row"] (toSp (spSides)) := by
  refine fn_ok T.F_sides sc_sides (fun _ => rfl) fun cdv A outer s' H E hr => ?_
  refine ⟨_, (pss_cons (ps_set (i := 1) sc_sides.nd rfl (Or.inl rfl) (pe_call (d_head_of T) (hr.mono (by decide)) (by rfl) T.m_head_of T.F_head_of.kp T.b_head_of .nil pass0 (pa_cons (pe_lc (own := [("rule", 3), ("sign", 4)]) rfl sc_sides.nd (enumSA (by rfl) T.n_enumerate (pa_cons (pv 0) pa_nil)) (blkOk_by (own := [("rule", 3), ("sign", 4)]) (N := N_sides) (sc := (defScope s_sides)) (by decide +kernel)) (fun _ _ _ _ _ => tupA K 2 rfl (pgs_cons (pg_name (i := 3) sc_sides.nd rfl (Or.inl rfl)) (pgs_cons (pg_name (i := 4) sc_sides.nd rfl (Or.inl rfl)) pgs_nil))) (fun _ _ _ _ _ => pts_one (pt_cmpR (eqA K hr.units) (pv 4) pe_str (nomark _))) (fun _ _ _ _ _ => (pv 3))) pa_nil))) (pss_cons (ps_set (i := 2) sc_sides.nd rfl (Or.inl rfl) (pe_call (d_head_of T) (hr.mono (by decide)) (by rfl) T.m_head_of T.F_head_of.kp T.b_head_of .nil pass0 (pa_cons (pe_lc (own := [("rule", 3), ("sign", 4)]) rfl sc_sides.nd (enumSA (by rfl) T.n_enumerate (pa_cons (pv 0) pa_nil)) (blkOk_by (own := [("rule", 3), ("sign", 4)]) (N := N_sides) (sc := (defScope s_sides)) (by decide +kernel)) (fun _ _ _ _ _ => tupA K 2 rfl (pgs_cons (pg_name (i := 3) sc_sides.nd rfl (Or.inl rfl)) (pgs_cons (pg_name (i := 4) sc_sides.nd rfl (Or.inl rfl)) pgs_nil))) (fun _ _ _ _ _ => pts_one (pt_cmpR (eqA K hr.units) (pv 4) pe_str (nomark _))) (fun _ _ _ _ _ => (pv 3))) pa_nil))) (pss_one (ps_ret (pe_tup (pa_cons (pv 1) (pa_cons (pv 2) pa_nil))))))), fun x hx => ?_⟩
  obtain ⟨r, rfl⟩ : ∃ l : List Nat, l = x := ⟨x, rfl⟩
  obtain ⟨n, hr', h8⟩ := hx
  have hr' : RowOk r n := hr'
  have rl : r.length ≤ 8 := by rw [hr'.len]; exact h8
  have sl : ∀ c, ((List.range r.length).filter fun i => decide (sgn r i = c)).length ≤ 1000 := fun c => by
    have := List.length_filter_le (fun i => decide (sgn r i = c)) (List.range r.length)
    rw [List.length_range] at this
    omega
  have sk : ∀ c, ∀ k ∈ (List.range r.length).filter fun i => decide (sgn r i = c), k ≤ 1000 := fun c k hk => by
    have := List.mem_range.mp (List.mem_filter.mp hk).1
    omega
  refine ds_seq (ds_asg (Ev.dl (ev_call (s := spHeadOf) (d := .int (sideM 43 r : Nat)) (x := ((List.range r.length).filter fun i => decide (sgn r i = 43), true)) (eva_cons (EvN.ev (evn_lc (xs := List.range r.length) (c := fun (i : Nat) => D.tup [.int i, .str (ch (sgn r i))]) (p := fun i => decide (sgn r i = 43)) (f := fun (i : Nat) => D.int i) ?i1 (by rw [List.length_range]; omega) fun i hi => ⟨[3] ++ [4], _, dg_tup2 dg_name dg_name, fun i hi => hi, ?t1, fun _ => ev_var rfl⟩)) eva_nil) (np_lo (r := []) rfl) ⟨sl 43, sk 43⟩ fun d h => h) ?_))
  case i1 => rw [← enum_signs]; exact ei_enumS (ev_var rfl)
  case t1 => exact evt_test (ev_op (ev_var rfl) ev_str (eq_sb (by rw [ch_plus, Bool.eq_iff_iff]; simp [ch_eq])))
  refine ds_seq (ds_asg (Ev.dl (ev_call (s := spHeadOf) (d := .int (sideM 45 r : Nat)) (x := ((List.range r.length).filter fun i => decide (sgn r i = 45), true)) (eva_cons (EvN.ev (evn_lc (xs := List.range r.length) (c := fun (i : Nat) => D.tup [.int i, .str (ch (sgn r i))]) (p := fun i => decide (sgn r i = 45)) (f := fun (i : Nat) => D.int i) ?i2 (by rw [List.length_range]; omega) fun i hi => ⟨[3] ++ [4], _, dg_tup2 dg_name dg_name, fun i hi => hi, ?t2, fun _ => ev_var rfl⟩)) eva_nil) (np_lo (r := []) rfl) ⟨sl 45, sk 45⟩ fun d h => h) ?_))
  case i2 => rw [← enum_signs]; exact ei_enumS (ev_var rfl)
  case t2 => exact evt_test (ev_op (ev_var rfl) ev_str (eq_sb (by rw [ch_minus, Bool.eq_iff_iff]; simp [ch_eq])))
  exact ds_ret (Ev.dl (ev_tup (eva_cons (ev_var rfl) (eva_cons (ev_var rfl) eva_nil)) (small (show 2 ≤ 100000 by decide))) rfl)
end K34

namespace K34
open PySem PySem.Spec PyProof.Rows L2 Dw
variable [Tabs0]
theorem d_rules_behind {P : Program} {w : World} {K : PySem.W.Frag} {mg : Str → Option Value} {base : Heap} (T : Txt K w mg) : FnOk P w K mg base CX0 1 T.f_rules_behind T.e_rules_behind ["head", "told", "many"] (toSp (spBehind)) := by
  refine fn_ok T.F_rules_behind sc_rules_behind (fun _ => rfl) fun cdv A outer s' H E hr => ?_
  refine ⟨_, (pss_cons (ps_set (i := 3) sc_rules_behind.nd rfl (Or.inr rfl) (pv 0)) (pss_cons (ps_for PassesOwn.never rfl (piR K (pv 1)) (tupA K 2 rfl (pgs_cons (pg_name (i := 4) sc_rules_behind.nd rfl (Or.inl rfl)) (pgs_cons (pg_name (i := 5) sc_rules_behind.nd rfl (Or.inl rfl)) pgs_nil))) (pss_one (ps_if (pt_not (truA K (pe_op op_and (pv 4) (pv 0)))) (pss_one (ps_aug (i := 3) sc_rules_behind.nd rfl (Or.inr rfl) (pv 5) iop_or)) pss_nil))) (pss_one (ps_ret (pe_lc (own := [("rule", 6)]) rfl sc_rules_behind.nd (pi_range1 (by rfl) T.n_range (pa_cons (pv 2) pa_nil)) (blkOk_by (own := [("rule", 6)]) (N := N_rules_behind) (sc := (defScope s_rules_behind)) (by decide +kernel)) (fun _ _ _ _ _ => pg_name (i := 6) sc_rules_behind.nd rfl (Or.inl rfl)) (fun _ _ _ _ _ => pts_one (pt_not (truA K (pe_op op_and (pv 3) (pe_op op_shl pe_int (pv 6)))))) (fun _ _ _ _ _ => (pv 6))))))), fun x hx => ?_⟩
  obtain ⟨head, told, n⟩ := x
  obtain ⟨h8, hz⟩ := hx
  have h8 : n ≤ 8 := h8
  have hz : told.length ≤ 1000 := hz
  refine ds_seq (ds_asg (Ev.dl (ev_var (d := .int (head : Nat)) rfl) ?_))
  refine ds_seq (ds_for (fun xs i Γ' => xs = sidD told ∧ ∃ s4 s5 : Sl, Γ' = [.val (.int (head : Nat)), .val (.lst (sidD told)), .val (.int (n : Nat)), .val (.int (((told.take i).foldl (fun t s => if s.1 &&& head = 0 then t ||| s.2 else t) head : Nat) : Int)), s4, s5, .unset])
    (dj_list (Ev.dl (ev_var rfl) ⟨sidD told, rfl, ⟨rfl, _, _, rfl⟩, fun i x Γ' hx' ⟨exs, s4, s5, e⟩ => ?_, fun Γ' ⟨exs, s4, s5, e⟩ => ?_⟩)))
  · subst e
    have hx3 : (told.map fun s => D.tup [.int (s.1 : Nat), .int (s.2 : Nat)])[i]? = some x := hx'
    rw [List.getElem?_map] at hx3
    cases q : told[i]? with
    | none => rw [q] at hx3; cases hx3
    | some s =>
      rw [q] at hx3; cases hx3
      have nx : (told.take (i + 1)).foldl (fun t s => if s.1 &&& head = 0 then t ||| s.2 else t) head = if s.1 &&& head = 0 then ((told.take i).foldl (fun t s => if s.1 &&& head = 0 then t ||| s.2 else t) head) ||| s.2 else (told.take i).foldl (fun t s => if s.1 &&& head = 0 then t ||| s.2 else t) head := by
        rw [List.take_add_one, q, List.foldl_append]; rfl
      have fin : ∀ (t : Nat) (s4 s5 : Sl), t = (told.take (i + 1)).foldl (fun t s => if s.1 &&& head = 0 then t ||| s.2 else t) head → sidD told = sidD told ∧ ∃ s4' s5' : Sl, [Sl.val (.int (head : Nat)), .val (.lst (sidD told)), .val (.int (n : Nat)), .val (.int ((t : Nat) : Int)), s4, s5, .unset] = [.val (.int (head : Nat)), .val (.lst (sidD told)), .val (.int (n : Nat)), .val (.int (((told.take (i + 1)).foldl (fun t s => if s.1 &&& head = 0 then t ||| s.2 else t) head : Nat) : Int)), s4', s5', .unset] := fun t s4 s5 ht => ⟨rfl, s4, s5, by rw [ht]⟩
      generalize (told.take i).foldl (fun t s => if s.1 &&& head = 0 then t ||| s.2 else t) head = t at nx
      refine ⟨[4] ++ [5], _, dg_tup2 dg_name dg_name, ds_if (EvT.dl (evt_not (evt_tru_int (ev_op (ev_var (d := .int (s.1 : Nat)) rfl) (ev_var (d := .int (head : Nat)) rfl) dr2_and))) ⟨fun h => ?_, fun h => ?_⟩)⟩
      · rw [nz_nat] at h
        have h := of_decide_eq_true h
        exact ds_orI (a := t) (b := s.2) rfl (ev_var rfl) (fin (t ||| s.2) _ _ (by rw [nx, if_pos h]))
      · rw [nz_nat] at h
        have h := of_decide_eq_false h
        exact ds_next (fin t _ _ (by rw [nx, if_neg h]))
  · subst e
    have lt : (sidD told).length = told.length := List.length_map ..
    rw [lt, List.take_length]
    refine ds_ret (Ev.dl (EvN.ev (evn_lc (xs := List.range n) (c := fun k : Nat => D.int k) (p := fun k => decide (takenM head told &&& 2 ^ k = 0)) (f := fun k : Nat => D.int k) (ei_range (n := n) (eva_cons (ev_var rfl) eva_nil) (by omega)) (by rw [List.length_range]; omega) fun k hk => ⟨[6], _, dg_name, fun i hi => hi, ?t, fun _ => ev_var rfl⟩)) rfl)
    have hk := List.mem_range.mp hk
    rw [← nz_nat]
    exact evt_not (evt_tru_int (ev_op (ev_var (d := .int (takenM head told : Nat)) rfl) (ev_op ev_int (ev_var rfl) (dr2_shl1 (by omega))) dr2_and))
end K34

namespace K34
open PySem PySem.Spec PyProof.Rows L2 Dw
variable [Tabs0]
theorem d_steps {P : Program} {w : World} {K : PySem.W.Frag} {mg : Str → Option Value} {base : Heap} (T : Txt K w mg) : FnOk P w K mg base CX0 3 T.f_steps T.e_steps ["rows", "many"] (toSp (spSteps)) := by
  refine fn_ok T.F_steps sc_steps (fun _ => rfl) fun cdv A outer s' H E hr => ?_
  refine ⟨_, (pss_cons (ps_set (i := 2) sc_steps.nd rfl (Or.inr rfl) (pe_lc (own := [("row", 3)]) rfl sc_steps.nd (piR K (pv 0)) (blkOk_by (own := [("row", 3)]) (N := N_steps) (sc := (defScope s_steps)) (by decide +kernel)) (fun _ _ _ _ _ => pg_name (i := 3) sc_steps.nd rfl (Or.inl rfl)) (fun _ _ _ _ _ => pts_nil) (fun _ _ _ _ _ => (pe_call (d_sides T) (hr.mono (by decide)) (by rfl) T.m_sides T.F_sides.kp T.b_sides .nil pass0 (pa_cons (pv 3) pa_nil))))) (pss_one (ps_ret (pe_lc (own := [("head", 4)]) rfl sc_steps.nd (pi_range1 (by rfl) T.n_range (pa_cons (pe_op op_shl pe_int (pv 1)) pa_nil)) (blkOk_by (own := [("head", 4)]) (N := N_steps) (sc := (defScope s_steps)) (by decide +kernel)) (fun _ _ _ _ _ => pg_name (i := 4) sc_steps.nd rfl (Or.inl rfl)) (fun _ _ _ _ _ => pts_nil) (fun _ _ _ _ _ => (pe_call (d_rules_behind T) (hr.mono (by decide)) (by rfl) T.m_rules_behind T.F_rules_behind.kp T.b_rules_behind .nil pass0 (pa_cons (pv 4) (pa_cons (pv 2) (pa_cons (pv 1) pa_nil))))))))), fun x hx => ?_⟩
  obtain ⟨rs, n, b⟩ := x
  obtain ⟨hr', h8, hz⟩ := hx
  have hr' : ∀ r ∈ rs, RowOk r n := hr'
  have h8 : n ≤ 8 := h8
  have hz : rs.length ≤ 1000 := hz
  have p8 := pow8 h8
  refine ds_seq (ds_asg (Ev.dl (ev_cast (d' := .lst (sidD (rs.map sidesM))) ?c1 (EvN.ev (evn_lc1 (xs := rs) (c := fun r => .str (tx r)) (f := fun r => D.tup [.int (sideM 43 r : Nat), .int (sideM 45 r : Nat)]) (ei_rows (b := b) (ev_var (d := rowsD b rs) rfl)) (by omega) fun r hr => ⟨[3], _, dg_name, fun i hi => hi, evt_yes, ev_call (s := spSides) (x := r) (eva_cons (ev_var rfl) eva_nil) rfl ⟨n, hr' r hr, h8⟩ fun d h => h⟩))) ?_))
  case c1 => unfold sidD; rw [List.map_map]; rfl
  refine ds_ret (Ev.dl (ev_cast (d' := .lst (lolD (stepsM rs n))) ?c2 (EvN.ev (evn_lc1 (xs := List.range (2 ^ n)) (c := fun k : Nat => D.int k) (f := fun head => D.lst (ordD (behindM head (rs.map sidesM) n))) (ei_range (n := 2 ^ n) (eva_cons (ev_op ev_int (ev_var rfl) (dr2_shl1 (by omega))) eva_nil) (by omega)) (by rw [List.length_range]; omega) fun head hh => ⟨[4], _, dg_name, fun i hi => hi, evt_yes, ev_call (s := spBehind) (x := (head, rs.map sidesM, n)) (eva_cons (ev_var rfl) (eva_cons (ev_var rfl) (eva_cons (ev_var rfl) eva_nil))) (np_sd (r := [_]) rfl) ⟨h8, by show (rs.map sidesM).length ≤ 1000; rw [List.length_map]; exact hz⟩ fun d h => h⟩))) rfl)
  unfold lolD stepsM
  rw [List.map_map]; rfl
end K34

namespace K34
open PySem PySem.Spec PyProof.Rows L2 Dw
variable [Tabs0]
theorem d_endings {P : Program} {w : World} {K : PySem.W.Frag} {mg : Str → Option Value} {base : Heap} (T : Txt K w mg) : FnOk P w K mg base CX0 1 T.f_endings T.e_endings ["behind"] (toSp (spEnd)) := by
  refine fn_ok T.F_endings sc_endings (fun _ => rfl) fun cdv A outer s' H E hr => ?_
  refine ⟨_, (pss_cons (ps_set (i := 1) sc_endings.nd rfl (Or.inr rfl) (pe_op opTimes (pe_lst (pa_cons pe_int pa_nil)) (pe_callB (lenA K) (by rfl) T.n_len (by decide +kernel) (pa_cons (pv 0) pa_nil)))) (pss_cons (ps_for PassesOwn.never rfl (pi_revR (by rfl) T.n_reversed (prg_1 (by rfl) T.n_range (pe_op op_sub (pe_callB (lenA K) (by rfl) T.n_len (by decide +kernel) (pa_cons (pv 0) pa_nil)) pe_int))) (pg_name (i := 2) sc_endings.nd rfl (Or.inr rfl)) (pss_one (ps_asg (pe_callB (sumA K) (by rfl) T.n_sum (by decide +kernel) (pa_cons (pe_lc (own := [("rule", 3)]) rfl sc_endings.nd (piR K (pe_ix (ixA K) (pv 0) (pv 2) (fun _ _ => rfl))) (blkOk_by (own := [("rule", 3)]) (N := N_endings) (sc := (defScope s_endings)) (by decide +kernel)) (fun _ _ _ _ _ => pg_name (i := 3) sc_endings.nd rfl (Or.inl rfl)) (fun _ _ _ _ _ => pts_nil) (fun _ _ _ _ _ => (pe_ix (ixA K) (pv 1) (pe_op op_or (pv 2) (pe_op op_shl pe_int (pv 3))) (fun _ _ => rfl)))) pa_nil)) (pg_sub (pv 1) (pv 2) set_list)))) (pss_one (ps_ret (pv 1))))), fun x hx => ?_⟩
  obtain ⟨b, rfl⟩ : ∃ l : List (List Nat), l = x := ⟨x, rfl⟩
  have hb : EndOk b := hx
  have hi := hb.hi
  have lb : (lolD b).length = b.length := List.length_map ..
  refine ds_seq (ds_asg_own (ds := ordD (List.replicate b.length 1)) ?e1 ?_)
  case e1 =>
    rw [← rep_one]
    exact evn_rep (ds := [.int (1 : Nat)]) (n := b.length) (EvN.b (evn_lst (eva_cons ev_int eva_nil) (small (show 1 ≤ 100000 by decide)))) (ev_cast (congrArg (fun n : Nat => D.int n) lb) (ev_len (ds := lolD b) (ev_var rfl).b)) (by show 1 * b.length ≤ _; exact small (by omega)) (by omega)
  refine ds_seq (ds_for (fun xs i Γ' => xs = (rng (b.length - 1)).reverse ∧ ∃ s2 : Sl, Γ' = [.val (.lst (lolD b)), .own (ordD (endTo b i)), s2, .unset])
    (di_rev (n := b.length - 1) (ev_cast (congrArg D.int (by have := hb.lo; rw [lb]; omega)) (ev_op (ev_len (ds := lolD b) (ev_var rfl).b) ev_int (dr2_sub (i := ((lolD b).length : Nat)) (j := 1)))) (by omega) ⟨⟨rfl, _, rfl⟩, fun i x Γ' hx' ⟨exs, s2, e⟩ => ?_, fun Γ' ⟨exs, s2, e⟩ => ?_⟩))
  · subst e
    have hil : i < b.length - 1 := by
      have := (List.getElem?_eq_some_iff.mp hx').1
      rw [List.length_reverse, rng_length] at this
      exact this
    have hx2 : x = .int ((b.length - 1 - 1 - i : Nat) : Int) := by
      rw [List.getElem?_reverse (by rw [rng_length]; exact hil), rng_length] at hx'
      exact (rng_get hx').2
    subst hx2
    obtain ⟨head, hh⟩ : ∃ head, head = b.length - 1 - 1 - i := ⟨_, rfl⟩
    rw [← hh]
    have hl : head < b.length := by omega
    have wl := endTo_len b i
    refine ⟨[2], _, dg_name, ds_sub ⟨_, rfl⟩ (Ev.dl (ev_cast (d' := .int ((((b.getD head []).map fun k => (endTo b i).getD (head ||| 2 ^ k) 0).sum : Nat) : Int)) ?c (ev_sum (ns := (b.getD head []).map fun k => (((endTo b i).getD (head ||| 2 ^ k) 0 : Nat) : Int)) (EvN.b ?e))) ⟨ordD (endTo b i), head, rfl, ev_var rfl, by rw [ordD_len, wl]; exact hl, exs, .val (.int (head : Nat)), ?n⟩)⟩
    case c => rw [← sum_cast, List.map_map]; rfl
    case e =>
      rw [List.map_map]
      refine evn_lc1 (xs := b.getD head []) (c := fun k : Nat => D.int k) (f := fun k => D.int (((endTo b i).getD (head ||| 2 ^ k) 0 : Nat) : Int)) (ej_list (Ev.b (ds := ordD (b.getD head [])) (ev_ix (ds := lolD b) (ev_var rfl).b (ev_var rfl) (lolD_at hl)))) (by have := hb.few head; omega) fun k hk => ⟨[3], _, dg_name, fun i hi => hi, evt_yes, ?_⟩
      obtain ⟨k1, k2⟩ := hb.in_ head hl k hk
      exact ev_ix (evb_own (ds := ordD (endTo b i)) rfl) (ev_op (ev_var (d := .int (head : Nat)) rfl) (ev_op ev_int (ev_var rfl) (dr2_shl1 (by omega))) dr2_or) (ordD_at (by rw [wl]; exact k1))
    case n =>
      show [Sl.val (.lst (lolD b)), .own ((ordD (endTo b i)).set head (.int (_ : Nat))), .val (.int (head : Nat)), .unset] = _
      rw [ordD_set, endTo_succ hil, ← hh]; rfl
  · subst e
    rw [List.length_reverse, rng_length]
    exact ds_ret_own rfl rfl
end K34

namespace K34
open PySem PySem.Spec PyProof.Rows L2 Dw
variable [Tabs0]
theorem d_count_fitting {P : Program} {w : World} {K : PySem.W.Frag} {mg : Str → Option Value} {base : Heap} (T : Txt K w mg) : FnOk P w K mg base CX0 4 T.f_count_fitting T.e_count_fitting ["rows", "many"] (toSp (spCount)) := by
  refine fn_ok T.F_count_fitting sc_count_fitting (fun _ => rfl) fun cdv A outer s' H E hr => ?_
  refine ⟨_, (pss_one (ps_ret (pe_ix (ixA K) (pe_call (d_endings T) (hr.mono (by decide)) (by rfl) T.m_endings T.F_endings.kp T.b_endings .nil pass0 (pa_cons (pe_call (d_steps T) (hr.mono (by decide)) (by rfl) T.m_steps T.F_steps.kp T.b_steps .nil pass0 (pa_cons (pv 0) (pa_cons (pv 1) pa_nil))) pa_nil)) pe_int (fun _ _ => rfl)))), fun x hx => ?_⟩
  obtain ⟨rs, n, b⟩ := x
  obtain ⟨hr', h8, hz⟩ := hx
  have h8 : n ≤ 8 := h8
  have so := steps_ok (rs := rs) h8
  refine ds_ret (Ev.dl (ev_ix (ds := ordD (endM (stepsM rs n))) (Ev.b (ev_call (s := spEnd) (x := stepsM rs n) (eva_cons (ev_call (s := spSteps) (x := (rs, n, b)) (eva_cons (ev_var rfl) (eva_cons (ev_var rfl) eva_nil)) (np_rd (r := [_]) rfl) ⟨hr', h8, hz⟩ fun d h => h) eva_nil) (np_ll (r := []) rfl) so fun d h => h)) ev_int (ordD_at (i := 0) ?_)) rfl)
  unfold endM
  rw [endTo_len]; exact so.lo
end K34

namespace K34
open PySem PySem.Spec PyProof.Rows L2 Dw
variable [Tabs0]
/-! any text, read as a book -/
def splitL : List Nat → List (List Nat)
  | [] => [[]]
  | c :: l => if c = 32 then [] :: splitL l else match splitL l with | [] => [[c]] | p :: r => (c :: p) :: r
theorem splitL_ne : ∀ l : List Nat, splitL l ≠ []
  | [] => fun h => nomatch h
  | c :: l => by
    unfold splitL
    by_cases h : c = 32
    · rw [if_pos h]; exact fun h => nomatch h
    · rw [if_neg h]
      cases splitL l <;> exact fun h => nomatch h
theorem splitL_cons {c : Nat} {l : List Nat} (h : c ≠ 32) {p : List Nat} {r : List (List Nat)} (e : splitL l = p :: r) : splitL (c :: l) = (c :: p) :: r := by
  show (if c = 32 then [] :: splitL l else match splitL l with | [] => [[c]] | p :: r => (c :: p) :: r) = _
  rw [if_neg h, e]
theorem splitL_sp (l : List Nat) : splitL (32 :: l) = [] :: splitL l := if_pos rfl
theorem splitL_ind {P : List Nat → List (List Nat) → Prop} (h0 : P [] [[]]) (h1 : ∀ l ps, ps ≠ [] → P l ps → P (32 :: l) ([] :: ps)) (h2 : ∀ c l p r, c ≠ 32 → P l (p :: r) → P (c :: l) ((c :: p) :: r)) : ∀ l, P l (splitL l)
  | [] => h0
  | c :: l => by
    have ih := splitL_ind h0 h1 h2 l
    by_cases h : c = 32
    · subst h
      rw [splitL_sp]
      exact h1 l _ (splitL_ne l) ih
    · cases e : splitL l with
      | nil => exact absurd e (splitL_ne l)
      | cons p r =>
        rw [splitL_cons h e]
        rw [e] at ih
        exact h2 c l p r h ih
theorem joinX_cons (p : List Nat) {r : List (List Nat)} (h : r ≠ []) : TL.joinL [32] (p :: r) = p ++ ([32] ++ TL.joinL [32] r) := by
  cases r with
  | nil => exact absurd rfl h
  | cons q r => simp [TL.joinL]
theorem joinL_one (p : List Nat) : TL.joinL [32] [p] = p := by simp [TL.joinL]
theorem joinL_head (c : Nat) (p : List Nat) (r : List (List Nat)) : TL.joinL [32] ((c :: p) :: r) = c :: TL.joinL [32] (p :: r) := by
  cases r with
  | nil => rw [joinL_one, joinL_one]
  | cons q r => rw [joinX_cons (c :: p) (r := q :: r) (by simp), joinX_cons p (r := q :: r) (by simp)]; rfl
theorem splitL_join (l : List Nat) : TL.joinL [32] (splitL l) = l := splitL_ind (P := fun l ps => TL.joinL [32] ps = l) rfl (fun l ps hn h => by rw [joinX_cons _ hn, h]; rfl) (fun c l p r _ h => by rw [joinL_head, h]) l
theorem splitL_no (l : List Nat) : ∀ p ∈ splitL l, 32 ∉ p := splitL_ind (P := fun _ ps => ∀ p ∈ ps, 32 ∉ p) (fun p h => by rw [List.mem_singleton.mp h]; simp) (fun l ps _ h p hp => by
  rcases List.mem_cons.mp hp with rfl | hp
  · simp
  · exact h p hp) (fun c l p r hc h q hq => by
  rcases List.mem_cons.mp hq with rfl | hq
  · have := h p List.mem_cons_self
    intro hm
    rcases List.mem_cons.mp hm with e | hm
    · exact hc e.symm
    · exact this hm
  · exact h q (List.mem_cons_of_mem _ hq)) l
theorem splitL_len (l : List Nat) : (splitL l).length ≤ l.length + 1 := splitL_ind (P := fun l ps => ps.length ≤ l.length + 1) (Nat.le_refl _) (fun l ps _ h => by simp; omega) (fun c l p r _ h => by simp at h ⊢; omega) l
theorem splitL_sub (l : List Nat) : ∀ p ∈ splitL l, p.length ≤ l.length ∧ ∀ c ∈ p, c ∈ l := splitL_ind (P := fun l ps => ∀ p ∈ ps, p.length ≤ l.length ∧ ∀ c ∈ p, c ∈ l) (fun p h => by rw [List.mem_singleton.mp h]; simp) (fun l ps _ h p hp => by
  rcases List.mem_cons.mp hp with rfl | hp
  · simp
  · obtain ⟨a, b⟩ := h p hp
    exact ⟨by simp; omega, fun c hc => List.mem_cons_of_mem _ (b c hc)⟩) (fun c l p r _ h q hq => by
  rcases List.mem_cons.mp hq with rfl | hq
  · obtain ⟨a, b⟩ := h p List.mem_cons_self
    refine ⟨by simp; omega, fun d hd => ?_⟩
    rcases List.mem_cons.mp hd with rfl | hd
    · exact List.mem_cons_self
    · exact List.mem_cons_of_mem _ (b d hd)
  · obtain ⟨a, b⟩ := h q (List.mem_cons_of_mem _ hq)
    exact ⟨by simp; omega, fun d hd => List.mem_cons_of_mem _ (b d hd)⟩) l
theorem splitL_app {p l : List Nat} (h : 32 ∉ p) : ∀ {q : List Nat} {r : List (List Nat)}, splitL l = q :: r → splitL (p ++ l) = (p ++ q) :: r := by
  induction p with
  | nil => intro q r e; exact e
  | cons c p ih =>
    intro q r e
    have hc : c ≠ 32 := fun z => h (by rw [z]; exact List.mem_cons_self)
    exact splitL_cons hc (ih (fun z => h (List.mem_cons_of_mem _ z)) e)
theorem splitL_of : ∀ {ps : List (List Nat)}, ps ≠ [] → (∀ p ∈ ps, 32 ∉ p) → splitL (TL.joinL [32] ps) = ps
  | [], h, _ => absurd rfl h
  | [p], _, h => by
    have := splitL_app (l := []) (h p List.mem_cons_self) (q := []) (r := []) rfl
    rw [List.append_nil] at this
    rw [joinL_one, this]
  | p :: q :: r, _, h => by
    rw [joinX_cons _ (by simp)]
    have ih := splitL_of (ps := q :: r) (by simp) fun x hx => h x (List.mem_cons_of_mem _ hx)
    have := splitL_app (l := [32] ++ TL.joinL [32] (q :: r)) (h p List.mem_cons_self) (q := []) (r := q :: r) (by rw [show [32] ++ TL.joinL [32] (q :: r) = 32 :: TL.joinL [32] (q :: r) from rfl, splitL_sp, ih])
    rw [List.append_nil] at this
    exact this
theorem splitS (l : List Nat) : Txt.split (tx l) (Str.ofString " ") = (splitL l).map tx := by
  have := split_sp (splitL_ne l) (splitL_no l)
  rw [splitL_join] at this
  exact this
def cutAt : List Nat → Option (List Nat × List Nat)
  | [] => none
  | c :: l => if c = 58 then some ([], l) else (cutAt l).map fun x => (c :: x.1, x.2)
theorem cutAt_some : ∀ {l p q : List Nat}, cutAt l = some (p, q) → l = p ++ ([58] ++ q) ∧ 58 ∉ p
  | [], p, q, h => nomatch h
  | c :: l, p, q, h => by
    unfold cutAt at h
    by_cases hc : c = 58
    · rw [if_pos hc] at h
      cases h
      exact ⟨by rw [hc]; rfl, by simp⟩
    · rw [if_neg hc] at h
      cases e : cutAt l with
      | none => rw [e] at h; cases h
      | some x =>
        obtain ⟨a, b⟩ := x
        rw [e] at h; cases h
        obtain ⟨h1, h2⟩ := cutAt_some e
        refine ⟨by rw [h1]; rfl, fun hm => ?_⟩
        rcases List.mem_cons.mp hm with z | hm
        · exact hc z.symm
        · exact h2 hm
theorem cutAt_none : ∀ {l : List Nat}, cutAt l = none ↔ 58 ∉ l
  | [] => by simp [cutAt]
  | c :: l => by
    unfold cutAt
    by_cases hc : c = 58
    · rw [if_pos hc]
      simp [hc]
    · rw [if_neg hc, Option.map_eq_none_iff, cutAt_none (l := l), List.mem_cons, not_or]
      exact ⟨fun h => ⟨fun z => hc z.symm, h⟩, fun h => h.2⟩
theorem cutAt_of : ∀ {p q : List Nat}, 58 ∉ p → cutAt (p ++ ([58] ++ q)) = some (p, q)
  | [], q, _ => if_pos rfl
  | c :: p, q, h => by
    show (if c = 58 then some ([], p ++ ([58] ++ q)) else (cutAt (p ++ ([58] ++ q))).map fun x => (c :: x.1, x.2)) = _
    rw [if_neg (fun z => h (by rw [z]; exact List.mem_cons_self)), cutAt_of fun z => h (List.mem_cons_of_mem _ z)]; rfl
/-- the tests of a text's head and tail -/
def headB (ns : List (List Nat)) (f : List Nat) : Bool := decide (f = []) && decide (ns.length ≤ 8) && namesB (nameD ns)
def tailB (rows : List (List Nat)) (n : Nat) : Bool := decide (rows.length ≤ 20) && rows.all fun r => rowB (.str (tx r)) n
def bookP (ns : List (List Nat)) : List (List Nat) → Option Bk
  | [] => none
  | f :: rows => if (headB ns f && tailB rows ns.length) = true then some (ns, rows) else none
def bookQ (l : List Nat) : Option Bk := (cutAt l).bind fun x => bookP (splitL x.1) (splitL x.2)
theorem bookQ_tx {ls rs : List (List Nat)} (h : BookOk ls rs) : bookQ (bookTx ls rs) = some (ls, rs) := by
  unfold bookQ
  rw [bookTx_eq, cutAt_of h.h58]
  show bookP (splitL (TL.joinL [32] ls)) (splitL (TL.joinL [32] ([] :: rs))) = _
  rw [splitL_of (fun e => by have := h.names.lo; rw [e] at this; cases this) h.h32, splitL_of (by simp) h.r32]
  refine if_pos ?_
  unfold headB tailB
  rw [decide_eq_true rfl, decide_eq_true h.names.hi, names_ok h.names, decide_eq_true h.few, List.all_eq_true.mpr fun r hr => row_ok (h.rows r hr) h.names.lo h.names.hi]; rfl
theorem okS_codes {l : List Nat} (h : okS (tx l)) : ∀ c ∈ l, c < 1114112 := fun c hc => by
  have h : (tx l).cps.all (fun c => decide (c < 1114112)) = true := h
  rw [← Array.all_toList, List.all_eq_true, tx_cps] at h
  exact of_decide_eq_true (h c hc)
def pairD (b : Bk) : D := .tup [.tup (nameD b.1), .tup (nameD b.2)]
def bookOf : D → Option Bk
  | .str x => bookQ x.cps.toList
  | _ => none
def optD : Option Bk → D
  | some b => pairD b
  | none => .non
/-- a text that is not long beyond sense -/
def shT : D → Bool
  | .str x => decide (x.length ≤ 15000)
  | _ => true
def spReadG : Spc where
  ty := D
  args := fun d => [d]
  ok := fun d => Pv d ∧ shT d = true
  rel := fun d e => e = optD (bookOf d)
theorem bookOf_tx {ls rs : List (List Nat)} (h : BookOk ls rs) : bookOf (.str (tx (bookTx ls rs))) = some (ls, rs) := by
  show bookQ (tx (bookTx ls rs)).cps.toList = _
  rw [tx_cps]; exact bookQ_tx h
theorem not_str {d : D} (h : isStrB d = false) : bookOf d = none := by cases d <;> first | rfl | exact nomatch h
theorem bk_none {l : List Nat} (h : bookQ l = none) : D.non = optD (bookOf (.str (tx l))) := by
  show _ = optD (bookQ (tx l).cps.toList)
  rw [tx_cps, h]; rfl
end K34

namespace K34
open PySem PySem.Spec PyProof.Rows L2 Dw
variable [Tabs0]
theorem d_read_book {P : Program} {w : World} {K : PySem.W.Frag} {mg : Str → Option Value} {base : Heap} (T : Txt K w mg) : FnOk P w K mg base CX0 3 T.f_read_book T.e_read_book ["text"] (toSp (spReadG)) := by
  refine fn_ok T.F_read_book sc_read_book (fun _ => rfl) fun cdv A outer s' H E hr => ?_
  refine ⟨_, (pss_cons (ps_if (PW.pt (pw_or (pt_not (truA K (pe_callB (isiA K) (by rfl) T.n_isinstance (by decide +kernel) (pa_cons (pv 0) (pa_cons (pe_bltn (v := .ty "str") (by rfl) T.n_str (by decide +kernel) rfl) pa_nil))))) (pw_or1 (pt_cmpR (ninA K) pe_str (pv 0) (by rfl))))) (pss_one (ps_ret pe_non)) pss_nil) (pss_cons (ps_asg (pe_partition (pv 0) pe_str) (tupA K 3 rfl (pgs_cons (pg_name (i := 1) sc_read_book.nd rfl (Or.inl rfl)) (pgs_cons (pg_name (i := 2) sc_read_book.nd rfl (Or.inl rfl)) (pgs_cons (pg_name (i := 3) sc_read_book.nd rfl (Or.inl rfl)) pgs_nil))))) (pss_cons (ps_set (i := 4) sc_read_book.nd rfl (Or.inr rfl) (pe_callTy (tupleA K) (by rfl) T.n_tuple (by decide +kernel) (pa_cons (pe_split (pv 1) pe_str) pa_nil))) (pss_cons (ps_asg (pe_split (pv 3) pe_str) (star1XA K rfl (pg_name (i := 5) sc_read_book.nd rfl (Or.inl rfl)) (pg_name (i := 6) sc_read_book.nd rfl (Or.inl rfl)))) (pss_cons (ps_if (PW.pt (pw_or (pt_cmpR (neA K hr.units) (pv 5) pe_str (nomark _)) (pw_or (pt_cmpR opGt (pe_callB (lenA K) (by rfl) T.n_len (by decide +kernel) (pa_cons (pv 4) pa_nil)) (pe_glob (v := .int 8) (by rfl) T.c_MOST_RULES ⟨_, rfl⟩) (nomark _)) (pw_or1 (pt_not (truA K (pe_call (d_are_names T) (hr.mono (by decide)) (by rfl) T.m_are_names T.F_are_names.kp T.b_are_names .nil pass0 (pa_cons (pv 4) pa_nil)))))))) (pss_one (ps_ret pe_non)) pss_nil) (pss_cons (ps_if (PW.pt (pw_or (pt_cmpR opGt (pe_callB (lenA K) (by rfl) T.n_len (by decide +kernel) (pa_cons (pv 6) pa_nil)) (pe_glob (v := .int 20) (by rfl) T.c_MOST_ROWS ⟨_, rfl⟩) (nomark _)) (pw_or1 (pt_not (truA K (pe_callB (allA K) (by rfl) T.n_all (by decide +kernel) (pa_cons (pe_lc (own := [("row", 7)]) rfl sc_read_book.nd (piR K (pv 6)) (blkOk_by (own := [("row", 7)]) (N := N_read_book) (sc := (defScope s_read_book)) (by decide +kernel)) (fun _ _ _ _ _ => pg_name (i := 7) sc_read_book.nd rfl (Or.inl rfl)) (fun _ _ _ _ _ => pts_nil) (fun _ _ _ _ _ => (pe_call (d_is_row T) (hr.mono (by decide)) (by rfl) T.m_is_row T.F_is_row.kp T.b_is_row .nil pass0 (pa_cons (pv 7) (pa_cons (pe_callB (lenA K) (by rfl) T.n_len (by decide +kernel) (pa_cons (pv 4) pa_nil)) pa_nil))))) pa_nil))))))) (pss_one (ps_ret pe_non)) pss_nil) (pss_one (ps_ret (pe_tup (pa_cons (pv 4) (pa_cons (pe_callTy (tupleA K) (by rfl) T.n_tuple (by decide +kernel) (pa_cons (pv 6) pa_nil)) pa_nil))))))))))), fun x hx => ?_⟩
  obtain ⟨d, rfl⟩ : ∃ l : D, l = x := ⟨x, rfl⟩
  obtain ⟨hd, hsh⟩ := hx
  have hd : Pv d := hd
  by_cases hs : isStrB d = true
  · obtain ⟨s, rfl⟩ := str_of hs
    obtain ⟨l, rfl⟩ : ∃ l, s = tx l := ⟨_, of_tx s⟩
    have hc := hd.str.1
    have hl : l.length ≤ 15000 := by
      have : decide ((tx l).length ≤ 15000) = true := hsh
      rw [tx_len] at this
      exact of_decide_eq_true this
    have hz : (tx l).length ≤ sizeLine := small (by rw [tx_len]; omega)
    have e58 := nin_code (K := K) (l := l) (c := 58)
    rw [show ch 58 = Str.ofString ":" by decide +kernel] at e58
    refine ds_seq (ds_if (EvT.dl (b := false || !decide (58 ∈ l)) (evt_or (a := false) (b := !decide (58 ∈ l)) (evt_not (a := true) (evt_tru_bl (ev_isi (ev_var rfl) ev_raw (.inl rfl) (.ty "str") rfl))) fun _ => evt_test (ev_op ev_str (ev_var rfl) e58)) ⟨fun h => ds_ret (Ev.dl ev_non (bk_none ?no)), fun h => ds_next ?_⟩))
    case no =>
      have : 58 ∉ l := by simpa using h
      unfold bookQ
      rw [cutAt_none.mpr this]; rfl
    obtain ⟨p, q, e⟩ : ∃ p q, cutAt l = some (p, q) := by
      cases e : cutAt l with
      | none => exact absurd (cutAt_none.mp e) (by simpa using h)
      | some x => exact ⟨x.1, x.2, rfl⟩
    obtain ⟨el, h58⟩ := cutAt_some e
    have eb : bookQ l = bookP (splitL p) (splitL q) := by
      unfold bookQ
      rw [e]; rfl
    have lpq : p.length + q.length ≤ l.length := by rw [el]; simp
    have hp : Txt.partition (tx l) (Str.ofString ":") = (tx p, tx [58], tx q) := by rw [el]; exact part_sp h58
    refine ds_seq (ds_asg_g (Ev.dl (ev_cast (d' := .tup [.str (tx p), .str (tx [58]), .str (tx q)]) (by rw [hp]) (ev_partition (ev_var rfl) ev_str (by decide +kernel) hz)) ⟨[1] ++ ([2] ++ [3]), _, dg_tup3 dg_name dg_name dg_name, ?_⟩))
    refine ds_seq (ds_asg (Ev.dl (ev_cast (d' := .tup (nameD (splitL p))) ?e1 (ev_tuple (EvN.b (evn_split (a := tx p) (ev_var rfl) ev_str (by decide +kernel) ?z1)))) ?_))
    case e1 => rw [splitS, nameD_map]
    case z1 => rw [tx_len]; exact small (by omega)
    have lq := splitL_len q
    cases eq : splitL q with
    | nil => exact absurd eq (splitL_ne q)
    | cons f rows =>
      rw [eq, List.length_cons] at lq
      have eb : bookQ l = if (headB (splitL p) f && tailB rows (splitL p).length) = true then some (splitL p, rows) else none := by rw [eb, eq]; rfl
      refine ds_seq (ds_starL (Ev.dl (EvN.ev (evn_split (a := tx q) (ev_var rfl) ev_str (by decide +kernel) ?z2)) ⟨.str (tx f), nameD rows, .inl ?e2, ?z3, ?_⟩))
      case e2 => rw [splitS, eq]; show D.lst ((tx f :: rows.map tx).map D.str) = _; rw [List.map_cons, nameD_map]
      case z2 => rw [tx_len]; exact small (by omega)
      case z3 => unfold nameD; rw [List.length_map]; omega
      have l1 : (nameD (splitL p)).length = (splitL p).length := List.length_map ..
      have l2 : (nameD rows).length = rows.length := List.length_map ..
      have sub := splitL_sub p
      have subq := splitL_sub q
      have codes : ∀ c ∈ l, c < 1114112 := fun c hc' => okS_codes hc c hc'
      have pcodes : ∀ c ∈ p, c ∈ l := fun c hc' => by rw [el]; exact List.mem_append_left _ hc'
      have qcodes : ∀ c ∈ q, c ∈ l := fun c hc' => by rw [el]; simp [hc']
      have t1 : (!decide (f = [])) = (!decide (tx f = Str.ofString "")) := by
        congr 1
        rw [show Str.ofString "" = tx [] by decide +kernel]
        exact decide_eq_decide.mpr tx_eq.symm
      refine ds_seq (ds_if (EvT.dl (b := !headB (splitL p) f) ?hd ⟨fun h2 => ds_ret (Ev.dl ev_non (bk_none ?no2)), fun h2 => ds_next ?_⟩))
      case hd =>
        have e3 : (!headB (splitL p) f) = (!decide (f = []) || (!decide ((splitL p).length ≤ 8) || !namesB (nameD (splitL p)))) := by
          unfold headB
          cases decide (f = []) <;> cases decide ((splitL p).length ≤ 8) <;> cases namesB (nameD (splitL p)) <;> rfl
        rw [e3]
        refine evt_or (evt_test (ev_op (ev_var rfl) ev_str (ne_sb t1.symm))) fun _ => evt_or (evt_test (ev_op (ev_lenT (ds := nameD (splitL p)) (ev_var rfl)) ev_int (gt_b ?g))) fun h9 => evt_not (evt_tru_bl (ev_call (s := spNamesG) (x := nameD (splitL p)) (eva_cons (ev_var rfl) eva_nil) (np_tup (np_name _)) ?pv fun d h => h))
        case g =>
          rw [l1]
          have : decide ((8 : Int) < ((splitL p).length : Int)) = !decide ((splitL p).length ≤ 8) := by
            rw [← decide_not]
            exact decide_eq_decide.mpr (by omega)
          exact this
        case pv =>
          have h9 : (splitL p).length ≤ 8 := by simpa using h9
          show (decide ((nameD (splitL p)).length ≤ 60) && plBs 11 (nameD (splitL p))) = true
          rw [l1, decide_eq_true (by omega), Bool.true_and, plBs_iff]
          intro d hd'
          obtain ⟨w, hw, rfl⟩ := List.mem_map.mp hd'
          obtain ⟨s1, s2⟩ := sub w hw
          exact pv_strs (fun c hc' => codes c (pcodes c (s2 c hc'))) (by omega)
      case no2 =>
        rw [eb, if_neg]
        rw [Bool.not_eq_true'] at h2
        rw [h2]; simp
      rw [Bool.not_eq_false'] at h2
      have h2' := h2
      unfold headB at h2'
      rw [Bool.and_eq_true, Bool.and_eq_true, decide_eq_true_eq, decide_eq_true_eq] at h2'
      refine ds_seq (ds_if (EvT.dl (b := !tailB rows (splitL p).length) ?tl ⟨fun h3 => ds_ret (Ev.dl ev_non (bk_none ?no3)), fun h3 => ds_next ?_⟩))
      case tl =>
        have e3 : (!tailB rows (splitL p).length) = (!decide (rows.length ≤ 20) || !rows.all fun r => rowB (.str (tx r)) (splitL p).length) := by
          unfold tailB
          cases decide (rows.length ≤ 20) <;> rfl
        rw [e3]
        refine evt_or (evt_test (ev_op (ev_len (ds := nameD rows) (ev_var rfl).b) ev_int (gt_b ?g2))) fun h9 => evt_not (evt_tru_bl (ev_all_lc (K := K) (xs := rows) (c := fun l => .str (tx l)) (b := fun r => rowB (.str (tx r)) (splitL p).length) (ej_list (ev_var (d := .lst (nameD rows)) rfl).b) ?z4 fun r hr' => ⟨[7], _, dg_name, fun i hi => hi, evt_yes, ev_call (s := spRowG) (x := (.str (tx r), (splitL p).length)) (eva_cons (ev_var rfl) (eva_cons (ev_cast (congrArg (fun n : Nat => D.int n) l1) (ev_lenT (ds := nameD (splitL p)) (ev_var rfl))) eva_nil)) rfl ?pr fun d h => h⟩))
        case g2 =>
          rw [l2]
          have : decide ((20 : Int) < (rows.length : Int)) = !decide (rows.length ≤ 20) := by
            rw [← decide_not]
            exact decide_eq_decide.mpr (by omega)
          exact this
        case z4 => omega
        case pr =>
          obtain ⟨s1, s2⟩ := subq r (by rw [eq]; exact List.mem_cons_of_mem _ hr')
          exact pv_strs (fun c hc' => codes c (qcodes c (s2 c hc'))) (by omega)
      case no3 =>
        rw [eb, if_neg]
        rw [Bool.not_eq_true'] at h3
        rw [h3]; simp
      rw [Bool.not_eq_false'] at h3
      refine ds_ret (Ev.dl (ev_tup (eva_cons (ev_var rfl) (eva_cons (ev_tuple (ev_var (d := .lst (nameD rows)) rfl).b) eva_nil)) (small (show 2 ≤ 100000 by decide))) ?_)
      show _ = optD (bookQ (tx l).cps.toList)
      rw [tx_cps, eb, h2, h3]; rfl
  · have hs : isStrB d = false := by simpa using hs
    refine ds_seq (ds_if (EvT.dl (b := true) (evt_or (a := true) (b := false) (evt_not (a := false) (evt_tru_bl (ev_isi (ev_var rfl) ev_raw (.inl hd.ty) (.ty "str") (by rw [kit_str hd.ty, hs])))) fun h => (nomatch h)) ⟨fun _ => ds_ret (Ev.dl ev_non ?_), fun h => (nomatch h)⟩))
    show D.non = optD (bookOf d)
    rw [not_str hs]; rfl

end K34

namespace K34
open PySem PySem.Spec PyProof.Rows L2 Dw
variable [Tabs0]
/-! books made of texts, by any reading -/
theorem sh_book {ls rs : List (List Nat)} (h : BookOk ls rs) : shT (.str (tx (bookTx ls rs))) = true := decide_eq_true (Nat.le_trans h.len (by decide))
theorem joinX_all {p : Nat → Prop} (h32 : p 32) : ∀ ls : List (List Nat), (∀ l ∈ ls, ∀ c ∈ l, p c) → ∀ c ∈ TL.joinL [32] ls, p c
  | [], _, c, hc => absurd hc (by simp [TL.joinL])
  | [l], h, c, hc => h l List.mem_cons_self c (by simpa [TL.joinL] using hc)
  | l :: m :: r, h, c, hc => by
    rw [joinX_cons l (r := m :: r) (by simp), List.mem_append, List.mem_append] at hc
    rcases hc with hc | hc | hc
    · exact h l List.mem_cons_self c hc
    · rw [List.mem_singleton.mp hc]; exact h32
    · exact joinX_all h32 (m :: r) (fun l' hl => h l' (List.mem_cons_of_mem _ hl)) c hc
theorem bookX_codes {ls rs : List (List Nat)} (h : BookOk ls rs) : ∀ c ∈ bookTx ls rs, c < 1114112 := by
  unfold bookTx
  refine joinX_all (p := fun c => c < 1114112) (by decide) _ fun l hl c hc => ?_
  rcases List.mem_cons.mp hl with rfl | hl
  · rcases List.mem_append.mp hc with hc | hc
    · refine joinX_all (p := fun c => c < 1114112) (by decide) _ (fun l hl c hc => ?_) c hc
      have := ((h.names.all l hl).all c hc).2
      omega
    · rw [List.mem_singleton.mp hc]; decide
  · exact ((h.rows l hl).all c hc).lt
theorem pv_book {ls rs : List (List Nat)} (h : BookOk ls rs) : Pv (.str (tx (bookTx ls rs))) := pv_strs (bookX_codes h) (by have := h.len; rw [tx_len] at this; omega)
theorem opt_book {ls rs : List (List Nat)} (h : BookOk ls rs) : optD (bookOf (.str (tx (bookTx ls rs)))) = .tup [.tup (nameD ls), .tup (nameD rs)] := by
  rw [bookOf_tx h]; rfl
end K34

namespace K34
open PySem PySem.Spec PyProof.Rows L2 Dw
variable [Tabs0]
theorem d_Book___init__ {P : Program} {w : World} {K : PySem.W.Frag} {mg : Str → Option Value} {base : Heap} (T : Txt K w mg) : FnOk P w K mg base CX0 4 T.f_Book___init__ T.e_Book___init__ ["self", "text"] (toIn T.C_Book ["_text", "_names", "_rows"] spInit) := by
  refine in_ok T.F_Book___init__ sc_Book___init__ (fun _ => rfl) fun cdv A outer s' H E hr => ?_
  refine ⟨_, (pss_cons (ps_set (i := 2) sc_Book___init__.nd rfl (Or.inl rfl) (pe_call (d_read_book T) (hr.mono (by decide)) (by rfl) T.m_read_book T.F_read_book.kp T.b_read_book .nil pass0 (pa_cons (pv 1) pa_nil))) (pss_cons (ps_if (pt_cmpR op_isN (pv 2) pe_non (nomark _)) (pss_one ps_never) pss_nil) (pss_cons (ps_fld (pv 0) (pv 1) rfl) (pss_one (ps_asg (pv 2) (tupA K 2 rfl (pgs_cons (pg_fld (pv 0)) (pgs_cons (pg_fld (pv 0)) pgs_nil)))))))), fun x hx a => ?_⟩
  obtain ⟨ls, rs⟩ := x
  have hb : BookOk ls rs := hx
  refine di_seq (di_of (ds_asg (Ev.dl (ev_call (s := spReadG) (d := .tup [.tup (nameD ls), .tup (nameD rs)]) (x := .str (tx (bookTx ls rs))) (eva_cons (ev_var rfl) eva_nil) rfl ⟨pv_book hb, sh_book hb⟩ fun d h => by rw [h]; exact opt_book hb) ?_)))
  refine di_seq (di_of (ds_if (EvT.dl (b := false) (evt_test (ev_op (ev_var rfl) ev_non (dr2_isN fun W v h => ?_))) ⟨fun h => (nomatch h), fun _ => ds_next ?_⟩)))
  · obtain ⟨p, vs, e, _⟩ := h
    rw [e]; exact decide_eq_false fun h => nomatch h
  refine di_seq (di_fld T.cl_Book T.no_text (by simp) (by decide) (ev_var rfl) (ev_var rfl) ?_)
  exact di_fld2 T.cl_Book T.no_names T.no_rows (by decide +kernel) (by decide +kernel) (by decide) (ev_var rfl) (ev_var rfl) ⟨rfl, rfl⟩


end K34

namespace K34
open PySem PySem.Spec PyProof.Rows L2 Dw
variable [Tabs0]
def spCkRow : Spc where
  ty := List Nat × Nat
  args := fun x => [.str (tx x.1), .int x.2]
  ok := fun x => RowOk x.1 x.2 ∧ 1 ≤ x.2 ∧ x.2 ≤ 8
  rel := fun _ d => d = .non
def spCkFits (C : Addr) : Spc where
  ty := Bk
  args := fun x => [bookD C x.1 x.2]
  ok := fun x => BookOk x.1 x.2 ∧ Still x.2 x.1.length = []
  rel := fun _ d => d = .non
def judgeS (rs : List (List Nat)) (n : Nat) (r : List Nat) : Str := if countM (rs ++ [r]) n = 0 then "never" else if countM (rs ++ [r]) n = countM rs n then "sure" else "open"
def spJudge (C : Addr) : Spc where
  ty := Bk × List Nat
  args := fun x => [bookD C x.1.1 x.1.2, .str (tx x.2)]
  ok := fun x => BookOk x.1.1 x.1.2 ∧ RowOk x.2 x.1.1.length ∧ Still x.1.2 x.1.1.length = []
  rel := fun x d => d = .str (judgeS x.1.2 x.1.1.length x.2)
theorem nameD_app (a b : List (List Nat)) : nameD a ++ nameD b = nameD (a ++ b) := by unfold nameD; rw [List.map_append]
theorem eq_nat {K : PySem.W.Frag} (a b : Nat) : DR2 (rEqX K) (.int (a : Nat)) (.int (b : Nat)) (.bl (decide (a = b))) := by
  have e := eq_int' (K := K) (i := (a : Int)) (j := (b : Int))
  rw [show decide ((a : Int) = (b : Int)) = decide (a = b) from decide_eq_decide.mpr (by omega)] at e
  exact e
theorem rows_app {rs qs : List (List Nat)} {n : Nat} (h1 : ∀ r ∈ rs, RowOk r n) (h2 : ∀ r ∈ qs, RowOk r n) : ∀ r ∈ rs ++ qs, RowOk r n := fun r hr => by
  rcases List.mem_append.mp hr with h | h
  · exact h1 r h
  · exact h2 r h
theorem rows_one {r : List Nat} {n : Nat} (h : RowOk r n) : ∀ q ∈ [r], RowOk q n := fun q hq => by rw [List.mem_singleton.mp hq]; exact h
theorem BookOk.snoc {ls rs : List (List Nat)} {r : List Nat} (h : BookOk ls rs) (hr : RowOk r ls.length) (h2 : rs.length < 20) : BookOk ls (rs ++ [r]) := ⟨h.names, by rw [List.length_append]; show rs.length + 1 ≤ 20; omega, rows_app h.rows (rows_one hr)⟩
end K34

namespace K34
open PySem PySem.Spec PyProof.Rows L2 Dw
variable [Tabs0]
/-! the numbers are those of the rankings that fit -/
theorem nodup_ext {α : Type} [DecidableEq α] : ∀ {l m : List α}, l.Nodup → m.Nodup → (∀ a, a ∈ l ↔ a ∈ m) → l.Perm m
  | [], m, _, _, h => by
    cases m with
    | nil => exact .refl _
    | cons x m => exact absurd ((h x).mpr List.mem_cons_self) (by simp)
  | x :: l, m, nl, nm, h => by
    have hx : x ∈ m := (h x).mp List.mem_cons_self
    have p := List.perm_cons_erase hx
    obtain ⟨n1, n2⟩ := List.nodup_cons.mp nl
    refine ((nodup_ext (m := m.erase x) n2 (nm.erase x) fun k => ?_).cons x).trans p.symm
    constructor
    · intro hk
      have hne : k ≠ x := fun e => n1 (by rw [← e]; exact hk)
      exact (List.mem_erase_of_ne hne).mpr ((h k).mp (List.mem_cons_of_mem _ hk))
    · intro hk
      have hk2 := List.mem_of_mem_erase hk
      have hne : k ≠ x := fun e => by
        subst e
        exact nm.not_mem_erase hk
      rcases List.mem_cons.mp ((h k).mpr hk2) with e | e
      · exact absurd e hne
      · exact e
theorem allM_nodup (n : Nat) : ∀ i, (allM n i).Nodup
  | 0 => by show [[]].Nodup; simp
  | i + 1 => by
    show (List.flatMap _ _).Nodup
    have ih := allM_nodup n i
    generalize allM n i = l at ih
    induction l with
    | nil => exact List.nodup_nil
    | cons o l ihl =>
      obtain ⟨n1, n2⟩ := List.nodup_cons.mp ih
      rw [List.flatMap_cons, List.nodup_append]
      refine ⟨?_, ihl n2, fun a ha b hb e => ?_⟩
      · rw [List.nodup_iff_pairwise_ne]
        refine List.pairwise_map.mpr (((List.nodup_iff_pairwise_ne.mp List.nodup_range).sublist List.filter_sublist).imp fun {a b} h e => h ?_)
        exact (List.cons.inj (List.append_cancel_left e)).1
      · obtain ⟨k, _, rfl⟩ := List.mem_map.mp ha
        obtain ⟨p, hp, hq⟩ := List.mem_flatMap.mp hb
        obtain ⟨j, _, rfl⟩ := List.mem_map.mp hq
        have : o = p := by
          have e2 := congrArg List.dropLast e
          simpa using e2
        subst this
        exact n1 hp
theorem fitM_nodup (rs : List (List Nat)) (n : Nat) : (fitM rs n).Nodup := (allM_nodup n n).sublist List.filter_sublist
def pathsF (rs : List (List Nat)) (n : Nat) : Nat → Nat → List (List Nat)
  | 0, _ => [[]]
  | m + 1, head => if head = 2 ^ n - 1 then [[]] else ((List.range n).filter (openBit rs head)).flatMap fun k => (pathsF rs n m (head ||| 2 ^ k)).map fun o => k :: o
theorem paths_len {rs : List (List Nat)} {n : Nat} : ∀ (m head : Nat), head < 2 ^ n → 2 ^ n - 1 - head ≤ m → (endM (stepsM rs n)).getD head 0 = (pathsF rs n m head).length
  | 0, head, h, hm => by
    have e : head = 2 ^ n - 1 := by omega
    have := end_last (behind := stepsM rs n) (by rw [steps_len]; omega)
    rw [steps_len] at this
    rw [e, this]; rfl
  | m + 1, head, h, hm => by
    by_cases hl : head = 2 ^ n - 1
    · have := end_last (behind := stepsM rs n) (by rw [steps_len]; omega)
      rw [steps_len] at this
      rw [hl, this]
      unfold pathsF
      rw [if_pos rfl]; rfl
    · have hlt : head < (stepsM rs n).length - 1 := by rw [steps_len]; omega
      have up : ∀ k ∈ (stepsM rs n).getD head [], head < head ||| 2 ^ k := fun k hk => by
        rw [steps_at h] at hk
        exact or_up (open_bit (List.mem_filter.mp hk).2)
      rw [end_at hlt up, steps_at h]
      unfold pathsF
      rw [if_neg hl, List.length_flatMap]
      congr 1
      refine List.map_congr_left fun k hk => ?_
      obtain ⟨hk1, hk2⟩ := List.mem_filter.mp hk
      have kn := List.mem_range.mp hk1
      have lt := or_up (open_bit hk2)
      rw [List.length_map]
      exact paths_len m _ (Nat.or_lt_two_pow h (Nat.pow_lt_pow_right (by decide) kn)) (by omega)
theorem paths_nodup {rs : List (List Nat)} {n : Nat} : ∀ (m head : Nat), (pathsF rs n m head).Nodup
  | 0, head => by show [[]].Nodup; simp
  | m + 1, head => by
    unfold pathsF
    split
    · simp
    · have nd : ((List.range n).filter (openBit rs head)).Nodup := List.nodup_range.sublist List.filter_sublist
      generalize (List.range n).filter (openBit rs head) = l at nd
      induction l with
      | nil => exact List.nodup_nil
      | cons k l ih =>
        obtain ⟨n1, n2⟩ := List.nodup_cons.mp nd
        rw [List.flatMap_cons, List.nodup_append]
        refine ⟨?_, ih n2, fun a ha b hb e => ?_⟩
        · rw [List.nodup_iff_pairwise_ne]
          exact List.pairwise_map.mpr ((List.nodup_iff_pairwise_ne.mp (paths_nodup m _)).imp fun {a b} h e => h (List.cons.inj e).2)
        · obtain ⟨o, _, rfl⟩ := List.mem_map.mp ha
          obtain ⟨j, hj, hq⟩ := List.mem_flatMap.mp hb
          obtain ⟨p, _, rfl⟩ := List.mem_map.mp hq
          have : k = j := (List.cons.inj e).1
          subst this
          exact n1 hj
/-- a way through the heads from head on -/
inductive Way (rs : List (List Nat)) (n : Nat) : Nat → List Nat → Prop
  | done : Way rs n (2 ^ n - 1) []
  | step (head k : Nat) (o : List Nat) (h : head ≠ 2 ^ n - 1) (hk : k < n) (ho : openBit rs head k = true) (w : Way rs n (head ||| 2 ^ k) o) : Way rs n head (k :: o)
theorem paths_way {rs : List (List Nat)} {n : Nat} : ∀ (m head : Nat) (o : List Nat), head < 2 ^ n → 2 ^ n - 1 - head ≤ m → (o ∈ pathsF rs n m head ↔ Way rs n head o)
  | 0, head, o, h, hm => by
    have e : head = 2 ^ n - 1 := by omega
    subst e
    show o ∈ [[]] ↔ _
    constructor
    · intro ho; rw [List.mem_singleton.mp ho]; exact .done
    · intro w
      cases w with
      | done => exact List.mem_singleton.mpr rfl
      | step _ k o h => exact absurd rfl h
  | m + 1, head, o, h, hm => by
    unfold pathsF
    by_cases hl : head = 2 ^ n - 1
    · subst hl
      rw [if_pos rfl]
      constructor
      · intro ho; rw [List.mem_singleton.mp ho]; exact .done
      · intro w
        cases w with
        | done => exact List.mem_singleton.mpr rfl
        | step _ k o h => exact absurd rfl h
    · rw [if_neg hl, List.mem_flatMap]
      constructor
      · rintro ⟨k, hk, ho⟩
        obtain ⟨hk1, hk2⟩ := List.mem_filter.mp hk
        obtain ⟨p, hp, rfl⟩ := List.mem_map.mp ho
        have kn := List.mem_range.mp hk1
        have lt := or_up (open_bit hk2)
        exact .step head k p hl kn hk2 ((paths_way m _ p (Nat.or_lt_two_pow h (Nat.pow_lt_pow_right (by decide) kn)) (by omega)).mp hp)
      · intro w
        cases w with
        | done => exact absurd rfl hl
        | step _ k p _ kn ho w =>
          have lt := or_up (open_bit ho)
          exact ⟨k, List.mem_filter.mpr ⟨List.mem_range.mpr kn, ho⟩, List.mem_map.mpr ⟨p, (paths_way m _ p (Nat.or_lt_two_pow h (Nat.pow_lt_pow_right (by decide) kn)) (by omega)).mpr w, rfl⟩⟩
theorem or_bit (head k j : Nat) : (head ||| 2 ^ k).testBit j = (head.testBit j || decide (k = j)) := by rw [Nat.testBit_or, Nat.testBit_two_pow]
theorem full_bit {n head : Nat} (h : head < 2 ^ n) (hb : ∀ k < n, head.testBit k = true) : head = 2 ^ n - 1 := by
  apply Nat.eq_of_testBit_eq
  intro k
  rw [Nat.testBit_two_pow_sub_one]
  by_cases hk : k < n
  · rw [hb k hk]; simp [hk]
  · rw [Nat.testBit_lt_two_pow (Nat.lt_of_lt_of_le h (Nat.pow_le_pow_right (by decide) (by omega)))]; simp [hk]
/-- ways are orders of the other rules -/
theorem way_mem {rs : List (List Nat)} {n : Nat} {head : Nat} {o : List Nat} (w : Way rs n head o) : o.Nodup ∧ ∀ k, k ∈ o ↔ k < n ∧ head.testBit k = false := by
  induction w with
  | done => exact ⟨List.nodup_nil, fun k => ⟨fun h => absurd h (by simp), fun ⟨h1, h2⟩ => by rw [Nat.testBit_two_pow_sub_one] at h2; simp [h1] at h2⟩⟩
  | step head k o h hk ho w ih =>
    obtain ⟨nd, mem⟩ := ih
    have kb := open_bit ho
    have kno : k ∉ o := fun z => by
      have := ((mem k).mp z).2
      rw [or_bit] at this; simp at this
    refine ⟨List.nodup_cons.mpr ⟨kno, nd⟩, fun j => ?_⟩
    rw [List.mem_cons, mem j, or_bit]
    constructor
    · rintro (rfl | ⟨a, b⟩)
      · exact ⟨hk, kb⟩
      · rw [Bool.or_eq_false_iff] at b
        exact ⟨a, b.1⟩
    · rintro ⟨a, b⟩
      by_cases e : j = k
      · exact .inl e
      · exact .inr ⟨a, by rw [b]; simpa using fun z => e z.symm⟩
theorem holds_cons {r : List Nat} (k : Nat) (o : List Nat) : holdsB r (k :: o) = if sgn r k = 46 then holdsB r o else decide (sgn r k = 43) := by
  by_cases z : sgn r k = 46
  · rw [if_pos z]
    have : holdsB r ([k] ++ o) = holdsB r o := holds_pre fun j hj => by rw [List.mem_singleton.mp hj]; exact z
    exact this
  · rw [if_neg z]
    unfold holdsB told
    rw [List.map_cons, List.filter_cons_of_pos (by simp [z])]
/-- rows that no plus settles yet hold along the rest of a way, and only then is it a way -/
theorem way_iff {rs : List (List Nat)} {n : Nat} (hs : ∀ r ∈ rs, ∀ c, sgn r c = 43 ∨ sgn r c = 45 ∨ sgn r c = 46) : ∀ (o : List Nat) (head : Nat), head < 2 ^ n → o.Nodup → (∀ k, k ∈ o ↔ k < n ∧ head.testBit k = false) → (Way rs n head o ↔ ∀ r ∈ rs, sideM 43 r &&& head = 0 → holdsB r o = true)
  | [], head, h, nd, mem => by
    have e : head = 2 ^ n - 1 := full_bit h fun k hk => by
      cases q : head.testBit k with
      | true => rfl
      | false => exact absurd ((mem k).mpr ⟨hk, q⟩) (by simp)
    subst e
    exact ⟨fun _ r hr _ => rfl, fun _ => .done⟩
  | k :: o, head, h, nd, mem => by
    obtain ⟨n1, n2⟩ := List.nodup_cons.mp nd
    obtain ⟨kn, kb⟩ := (mem k).mp List.mem_cons_self
    have hne : head ≠ 2 ^ n - 1 := fun e => by
      rw [e, Nat.testBit_two_pow_sub_one] at kb
      simp [kn] at kb
    have h2 : head ||| 2 ^ k < 2 ^ n := Nat.or_lt_two_pow h (Nat.pow_lt_pow_right (by decide) kn)
    have mem2 : ∀ j, j ∈ o ↔ j < n ∧ (head ||| 2 ^ k).testBit j = false := fun j => by
      rw [or_bit]
      constructor
      · intro hj
        obtain ⟨a, b⟩ := (mem j).mp (List.mem_cons_of_mem _ hj)
        have : k ≠ j := fun e => n1 (e ▸ hj)
        exact ⟨a, by rw [b]; simp [this]⟩
      · rintro ⟨a, b⟩
        rw [Bool.or_eq_false_iff] at b
        have hj := (mem j).mpr ⟨a, b.1⟩
        exact (List.mem_cons.mp hj).resolve_left fun e => by
          subst e; simp at b
    have ih := way_iff hs o (head ||| 2 ^ k) h2 n2 mem2
    have plus : ∀ r, sideM 43 r &&& (head ||| 2 ^ k) = 0 ↔ sideM 43 r &&& head = 0 ∧ sgn r k ≠ 43 := fun r => by
      rw [and_zero, and_zero]
      constructor
      · intro hx
        refine ⟨fun j ⟨a, b⟩ => hx j ⟨a, by rw [or_bit, b]; rfl⟩, fun z => hx k ⟨?_, by rw [or_bit]; simp⟩⟩
        rw [side_bit (by decide)]; exact decide_eq_true z
      · rintro ⟨hx, hz⟩ j ⟨a, b⟩
        rw [or_bit, Bool.or_eq_true] at b
        rcases b with b | b
        · exact hx j ⟨a, b⟩
        · have e : k = j := of_decide_eq_true b
          subst e
          rw [side_bit (by decide)] at a
          exact hz (of_decide_eq_true a)
    have ob : openBit rs head k = true ↔ ∀ r ∈ rs, sideM 43 r &&& head = 0 → sgn r k ≠ 45 := by
      unfold openBit
      rw [kb, Bool.not_false, Bool.true_and, List.all_eq_true]
      constructor
      · intro hx r hr hz z
        have := hx r hr
        rw [decide_eq_true hz, decide_eq_true z] at this; cases this
      · intro hx r hr
        by_cases hz : sideM 43 r &&& head = 0
        · rw [decide_eq_false (hx r hr hz)]; simp
        · rw [decide_eq_false hz]; rfl
    constructor
    · intro w
      cases w with
      | step _ _ _ _ _ ho w =>
        intro r hr hz
        rw [holds_cons]
        have h45 := ob.mp ho r hr hz
        rcases hs r hr k with z | z | z
        · rw [if_neg (by rw [z]; decide), z]; rfl
        · exact absurd z h45
        · rw [if_pos z]
          exact ih.mp w r hr ((plus r).mpr ⟨hz, by rw [z]; decide⟩)
    · intro hx
      refine .step head k o hne kn (ob.mpr fun r hr hz z => ?_) (ih.mpr fun r hr hz => ?_)
      · have := hx r hr hz
        rw [holds_cons, if_neg (by rw [z]; decide), z] at this
        exact absurd this (by decide)
      · obtain ⟨a, b⟩ := (plus r).mp hz
        have := hx r hr a
        rw [holds_cons] at this
        rcases hs r hr k with z | z | z
        · exact absurd z b
        · rw [if_neg (by rw [z]; decide), z] at this
          exact absurd this (by decide)
        · rw [if_pos z] at this; exact this
/-- THE NUMBER of rankings that fit -/
theorem count_eq {rs : List (List Nat)} {n : Nat} (hs : ∀ r ∈ rs, ∀ c, sgn r c = 43 ∨ sgn r c = 45 ∨ sgn r c = 46) : countM rs n = (fitM rs n).length := by
  have p0 : 0 < 2 ^ n := Nat.two_pow_pos n
  show (endM (stepsM rs n)).getD 0 0 = _
  rw [paths_len (2 ^ n) 0 p0 (by omega)]
  refine (nodup_ext (paths_nodup _ _) (fitM_nodup rs n) fun o => ?_).length_eq
  rw [paths_way _ _ _ p0 (by omega), fitM_mem]
  constructor
  · intro w
    obtain ⟨nd, mem⟩ := way_mem w
    refine ⟨?_, fun r hr => (way_iff hs o 0 p0 nd mem).mp w r hr (Nat.and_zero _)⟩
    exact nodup_ext nd List.nodup_range fun k => by rw [mem k, List.mem_range, Nat.zero_testBit]; simp
  · rintro ⟨p, hh⟩
    have nd : o.Nodup := p.nodup_iff.mpr List.nodup_range
    have mem : ∀ k, k ∈ o ↔ k < n ∧ Nat.testBit 0 k = false := fun k => by rw [p.mem_iff, List.mem_range, Nat.zero_testBit]; simp
    exact (way_iff hs o 0 p0 nd mem).mpr fun r hr _ => hh r hr

end K34

namespace K34
open PySem PySem.Spec PyProof.Rows L2 Dw
variable [Tabs0]
/-! numbers of rankings: flows over the heads; a row and its opposite; all of them -/
theorem flip_sgn {l : List Nat} {n : Nat} (h : RowOk l n) (k : Nat) (hk : k < n) : sgn (flipped l) k = flip1 (sgn l k) := by
  have hl : k < l.length := by rw [h.len]; exact hk
  unfold sgn flipped
  rw [List.getD_eq_getElem?_getD, List.getElem?_map, List.getD_eq_getElem?_getD, List.getElem?_eq_getElem hl]; rfl
/-- of a row with a sign, just one of it and its opposite holds -/
theorem flip_holds {l : List Nat} {n : Nat} (h : RowOk l n) : ∀ o : List Nat, (∀ k ∈ o, k < n) → (∃ k ∈ o, sgn l k ≠ 46) → holdsB (flipped l) o = !holdsB l o
  | [], _, hx => by obtain ⟨k, hk, _⟩ := hx; cases hk
  | k :: o, hk, hx => by
    have e := flip_sgn h k (hk k List.mem_cons_self)
    have e1 : ∀ l : List Nat, sgn l k = 46 → holdsB l (k :: o) = holdsB l o := fun l z => by
      have : holdsB l ([k] ++ o) = holdsB l o := holds_pre fun j hj => by rw [List.mem_singleton.mp hj]; exact z
      exact this
    have e2 : ∀ l : List Nat, sgn l k ≠ 46 → holdsB l (k :: o) = decide (sgn l k = 43) := fun l z => by
      unfold holdsB told
      rw [List.map_cons, List.filter_cons_of_pos (by simp [z])]
    rcases sgn_is h k with z | z | z
    · have z2 : sgn (flipped l) k = 45 := by rw [e, z]; rfl
      rw [e2 l (by rw [z]; decide), e2 _ (by rw [z2]; decide), z, z2]; rfl
    · have z2 : sgn (flipped l) k = 43 := by rw [e, z]; rfl
      rw [e2 l (by rw [z]; decide), e2 _ (by rw [z2]; decide), z, z2]; rfl
    · have z2 : sgn (flipped l) k = 46 := by rw [e, z]; rfl
      rw [e1 l z, e1 _ z2]
      refine flip_holds h o (fun j hj => hk j (List.mem_cons_of_mem _ hj)) ?_
      obtain ⟨j, hj, hn⟩ := hx
      rcases List.mem_cons.mp hj with rfl | hj
      · exact absurd z hn
      · exact ⟨j, hj, hn⟩
theorem fit_snoc {rs : List (List Nat)} {r : List Nat} {n : Nat} : fitM (rs ++ [r]) n = (fitM rs n).filter fun o => holdsB r o := by
  unfold fitM
  rw [List.filter_filter]
  refine List.filter_congr fun o _ => ?_
  rw [List.all_append]
  simp [Bool.and_comm]
/-! all of them -/
/-! the ways to come to a head -/
def opIn (head : Nat) (ways : List Nat) (k : Nat) : List Nat := ways.set (head ||| 2 ^ k) (ways.getD (head ||| 2 ^ k) 0 + ways.getD head 0)
def opStep (B : List (List Nat)) (ways : List Nat) (head : Nat) : List Nat := (B.getD head []).foldl (opIn head) ways
def opTo (B : List (List Nat)) (i : Nat) : List Nat := (List.range i).foldl (opStep B) (1 :: List.replicate (B.length - 1) 0)
def openM (B : List (List Nat)) : List Nat := opTo B B.length
theorem opIn_len (head : Nat) : ∀ (ks ways : List Nat), (ks.foldl (opIn head) ways).length = ways.length
  | [], _ => rfl
  | k :: ks, ways => by rw [List.foldl_cons, opIn_len head ks]; unfold opIn; rw [List.length_set]
theorem opTo_succ (B : List (List Nat)) (i : Nat) : opTo B (i + 1) = opStep B (opTo B i) i := by
  unfold opTo
  rw [List.range_succ, List.foldl_append]; rfl
theorem opTo_len {B : List (List Nat)} (h : 1 ≤ B.length) : ∀ i, (opTo B i).length = B.length
  | 0 => by
    show (1 :: List.replicate (B.length - 1) 0).length = _
    rw [List.length_cons, List.length_replicate]; omega
  | i + 1 => by
    rw [opTo_succ]
    unfold opStep
    rw [opIn_len, opTo_len h i]
def cnt (ks : List Nat) (g h : Nat) : Nat := (ks.filter fun k => decide (g ||| 2 ^ k = h)).length
theorem cnt_cons {k : Nat} {ks : List Nat} {g h : Nat} : cnt (k :: ks) g h = (if g ||| 2 ^ k = h then 1 else 0) + cnt ks g h := by
  unfold cnt
  rw [List.filter_cons]
  by_cases e : g ||| 2 ^ k = h
  · rw [if_pos (decide_eq_true e), if_pos e, List.length_cons]; omega
  · rw [if_neg (by simpa using e), if_neg e]; omega
theorem cnt_low {ks : List Nat} {g h : Nat} (hk : ∀ k ∈ ks, g < g ||| 2 ^ k) (h' : h ≤ g) : cnt ks g h = 0 := by
  unfold cnt
  rw [List.length_eq_zero_iff, List.filter_eq_nil_iff]
  intro k m e
  have := hk k m
  have := of_decide_eq_true e
  omega
theorem op_in {head : Nat} : ∀ {ks ways : List Nat} {h : Nat}, (∀ k ∈ ks, head < head ||| 2 ^ k ∧ head ||| 2 ^ k < ways.length) → (ks.foldl (opIn head) ways).getD h 0 = ways.getD h 0 + cnt ks head h * ways.getD head 0
  | [], ways, h, _ => by
    show ways.getD h 0 = ways.getD h 0 + 0 * _
    omega
  | k :: ks, ways, h, hk => by
    obtain ⟨k1, k2⟩ := hk k List.mem_cons_self
    have e0 : (opIn head ways k).getD head 0 = ways.getD head 0 := by
      unfold opIn
      exact getD_set_ne (by omega)
    rw [List.foldl_cons, op_in fun j hj => by
      have := hk j (List.mem_cons_of_mem _ hj)
      unfold opIn
      rw [List.length_set]; exact this, e0, cnt_cons]
    by_cases e : head ||| 2 ^ k = h
    · have : (opIn head ways k).getD h 0 = ways.getD h 0 + ways.getD head 0 := by
        unfold opIn
        rw [← e]
        exact getD_set_self k2
      rw [this, if_pos e, Nat.add_mul, Nat.one_mul]
      omega
    · have : (opIn head ways k).getD h 0 = ways.getD h 0 := by
        unfold opIn
        exact getD_set_ne e
      rw [this, if_neg e, Nat.zero_add]
structure StepB (B : List (List Nat)) : Prop where
  lo : 1 ≤ B.length
  up : ∀ g, g < B.length → ∀ k ∈ B.getD g [], g < g ||| 2 ^ k ∧ g ||| 2 ^ k < B.length
def opO (B : List (List Nat)) (h : Nat) : Nat := (opTo B h).getD h 0
theorem op_next {B : List (List Nat)} (s : StepB B) {i h : Nat} (hi : i < B.length) : (opTo B (i + 1)).getD h 0 = (opTo B i).getD h 0 + cnt (B.getD i []) i h * opO B i := by
  rw [opTo_succ]
  unfold opStep
  rw [op_in fun k hk => ?_]
  · rfl
  · rw [opTo_len s.lo]
    exact s.up i hi k hk
theorem op_at {B : List (List Nat)} (s : StepB B) {h : Nat} : ∀ {i : Nat}, i ≤ B.length → (opTo B i).getD h 0 = (if h = 0 then 1 else 0) + ((List.range i).map fun g => cnt (B.getD g []) g h * opO B g).sum
  | 0, _ => by
    show (1 :: List.replicate (B.length - 1) 0).getD h 0 = _ + 0
    cases h with
    | zero => rfl
    | succ h =>
      rw [if_neg (by omega)]
      show (List.replicate (B.length - 1) 0).getD h 0 = 0
      rw [List.getD_eq_getElem?_getD, List.getElem?_replicate]
      split <;> rfl
  | i + 1, hi => by
    rw [op_next s (by omega), op_at s (by omega), List.range_succ, List.map_append, List.sum_append]
    simp only [List.map_cons, List.map_nil, List.sum_cons, List.sum_nil]
    omega
theorem op_keep {B : List (List Nat)} (s : StepB B) {h : Nat} : ∀ {d : Nat}, h + d ≤ B.length → (opTo B (h + d)).getD h 0 = opO B h
  | 0, _ => rfl
  | d + 1, hd => by
    rw [← Nat.add_assoc, op_next s (by omega), op_keep s (by omega), cnt_low (fun k hk => (s.up _ (by omega) k hk).1) (by omega)]
    omega
theorem op_fin {B : List (List Nat)} (s : StepB B) {h : Nat} (hh : h < B.length) : (openM B).getD h 0 = opO B h := by
  have := op_keep s (h := h) (d := B.length - h) (by omega)
  rw [show h + (B.length - h) = B.length by omega] at this
  exact this
/-! sums -/
/-! how many a head holds -/
def pc (n h : Nat) : Nat := ((List.range n).filter fun k => h.testBit k).length
theorem fil_one {k : Nat} {p : Nat → Bool} (hp : p k = false) : ∀ {l : List Nat}, l.Nodup → k ∈ l → (l.filter fun j => p j || decide (k = j)).length = (l.filter p).length + 1
  | [], _, h => absurd h (by simp)
  | a :: l, nd, h => by
    obtain ⟨n1, n2⟩ := List.nodup_cons.mp nd
    by_cases e : k = a
    · subst e
      rw [List.filter_cons_of_pos (by simp), List.filter_cons_of_neg (by rw [hp]; decide), List.length_cons]
      congr 2
      refine List.filter_congr fun j hj => ?_
      have : decide (k = j) = false := decide_eq_false fun z => n1 (by rw [z]; exact hj)
      rw [this, Bool.or_false]
    · have hm : k ∈ l := (List.mem_cons.mp h).resolve_left e
      have ih := fil_one hp n2 hm
      rw [List.filter_cons, List.filter_cons]
      have : decide (k = a) = false := decide_eq_false e
      rw [this, Bool.or_false]
      split
      · rw [List.length_cons, List.length_cons, ih]
      · exact ih
theorem pc_or {n g k : Nat} (hk : k < n) (hb : g.testBit k = false) : pc n (g ||| 2 ^ k) = pc n g + 1 := by
  unfold pc
  rw [← fil_one hb List.nodup_range (List.mem_range.mpr hk)]
  congr 1
  exact List.filter_congr fun j _ => or_bit g k j
/-- the flow through the heads of one size -/
theorem steps_b (rs : List (List Nat)) (n : Nat) : StepB (stepsM rs n) := ⟨by rw [steps_len]; exact Nat.two_pow_pos n, fun g hg k hk => by
  rw [steps_len] at hg ⊢
  rw [steps_at hg] at hk
  obtain ⟨h1, h2⟩ := List.mem_filter.mp hk
  exact ⟨or_up (open_bit h2), Nat.or_lt_two_pow hg (Nat.pow_lt_pow_right (by decide) (List.mem_range.mp h1))⟩⟩
/-! lots and heads -/
theorem head_range : ∀ n, (lots n).map headOf = List.range (2 ^ n)
  | 0 => rfl
  | n + 1 => by
    show (lots n ++ (lots n).map (· ++ [n])).map headOf = _
    have e : ((lots n).map (· ++ [n])).map headOf = ((lots n).map headOf).map (2 ^ n + ·) := by
      rw [List.map_map, List.map_map]
      refine List.map_congr_left fun o _ => ?_
      show headOf (o ++ [n]) = 2 ^ n + headOf o
      rw [headOf_snoc, Nat.add_comm]
    rw [List.map_append, e, head_range n, Nat.pow_succ, Nat.mul_two, List.range_add]
theorem lots_pc : ∀ (n : Nat) (o : List Nat), o ∈ lots n → pc n (headOf o) = o.length ∧ headOf o < 2 ^ n
  | 0, o, h => by
    rw [List.mem_singleton.mp h]
    exact ⟨rfl, by decide⟩
  | n + 1, o, h => by
    have up : ∀ g, pc (n + 1) g = pc n g + if g.testBit n = true then 1 else 0 := fun g => by
      unfold pc
      rw [List.range_succ, List.filter_append, List.length_append]
      congr 1
      cases q : g.testBit n with
      | true => rw [List.filter_cons_of_pos q]; rfl
      | false => rw [List.filter_cons_of_neg (by rw [q]; decide)]; rfl
    rcases List.mem_append.mp h with h | h
    · obtain ⟨a, b⟩ := lots_pc n o h
      rw [up, Nat.testBit_lt_two_pow b, if_neg (by decide), a]
      exact ⟨rfl, by rw [Nat.pow_succ]; omega⟩
    · obtain ⟨p, hp, rfl⟩ := List.mem_map.mp h
      obtain ⟨a, b⟩ := lots_pc n p hp
      have e := Nat.two_pow_add_eq_or_of_lt b 1
      rw [Nat.mul_one] at e
      have e' : headOf (p ++ [n]) = headOf p ||| 2 ^ n := by
        rw [headOf_snoc, Nat.add_comm, e, Nat.or_comm]
      refine ⟨?_, by rw [headOf_snoc, Nat.pow_succ]; omega⟩
      rw [e', pc_or (Nat.lt_succ_self n) (Nat.testBit_lt_two_pow b), up, Nat.testBit_lt_two_pow b, if_neg (by decide), a, List.length_append]; rfl
theorem sum_in {N h : Nat} {f : Nat → Nat} (hh : h < N) : f h ≤ ((List.range N).map f).sum := by
  induction N with
  | zero => omega
  | succ N ih =>
    rw [List.range_succ, List.map_append, List.sum_append]
    simp only [List.map_cons, List.map_nil, List.sum_cons, List.sum_nil]
    by_cases e : h = N
    · rw [e]; omega
    · have := ih (by omega)
      omega
theorem rows_sgn {rs : List (List Nat)} {n : Nat} (hr : ∀ r ∈ rs, RowOk r n) : ∀ r ∈ rs, ∀ c, sgn r c = 43 ∨ sgn r c = 45 ∨ sgn r c = 46 := fun r h c => sgn_is (hr r h) c
/-! what the program's defs promise here -/
def spOpen : Spc where
  ty := List (List Nat)
  args := fun b => [.lst (lolD b)]
  ok := fun b => EndOk b ∧ StepB b
  rel := fun b d => d = .lst (ordD (openM b))
theorem rep_zero (m : Nat) : (List.replicate m [D.int (0 : Nat)]).flatten = ordD (List.replicate m 0) := by
  unfold ordD
  rw [List.map_replicate]
  induction m with
  | zero => rfl
  | succ m ih => rw [List.replicate_succ, List.flatten_cons, ih, List.replicate_succ]; rfl
theorem atI_nat' {ds : List D} {i : Nat} {d : D} (h : ds[i]? = some d) : atI ds (i : Int) = some d := atI_nat h
theorem ors_lt {n head k : Nat} (h : head < 2 ^ n) (hk : k < n) : head ||| 2 ^ k < 2 ^ n := Nat.or_lt_two_pow h (Nat.pow_lt_pow_right (by decide) hk)
end K34

namespace K34
open PySem PySem.Spec PyProof.Rows L2 Dw
variable [Tabs0]
theorem d_check_row {P : Program} {w : World} {K : PySem.W.Frag} {mg : Str → Option Value} {base : Heap} (T : Txt K w mg) : FnOk P w K mg base CX0 3 T.f_check_row T.e_check_row ["row", "many"] (toSp (spCkRow)) := by
  refine fn_ok T.F_check_row sc_check_row (fun _ => rfl) fun cdv A outer s' H E hr => ?_
  refine ⟨_, (pss_one (ps_if (pt_not (truA K (pe_call (d_is_row T) (hr.mono (by decide)) (by rfl) T.m_is_row T.F_is_row.kp T.b_is_row .nil pass0 (pa_cons (pv 0) (pa_cons (pv 1) pa_nil))))) (pss_one ps_never) pss_nil)), fun x hx => ?_⟩
  obtain ⟨l, n⟩ := x
  obtain ⟨hr', h1, h8⟩ := hx
  have hr' : RowOk l n := hr'
  exact ds_if (EvT.dl (b := false) (evt_not (a := true) (evt_tru_bl (ev_call (s := spRowG) (x := (.str (tx l), n)) (eva_cons (ev_var rfl) (eva_cons (ev_var rfl) eva_nil)) rfl (pv_row hr' h8) fun d h => by rw [h, row_ok hr' h1 h8]))) ⟨fun h => (nomatch h), fun _ => ds_next rfl⟩)
end K34

namespace K34
open PySem PySem.Spec PyProof.Rows L2 Dw
variable [Tabs0]
theorem d_openings {P : Program} {w : World} {K : PySem.W.Frag} {mg : Str → Option Value} {base : Heap} (T : Txt K w mg) : FnOk P w K mg base CX0 1 T.f_openings T.e_openings ["behind"] (toSp (spOpen)) := by
  refine fn_ok T.F_openings sc_openings (fun _ => rfl) fun cdv A outer s' H E hr => ?_
  refine ⟨_, (pss_cons (ps_set (i := 1) sc_openings.nd rfl (Or.inl rfl) (pe_op (plusE K) (pe_lst (pa_cons pe_int pa_nil)) (pe_op opTimes (pe_lst (pa_cons pe_int pa_nil)) (pe_op op_sub (pe_callB (lenA K) (by rfl) T.n_len (by decide +kernel) (pa_cons (pv 0) pa_nil)) pe_int)))) (pss_cons (ps_for PassesOwn.never rfl (enumTA K (by rfl) T.n_enumerate (pa_cons (pv 0) pa_nil)) (tupA K 2 rfl (pgs_cons (pg_name (i := 2) sc_openings.nd rfl (Or.inl rfl)) (pgs_cons (pg_name (i := 3) sc_openings.nd rfl (Or.inl rfl)) pgs_nil))) (pss_one (ps_for PassesOwn.never rfl (piR K (pv 3)) (pg_name (i := 4) sc_openings.nd rfl (Or.inl rfl)) (pss_one (ps_augL (pv 1) (pe_op op_or (pv 2) (pe_op op_shl pe_int (pv 4))) (pe_ix (ixA K) (pv 1) (pv 2) (fun _ _ => rfl))))))) (pss_one (ps_ret (pv 1))))), fun x hx => ?_⟩
  obtain ⟨b, rfl⟩ : ∃ l : List (List Nat), l = x := ⟨x, rfl⟩
  obtain ⟨hb, sb⟩ := hx
  have hb : EndOk b := hb
  have sb : StepB b := sb
  have hi := hb.hi
  have lo := sb.lo
  have lb : (lolD b).length = b.length := List.length_map ..
  refine ds_seq (ds_asg_own (ds := ordD (opTo b 0)) ?e1 ?_)
  case e1 =>
    have e : ordD (opTo b 0) = [D.int (1 : Nat)] ++ (List.replicate (b.length - 1) [D.int (0 : Nat)]).flatten := by
      show D.int (1 : Nat) :: ordD (List.replicate (b.length - 1) 0) = _
      rw [rep_zero]; rfl
    rw [e]
    refine pl_evn (EvN.b (evn_lst (eva_cons ev_int eva_nil) (small (show 1 ≤ 100000 by decide)))) (EvN.b (evn_rep (ds := [.int (0 : Nat)]) (n := b.length - 1) (EvN.b (evn_lst (eva_cons ev_int eva_nil) (small (show 1 ≤ 100000 by decide)))) (ev_cast (congrArg D.int (by rw [lb]; omega)) (ev_op (ev_len (ds := lolD b) (ev_var rfl).b) ev_int (dr2_sub (i := ((lolD b).length : Nat)) (j := 1)))) (by show 1 * (b.length - 1) ≤ _; exact small (by omega)) (by omega))) ?_
    rw [rep_zero]
    show 1 + _ ≤ _
    rw [ordD_len, List.length_replicate]
    exact small (by omega)
  refine ds_seq (ds_for (fun xs i Γ' => xs = enumD (lolD b) ∧ ∃ s2 s3 s4 : Sl, Γ' = [.val (.lst (lolD b)), .own (ordD (opTo b i)), s2, s3, s4])
    (di_enumL (Ev.dl (ev_var rfl) ⟨lolD b, rfl, ⟨rfl, _, _, _, rfl⟩, fun i x Γ' hx' ⟨exs, s2, s3, s4, e⟩ => ?_, fun Γ' ⟨exs, s2, s3, s4, e⟩ => ?_⟩)))
  · subst e
    obtain ⟨y, hy, rfl⟩ := enumD_get hx'
    obtain ⟨hil', ey⟩ := List.getElem?_eq_some_iff.mp hy
    have hil : i < b.length := by rw [lb] at hil'; exact hil'
    have ey : y = .lst (ordD (b.getD i [])) := by
      have := lolD_at hil
      rw [atI_nat' hy] at this
      exact Option.some.inj this
    subst ey
    have up := sb.up i hil
    have few := hb.few i
    have in_ := hb.in_ i hil
    generalize hB : b.getD i [] = ks at up few in_
    refine ⟨[2] ++ [3], _, dg_tup2 dg_name dg_name, ?_⟩
    refine ds_for (fun xs j Γ' => xs = ordD ks ∧ ∃ s4 : Sl, Γ' = [.val (.lst (lolD b)), .own (ordD ((ks.take j).foldl (opIn i) (opTo b i))), .val (.int (i : Nat)), .val (.lst (ordD ks)), s4])
      (dj_list (Ev.dl (ev_var rfl) ⟨ordD ks, rfl, ⟨rfl, _, rfl⟩, fun j x Γ' hx2 ⟨exs2, s4, e⟩ => ?_, fun Γ' ⟨exs2, s4, e⟩ => ?_⟩))
    · subst e
      have hx3 : (ks.map fun k : Nat => D.int k)[j]? = some x := hx2
      rw [List.getElem?_map] at hx3
      cases q : ks[j]? with
      | none => rw [q] at hx3; cases hx3
      | some k =>
        rw [q] at hx3; cases hx3
        have wl : ((ks.take j).foldl (opIn i) (opTo b i)).length = b.length := by rw [opIn_len, opTo_len lo]
        have hk := List.mem_of_getElem? q
        obtain ⟨u1, u2⟩ := up k hk
        have k8 := (in_ k hk).2
        have nx : (ks.take (j + 1)).foldl (opIn i) (opTo b i) = opIn i ((ks.take j).foldl (opIn i) (opTo b i)) k := by
          rw [List.take_add_one, q, List.foldl_append]; rfl
        refine ⟨[4], _, dg_name, ds_augL (l := (ks.take j).foldl (opIn i) (opTo b i)) (k := i ||| 2 ^ k) (b := ((ks.take j).foldl (opIn i) (opTo b i)).getD i 0) rfl (ev_op (ev_var (d := .int (i : Nat)) rfl) (ev_op ev_int (ev_var rfl) (dr2_shl1 (by omega))) dr2_or) (by rw [wl]; exact u2) (by rw [wl]; omega) rfl (ev_ix (evb_own (ds := ordD ((ks.take j).foldl (opIn i) (opTo b i))) rfl) (ev_var (d := .int (i : Nat)) rfl) (ordD_at (by rw [wl]; exact hil))) ⟨exs2, .val (.int (k : Nat)), ?_⟩⟩
        rw [nx]; rfl
    · subst e
      rw [ordD_len, List.take_length]
      refine ⟨exs, .val (.int (i : Nat)), .val (.lst (ordD ks)), s4, ?_⟩
      rw [opTo_succ]
      unfold opStep
      rw [hB]
  · subst e
    rw [enumD_length, lb]
    exact ds_ret_own rfl rfl
end K34

namespace K34
open PySem PySem.Spec PyProof.Rows L2 Dw
variable [Tabs0]
theorem d_check_some_fits {P : Program} {w : World} {K : PySem.W.Frag} {mg : Str → Option Value} {base : Heap} (T : Txt K w mg) : FnOk P w K mg base CX0 4 T.f_check_some_fits T.e_check_some_fits ["book"] (toSp (spCkFits T.C_Book)) := by
  refine fn_ok T.F_check_some_fits sc_check_some_fits (fun _ => rfl) fun cdv A outer s' H E hr => ?_
  refine ⟨_, (pss_one (ps_if (pt_not (truA K (pe_call (d_some_fits T) (hr.mono (by decide)) (by rfl) T.m_some_fits T.F_some_fits.kp T.b_some_fits .nil pass0 (pa_cons (pe_prop (pv 0) T.cl_Book T.p_Book_rows (d_Book_rows T) (hr.mono (by decide)) T.b_Book_rows .nil pass0 rfl) (pa_cons (pe_callB (lenA K) (by rfl) T.n_len (by decide +kernel) (pa_cons (pe_prop (pv 0) T.cl_Book T.p_Book_names (d_Book_names T) (hr.mono (by decide)) T.b_Book_names .nil pass0 rfl) pa_nil)) pa_nil))))) (pss_one ps_never) pss_nil)), fun x hx => ?_⟩
  obtain ⟨ls, rs⟩ := x
  obtain ⟨hb, hs⟩ := hx
  have hb : BookOk ls rs := hb
  have hs : Still rs ls.length = [] := hs
  exact ds_if (EvT.dl (b := false) (evt_not (a := true) (evt_tru_bl (ev_call (s := spSome) (x := (rs, ls.length, false)) (eva_cons (ev_prop (s := spBRows T.C_Book) (x := (ls, rs)) (ev_var rfl) rfl (np_book _ ls rs) trivial fun d h => h) (eva_cons (ev_names (C := T.C_Book) (rs := rs) (ev_prop (s := spBNames T.C_Book) (x := (ls, rs)) (ev_var rfl) rfl (np_book _ ls rs) trivial fun d h => h)) eva_nil)) (np_rd (b := false) (r := [_]) rfl) ⟨hb.rows, hb.n8, Nat.le_trans hb.few (by decide)⟩ fun d h => (show d = .bl (decide (Still rs ls.length = [])) from h).trans (by rw [hs]; rfl)))) ⟨fun h => (nomatch h), fun _ => ds_next rfl⟩)
end K34

namespace K34
open PySem PySem.Spec PyProof.Rows L2 Dw
variable [Tabs0]
theorem d_judge {P : Program} {w : World} {K : PySem.W.Frag} {mg : Str → Option Value} {base : Heap} (T : Txt K w mg) : FnOk P w K mg base CX0 5 T.f_judge T.e_judge ["book", "row"] (toSp (spJudge T.C_Book)) := by
  refine fn_ok T.F_judge sc_judge (fun _ => rfl) fun cdv A outer s' H E hr => ?_
  refine ⟨_, (pss_cons (ps_expr (pe_call (d_check_book T) (hr.mono (by decide)) (by rfl) T.m_check_book T.F_check_book.kp T.b_check_book .nil pass0 (pa_cons (pv 0) pa_nil))) (pss_cons (ps_set (i := 2) sc_judge.nd rfl (Or.inl rfl) (pe_callB (lenA K) (by rfl) T.n_len (by decide +kernel) (pa_cons (pe_prop (pv 0) T.cl_Book T.p_Book_names (d_Book_names T) (hr.mono (by decide)) T.b_Book_names .nil pass0 rfl) pa_nil))) (pss_cons (ps_expr (pe_call (d_check_row T) (hr.mono (by decide)) (by rfl) T.m_check_row T.F_check_row.kp T.b_check_row .nil pass0 (pa_cons (pv 1) (pa_cons (pv 2) pa_nil)))) (pss_cons (ps_expr (pe_call (d_check_some_fits T) (hr.mono (by decide)) (by rfl) T.m_check_some_fits T.F_check_some_fits.kp T.b_check_some_fits .nil pass0 (pa_cons (pv 0) pa_nil))) (pss_cons (ps_set (i := 3) sc_judge.nd rfl (Or.inl rfl) (pe_call (d_count_fitting T) (hr.mono (by decide)) (by rfl) T.m_count_fitting T.F_count_fitting.kp T.b_count_fitting .nil pass0 (pa_cons (pe_tup (starA K (pe_prop (pv 0) T.cl_Book T.p_Book_rows (d_Book_rows T) (hr.mono (by decide)) T.b_Book_rows .nil pass0 rfl) (pa_cons (pv 1) pa_nil))) (pa_cons (pv 2) pa_nil)))) (pss_cons (ps_if (pt_cmpR (eqA K hr.units) (pv 3) pe_int (nomark _)) (pss_one (ps_ret pe_str)) pss_nil) (pss_one (ps_ret (pe_ifExp (pt_cmpR (eqA K hr.units) (pv 3) (pe_call (d_count_fitting T) (hr.mono (by decide)) (by rfl) T.m_count_fitting T.F_count_fitting.kp T.b_count_fitting .nil pass0 (pa_cons (pe_prop (pv 0) T.cl_Book T.p_Book_rows (d_Book_rows T) (hr.mono (by decide)) T.b_Book_rows .nil pass0 rfl) (pa_cons (pv 2) pa_nil))) (nomark _)) pe_str pe_str))))))))), fun x hx => ?_⟩
  obtain ⟨⟨ls, rs⟩, r⟩ := x
  obtain ⟨hb, hr', hs⟩ := hx
  have hb : BookOk ls rs := hb
  have hr' : RowOk r ls.length := hr'
  have hs : Still rs ls.length = [] := hs
  have h20 := hb.few
  refine ds_seq (ds_drop (Ev.dl (ev_call (s := spCheck T.C_Book) (x := (ls, rs)) (eva_cons (ev_var rfl) eva_nil) (np_book _ ls rs) trivial fun d h => h) ?_))
  refine ds_seq (ds_asg (Ev.dl (ev_names (C := T.C_Book) (rs := rs) (ev_prop (s := spBNames T.C_Book) (x := (ls, rs)) (ev_var rfl) rfl (np_book _ ls rs) trivial fun d h => h)) ?_))
  refine ds_seq (ds_drop (Ev.dl (ev_call (s := spCkRow) (x := (r, ls.length)) (eva_cons (ev_var rfl) (eva_cons (ev_var rfl) eva_nil)) rfl ⟨hr', hb.names.lo, hb.n8⟩ fun d h => h) ?_))
  refine ds_seq (ds_drop (Ev.dl (ev_call (s := spCkFits T.C_Book) (x := (ls, rs)) (eva_cons (ev_var rfl) eva_nil) (np_book _ ls rs) ⟨hb, hs⟩ fun d h => h) ?_))
  refine ds_seq (ds_asg (Ev.dl (ev_call (s := spCount) (d := .int (countM (rs ++ [r]) ls.length : Nat)) (x := (rs ++ [r], ls.length, false)) (eva_cons (ev_cast (congrArg D.tup (nameD_app rs [r])) (ev_tup (eva_star (ev_prop (s := spBRows T.C_Book) (x := (ls, rs)) (ev_var rfl) rfl (np_book _ ls rs) trivial fun d h => h) (eva_cons (ev_var rfl) eva_nil)) (by rw [List.length_append, nameD_len]; show rs.length + 1 ≤ _; exact small (by omega)))) (eva_cons (ev_var rfl) eva_nil)) (np_tn (r := [_]) rfl) ⟨rows_app hb.rows (rows_one hr'), hb.n8, by show (rs ++ [r]).length ≤ 1000; rw [List.length_append]; show rs.length + 1 ≤ 1000; omega⟩ fun d h => h) ?_))
  refine ds_seq (ds_if (EvT.dl (evt_test (ev_op (ev_var (d := .int (countM (rs ++ [r]) ls.length : Nat)) rfl) ev_int (eq_nat _ 0))) ⟨fun h => ds_ret (Ev.dl ev_str ?_), fun h => ds_next ?_⟩))
  · show D.str _ = D.str (judgeS rs ls.length r)
    unfold judgeS
    rw [if_pos (of_decide_eq_true h)]
  · refine ds_ret (Ev.dl (ev_if (a := decide (countM (rs ++ [r]) ls.length = countM rs ls.length)) (evt_test (ev_op (ev_var (d := .int (countM (rs ++ [r]) ls.length : Nat)) rfl) (ev_call (s := spCount) (x := (rs, ls.length, false)) (eva_cons (ev_prop (s := spBRows T.C_Book) (x := (ls, rs)) (ev_var rfl) rfl (np_book _ ls rs) trivial fun d h => h) (eva_cons (ev_var rfl) eva_nil)) (np_rd (b := false) (r := [_]) rfl) ⟨hb.rows, hb.n8, Nat.le_trans hb.few (by decide)⟩ fun d h => h) (eq_nat _ _))) (fun _ => ev_str) fun _ => ev_str) ?_)
    show (if _ then D.str _ else D.str _) = D.str (judgeS rs ls.length r)
    unfold judgeS
    rw [if_neg (of_decide_eq_false h)]
    by_cases h2 : countM (rs ++ [r]) ls.length = countM rs ls.length
    · rw [if_pos h2, if_pos (decide_eq_true h2)]
    · rw [if_neg h2, if_neg (fun z => h2 (of_decide_eq_true z))]
end K34

namespace K34
open PySem PySem.Spec PyProof.Rows L2 Dw
variable [Tabs0]
/-! the heads that may stand before a rule -/
/-- a way through the heads, up to one -/
inductive Pre (rs : List (List Nat)) (n : Nat) : Nat → List Nat → Prop
  | nil : Pre rs n 0 []
  | snoc (h k : Nat) (p : List Nat) (hk : k < n) (ho : openBit rs h k = true) (w : Pre rs n h p) : Pre rs n (h ||| 2 ^ k) (p ++ [k])
theorem pre_bits {rs : List (List Nat)} {n h : Nat} {p : List Nat} (w : Pre rs n h p) : h < 2 ^ n ∧ ∀ j, h.testBit j = decide (j ∈ p) := by
  induction w with
  | nil => exact ⟨Nat.two_pow_pos n, fun j => by rw [Nat.zero_testBit]; simp⟩
  | snoc h k p hk ho w ih =>
    refine ⟨Nat.or_lt_two_pow ih.1 (Nat.pow_lt_pow_right (by decide) hk), fun j => ?_⟩
    rw [or_bit, ih.2 j, Bool.eq_iff_iff, Bool.or_eq_true, decide_eq_true_eq, decide_eq_true_eq, decide_eq_true_eq, List.mem_append, List.mem_singleton]
    exact or_congr Iff.rfl ⟨Eq.symm, Eq.symm⟩
theorem pre_way {rs : List (List Nat)} {n h : Nat} {p : List Nat} (w : Pre rs n h p) : ∀ {o : List Nat}, Way rs n h o → Way rs n 0 (p ++ o) := by
  induction w with
  | nil => exact fun w => w
  | snoc h k p hk ho w ih =>
    intro o wo
    have hne : h ≠ 2 ^ n - 1 := fun e => by
      have := open_bit ho
      rw [e, Nat.testBit_two_pow_sub_one] at this
      simp [hk] at this
    have := ih (.step h k o hne hk ho wo)
    rw [List.append_assoc]
    exact this
theorem way_split {rs : List (List Nat)} {n : Nat} : ∀ (q : List Nat) {h : Nat} {p o : List Nat}, Pre rs n h p → Way rs n h (q ++ o) → ∃ h', Pre rs n h' (p ++ q) ∧ Way rs n h' o
  | [], h, p, o, w, wo => ⟨h, by rw [List.append_nil]; exact w, wo⟩
  | k :: q, h, p, o, w, wo => by
    have wo : Way rs n h (k :: (q ++ o)) := wo
    cases wo with
    | step _ _ _ hne hk ho wo =>
      obtain ⟨h', a, b⟩ := way_split q (.snoc h k p hk ho w) wo
      exact ⟨h', by rw [List.append_assoc] at a; exact a, b⟩
theorem way_of {rs : List (List Nat)} {n : Nat} {p o : List Nat} (w : Way rs n 0 (p ++ o)) : ∃ h, Pre rs n h p ∧ Way rs n h o := by
  have := way_split p (h := 0) (p := []) (o := o) .nil w
  rwa [List.nil_append] at this
theorem sum_pos {α : Type} {f : α → Nat} : ∀ {l : List α}, 0 < (l.map f).sum → ∃ a ∈ l, 0 < f a
  | [], h => absurd h (by simp)
  | a :: l, h => by
    rw [List.map_cons, List.sum_cons] at h
    by_cases e : 0 < f a
    · exact ⟨a, List.mem_cons_self, e⟩
    · obtain ⟨b, hb, hp⟩ := sum_pos (l := l) (f := f) (by omega)
      exact ⟨b, List.mem_cons_of_mem _ hb, hp⟩
theorem cnt_pos {ks : List Nat} {g h : Nat} : 0 < cnt ks g h ↔ ∃ k ∈ ks, g ||| 2 ^ k = h := by
  unfold cnt
  rw [List.length_pos_iff_exists_mem]
  constructor
  · rintro ⟨k, hk⟩
    obtain ⟨h1, h2⟩ := List.mem_filter.mp hk
    exact ⟨k, h1, of_decide_eq_true h2⟩
  · rintro ⟨k, h1, h2⟩
    exact ⟨k, List.mem_filter.mpr ⟨h1, decide_eq_true h2⟩⟩
theorem op_pos {rs : List (List Nat)} {n : Nat} : ∀ h, h < 2 ^ n → (0 < opO (stepsM rs n) h ↔ ∃ p, Pre rs n h p) := by
  intro h
  induction h using Nat.strongRecOn with
  | ind h ih =>
    intro hh
    have sb := steps_b rs n
    have sl := steps_len rs n
    have at_ : opO (stepsM rs n) h = _ := op_at sb (h := h) (i := h) (by rw [sl]; exact Nat.le_of_lt hh)
    constructor
    · intro hp
      rw [at_] at hp
      by_cases z : h = 0
      · subst z
        exact ⟨[], .nil⟩
      · rw [if_neg z, Nat.zero_add] at hp
        obtain ⟨g, hg, hp⟩ := sum_pos hp
        have hg := List.mem_range.mp hg
        obtain ⟨c1, c2⟩ : 0 < cnt ((stepsM rs n).getD g []) g h ∧ 0 < opO (stepsM rs n) g := ⟨Nat.pos_of_mul_pos_right hp |> fun _ => Nat.pos_of_ne_zero fun z => by rw [z, Nat.zero_mul] at hp; exact absurd hp (by decide), Nat.pos_of_ne_zero fun z => by rw [z, Nat.mul_zero] at hp; exact absurd hp (by decide)⟩
        obtain ⟨k, hk, e⟩ := cnt_pos.mp c1
        rw [steps_at (by omega)] at hk
        obtain ⟨h1, h2⟩ := List.mem_filter.mp hk
        obtain ⟨p, w⟩ := (ih g hg (by omega)).mp c2
        exact ⟨p ++ [k], by rw [← e]; exact .snoc g k p (List.mem_range.mp h1) h2 w⟩
    · rintro ⟨p, w⟩
      rw [at_]
      cases w with
      | nil => rw [if_pos rfl]; omega
      | snoc g k p hk ho w =>
        have lt := or_up (open_bit ho)
        have gl := (pre_bits w).1
        have c2 := (ih g lt gl).mpr ⟨p, w⟩
        have c1 : 0 < cnt ((stepsM rs n).getD g []) g (g ||| 2 ^ k) := cnt_pos.mpr ⟨k, by rw [steps_at gl]; exact List.mem_filter.mpr ⟨List.mem_range.mpr hk, ho⟩, rfl⟩
        have := sum_in (N := g ||| 2 ^ k) (h := g) (f := fun g' => cnt ((stepsM rs n).getD g' []) g' (g ||| 2 ^ k) * opO (stepsM rs n) g') lt
        have := Nat.mul_pos c1 c2
        omega
theorem end_pos {rs : List (List Nat)} {n h : Nat} (hh : h < 2 ^ n) : 0 < (endM (stepsM rs n)).getD h 0 ↔ ∃ o, Way rs n h o := by
  rw [paths_len (2 ^ n - 1 - h) h hh (Nat.le_refl _), List.length_pos_iff_exists_mem]
  exact exists_congr fun o => paths_way _ _ _ hh (Nat.le_refl _)
theorem way_fit {rs : List (List Nat)} {n : Nat} (hr : ∀ r ∈ rs, RowOk r n) {o : List Nat} : Way rs n 0 o ↔ o ∈ fitM rs n := by
  rw [fitM_mem]
  have key : o.Nodup → (∀ k, k ∈ o ↔ k < n ∧ (0 : Nat).testBit k = false) → (Way rs n 0 o ↔ ∀ r ∈ rs, holdsB r o = true) := fun h1 h2 => by
    rw [way_iff (rows_sgn hr) o 0 (Nat.two_pow_pos n) h1 h2]
    exact ⟨fun h r hr => h r hr (Nat.and_zero _), fun h r hr _ => h r hr⟩
  constructor
  · intro w
    obtain ⟨h1, h2⟩ := way_mem w
    refine ⟨?_, (key h1 h2).mp w⟩
    refine nodup_ext h1 List.nodup_range fun k => ?_
    rw [h2 k, List.mem_range, Nat.zero_testBit]
    exact ⟨fun h => h.1, fun h => ⟨h, rfl⟩⟩
  · rintro ⟨hp, hh⟩
    have h1 : o.Nodup := hp.nodup_iff.mpr List.nodup_range
    exact (key h1 fun k => by rw [hp.mem_iff, List.mem_range, Nat.zero_testBit]; exact ⟨fun h => ⟨h, rfl⟩, fun h => h.1⟩).mpr hh
/-- the heads that stand before b in some ranking that fits -/
def headsM (rs : List (List Nat)) (n b : Nat) : List Nat := (List.range (2 ^ n)).filter fun h => decide (b ∈ (stepsM rs n).getD h []) && (decide ((openM (stepsM rs n)).getD h 0 ≠ 0) && decide ((endM (stepsM rs n)).getD (h ||| 2 ^ b) 0 ≠ 0))
theorem heads_iff {rs : List (List Nat)} {n b h : Nat} (hb : b < n) : h ∈ headsM rs n b ↔ ∃ p q, Pre rs n h p ∧ openBit rs h b = true ∧ Way rs n (h ||| 2 ^ b) q := by
  unfold headsM
  rw [List.mem_filter, List.mem_range, Bool.and_eq_true, Bool.and_eq_true, decide_eq_true_eq, decide_eq_true_eq, decide_eq_true_eq]
  have sl := steps_len rs n
  constructor
  · rintro ⟨hh, h1, h2, h3⟩
    rw [steps_at hh] at h1
    have ho := (List.mem_filter.mp h1).2
    rw [op_fin (steps_b rs n) (by rw [sl]; exact hh)] at h2
    obtain ⟨p, w⟩ := (op_pos h hh).mp (Nat.pos_of_ne_zero h2)
    obtain ⟨q, wq⟩ := (end_pos (Nat.or_lt_two_pow hh (Nat.pow_lt_pow_right (by decide) hb))).mp (Nat.pos_of_ne_zero h3)
    exact ⟨p, q, w, ho, wq⟩
  · rintro ⟨p, q, w, ho, wq⟩
    have hh := (pre_bits w).1
    refine ⟨hh, by rw [steps_at hh]; exact List.mem_filter.mpr ⟨List.mem_range.mpr hb, ho⟩, ?_, ?_⟩
    · rw [op_fin (steps_b rs n) (by rw [sl]; exact hh)]
      exact Nat.ne_of_gt ((op_pos h hh).mpr ⟨p, w⟩)
    · exact Nat.ne_of_gt ((end_pos (Nat.or_lt_two_pow hh (Nat.pow_lt_pow_right (by decide) hb))).mpr ⟨q, wq⟩)
theorem heads_to {rs : List (List Nat)} {n b h : Nat} (hr : ∀ r ∈ rs, RowOk r n) (hb : b < n) (hm : h ∈ headsM rs n b) : h < 2 ^ n ∧ ∃ p q, p ++ b :: q ∈ fitM rs n ∧ ∀ j, h.testBit j = decide (j ∈ p) := by
  obtain ⟨p, q, w, ho, wq⟩ := (heads_iff hb).mp hm
  obtain ⟨h1, h2⟩ := pre_bits w
  have hne : h ≠ 2 ^ n - 1 := fun e => by
    have := open_bit ho
    rw [e, Nat.testBit_two_pow_sub_one] at this
    simp [hb] at this
  exact ⟨h1, p, q, (way_fit hr).mp (pre_way w (.step h b q hne hb ho wq)), h2⟩
theorem heads_of {rs : List (List Nat)} {n b : Nat} {p q : List Nat} (hr : ∀ r ∈ rs, RowOk r n) (hb : b < n) (hf : p ++ b :: q ∈ fitM rs n) : ∃ h ∈ headsM rs n b, ∀ j, h.testBit j = decide (j ∈ p) := by
  obtain ⟨h, w, wo⟩ := way_of ((way_fit hr).mpr hf)
  cases wo with
  | step _ _ _ hne hk ho wo => exact ⟨h, (heads_iff hb).mpr ⟨p, q, w, ho, wo⟩, (pre_bits w).2⟩
/-- a is in each head before b: in all rankings that fit a stands above b -/
theorem heads_above {rs : List (List Nat)} {n a b : Nat} (hr : ∀ r ∈ rs, RowOk r n) (hb : b < n) : ((headsM rs n b).all fun h => h.testBit a) = true ↔ ∀ p q, p ++ b :: q ∈ fitM rs n → a ∈ p := by
  rw [List.all_eq_true]
  constructor
  · intro h p q hf
    obtain ⟨g, hg, bt⟩ := heads_of hr hb hf
    have := h g hg
    rw [bt] at this
    exact of_decide_eq_true this
  · intro h g hg
    obtain ⟨_, p, q, hf, bt⟩ := heads_to hr hb hg
    rw [bt]
    exact decide_eq_true (h p q hf)
theorem cut_at {b : Nat} {o : List Nat} (h : b ∈ o) : ∃ p q, o = p ++ b :: q ∧ p.length = o.idxOf b ∧ b ∉ p := by
  induction o with
  | nil => cases h
  | cons c o ih =>
    by_cases e : c = b
    · subst e
      exact ⟨[], o, rfl, by simp, by simp⟩
    · obtain ⟨p, q, e1, e2, e3⟩ := ih ((List.mem_cons.mp h).resolve_left fun z => e z.symm)
      refine ⟨c :: p, q, by rw [e1]; rfl, ?_, fun z => (List.mem_cons.mp z).elim (fun z => e z.symm) e3⟩
      rw [List.idxOf_cons, List.length_cons, e2]
      have : (c == b) = false := by simpa using e
      rw [this]; rfl
theorem mem_idx {a b : Nat} {p q : List Nat} (hb : b ∉ p) (nd : (p ++ b :: q).Nodup) (ha : a ∈ p ++ b :: q) : a ∈ p ↔ (p ++ b :: q).idxOf a < (p ++ b :: q).idxOf b := by
  have eb : (p ++ b :: q).idxOf b = p.length := by
    rw [List.idxOf_append, if_neg hb, List.idxOf_cons_self, Nat.zero_add]
  rw [eb]
  constructor
  · intro h
    rw [List.idxOf_append, if_pos h]
    exact List.idxOf_lt_length_iff.mpr h
  · intro h
    refine Classical.byContradiction fun z => ?_
    rw [List.idxOf_append, if_neg z] at h
    omega
theorem enum_lol (b : List (List Nat)) : enumD (lolD b) = (List.range b.length).map fun (h : Nat) => D.tup [.int h, .lst (ordD (b.getD h []))] := by
  have lb : (lolD b).length = b.length := List.length_map ..
  refine List.ext_getElem (by rw [enumD_length, lb, List.length_map, List.length_range]) fun i h1 h2 => ?_
  have hi : i < b.length := by rw [enumD_length, lb] at h1; exact h1
  obtain ⟨y, hy, e⟩ := enumD_get (List.getElem?_eq_getElem h1)
  rw [e, List.getElem_map, List.getElem_range]
  have := lolD_at hi
  rw [atI_nat' hy] at this
  rw [Option.some.inj this]
theorem tru_nat (a : Nat) : (((a : Nat) : Int) != 0) = decide (a ≠ 0) := by
  cases a with
  | zero => rfl
  | succ a => rw [decide_eq_true (by omega)]; simp; omega
theorem ev_inO {K : PySem.W.Frag} {Γ : Gam} {ta tb : TE} {r' : R2} {c : Nat} {l : List Nat} (ha : Ev ta Γ (.int c)) (h : EvB tb Γ (ordD l)) : Ev (tOp (rOr (rIn K false) r') ta tb) Γ (.bl (decide (c ∈ l))) := by
  have e := ev_in (neg := false) (K := K) (r' := r') ha h rfl (sc_ord l)
  rw [show scV (.int (c : Int)) = V.int (c : Int) from rfl, show inV (V.int (c : Int)) (List.map scV (ordD l)) = decide (c ∈ l) from inV_ord c l] at e
  exact e
def spHeads : Spc where
  ty := List (List Nat) × Nat
  args := fun x => [.tup (nameD x.1), .int x.2]
  ok := fun x => (∀ r ∈ x.1, RowOk r x.2) ∧ x.2 ≤ 8 ∧ x.1.length ≤ 1000
  rel := fun x d => d = .lst (lolD ((List.range x.2).map (headsM x.1 x.2)))
def spMeets : Spc where
  ty := Nat × List Nat
  args := fun x => [.int x.1, .lst (ordD x.2)]
  ok := fun x => x.2.length ≤ 1000
  rel := fun x d => d = .bl (x.2.all fun h => decide (x.1 &&& h ≠ 0))
end K34

namespace K34
open PySem PySem.Spec PyProof.Rows L2 Dw
variable [Tabs0]
theorem d_heads_above {P : Program} {w : World} {K : PySem.W.Frag} {mg : Str → Option Value} {base : Heap} (T : Txt K w mg) : FnOk P w K mg base CX0 4 T.f_heads_above T.e_heads_above ["rows", "many"] (toSp (spHeads)) := by
  refine fn_ok T.F_heads_above sc_heads_above (fun _ => rfl) fun cdv A outer s' H E hr => ?_
  refine ⟨_, (pss_cons (ps_set (i := 2) sc_heads_above.nd rfl (Or.inr rfl) (pe_call (d_steps T) (hr.mono (by decide)) (by rfl) T.m_steps T.F_steps.kp T.b_steps .nil pass0 (pa_cons (pv 0) (pa_cons (pv 1) pa_nil)))) (pss_cons (ps_asg (pe_tup (pa_cons (pe_call (d_openings T) (hr.mono (by decide)) (by rfl) T.m_openings T.F_openings.kp T.b_openings .nil pass0 (pa_cons (pv 2) pa_nil)) (pa_cons (pe_call (d_endings T) (hr.mono (by decide)) (by rfl) T.m_endings T.F_endings.kp T.b_endings .nil pass0 (pa_cons (pv 2) pa_nil)) pa_nil))) (tupA K 2 rfl (pgs_cons (pg_name (i := 3) sc_heads_above.nd rfl (Or.inr rfl)) (pgs_cons (pg_name (i := 4) sc_heads_above.nd rfl (Or.inr rfl)) pgs_nil)))) (pss_one (ps_ret (pe_lc (own := [("rule", 5)]) rfl sc_heads_above.nd (pi_range1 (by rfl) T.n_range (pa_cons (pv 1) pa_nil)) (blkOk_by (own := [("rule", 5)]) (N := N_heads_above) (sc := (defScope s_heads_above)) (by decide +kernel)) (fun _ _ _ _ _ => pg_name (i := 5) sc_heads_above.nd rfl (Or.inr rfl)) (fun _ _ _ _ _ => pts_nil) (fun _ _ _ _ _ => (pe_lc (own := [("head", 6), ("rules", 7)]) rfl sc_heads_above.nd (enumTA K (by rfl) T.n_enumerate (pa_cons (pv 2) pa_nil)) (blkOk_by (own := [("head", 6), ("rules", 7)]) (N := N_heads_above) (sc := (relS { kind := .function, names := [(".0", .local), ("rule", .cell), ("enumerate", .globalImplicit), ("after", .free), ("before", .free), ("behind", .free)], isGenerator := false, isCoroutine := false, more := [] } (defScope s_heads_above))) (by decide +kernel)) (fun _ _ _ _ _ => tupA K 2 rfl (pgs_cons (pg_name (i := 6) sc_heads_above.nd rfl (Or.inl rfl)) (pgs_cons (pg_name (i := 7) sc_heads_above.nd rfl (Or.inl rfl)) pgs_nil))) (fun _ _ _ _ _ => pts_one (PW.pt (pw_and (pt_cmpR (inA K) (pv 5) (pv 7) (by rfl)) (pw_and (truA K (pe_ix (ixA K) (pv 3) (pv 6) (fun _ _ => rfl))) (pw_and1 (truA K (pe_ix (ixA K) (pv 4) (pe_op op_or (pv 6) (pe_op op_shl pe_int (pv 5))) (fun _ _ => rfl)))))))) (fun _ _ _ _ _ => (pv 6))))))))), fun x hx => ?_⟩
  obtain ⟨rs, n⟩ := x
  obtain ⟨hr', h8, hz⟩ := hx
  have hr' : ∀ r ∈ rs, RowOk r n := hr'
  have h8 : n ≤ 8 := h8
  have so := steps_ok (rs := rs) h8
  have sb := steps_b rs n
  have sl := steps_len rs n
  have p8 := pow8 h8
  have lb : (lolD (stepsM rs n)).length = 2 ^ n := by unfold lolD; rw [List.length_map, sl]
  have lo : (openM (stepsM rs n)).length = 2 ^ n := by unfold openM; rw [opTo_len sb.lo, sl]
  have le : (endM (stepsM rs n)).length = 2 ^ n := by unfold endM; rw [endTo_len, sl]
  refine ds_seq (ds_asg (Ev.dl (ev_call (s := spSteps) (d := .lst (lolD (stepsM rs n))) (x := (rs, n, false)) (eva_cons (ev_var rfl) (eva_cons (ev_var rfl) eva_nil)) (np_rd (b := false) (r := [_]) rfl) ⟨hr', h8, hz⟩ fun d h => h) ?_))
  refine ds_seq (ds_asg_g (Ev.dl (ev_tup (eva_cons (ev_call (s := spOpen) (d := .lst (ordD (openM (stepsM rs n)))) (x := stepsM rs n) (eva_cons (ev_var rfl) eva_nil) (np_ll (r := []) rfl) ⟨so, sb⟩ fun d h => h) (eva_cons (ev_call (s := spEnd) (d := .lst (ordD (endM (stepsM rs n)))) (x := stepsM rs n) (eva_cons (ev_var rfl) eva_nil) (np_ll (r := []) rfl) so fun d h => h) eva_nil)) (small (show 2 ≤ 100000 by decide))) ⟨[3] ++ [4], _, dg_tup2 dg_name dg_name, ?_⟩))
  show Ds _ [.val (.tup (nameD rs)), .val (.int n), .val (.lst (lolD (stepsM rs n))), .val (.lst (ordD (openM (stepsM rs n)))), .val (.lst (ordD (endM (stepsM rs n)))), .unset, .unset, .unset] _
  refine ds_ret (Ev.dl (EvN.ev (evn_lc1 (xs := List.range n) (c := fun k : Nat => D.int k) (f := fun b => D.lst (ordD (headsM rs n b))) (ei_range (n := n) (eva_cons (ev_var rfl) eva_nil) (by omega)) (by rw [List.length_range]; omega) fun b hb => ⟨[5], _, dg_name, fun i hi => hi, evt_yes, ?_⟩)) ?_)
  · have hb := List.mem_range.mp hb
    refine ev_cast (d' := .lst (ordD (headsM rs n b))) rfl (EvN.ev (evn_lc (xs := List.range (2 ^ n)) (c := fun h : Nat => D.tup [.int h, .lst (ordD ((stepsM rs n).getD h []))]) (p := fun h => decide (b ∈ (stepsM rs n).getD h []) && (decide ((openM (stepsM rs n)).getD h 0 ≠ 0) && decide ((endM (stepsM rs n)).getD (h ||| 2 ^ b) 0 ≠ 0))) (f := fun h : Nat => D.int h) ?e (by rw [List.length_range]; omega) fun h hh => ⟨[6] ++ [7], _, dg_tup2 dg_name dg_name, fun i hi => hi, ?t, fun _ => ev_var rfl⟩))
    case e =>
      have e := enum_lol (stepsM rs n)
      rw [sl] at e
      rw [← e]
      exact ei_enumL (ev_var (d := .lst (lolD (stepsM rs n))) rfl).b
    case t =>
      have hh := List.mem_range.mp hh
      refine evt_and (evt_test (ev_inO (ev_var rfl) (ev_var (d := .lst (ordD ((stepsM rs n).getD h []))) rfl).b)) fun _ => evt_and ?_ fun _ => ?_
      · rw [← tru_nat]
        exact evt_tru_int (ev_ix (ds := ordD (openM (stepsM rs n))) (ev_var rfl).b (ev_var (d := .int (h : Nat)) rfl) (ordD_at (by rw [lo]; exact hh)))
      · rw [← tru_nat]
        exact evt_tru_int (ev_ix (ds := ordD (endM (stepsM rs n))) (ev_var rfl).b (ev_op (ev_var (d := .int (h : Nat)) rfl) (ev_op ev_int (ev_var rfl) (dr2_shl1 (by omega))) dr2_or) (ordD_at (by rw [le]; exact ors_lt hh hb)))
  · show D.lst _ = D.lst (lolD _)
    unfold lolD
    rw [List.map_map]; rfl
end K34

namespace K34
open PySem PySem.Spec PyProof.Rows L2 Dw
variable [Tabs0]
theorem d_meets_all {P : Program} {w : World} {K : PySem.W.Frag} {mg : Str → Option Value} {base : Heap} (T : Txt K w mg) : FnOk P w K mg base CX0 1 T.f_meets_all T.e_meets_all ["lot", "heads"] (toSp (spMeets)) := by
  refine fn_ok T.F_meets_all sc_meets_all (fun _ => rfl) fun cdv A outer s' H E hr => ?_
  refine ⟨_, (pss_one (ps_ret (pe_callB (allIA K) (by rfl) T.n_all (by decide +kernel) (pa_cons (pe_lc (own := [("head", 2)]) rfl sc_meets_all.nd (piR K (pv 1)) (blkOk_by (own := [("head", 2)]) (N := N_meets_all) (sc := (defScope s_meets_all)) (by decide +kernel)) (fun _ _ _ _ _ => pg_name (i := 2) sc_meets_all.nd rfl (Or.inl rfl)) (fun _ _ _ _ _ => pts_nil) (fun _ _ _ _ _ => (pe_op op_and (pv 0) (pv 2)))) pa_nil)))), fun x hx => ?_⟩
  obtain ⟨a, hs⟩ := x
  have hz : hs.length ≤ 1000 := hx
  refine ds_ret (Ev.dl (ev_allI (is := hs.map fun h => ((a &&& h : Nat) : Int)) (EvN.b ?e)) ?_)
  case e =>
    rw [List.map_map]
    exact evn_lc1 (xs := hs) (c := fun k : Nat => D.int k) (f := fun h : Nat => D.int ((a &&& h : Nat) : Int)) (ej_list (ev_var (d := .lst (ordD hs)) rfl).b) (by omega) fun h hh => ⟨[2], _, dg_name, fun i hi => hi, evt_yes, ev_op (ev_var rfl) (ev_var rfl) dr2_and⟩
  show D.bl _ = D.bl (hs.all fun h => decide (a &&& h ≠ 0))
  rw [List.all_map]
  congr 2
  funext h
  exact tru_nat _
end K34

namespace K34
open PySem PySem.Spec PyProof.Rows L2 Dw
variable [Tabs0]
/-! prefixes with a given head, counted -/
theorem head_bits {n : Nat} : ∀ {o : List Nat}, o ∈ lots n → ∀ j, (headOf o).testBit j = decide (j ∈ o) := by
  induction n with
  | zero =>
    intro o h j
    rw [List.mem_singleton.mp h]
    show (0 : Nat).testBit j = _
    rw [Nat.zero_testBit]; simp
  | succ n ih =>
    intro o h j
    rcases List.mem_append.mp h with h | h
    · exact ih h j
    · obtain ⟨p, hp, rfl⟩ := List.mem_map.mp h
      obtain ⟨a, b⟩ := lots_pc n p hp
      have e := Nat.two_pow_add_eq_or_of_lt b 1
      rw [Nat.mul_one] at e
      have e' : headOf (p ++ [n]) = headOf p ||| 2 ^ n := by
        rw [headOf_snoc, Nat.add_comm, e, Nat.or_comm]
      rw [e', or_bit, ih hp j, Bool.eq_iff_iff, Bool.or_eq_true, decide_eq_true_eq, decide_eq_true_eq, decide_eq_true_eq, List.mem_append, List.mem_singleton]
      exact or_congr Iff.rfl ⟨Eq.symm, Eq.symm⟩
/-! least and greatest places -/
end K34

namespace K34
open PySem PySem.Spec PyProof.Rows L2 Dw
variable [Tabs0]
def spRulesOf : Spc where
  ty := Nat × Nat
  args := fun x => [.int x.1, .int x.2]
  ok := fun x => x.2 ≤ 20
  rel := fun x d => d = .tup (ordD ((List.range x.2).filter fun k => x.1.testBit k))
def spCkRule : Spc where
  ty := Nat × Nat
  args := fun x => [.int x.1, .int x.2]
  ok := fun x => x.1 < x.2
  rel := fun _ d => d = .non
theorem fit_still {rs : List (List Nat)} {n : Nat} (hr : ∀ r ∈ rs, RowOk r n) : Still rs n = [] ↔ fitM rs n ≠ [] := by rw [fit_iff]; exact still_fit (sgnOk hr)
end K34

namespace K34
open PySem PySem.Spec PyProof.Rows L2 Dw
variable [Tabs0]
theorem d_rules_of {P : Program} {w : World} {K : PySem.W.Frag} {mg : Str → Option Value} {base : Heap} (T : Txt K w mg) : FnOk P w K mg base CX0 1 T.f_rules_of T.e_rules_of ["head", "many"] (toSp (spRulesOf)) := by
  refine fn_ok T.F_rules_of sc_rules_of (fun _ => rfl) fun cdv A outer s' H E hr => ?_
  refine ⟨_, (pss_one (ps_ret (pe_callTy (tupleA K) (by rfl) T.n_tuple (by decide +kernel) (pa_cons (pe_lc (own := [("rule", 2)]) rfl sc_rules_of.nd (pi_range1 (by rfl) T.n_range (pa_cons (pv 1) pa_nil)) (blkOk_by (own := [("rule", 2)]) (N := N_rules_of) (sc := (defScope s_rules_of)) (by decide +kernel)) (fun _ _ _ _ _ => pg_name (i := 2) sc_rules_of.nd rfl (Or.inl rfl)) (fun _ _ _ _ _ => pts_one (truA K (pe_op op_and (pv 0) (pe_op op_shl pe_int (pv 2))))) (fun _ _ _ _ _ => (pv 2))) pa_nil)))), fun x hx => ?_⟩
  obtain ⟨h, n⟩ := x
  have h8 : n ≤ 20 := hx
  refine ds_ret (Ev.dl (ev_tuple (EvN.b (evn_lc (xs := List.range n) (c := fun k : Nat => D.int k) (p := fun k => h.testBit k) (f := fun k : Nat => D.int k) (ei_range (n := n) (eva_cons (ev_var rfl) eva_nil) (by omega)) (by rw [List.length_range]; omega) fun k hk => ⟨[2], _, dg_name, fun i hi => hi, ?_, fun _ => ev_var rfl⟩))) rfl)
  have hk := List.mem_range.mp hk
  have e := evt_tru_int (K := K) (Γ := [.val (.int (h : Nat)), .val (.int (n : Nat)), .val (.int (k : Nat))]) (ev_op (ev_var (i := 0) (d := .int (h : Nat)) rfl) (ev_op (ev_int (z := 1)) (ev_var (i := 2) rfl) (dr2_shl1 (k := k) (by omega))) (dr2_and (a := h) (b := 2 ^ k)))
  have e2 : (((h &&& 2 ^ k : Nat) : Int) != 0) = h.testBit k := by
    rw [tru_nat]
    have := two_bit (a := h) (k := k)
    by_cases q : h &&& 2 ^ k = 0
    · rw [decide_eq_true q] at this
      rw [decide_eq_false (by rw [q]; exact fun z => z rfl)]
      cases z : h.testBit k with
      | false => rfl
      | true => rw [z] at this; cases this
    · rw [decide_eq_false q] at this
      rw [decide_eq_true q]
      cases z : h.testBit k with
      | true => rfl
      | false => rw [z] at this; cases this
  rw [e2] at e
  exact e
end K34

namespace K34
open PySem PySem.Spec PyProof.Rows L2 Dw
variable [Tabs0]
theorem d_check_rule {P : Program} {w : World} {K : PySem.W.Frag} {mg : Str → Option Value} {base : Heap} (T : Txt K w mg) : FnOk P w K mg base CX0 3 T.f_check_rule T.e_check_rule ["rule", "many"] (toSp (spCkRule)) := by
  refine fn_ok T.F_check_rule sc_check_rule (fun _ => rfl) fun cdv A outer s' H E hr => ?_
  refine ⟨_, (pss_one (ps_if (pt_not (truA K (pe_call (d_is_index T) (hr.mono (by decide)) (by rfl) T.m_is_index T.F_is_index.kp T.b_is_index .nil pass0 (pa_cons (pv 0) (pa_cons (pv 1) pa_nil))))) (pss_one ps_never) pss_nil)), fun x hx => ?_⟩
  obtain ⟨a, n⟩ := x
  have ha : a < n := hx
  have e : idxB (.int (a : Int)) (n : Int) = true := by
    show (decide ((0 : Int) ≤ a) && decide ((a : Int) < n)) = true
    rw [decide_eq_true (by omega), decide_eq_true (by omega)]; rfl
  exact ds_if (EvT.dl (b := false) (evt_not (a := true) (evt_tru_bl (ev_call (s := spIndexG) (d := .bl true) (x := (.int a, n)) (eva_cons (ev_var rfl) (eva_cons (ev_var rfl) eva_nil)) rfl rfl fun d h => by rw [h]; exact congrArg D.bl e))) ⟨fun h => (nomatch h), fun _ => ds_next rfl⟩)
end K34

namespace K34
open PySem PySem.Spec PyProof.Rows L2 Dw
variable [Tabs0]
/-! lots in order, and the least ones -/
theorem bits_head {n : Nat} {o : List Nat} (h : o ∈ lots n) : ((List.range n).filter fun k => (headOf o).testBit k) = o := by
  have ok := lots_ok n o h
  have e : ((List.range n).filter fun k => (headOf o).testBit k) = (List.range n).filter fun k => decide (k ∈ o) := List.filter_congr fun k _ => head_bits h k
  rw [e]
  have pm : ((List.range n).filter fun k => decide (k ∈ o)).Perm o := nodup_ext (List.nodup_range.sublist List.filter_sublist) (ok.inc.imp fun h => Nat.ne_of_lt h) fun k => by
    rw [List.mem_filter, List.mem_range, decide_eq_true_eq]
    exact ⟨fun h => h.2, fun h => ⟨ok.lt k h, h⟩⟩
  exact pm.eq_of_pairwise (le := (· < ·)) (fun a b _ _ h1 h2 => absurd h1 (Nat.lt_asymm h2)) (List.pairwise_lt_range.filter _) ok.inc
theorem lots_bits (n : Nat) : ((List.range (2 ^ n)).map fun h => (List.range n).filter fun k => h.testBit k) = lots n := by
  rw [← head_range, List.map_map]
  exact (List.map_congr_left fun o ho => bits_head ho).trans (List.map_id _)
def lotsO (n : Nat) : List (List Nat) := (lots n).mergeSort lotLe
theorem lotsO_mem {n : Nat} {o : List Nat} : o ∈ lotsO n ↔ o ∈ lots n := (List.mergeSort_perm _ _).mem_iff
theorem lotsO_len (n : Nat) : (lotsO n).length = 2 ^ n := by unfold lotsO; rw [List.length_mergeSort, lots_len]
def partB (lot : List Nat) (others : List (List Nat)) : Bool := others.any fun o => o.all fun k => decide (k ∈ lot)
def leastIn (p : List Nat → Bool) (acc : List (List Nat)) (l : List Nat) : List (List Nat) := if (p l && !partB l acc) = true then acc ++ [l] else acc
def leastM (p : List Nat → Bool) (ls : List (List Nat)) : List (List Nat) := ls.foldl (leastIn p) []
def meetB (heads : List Nat) (lot : List Nat) : Bool := heads.all fun h => decide (headOf lot &&& h ≠ 0)
def reasM (rs : List (List Nat)) (n k : Nat) : List (List Nat) := leastM (meetB (headsM rs n k)) (lotsO n)
theorem least_snoc {p : List Nat → Bool} (ls : List (List Nat)) (l : List Nat) : leastM p (ls ++ [l]) = leastIn p (leastM p ls) l := by
  unfold leastM
  rw [List.foldl_append]; rfl
theorem least_acc {p : List Nat → Bool} {ls acc : List (List Nat)} : ∀ {o}, o ∈ acc → o ∈ ls.foldl (leastIn p) acc := by
  induction ls generalizing acc with
  | nil => exact fun h => h
  | cons l ls ih =>
    intro o h
    rw [List.foldl_cons]
    refine ih ?_
    unfold leastIn
    split
    · exact List.mem_append_left _ h
    · exact h
theorem least_mem {p : List Nat → Bool} {ls acc : List (List Nat)} : ∀ {o}, o ∈ ls.foldl (leastIn p) acc → o ∈ acc ∨ (o ∈ ls ∧ p o = true) := by
  induction ls generalizing acc with
  | nil => exact fun h => .inl h
  | cons l ls ih =>
    intro o h
    rw [List.foldl_cons] at h
    rcases ih h with h | ⟨h1, h2⟩
    · unfold leastIn at h
      split at h
      · rename_i hp
        rcases List.mem_append.mp h with h | h
        · exact .inl h
        · rw [List.mem_singleton.mp h]
          rw [Bool.and_eq_true] at hp
          exact .inr ⟨List.mem_cons_self, hp.1⟩
      · exact .inl h
    · exact .inr ⟨List.mem_cons_of_mem _ h1, h2⟩
theorem part_iff {lot : List Nat} {others : List (List Nat)} : partB lot others = true ↔ ∃ o ∈ others, ∀ k ∈ o, k ∈ lot := by
  unfold partB
  rw [List.any_eq_true]
  constructor
  · rintro ⟨o, ho, h⟩
    exact ⟨o, ho, fun k hk => of_decide_eq_true (List.all_eq_true.mp h k hk)⟩
  · rintro ⟨o, ho, h⟩
    exact ⟨o, ho, List.all_eq_true.mpr fun k hk => decide_eq_true (h k hk)⟩
/-- of all that are so, one of the least is a part -/
theorem least_part {p : List Nat → Bool} {ls acc : List (List Nat)} : ∀ {o}, o ∈ ls → p o = true → ∃ q ∈ ls.foldl (leastIn p) acc, ∀ k ∈ q, k ∈ o := by
  induction ls generalizing acc with
  | nil => exact fun h => absurd h (by simp)
  | cons l ls ih =>
    intro o h hp
    rw [List.foldl_cons]
    rcases List.mem_cons.mp h with rfl | h
    · cases e : partB o acc with
      | true =>
        obtain ⟨q, hq, hs⟩ := part_iff.mp e
        refine ⟨q, least_acc ?_, hs⟩
        unfold leastIn
        split
        · exact List.mem_append_left _ hq
        · exact hq
      | false =>
        refine ⟨o, least_acc ?_, fun k h => h⟩
        unfold leastIn
        rw [if_pos (by rw [hp, e]; rfl)]
        exact List.mem_append_right _ (List.mem_singleton.mpr rfl)
    · exact ih h hp
theorem least_len {p : List Nat → Bool} {ls acc : List (List Nat)} : (ls.foldl (leastIn p) acc).length ≤ acc.length + ls.length := by
  induction ls generalizing acc with
  | nil => exact Nat.le_refl _
  | cons l ls ih =>
    rw [List.foldl_cons, List.length_cons]
    refine Nat.le_trans ih ?_
    unfold leastIn
    split
    · rw [List.length_append]; simp; omega
    · omega
def spAllLots : Spc where
  ty := Nat
  args := fun n => [.tag (.int n)]
  ok := fun n => n ≤ 10
  rel := fun n d => d = .lst (ordT (lotsO n))
def spPart : Spc where
  ty := List Nat × List (List Nat)
  args := fun x => [.tup (ordD x.1), .lst (ordT x.2)]
  ok := fun x => x.2.length ≤ 100000 ∧ ∀ o ∈ x.2, o.length ≤ 100000
  rel := fun x d => d = .bl (partB x.1 x.2)
def spLeast : Spc where
  ty := List Nat × Nat
  args := fun x => [.tag (.lst (ordD x.1)), .int x.2]
  ok := fun x => x.1.length ≤ 1000 ∧ x.2 ≤ 8
  rel := fun x d => d = .lst (ordT (leastM (meetB x.1) (lotsO x.2)))
def spReasons (C : Addr) : Spc where
  ty := Bk × Nat
  args := fun x => [.tag (bookD C x.1.1 x.1.2), .int x.2]
  ok := fun x => BookOk x.1.1 x.1.2 ∧ x.2 < x.1.1.length ∧ Still x.1.2 x.1.1.length = []
  rel := fun x d => d = .tup (ordT (reasM x.1.2 x.1.1.length x.2))
theorem pow10 {n : Nat} (h : n ≤ 10) : 2 ^ n ≤ 1024 := Nat.le_trans (Nat.pow_le_pow_right (by decide) h) (by decide)
theorem np_ot (os : List (List Nat)) : noP (.lst (ordT os)) = true := noPs_map (f := fun o => D.tup (ordD o)) (fun o => np_ord o) os
end K34

namespace K34
open PySem PySem.Spec PyProof.Rows L2 Dw
variable [Tabs0]
theorem d_all_lots {P : Program} {w : World} {K : PySem.W.Frag} {mg : Str → Option Value} {base : Heap} (T : Txt K w mg) (TB_all_lots : LamX.TabB base mg T.lc_all_lots T.lt_all_lots) : FnOk P w K mg base CX0 2 T.f_all_lots T.e_all_lots ["many"] (toSp (spAllLots)) := by
  refine fnC_ok T.FC_all_lots sc_all_lots (fun _ => rfl) fun A outer s' H E hr => ?_
  refine ⟨_, (pss_cons (ps_setLc (i := 1) (own := [("head", 2)]) rfl sc_all_lots.nd rfl rfl (sw_true rfl rfl rfl (by decide +kernel)) (pi_range1 (by rfl) T.n_range (pa_cons (pe_op op_shl pe_int (pv 0)) pa_nil)) (blkOk_by (own := [("head", 2)]) (N := N_all_lots) (sc := (defScope s_all_lots)) (by decide +kernel)) (fun _ _ _ _ _ => pg_name (i := 2) sc_all_lots.nd rfl (Or.inl rfl)) (fun _ _ _ _ _ => pts_nil) (fun _ _ _ _ _ => (pe_call (d_rules_of T) (hr.mono (by decide)) (by rfl) T.m_rules_of T.F_rules_of.kp T.b_rules_of .nil pass0 (pa_cons (pv 2) (pa_cons (pv 0) pa_nil))))) (pss_one (ps_ret (pe_sortKL (T := T.tts) (c := T.lc_all_lots) (P := T.lt_all_lots) (pv 1) (by rfl) T.n_sorted T.n_len TB_all_lots rfl T.hm_all_lots (T.tabs.uniq T.hm_all_lots) (hr.mono (by decide)) rfl rfl (by decide +kernel) (fun _ _ _ _ _ _ => rfl) rfl rfl rfl (by decide +kernel) rfl rfl)))), fun x hx => ?_⟩
  obtain ⟨n, rfl⟩ : ∃ l : Nat, l = x := ⟨x, rfl⟩
  have h8 : n ≤ 10 := hx
  have p8 := pow10 h8
  refine ds_seq (ds_asg (Ev.dl (ev_cast (d' := .lst (ordT (lots n))) ?c (EvN.ev (evn_lc1 (xs := List.range (2 ^ n)) (c := fun k : Nat => D.int k) (f := fun h => D.tup (ordD ((List.range n).filter fun k => h.testBit k))) (ei_range (n := 2 ^ n) (eva_cons (ev_op ev_int (ev_untag (ev_var rfl)) (dr2_shl1 (by omega))) eva_nil) (by omega)) (by rw [List.length_range]; omega) fun h hh => ⟨[2], _, dg_name, fun i hi => hi, evt_yes, ev_call (s := spRulesOf) (x := (h, n)) (eva_cons (ev_var rfl) (eva_cons (ev_untag (ev_var rfl)) eva_nil)) rfl (by show n ≤ 20; omega) fun d h => h⟩))) ?_))
  case c =>
    rw [← lots_bits n]
    unfold ordT
    rw [List.map_map]; rfl
  exact ds_ret (dl_sortKL (i := 0) (l := lots n) T.tabs T.hm_all_lots rfl TgS.tag (Ev.b (ev_var rfl)) rfl)
end K34

namespace K34
open PySem PySem.Spec PyProof.Rows L2 Dw
variable [Tabs0]
theorem d_has_part {P : Program} {w : World} {K : PySem.W.Frag} {mg : Str → Option Value} {base : Heap} (T : Txt K w mg) : FnOk P w K mg base CX0 1 T.f_has_part T.e_has_part ["lot", "others"] (toSp (spPart)) := by
  refine fn_ok T.F_has_part sc_has_part (fun _ => rfl) fun cdv A outer s' H E hr => ?_
  refine ⟨_, (pss_one (ps_ret (pe_callB (anyA K) (by rfl) T.n_any (by decide +kernel) (pa_cons (pe_lc (own := [("other", 2)]) rfl sc_has_part.nd (piR K (pv 1)) (blkOk_by (own := [("other", 2)]) (N := N_has_part) (sc := (defScope s_has_part)) (by decide +kernel)) (fun _ _ _ _ _ => pg_name (i := 2) sc_has_part.nd rfl (Or.inl rfl)) (fun _ _ _ _ _ => pts_nil) (fun _ _ _ _ _ => (pe_callB (allA K) (by rfl) T.n_all (by decide +kernel) (pa_cons (pe_lc (own := [("index", 3)]) rfl sc_has_part.nd (piR K (pv 2)) (blkOk_by (own := [("index", 3)]) (N := N_has_part) (sc := (relS { kind := .function, names := [(".0", .local), ("other", .local), ("all", .globalImplicit), ("lot", .free)], isGenerator := false, isCoroutine := false, more := [] } (defScope s_has_part))) (by decide +kernel)) (fun _ _ _ _ _ => pg_name (i := 3) sc_has_part.nd rfl (Or.inl rfl)) (fun _ _ _ _ _ => pts_nil) (fun _ _ _ _ _ => (pe_cmpR (inA K) (pv 3) (pv 0) (by rfl)))) pa_nil)))) pa_nil)))), fun x hx => ?_⟩
  obtain ⟨l, os⟩ := x
  obtain ⟨hz, ho⟩ := hx
  have hz : os.length ≤ 100000 := hz
  refine ds_ret (Ev.dl (ev_any (bs := os.map fun o => o.all fun k => decide (k ∈ l)) (EvN.b ?e)) ?_)
  case e =>
    rw [List.map_map]
    refine evn_lc1 (xs := os) (c := fun o => .tup (ordD o)) (f := fun o => D.bl (o.all fun k => decide (k ∈ l))) (ej_list (ev_var (d := .lst (ordT os)) rfl).b) (by omega) fun o hm => ⟨[2], _, dg_name, fun i hi => hi, evt_yes, ev_cast (congrArg D.bl (by rw [List.all_map]; rfl)) (ev_all (bs := o.map fun k => decide (k ∈ l)) (EvN.b ?_))⟩
    have hl : o.length ≤ 100000 := ho o hm
    rw [List.map_map]
    exact evn_lc1 (xs := o) (c := fun k : Nat => D.int k) (f := fun k => D.bl (decide (k ∈ l))) (ej_tup (ev_var (d := .tup (ordD o)) rfl)) (by omega) fun k hk => ⟨[3], _, dg_name, fun i hi => hi, evt_yes, ev_inOT (neg := false) (l := l) (ev_var rfl) (ev_var rfl)⟩
  show D.bl _ = D.bl (partB l os)
  unfold partB
  rw [List.any_map]; rfl
end K34

namespace K34
open PySem PySem.Spec PyProof.Rows L2 Dw
variable [Tabs0]
theorem d_least_lots {P : Program} {w : World} {K : PySem.W.Frag} {mg : Str → Option Value} {base : Heap} (T : Txt K w mg) (TB_all_lots : LamX.TabB base mg T.lc_all_lots T.lt_all_lots) : FnOk P w K mg base CX0 3 T.f_least_lots T.e_least_lots ["heads", "many"] (toSp (spLeast)) := by
  refine fn_ok T.F_least_lots sc_least_lots (fun _ => rfl) fun cdv A outer s' H E hr => ?_
  refine ⟨_, (pss_cons (ps_set (i := 2) sc_least_lots.nd rfl (Or.inl rfl) (pe_lst pa_nil)) (pss_cons (ps_for PassesOwn.never rfl (piR K (pe_call (d_all_lots T TB_all_lots) (hr.mono (by decide)) (by rfl) T.m_all_lots T.F_all_lots.kp T.b_all_lots .nil pass0 (pa_cons (pv 1) pa_nil))) (pg_name (i := 3) sc_least_lots.nd rfl (Or.inl rfl)) (pss_one (ps_if (PW.pt (pw_and (truA K (pe_call (d_meets_all T) (hr.mono (by decide)) (by rfl) T.m_meets_all T.F_meets_all.kp T.b_meets_all .nil pass0 (pa_cons (pe_call (d_head_of T) (hr.mono (by decide)) (by rfl) T.m_head_of T.F_head_of.kp T.b_head_of .nil pass0 (pa_cons (pv 3) pa_nil)) (pa_cons (pv 0) pa_nil)))) (pw_and1 (pt_not (truA K (pe_call (d_has_part T) (hr.mono (by decide)) (by rfl) T.m_has_part T.F_has_part.kp T.b_has_part .nil pass0 (pa_cons (pv 3) (pa_cons (pv 2) pa_nil)))))))) (pss_one (ps_expr (bmA K PySem.F.plainAttrs_list PySem.F.slot_list_append PySem.F.type_list_append mt_append (pv 2) (pa_cons (pv 3) pa_nil)))) pss_nil))) (pss_one (ps_ret (pv 2))))), fun x hx => ?_⟩
  obtain ⟨hs, n⟩ := x
  obtain ⟨hz, h8⟩ := hx
  have hz : hs.length ≤ 1000 := hz
  have h8 : n ≤ 8 := h8
  have p8 := pow8 h8
  refine ds_seq (ds_asg_own (evn_lst eva_nil (Nat.zero_le _)) ?_)
  refine ds_seq (ds_for (fun xs i Γ' => xs = ordT (lotsO n) ∧ ∃ s3 : Sl, Γ' = [.val (.tag (.lst (ordD hs))), .val (.int n), .own (ordT (leastM (meetB hs) ((lotsO n).take i))), s3])
    (dj_list (dl_call (s := spAllLots) (dla_cons (Ev.dl (ev_tag (i := 0) rfl TgS.tag (ev_var rfl)) (dla_nil ⟨n, rfl, by show n ≤ 10; omega, fun d hd => ?_⟩))))))
  have hd : d = .lst (ordT (lotsO n)) := hd
  subst hd
  refine ⟨ordT (lotsO n), rfl, ⟨rfl, _, rfl⟩, fun i x Γ' hx' ⟨exs, s3, e⟩ => ?_, fun Γ' ⟨exs, s3, e⟩ => ?_⟩
  · subst e
    have hx3 : ((lotsO n).map fun o => D.tup (ordD o))[i]? = some x := hx'
    rw [List.getElem?_map] at hx3
    cases q : (lotsO n)[i]? with
    | none => rw [q] at hx3; cases hx3
    | some o =>
      rw [q] at hx3; cases hx3
      have hm : o ∈ lots n := lotsO_mem.mp (List.mem_of_getElem? q)
      have ok := lots_ok n o hm
      have ol := lot_len ok
      have tk : (lotsO n).take (i + 1) = (lotsO n).take i ++ [o] := by rw [List.take_add_one, q]; rfl
      have al : (leastM (meetB hs) ((lotsO n).take i)).length ≤ 256 := by
        have := least_len (p := meetB hs) (ls := (lotsO n).take i) (acc := [])
        rw [List.length_take, lotsO_len] at this
        show ((lotsO n).take i |>.foldl (leastIn (meetB hs)) []).length ≤ 256
        simp at this; omega
      have am : ∀ p ∈ leastM (meetB hs) ((lotsO n).take i), p.length ≤ 100000 := fun p hp => by
        rcases least_mem hp with hp | ⟨hp, _⟩
        · simp at hp
        · have := lot_len (lots_ok n p (lotsO_mem.mp (List.mem_of_mem_take hp)))
          omega
      have ms : meetB hs o = hs.all fun h => decide (headOf o &&& h ≠ 0) := rfl
      refine ⟨[3], _, dg_name, ds_if (EvT.dl (b := meetB hs o && !partB o (leastM (meetB hs) ((lotsO n).take i))) (evt_and (evt_tru_bl (ev_call (s := spMeets) (d := .bl (meetB hs o)) (x := (headOf o, hs)) (eva_cons (ev_call (s := spHeadOf) (d := .int (headOf o : Nat)) (x := (o, false)) (eva_cons (ev_var rfl) eva_nil) (np_to (r := []) rfl) ⟨by show o.length ≤ 1000; omega, fun k hk => by have := ok.lt k hk; omega⟩ fun d h => h) (eva_cons (ev_untag (ev_var rfl)) eva_nil)) (np_lo (r := []) rfl) hz fun d h => h)) fun _ => evt_not (evt_lend 2 rfl (evt_tru_bl (ev_call (s := spPart) (d := .bl (partB o (leastM (meetB hs) ((lotsO n).take i)))) (x := (o, leastM (meetB hs) ((lotsO n).take i))) (eva_cons (ev_var rfl) (eva_cons (ev_var rfl) eva_nil)) ?np ⟨by show (leastM (meetB hs) ((lotsO n).take i)).length ≤ 100000; omega, am⟩ fun d h => h)))) ⟨fun h => ?_, fun h => ds_next ?_⟩)⟩
      case np =>
        show (noPs (ordD o) && (noP (.lst (ordT _)) && true)) = true
        rw [np_ord, np_ot]; rfl
      · refine ds_drop (dl_append ⟨_, rfl⟩ (dla_cons (Ev.dl (ev_var rfl) (dla_nil ⟨_, ordT (leastM (meetB hs) ((lotsO n).take i)), rfl, rfl, ?_, rfl, .val (.tup (ordD o)), ?_⟩))))
        · rw [ordT_len]
          exact Nat.lt_of_le_of_lt (by omega : _ ≤ 256) (by decide)
        · rw [tk, least_snoc]
          unfold leastIn
          rw [if_pos h]
          unfold ordT
          rw [List.map_append]; rfl
      · refine ⟨rfl, .val (.tup (ordD o)), ?_⟩
        rw [tk, least_snoc]
        unfold leastIn
        rw [if_neg (by rw [h]; decide)]; rfl
  · subst e
    rw [ordT_len, List.take_length]
    exact ds_ret_own rfl rfl
end K34

namespace K34
open PySem PySem.Spec PyProof.Rows L2 Dw
variable [Tabs0]
theorem d_reasons {P : Program} {w : World} {K : PySem.W.Frag} {mg : Str → Option Value} {base : Heap} (T : Txt K w mg) (TB_all_lots : LamX.TabB base mg T.lc_all_lots T.lt_all_lots) : FnOk P w K mg base CX0 5 T.f_reasons T.e_reasons ["book", "rule"] (toSp (spReasons T.C_Book)) := by
  refine fn_ok T.F_reasons sc_reasons (fun _ => rfl) fun cdv A outer s' H E hr => ?_
  refine ⟨_, (pss_cons (ps_expr (pe_call (d_check_book T) (hr.mono (by decide)) (by rfl) T.m_check_book T.F_check_book.kp T.b_check_book .nil pass0 (pa_cons (pv 0) pa_nil))) (pss_cons (ps_set (i := 2) sc_reasons.nd rfl (Or.inl rfl) (pe_callB (lenA K) (by rfl) T.n_len (by decide +kernel) (pa_cons (pe_prop (pv 0) T.cl_Book T.p_Book_names (d_Book_names T) (hr.mono (by decide)) T.b_Book_names .nil pass0 rfl) pa_nil))) (pss_cons (ps_expr (pe_call (d_check_rule T) (hr.mono (by decide)) (by rfl) T.m_check_rule T.F_check_rule.kp T.b_check_rule .nil pass0 (pa_cons (pv 1) (pa_cons (pv 2) pa_nil)))) (pss_cons (ps_expr (pe_call (d_check_some_fits T) (hr.mono (by decide)) (by rfl) T.m_check_some_fits T.F_check_some_fits.kp T.b_check_some_fits .nil pass0 (pa_cons (pv 0) pa_nil))) (pss_one (ps_ret (pe_callTy (tupleA K) (by rfl) T.n_tuple (by decide +kernel) (pa_cons (pe_call (d_least_lots T TB_all_lots) (hr.mono (by decide)) (by rfl) T.m_least_lots T.F_least_lots.kp T.b_least_lots .nil pass0 (pa_cons (pe_ix (ixA K) (pe_call (d_heads_above T) (hr.mono (by decide)) (by rfl) T.m_heads_above T.F_heads_above.kp T.b_heads_above .nil pass0 (pa_cons (pe_prop (pv 0) T.cl_Book T.p_Book_rows (d_Book_rows T) (hr.mono (by decide)) T.b_Book_rows .nil pass0 rfl) (pa_cons (pv 2) pa_nil))) (pv 1) (fun _ _ => rfl)) (pa_cons (pv 2) pa_nil))) pa_nil)))))))), fun x hx => ?_⟩
  obtain ⟨⟨ls, rs⟩, k⟩ := x
  obtain ⟨hb, hk, hs⟩ := hx
  have hb : BookOk ls rs := hb
  have hk : k < ls.length := hk
  have hs : Still rs ls.length = [] := hs
  have h8 := hb.n8
  have p8 := pow8 h8
  have hl : (headsM rs ls.length k).length ≤ 256 := Nat.le_trans (List.length_filter_le _ _) (by rw [List.length_range]; exact p8)
  refine ds_seq (ds_drop (Ev.dl (ev_call (s := spCheck T.C_Book) (x := (ls, rs)) (eva_cons (ev_untag (ev_var rfl)) eva_nil) (np_book _ ls rs) trivial fun d h => h) ?_))
  refine ds_seq (ds_asg (Ev.dl (ev_names (C := T.C_Book) (rs := rs) (ev_prop (s := spBNames T.C_Book) (x := (ls, rs)) (ev_untag (ev_var rfl)) rfl (np_book _ ls rs) trivial fun d h => h)) ?_))
  refine ds_seq (ds_drop (Ev.dl (ev_call (s := spCkRule) (x := (k, ls.length)) (eva_cons (ev_var rfl) (eva_cons (ev_var rfl) eva_nil)) rfl hk fun d h => h) ?_))
  refine ds_seq (ds_drop (Ev.dl (ev_call (s := spCkFits T.C_Book) (x := (ls, rs)) (eva_cons (ev_untag (ev_var rfl)) eva_nil) (np_book _ ls rs) ⟨hb, hs⟩ fun d h => h) ?_))
  refine ds_ret (dl_tuple (dl_call (s := spLeast) (dla_cons (Ev.dl (ev_tag (i := 0) rfl TgS.tag (ev_ix (ds := lolD ((List.range ls.length).map (headsM rs ls.length))) (d := .lst (ordD (headsM rs ls.length k))) (Ev.b (ev_call (s := spHeads) (d := .lst (lolD ((List.range ls.length).map (headsM rs ls.length)))) (x := (rs, ls.length)) (eva_cons (ev_prop (s := spBRows T.C_Book) (x := (ls, rs)) (ev_untag (ev_var rfl)) rfl (np_book _ ls rs) trivial fun d h => h) (eva_cons (ev_var rfl) eva_nil)) (np_tn (r := [_]) rfl) ⟨hb.rows, h8, Nat.le_trans hb.few (by decide)⟩ fun d h => h)) (ev_var (d := .int (k : Nat)) rfl) ?aat)) (dla_cons (Ev.dl (ev_var rfl) (dla_nil ⟨(headsM rs ls.length k, ls.length), rfl, ⟨by show (headsM rs ls.length k).length ≤ 1000; omega, h8⟩, fun d hd => ?_⟩)))))))
  case aat =>
    have := lolD_at (l := (List.range ls.length).map (headsM rs ls.length)) (i := k) (by rw [List.length_map, List.length_range]; exact hk)
    rw [this, List.getD_eq_getElem?_getD, List.getElem?_map, List.getElem?_range hk]; rfl
  have hd : d = .lst (ordT (reasM rs ls.length k)) := hd
  subst hd
  exact ⟨_, rfl, rfl⟩

end K34

namespace K34
open PySem PySem.Spec PyProof.Rows L2 Dw
variable [Tabs0]
/-! what the reasons say of the rankings that fit -/
theorem and_bit {a b : Nat} : a &&& b ≠ 0 ↔ ∃ j, a.testBit j = true ∧ b.testBit j = true := by
  constructor
  · intro h
    refine Classical.byContradiction fun z => h (Nat.eq_of_testBit_eq fun j => ?_)
    rw [Nat.testBit_and, Nat.zero_testBit]
    cases e1 : a.testBit j with
    | false => rfl
    | true =>
      cases e2 : b.testBit j with
      | false => rfl
      | true => exact absurd ⟨j, e1, e2⟩ z
  · rintro ⟨j, h1, h2⟩ z
    have := congrArg (fun x => Nat.testBit x j) z
    simp only [Nat.testBit_and, Nat.zero_testBit, h1, h2] at this
    cases this
theorem meet_iff {rs : List (List Nat)} {n k : Nat} {S : List Nat} (hr : ∀ r ∈ rs, RowOk r n) (hk : k < n) (hS : S ∈ lots n) : meetB (headsM rs n k) S = true ↔ ∀ p q, p ++ k :: q ∈ fitM rs n → ∃ j ∈ S, j ∈ p := by
  unfold meetB
  rw [List.all_eq_true]
  constructor
  · intro h p q hf
    obtain ⟨g, hg, hb⟩ := heads_of hr hk hf
    obtain ⟨j, h1, h2⟩ := and_bit.mp (of_decide_eq_true (h g hg))
    rw [head_bits hS j] at h1
    rw [hb j] at h2
    exact ⟨j, of_decide_eq_true h1, of_decide_eq_true h2⟩
  · intro h g hg
    obtain ⟨_, p, q, hf, hb⟩ := heads_to hr hk hg
    obtain ⟨j, h1, h2⟩ := h p q hf
    exact decide_eq_true (and_bit.mpr ⟨j, by rw [head_bits hS j]; exact decide_eq_true h1, by rw [hb j]; exact decide_eq_true h2⟩)
theorem cut_fit {rs : List (List Nat)} {n k : Nat} {o : List Nat} (hk : k < n) (ho : o ∈ fitM rs n) : ∃ p q, o = p ++ k :: q ∧ k ∉ p := by
  obtain ⟨hp, _⟩ := fitM_mem.mp ho
  obtain ⟨p, q, e, _, nb⟩ := cut_at (hp.mem_iff.mpr (List.mem_range.mpr hk))
  exact ⟨p, q, e, nb⟩
theorem reas_mem {rs : List (List Nat)} {n k : Nat} {S : List Nat} (h : S ∈ reasM rs n k) : S ∈ lots n ∧ meetB (headsM rs n k) S = true := by
  rcases least_mem h with h | ⟨h1, h2⟩
  · simp at h
  · exact ⟨lotsO_mem.mp h1, h2⟩
theorem lotsO_inc (n : Nat) : (lotsO n).Pairwise fun a b => lotLe a b = true := List.pairwise_mergeSort lotLe_trans lotLe_total _
theorem lots_nodup (n : Nat) : (lots n).Nodup := by
  have h : ((lots n).map headOf).Nodup := by rw [head_range]; exact List.nodup_range
  exact (List.nodup_iff_pairwise_ne.mpr (((List.pairwise_map.mp (List.nodup_iff_pairwise_ne.mp h))).imp fun {a b} h e => h (by rw [e])))
theorem lotsO_nodup (n : Nat) : (lotsO n).Nodup := (List.mergeSort_perm _ _).nodup_iff.mpr (lots_nodup n)
/-- a least one has no smaller one that is so -/
theorem least_min {p : List Nat → Bool} {n : Nat} {S S' : List Nat} (h : S ∈ leastM p (lotsO n)) (h' : S' ∈ lots n) (hs : ∀ k ∈ S', k ∈ S) (hl : S'.length < S.length) : p S' = false := by
  cases e : p S' with
  | false => rfl
  | true =>
    exfalso
    have hS : S ∈ lotsO n := (least_mem h).elim (fun z => absurd z (by simp)) fun z => z.1
    obtain ⟨A, B, eq⟩ := List.append_of_mem hS
    have nd := lotsO_nodup n
    have inc := lotsO_inc n
    have hm : S' ∈ lotsO n := lotsO_mem.mpr h'
    rw [eq] at nd inc hm h
    have nS : S' ≠ S := fun z => by rw [z] at hl; omega
    have hA : S' ∈ A := by
      rcases List.mem_append.mp hm with q | q
      · exact q
      · rcases List.mem_cons.mp q with q | q
        · exact absurd q nS
        · have := (List.pairwise_cons.mp (List.pairwise_append.mp inc).2.1).1 S' q
          unfold lotLe at this
          have := of_decide_eq_true this
          omega
    obtain ⟨nA, nB, nAB⟩ := List.nodup_append.mp nd
    obtain ⟨nSB, _⟩ := List.nodup_cons.mp nB
    have nSA : S ∉ A := fun z => nAB S z S List.mem_cons_self rfl
    obtain ⟨q, hq, hqs⟩ := least_part (acc := []) hA e
    have pb : partB S (leastM p A) = true := part_iff.mpr ⟨q, hq, fun k hk => hs k (hqs k hk)⟩
    have st : leastM p (A ++ S :: B) = B.foldl (leastIn p) (leastM p A) := by
      show (A ++ S :: B).foldl (leastIn p) [] = _
      rw [List.foldl_append, List.foldl_cons]
      congr 1
      show leastIn p (leastM p A) S = leastM p A
      unfold leastIn
      rw [if_neg (by rw [pb]; simp)]
    rw [st] at h
    rcases least_mem h with h | ⟨h, _⟩
    · rcases least_mem h with h | ⟨h, _⟩
      · simp at h
      · exact nSA h
    · exact nSB h
theorem least_congr {p q : List Nat → Bool} {ls acc : List (List Nat)} (h : ∀ l ∈ ls, p l = q l) : ls.foldl (leastIn p) acc = ls.foldl (leastIn q) acc := by
  induction ls generalizing acc with
  | nil => rfl
  | cons l ls ih =>
    rw [List.foldl_cons, List.foldl_cons, ih fun m hm => h m (List.mem_cons_of_mem _ hm)]
    congr 1
    unfold leastIn
    rw [h l List.mem_cons_self]
theorem lots_fil (f : Nat → Bool) : ∀ n, (List.range n).filter f ∈ lots n
  | 0 => by show [] ∈ [[]]; simp
  | n + 1 => by
    rw [List.range_succ, List.filter_append]
    show _ ∈ lots n ++ (lots n).map (· ++ [n])
    have ih := lots_fil f n
    cases e : f n with
    | true => rw [List.filter_cons_of_pos e]; exact List.mem_append_right _ (List.mem_map.mpr ⟨_, ih, rfl⟩)
    | false => rw [List.filter_cons_of_neg (by rw [e]; decide), List.filter_nil, List.append_nil]; exact List.mem_append_left _ ih
theorem lots_all {n : Nat} {o : List Nat} (ok : LotOk o n) : o ∈ lots n := by
  have pm : ((List.range n).filter fun k => decide (k ∈ o)).Perm o := nodup_ext (List.nodup_range.sublist List.filter_sublist) (ok.inc.imp fun h => Nat.ne_of_lt h) fun k => by
    rw [List.mem_filter, List.mem_range, decide_eq_true_eq]
    exact ⟨fun h => h.2, fun h => ⟨ok.lt k h, h⟩⟩
  rw [← pm.eq_of_pairwise (le := (· < ·)) (fun a b _ _ h1 h2 => absurd h1 (Nat.lt_asymm h2)) (List.pairwise_lt_range.filter _) ok.inc]
  exact lots_fil _ n
/-- no reason has the rule itself -/
theorem reas_self {rs : List (List Nat)} {n k : Nat} {S : List Nat} (hr : ∀ r ∈ rs, RowOk r n) (hk : k < n) (h : S ∈ reasM rs n k) : k ∉ S := by
  intro hkS
  obtain ⟨h1, h2⟩ := reas_mem h
  have ok := lots_ok n S h1
  have e : S.filter (fun j => !decide (j = k)) ∈ lots n := lots_all ⟨fun j hj => ok.lt j (List.mem_filter.mp hj).1, ok.inc.filter _⟩
  have hm : meetB (headsM rs n k) (S.filter fun j => !decide (j = k)) = true := (meet_iff hr hk e).mpr fun p q hf => by
    obtain ⟨j, j1, j2⟩ := (meet_iff hr hk h1).mp h2 p q hf
    obtain ⟨hp, _⟩ := fitM_mem.mp hf
    have nd : (p ++ k :: q).Nodup := hp.nodup_iff.mpr List.nodup_range
    have nb : k ∉ p := fun z => (List.nodup_append.mp nd).2.2 k z k List.mem_cons_self rfl
    exact ⟨j, List.mem_filter.mpr ⟨j1, by simp; exact fun z => nb (z ▸ j2)⟩, j2⟩
  have := least_min h e (fun j hj => (List.mem_filter.mp hj).1) (by
    refine Nat.lt_of_le_of_ne (List.length_filter_le _ _) fun z => ?_
    have := List.length_filter_eq_length_iff.mp z k hkS
    simp at this)
  rw [this] at hm
  cases hm
end K34

namespace K34
open PySem PySem.Spec PyProof.Rows L2 Dw
variable [Tabs0]
/-! what can be told -/
mutual
def rOk : Nat → D → Bool
  | _, .non => true | _, .int i => shOk (.int i) && decide (shB (.int i) ≤ 10) | _, .str x => PyData.strOk x && decide (x.length ≤ 300)
  | k + 1, .tup ds => rOks k ds | k + 1, .lst ds => rOks k ds
  | _, _ => false
def rOks : Nat → List D → Bool
  | _, [] => true
  | k, d :: ds => rOk k d && rOks k ds
end
mutual
def cntD : D → Nat
  | .tup ds => cntDs ds + 1 | .lst ds => cntDs ds + 1
  | _ => 1
def cntDs : List D → Nat
  | [] => 0
  | d :: ds => cntD d + cntDs ds
end
mutual
theorem rOk_sh : ∀ (k : Nat) (d : D), rOk k d = true → dOk k d = true ∧ shOk d = true ∧ shB d + 2 ≤ 3010 * cntD d
  | k, .non, _ => ⟨by cases k <;> rfl, rfl, by show 5 + 2 ≤ 3010 * 1; decide⟩
  | k, .int i, h => by
    have h : (shOk (.int i) && decide (shB (.int i) ≤ 10)) = true := by cases k <;> exact h
    rw [Bool.and_eq_true, decide_eq_true_eq] at h
    exact ⟨by cases k <;> rfl, h.1, by show _ ≤ 3010 * 1; have := h.2; omega⟩
  | k, .str x, h => by
    have h : (PyData.strOk x && decide (x.length ≤ 300)) = true := by cases k <;> exact h
    rw [Bool.and_eq_true, decide_eq_true_eq] at h
    obtain ⟨h1, h2⟩ := h
    exact ⟨by cases k <;> exact h1, rfl, by show 10 * x.length + 2 + 2 ≤ 3010 * 1; omega⟩
  | k + 1, .tup ds, h => by
    obtain ⟨h1, h2, h3⟩ := rOks_sh k ds h
    exact ⟨h1, h2, by show shBs ds + 4 + 2 ≤ 3010 * (cntDs ds + 1); omega⟩
  | k + 1, .lst ds, h => by
    obtain ⟨h1, h2, h3⟩ := rOks_sh k ds h
    exact ⟨h1, h2, by show shBs ds + 4 + 2 ≤ 3010 * (cntDs ds + 1); omega⟩
  | 0, .tup _, h => nomatch h
  | 0, .lst _, h => nomatch h
  | k, .bl _, h => by cases k <;> exact nomatch h
  | k, .dct _ _, h => by cases k <;> exact nomatch h
  | k, .obj _ _ _, h => by cases k <;> exact nomatch h
  | k, .raw _, h => by cases k <;> exact nomatch h
  | k, .purse, h => by cases k <;> exact nomatch h
  | k, .rng _ _, h => by cases k <;> exact nomatch h
  | k, .scr _ _, h => by cases k <;> exact nomatch h
  | k, .tag _, h => by cases k <;> exact nomatch h
  | k, .tupN _, h => by cases k <;> exact nomatch h
theorem rOks_sh : ∀ (k : Nat) (ds : List D), rOks k ds = true → dOks k ds = true ∧ shOks ds = true ∧ shBs ds ≤ 3010 * cntDs ds
  | k, [], _ => ⟨by cases k <;> rfl, rfl, by show 0 ≤ _; exact Nat.zero_le _⟩
  | k, d :: ds, h => by
    have e : rOks k (d :: ds) = (rOk k d && rOks k ds) := by cases k <;> rfl
    rw [e, Bool.and_eq_true] at h
    obtain ⟨a1, a2, a3⟩ := rOk_sh k d h.1
    obtain ⟨b1, b2, b3⟩ := rOks_sh k ds h.2
    have e2 : dOks k (d :: ds) = (dOk k d && dOks k ds) := by cases k <;> rfl
    refine ⟨by rw [e2, a1, b1]; rfl, by show (shOk d && shOks ds) = true; rw [a2, b2]; rfl, ?_⟩
    show shB d + 2 + shBs ds ≤ 3010 * (cntD d + cntDs ds)
    omega
end
end K34

namespace K34
open PySem PySem.Spec PyProof.Rows L2 Dw
variable [Tabs0]
abbrev rNotNone : R2 := fun x y H Q => y = .non ∧ Q (.bl (!decide (x = .non))) H
theorem dr2_notN {d : D} {b : Bool} (h : ∀ (W : Wd) v, Rep W d v → (!decide (v = V.non)) = b) : DR2 rNotNone d .non (.bl b) := dr2_flat fun W u v Q r1 r2 k => ⟨r2, by rw [h W u r1]; exact k _ rfl⟩
end K34

namespace K34
open PySem PySem.Spec PyProof.Rows L2 Dw
variable [Tabs0]
/-! claims about a book -/
inductive Cw where
  | fits | quarrels | follows (d : D) | opn (d : D) | above (a b : D)
def Cw.word : Cw → Str
  | .fits => "fits" | .quarrels => "quarrels" | .follows _ => "follows" | .opn _ => "open" | .above _ _ => "above"
def Cw.parts : Cw → List D
  | .fits => [] | .quarrels => [] | .follows d => [d] | .opn d => [d] | .above a b => [a, b]
end K34

namespace K34
open PySem PySem.Spec PyProof.Rows L2 Dw
variable [Tabs0]
/-! the law's own draws -/
def spAnyOf : Spc where
  ty := Bool × List D
  args := fun x => [.purse, if x.1 then .lst x.2 else .tup x.2]
  ok := fun x => 0 < x.2.length ∧ x.2.length < 100000
  rel := fun x d => d ∈ x.2
def spHas : Spc where
  ty := List Nat × List Nat
  args := fun x => [.str (tx x.1), .tup (ordD x.2)]
  ok := fun x => ∃ n, RowOk x.1 n ∧ n ≤ 8 ∧ ∀ k ∈ x.2, k < n
  rel := fun x d => d = .bl (holdsB x.1 x.2)
theorem joinL_cons (s a : List Nat) : ∀ rs : List (List Nat), TL.joinL s (a :: rs) = a ++ (rs.map (s ++ ·)).flatten
  | [] => by simp [TL.joinL]
  | q :: r => by
    show a ++ (s ++ TL.joinL s (q :: r)) = a ++ ((s ++ q) ++ (r.map (s ++ ·)).flatten)
    rw [joinL_cons s q r, List.append_assoc]
end K34

namespace K34
open PySem PySem.Spec PyProof.Rows L2 Dw
variable [Tabs0]
end K34

namespace K34
open PySem PySem.Spec PyProof.Rows L2 Dw
variable [Tabs0]
/-! lots, quarrels and the rows that stay open, by the law's own look -/
theorem evt_castB {t : TT} {Γ : Gam} {b b' : Bool} (h : b = b') (e : EvT t Γ b) : EvT t Γ b' := h ▸ e
end K34

namespace K34
open PySem PySem.Spec PyProof.Rows L2 Dw
variable [Tabs0]
/-! all rankings, and pairs of them -/
def stepO (n : Nat) (o : List Nat) : List (List Nat) := ((List.range n).filter fun k => !decide (k ∈ o)).map fun k => o ++ [k]
def ordersM (n : Nat) : Nat → List (List Nat)
  | 0 => [[]]
  | i + 1 => (ordersM n i).flatMap (stepO n)
structure OrdI (n i : Nat) (o : List Nat) : Prop where
  len : o.length = i
  nd : o.Nodup
  lt : ∀ k ∈ o, k < n
theorem stepO_ok {n i : Nat} {o : List Nat} (h : OrdI n i o) : ∀ p ∈ stepO n o, OrdI n (i + 1) p := fun p hp => by
  obtain ⟨k, hk, rfl⟩ := List.mem_map.mp hp
  obtain ⟨h1, h2⟩ := List.mem_filter.mp hk
  have h1 := List.mem_range.mp h1
  rw [Bool.not_eq_true', decide_eq_false_iff_not] at h2
  refine ⟨by rw [List.length_append, h.len]; rfl, ?_, fun j hj => ?_⟩
  · rw [List.nodup_append]
    refine ⟨h.nd, List.nodup_cons.mpr ⟨by simp, List.nodup_nil⟩, fun a ha b hb z => ?_⟩
    rw [List.mem_singleton.mp hb] at z
    exact h2 (z ▸ ha)
  · rcases List.mem_append.mp hj with hj | hj
    · exact h.lt j hj
    · rw [List.mem_singleton.mp hj]; exact h1
theorem stepO_len (n : Nat) (o : List Nat) : (stepO n o).length ≤ n := by
  unfold stepO
  rw [List.length_map]
  exact Nat.le_trans (List.length_filter_le _ _) (by rw [List.length_range]; exact Nat.le_refl _)
theorem flat_lenZ {α : Type} {n : Nat} (f : α → List α) (h : ∀ a, (f a).length ≤ n) : ∀ l : List α, (l.flatMap f).length ≤ l.length * n
  | [] => Nat.zero_le _
  | a :: l => by
    rw [List.flatMap_cons, List.length_append, List.length_cons, Nat.add_mul, Nat.one_mul]
    have := flat_lenZ f h l
    have := h a
    omega
theorem ordersM_ok (n : Nat) : ∀ i, ∀ o ∈ ordersM n i, OrdI n i o
  | 0, o, h => by
    rw [List.mem_singleton.mp h]
    exact ⟨rfl, List.nodup_nil, fun k h => absurd h (by simp)⟩
  | i + 1, o, h => by
    obtain ⟨p, hp, ho⟩ := List.mem_flatMap.mp h
    exact stepO_ok (ordersM_ok n i p hp) o ho
theorem ordersM_len (n : Nat) : ∀ i, (ordersM n i).length ≤ n ^ i
  | 0 => Nat.le_refl _
  | i + 1 => by
    have h1 := flat_lenZ (stepO n) (stepO_len n) (ordersM n i)
    have h2 := ordersM_len n i
    rw [Nat.pow_succ]
    exact Nat.le_trans h1 (Nat.mul_le_mul_right n h2)
theorem pow5' {i n : Nat} (h : i ≤ 5) (hn : n ≤ 5) : n ^ i ≤ 3125 := Nat.le_trans (Nat.pow_le_pow_left hn i) (Nat.le_trans (Nat.pow_le_pow_right (by decide) h) (by decide))
def spOrders : Spc where
  ty := Nat
  args := fun n => [.int n]
  ok := fun n => n ≤ 5
  rel := fun n d => d = .lst (ordT (ordersM n n))
def fittersM (rs : List (List Nat)) (n : Nat) : List (List Nat) := (ordersM n n).filter fun o => rs.all fun r => holdsB r o
theorem ev_ninT {K : PySem.W.Frag} {Γ : Gam} {ta tb : TE} {r' : R2} {c : Nat} {l : List Nat} (ha : Ev ta Γ (.int c)) (h : Ev tb Γ (.tup (ordD l))) : Ev (tOp (rOr (rIn K true) r') ta tb) Γ (.bl (!decide (c ∈ l))) := by
  have e := ev_inT (neg := true) (K := K) (r' := r') ha h rfl (sc_ord l)
  rw [show scV (.int (c : Int)) = V.int (c : Int) from rfl] at e
  have e2 : inV (.int (c : Int)) ((ordD l).map scV) = decide (c ∈ l) := inV_ord c l
  rw [e2] at e
  exact e
end K34

namespace K34
open PySem PySem.Spec PyProof.Rows L2 Dw
variable [Tabs0]
/-! which rankings fit, by the layers and by walking through all -/
end K34

namespace K34
open PySem PySem.Spec PyProof.Rows L2 Dw
variable [Tabs0]
/-! cases: names with marks -/
structure NumOk (l : List Nat) (k : Nat) : Prop where
  lo : 1 ≤ l.length
  hi : l.length ≤ 2
  dig : ∀ c ∈ l, 48 ≤ c ∧ c ≤ 57
  lead : (decide (l = [48]) || !decide (sgn l 0 = 48)) = true
  val : NumText.digitsVal l = k
def numB (k : Nat) : Bool := decide (1 ≤ (TL.numL k).length) && decide ((TL.numL k).length ≤ 2) && (TL.numL k).all (fun c => decide (48 ≤ c) && decide (c ≤ 57)) && (decide (TL.numL k = [48]) || !decide (sgn (TL.numL k) 0 = 48)) && decide (NumText.digitsVal (TL.numL k) = k)
theorem num_all : (List.range 100).all numB = true := by decide +kernel
theorem num_ok {k : Nat} (h : k < 100) : NumOk (TL.numL k) k := by
  have := List.all_eq_true.mp num_all k (List.mem_range.mpr h)
  unfold numB at this
  rw [Bool.and_eq_true, Bool.and_eq_true, Bool.and_eq_true, Bool.and_eq_true, decide_eq_true_eq, decide_eq_true_eq, decide_eq_true_eq, List.all_eq_true] at this
  obtain ⟨⟨⟨⟨a, b⟩, c⟩, d⟩, e⟩ := this
  refine ⟨a, b, fun x hx => ?_, d, e⟩
  have := c x hx
  rw [Bool.and_eq_true, decide_eq_true_eq, decide_eq_true_eq] at this
  exact this
theorem digitsS : Str.ofString "0123456789" = tx ((List.range 10).map (48 + ·)) := by decide +kernel
theorem zeroS : Str.ofString "0" = ch 48 := by decide +kernel
theorem semiS : Str.ofString "; " = tx [59, 32] := by decide +kernel
def spIsNum : Spc where
  ty := List Nat × Nat
  args := fun x => [.str (tx x.1)]
  ok := fun x => NumOk x.1 x.2
  rel := fun _ d => d = .bl true
def spMark : Spc where
  ty := List Nat × Nat
  args := fun x => [.str (tx x.1)]
  ok := fun x => NumOk x.1 x.2 ∧ x.2 < 100
  rel := fun x d => d = .int x.2
def wordsL (p : List Nat × List Nat) : List (List Nat) := p.1 :: p.2.map TL.numL
def partT (p : List Nat × List Nat) : List Nat := TL.joinL [32] (wordsL p)
def caseTx (ls ms : List (List Nat)) : List Nat := TL.joinL [59, 32] ((ls.zip ms).map partT)
structure CaseOk (ls ms : List (List Nat)) (n : Nat) : Prop where
  names : NamesOk ls
  two : 2 ≤ ls.length
  same : ms.length = ls.length
  wide : ∀ m ∈ ms, m.length = n
  lo : 1 ≤ n
  hi : n ≤ 8
  marks : ∀ m ∈ ms, ∀ k ∈ m, k < 100
def caseD (ls ms : List (List Nat)) : D := .tup [.tupN (nameD ls), .tup (ms.map fun m => .tup (ordD m))]
def spReadC (f : Addr) (b : Bool) : Spc where
  ty := List (List Nat) × List (List Nat) × Nat
  args := fun x => .str (tx (caseTx x.1 x.2.1)) :: (if b then [.raw (.ref f)] else [])
  ok := fun x => CaseOk x.1 x.2.1 x.2.2
  rel := fun x d => d = caseD x.1 x.2.1
def agC (a b : Nat) : Nat := if a < b then 43 else if b < a then 45 else 46
def agR (a b : List Nat) : List Nat := (a.zip b).map fun p => agC p.1 p.2
theorem agR_ok {a b : List Nat} {n : Nat} (h1 : a.length = n) (h2 : b.length = n) : RowOk (agR a b) n := ⟨by unfold agR; rw [List.length_map, List.length_zip]; omega, fun c hc => by
  obtain ⟨p, _, rfl⟩ := List.mem_map.mp hc
  unfold agC
  by_cases h : p.1 < p.2
  · rw [if_pos h]; exact .inl rfl
  · rw [if_neg h]
    by_cases h2 : p.2 < p.1
    · rw [if_pos h2]; exact .inr (.inl rfl)
    · rw [if_neg h2]; exact .inr (.inr rfl)⟩
def spSignOf : Spc where
  ty := Nat × Nat
  args := fun x => [.int x.1, .int x.2]
  ok := fun _ => True
  rel := fun x d => d = .str (ch (agC x.1 x.2))
def spBetween : Spc where
  ty := List Nat × List Nat × Nat
  args := fun x => [.tup (ordD x.1), .tup (ordD x.2.1)]
  ok := fun x => x.1.length = x.2.2 ∧ x.2.1.length = x.2.2 ∧ x.2.2 ≤ 8
  rel := fun x d => d = .str (tx (agR x.1 x.2.1))
theorem ch_sameC {a b : Nat} : decide (ch a = ch b) = decide (a = b) := decide_eq_decide.mpr ch_eq
theorem zip_ord (a b : List Nat) : zipD (ordD a) (ordD b) = (a.zip b).map fun p => D.tup [.int (p.1 : Nat), .int (p.2 : Nat)] := by
  unfold zipD ordD
  rw [List.zip_map, List.map_map]; rfl
theorem ev_strK {Γ : Gam} {ta : TE} {i : Int} (h : Ev ta Γ (.int i)) (hz : i.natAbs.log2 < 1920) : Ev (tCB (fun xs H Q => ∃ i, xs = [.int i] ∧ i.natAbs.log2 < 1920 ∧ Q (.str (toString i)) H) (tCons ta tNil)) Γ (.str (Str.ofString (toString i))) := fun F σ W Q g k =>
  h F σ W _ g fun v H s r => ⟨i, by rw [show v = V.int i from r], hz, k _ H s rfl⟩
theorem ev_intS {Γ : Gam} {ta : TE} {a : Str} {n : Int} (h : Ev ta Γ (.str a)) (hn : PySem.intText? a = some n) (hl : a.length ≤ 640) : Ev (tCB (fun xs H Q => ∃ a n, xs = [.str a] ∧ PySem.intText? a = some n ∧ a.length ≤ 640 ∧ Q (.int n) H) (tCons ta tNil)) Γ (.int n) := fun F σ W Q g k =>
  h F σ W _ g fun v H s r => ⟨a, n, by rw [show v = V.str a from r], hn, hl, k _ H s rfl⟩
theorem NumOk.int {l : List Nat} {k : Nat} (h : NumOk l k) : PySem.intText? (tx l) = some (k : Int) := by
  have := SX.int_S (a := l) (List.all_eq_true.mpr fun c hc => by
    have := h.dig c hc
    rw [Bool.and_eq_true, decide_eq_true_eq, decide_eq_true_eq]; exact this) (fun e => by have := h.lo; rw [e] at this; cases this) (by have := h.hi; omega)
  rw [h.val] at this
  exact this
theorem names_zip {ls ms : List (List Nat)} (h : ms.length = ls.length) : (ls.zip ms).map (·.1) = ls := List.map_fst_zip (by omega)
theorem marks_zip {ls ms : List (List Nat)} (h : ms.length = ls.length) : (ls.zip ms).map (·.2) = ms := List.map_snd_zip (by omega)
theorem joinX_c {c : Nat} {sep : List Nat} (hs : c ∉ sep) : ∀ ps : List (List Nat), (∀ p ∈ ps, c ∉ p) → c ∉ TL.joinL sep ps
  | [], _, hc => absurd hc (by simp [TL.joinL])
  | [l], h, hc => h l List.mem_cons_self (by simpa [TL.joinL] using hc)
  | l :: m :: r, h, hc => by
    have e : TL.joinL sep (l :: m :: r) = l ++ (sep ++ TL.joinL sep (m :: r)) := by simp [TL.joinL]
    rw [e, List.mem_append, List.mem_append] at hc
    rcases hc with hc | hc | hc
    · exact h l List.mem_cons_self hc
    · exact hs hc
    · exact joinX_c hs (m :: r) (fun l' hl => h l' (List.mem_cons_of_mem _ hl)) hc
theorem joinL_lenB {m : Nat} (sep : List Nat) : ∀ ps : List (List Nat), (∀ p ∈ ps, p.length ≤ m) → (TL.joinL sep ps).length ≤ ps.length * (m + sep.length)
  | [], _ => by simp [TL.joinL]
  | [l], h => by
    have := h l List.mem_cons_self
    simp [TL.joinL]; omega
  | l :: q :: r, h => by
    have e : TL.joinL sep (l :: q :: r) = l ++ (sep ++ TL.joinL sep (q :: r)) := by simp [TL.joinL]
    have ih := joinL_lenB sep (q :: r) fun p hp => h p (List.mem_cons_of_mem _ hp)
    have h1 := h l List.mem_cons_self
    rw [e, List.length_append, List.length_append, List.length_cons (a := l), Nat.succ_mul]
    omega
theorem CaseOk.zip {ls ms : List (List Nat)} {n : Nat} (h : CaseOk ls ms n) {p : List Nat × List Nat} (hp : p ∈ ls.zip ms) : NameOk p.1 ∧ p.2.length = n ∧ ∀ k ∈ p.2, k < 100 :=
  ⟨h.names.all _ (List.of_mem_zip hp).1, h.wide _ (List.of_mem_zip hp).2, h.marks _ (List.of_mem_zip hp).2⟩
theorem words_no {p : List Nat × List Nat} {n c : Nat} (h : NameOk p.1 ∧ p.2.length = n ∧ ∀ k ∈ p.2, k < 100) (hc : c = 32 ∨ c = 59) : ∀ w ∈ wordsL p, c ∉ w := fun w hw hm => by
  rcases List.mem_cons.mp hw with rfl | hw
  · have := h.1.all c hm; omega
  · obtain ⟨k, hk, rfl⟩ := List.mem_map.mp hw
    have := (num_ok (h.2.2 k hk)).dig c hm; omega
theorem words_len {p : List Nat × List Nat} {n : Nat} (h : NameOk p.1 ∧ p.2.length = n ∧ ∀ k ∈ p.2, k < 100) : (wordsL p).length = n + 1 := by
  unfold wordsL
  rw [List.length_cons, List.length_map, h.2.1]
theorem words_8 {p : List Nat × List Nat} {n : Nat} (h : NameOk p.1 ∧ p.2.length = n ∧ ∀ k ∈ p.2, k < 100) : ∀ w ∈ wordsL p, w.length ≤ 8 := fun w hw => by
  rcases List.mem_cons.mp hw with rfl | hw
  · exact h.1.hi
  · obtain ⟨k, hk, rfl⟩ := List.mem_map.mp hw
    have := (num_ok (h.2.2 k hk)).hi; omega
theorem CaseOk.part {ls ms : List (List Nat)} {n : Nat} (h : CaseOk ls ms n) {q : List Nat} (hq : q ∈ (ls.zip ms).map partT) : q.length ≤ 81 ∧ 59 ∉ q := by
  obtain ⟨p, hp, rfl⟩ := List.mem_map.mp hq
  have hz := h.zip hp
  refine ⟨?_, joinX_c (by simp) _ fun w hw => words_no hz (.inr rfl) w hw⟩
  have := joinL_lenB (m := 8) [32] (wordsL p) fun w hw => words_8 hz w hw
  rw [words_len hz] at this
  have h8 := h.hi
  have : (n + 1) * (8 + [32].length) ≤ 9 * 9 := Nat.mul_le_mul (by omega) (by decide)
  show (TL.joinL [32] (wordsL p)).length ≤ 81
  omega
theorem CaseOk.zl {ls ms : List (List Nat)} {n : Nat} (h : CaseOk ls ms n) : (ls.zip ms).length = ls.length := by
  rw [List.length_zip, h.same, Nat.min_self]
theorem CaseOk.len {ls ms : List (List Nat)} {n : Nat} (h : CaseOk ls ms n) : (caseTx ls ms).length ≤ 664 := by
  have := joinL_lenB (m := 81) [59, 32] ((ls.zip ms).map partT) fun q hq => (h.part hq).1
  rw [List.length_map, h.zl] at this
  have h8 := h.names.hi
  have : ls.length * (81 + [59, 32].length) ≤ 8 * 83 := Nat.mul_le_mul h8 (by decide)
  unfold caseTx
  omega
theorem CaseOk.split {ls ms : List (List Nat)} {n : Nat} (h : CaseOk ls ms n) : (Txt.split (tx (caseTx ls ms)) (Str.ofString "; ")).map D.str = (ls.zip ms).map fun p => D.str (tx (partT p)) := by
  have hne : (ls.zip ms).map partT ≠ [] := fun e => by
    have h2 := h.two
    have := congrArg List.length e
    rw [List.length_map, h.zl] at this
    have : ls.length = 0 := this
    omega
  have e := SX.split_S (a := caseTx ls ms) (b := [59, 32]) (by simp) (by decide)
  unfold caseTx at e
  rw [SX.spl_join hne fun q hq => (h.part hq).2] at e
  rw [semiS]
  show (Txt.split (tx (TL.joinL [59, 32] ((ls.zip ms).map partT))) (tx [59, 32])).map D.str = _
  rw [show Txt.split (tx (TL.joinL [59, 32] ((ls.zip ms).map partT))) (tx [59, 32]) = ((ls.zip ms).map partT).map tx from e, List.map_map, List.map_map]; rfl
theorem words_split {p : List Nat × List Nat} {n : Nat} (h : NameOk p.1 ∧ p.2.length = n ∧ ∀ k ∈ p.2, k < 100) : (Txt.split (tx (partT p)) (Str.ofString " ")).map D.str = nameD (wordsL p) := by
  unfold partT
  rw [split_sp (by unfold wordsL; simp) (words_no h (.inl rfl)), nameD_map]
theorem inV_non (o : List Nat) : inV .non ((ordD o).map scV) = false := by
  unfold inV ordD
  rw [List.map_map, List.any_map, List.any_eq_false]
  intro k _
  show ¬ (eqV (V.int (k : Int)) V.non = true)
  exact Bool.false_ne_true
end K34

namespace K34
open PySem PySem.Spec PyProof.Rows L2 Dw
variable [Tabs0]
theorem d_is_number {P : Program} {w : World} {K : PySem.W.Frag} {mg : Str → Option Value} {base : Heap} (T : Txt K w mg) : FnOk P w K mg base CX0 1 T.f_is_number T.e_is_number ["word"] (toSp (spIsNum)) := by
  refine fn_ok T.F_is_number sc_is_number (fun _ => rfl) fun cdv A outer s' H E hr => ?_
  refine ⟨_, (pss_cons (ps_if (PW.pt (pw_or (pt_cmpR (eqA K hr.units) (pv 0) pe_str (nomark _)) (pw_or1 (pt_not (truA K (pe_callB (allA K) (by rfl) T.n_all (by decide +kernel) (pa_cons (pe_lc (own := [("digit", 1)]) rfl sc_is_number.nd (piR K (pv 0)) (blkOk_by (own := [("digit", 1)]) (N := N_is_number) (sc := (defScope s_is_number)) (by decide +kernel)) (fun _ _ _ _ _ => pg_name (i := 1) sc_is_number.nd rfl (Or.inl rfl)) (fun _ _ _ _ _ => pts_nil) (fun _ _ _ _ _ => (pe_cmpR (inA K) (pv 1) (pe_glob (v := .str "0123456789") (by rfl) T.c_DIGITS ⟨_, rfl⟩) (by rfl)))) pa_nil))))))) (pss_one (ps_ret pe_bl)) pss_nil) (pss_one (ps_ret (pe_or (pe_cmpR (eqA K hr.units) (pv 0) pe_str (nomark _)) (pe_one (pe_cmpR (neA K hr.units) (pe_ix (ixA K) (pv 0) pe_int (fun _ _ => rfl)) pe_str (nomark _))))))), fun x hx => ?_⟩
  obtain ⟨l, k⟩ := x
  have ho : NumOk l k := hx
  have h1 := ho.lo
  have h2 := ho.hi
  have ne : decide (tx l = Str.ofString "") = false := decide_eq_false fun e => by
    rw [show Str.ofString "" = tx [] by decide +kernel, tx_eq] at e
    rw [e] at h1; exact absurd h1 (by decide)
  refine ds_seq (ds_if (EvT.dl (b := false) (evt_or (a := false) (b := false) (evt_test (ev_op (ev_var rfl) ev_str (eq_sb ne))) fun _ => evt_not (a := true) (evt_tru_bl (ev_cast (congrArg D.bl (all_yes (xs := l) (b := fun _ => true) fun _ _ => rfl)) (ev_all_lc (K := K) (xs := l) (c := fun c => .str (ch c)) (b := fun _ => true) ?it (by omega) fun c hc => ⟨[1], _, dg_name, fun i hi => hi, evt_yes, ev_op (ev_var rfl) ev_str ?dg⟩)))) ⟨fun h => (nomatch h), fun _ => ds_next ?_⟩))
  case it =>
    have := ej_str (K := K) (ta := tVar 0) (Γ := Gz0 2 (spIsNum.args (l, k))) (x := tx l) (ev_var rfl)
    rw [signs_tx, List.map_map] at this
    exact this
  case dg =>
    rw [digitsS]
    have e : decide (c ∈ (List.range 10).map (48 + ·)) = true := decide_eq_true (by
      have := ho.dig c hc
      exact List.mem_map.mpr ⟨c - 48, List.mem_range.mpr (by omega), by omega⟩)
    exact e ▸ in_code
  · refine ds_ret (Ev.dl (ev_cast (congrArg D.bl ho.lead) (ev_orV (ev_op (ev_var rfl) ev_str (eq_sb ?a)) fun _ => ev_op (ev_op (ev_var rfl) ev_int (dr2_ixS (x := tx l) (by rw [tx_len]; exact small (by omega)) (sgn_at (l := l) (k := 0) rfl (by omega)))) ev_str (ne_sb ?b))) rfl)
    case a =>
      rw [zeroS]
      exact decide_eq_decide.mpr (tx_eq (b := [48]))
    case b =>
      rw [zeroS]
      show (!decide (ch (sgn l 0) = ch 48)) = _
      rw [ch_sameC]
end K34

namespace K34
open PySem PySem.Spec PyProof.Rows L2 Dw
variable [Tabs0]
theorem d_read_mark {P : Program} {w : World} {K : PySem.W.Frag} {mg : Str → Option Value} {base : Heap} (T : Txt K w mg) : FnOk P w K mg base CX0 2 T.f_read_mark T.e_read_mark ["word"] (toSp (spMark)) := by
  refine fn_ok T.F_read_mark sc_read_mark (fun _ => rfl) fun cdv A outer s' H E hr => ?_
  refine ⟨_, (pss_cons (ps_if (PW.pt (pw_or (pt_not (truA K (pe_call (d_is_number T) (hr.mono (by decide)) (by rfl) T.m_is_number T.F_is_number.kp T.b_is_number .nil pass0 (pa_cons (pv 0) pa_nil)))) (pw_or (pt_cmpR opGt (pe_callB (lenA K) (by rfl) T.n_len (by decide +kernel) (pa_cons (pv 0) pa_nil)) (pe_callB (lenA K) (by rfl) T.n_len (by decide +kernel) (pa_cons (pe_callTy call_str_int (by rfl) T.n_str (by decide +kernel) (pa_cons (pe_glob (v := .int 99) (by rfl) T.c_MOST_MARKS ⟨_, rfl⟩) pa_nil)) pa_nil)) (nomark _)) (pw_or1 (pt_cmpR opGt (pe_callTy call_int_str (by rfl) T.n_int (by decide +kernel) (pa_cons (pv 0) pa_nil)) (pe_glob (v := .int 99) (by rfl) T.c_MOST_MARKS ⟨_, rfl⟩) (nomark _)))))) (pss_one (ps_ret pe_non)) pss_nil) (pss_one (ps_ret (pe_callTy call_int_str (by rfl) T.n_int (by decide +kernel) (pa_cons (pv 0) pa_nil))))), fun x hx => ?_⟩
  obtain ⟨l, k⟩ := x
  obtain ⟨ho, hk⟩ := hx
  have ho : NumOk l k := ho
  have hk : k < 100 := hk
  have h2 := ho.hi
  have s2 : (Str.ofString (toString (99 : Int))).length = 2 := by decide +kernel
  have hl2 : (tx l).length ≤ 2 := by rw [tx_len]; exact h2
  have hz : (tx l).length ≤ sizeLine := by rw [tx_len]; exact small (by omega)
  have hi : Ev (tCB (fun xs H Q => ∃ a n, xs = [.str a] ∧ PySem.intText? a = some n ∧ a.length ≤ 640 ∧ Q (.int n) H) (tCons (tVar 0) tNil)) (Gz0 1 (spMark.args (l, k))) (.int k) := ev_intS (ev_var rfl) ho.int (Nat.le_trans hl2 (by decide))
  refine ds_seq (ds_if (EvT.dl (b := false) (evt_or (a := false) (b := false) (evt_not (a := true) (evt_tru_bl (ev_call (s := spIsNum) (x := (l, k)) (eva_cons (ev_var rfl) eva_nil) rfl ho fun d h => h))) fun _ => evt_or (a := false) (b := false) (evt_test (ev_op (ev_lenS (ev_var rfl) hz) (ev_lenS (ev_strK ev_int (by decide)) (by rw [s2]; decide)) (gt_b (decide_eq_false (by rw [s2]; show ¬ ((2 : Nat) : Int) < ((tx l).length : Int); omega))))) fun _ => evt_test (ev_op hi ev_int (gt_b (decide_eq_false (by omega))))) ⟨fun h => (nomatch h), fun _ => ds_next (ds_ret (Ev.dl hi rfl))⟩))
end K34

namespace K34
open PySem PySem.Spec PyProof.Rows L2 Dw
variable [Tabs0]
theorem d_sign_of {P : Program} {w : World} {K : PySem.W.Frag} {mg : Str → Option Value} {base : Heap} (T : Txt K w mg) : FnOk P w K mg base CX0 1 T.f_sign_of T.e_sign_of ["mark", "rival"] (toSp (spSignOf)) := by
  refine fn_ok T.F_sign_of sc_sign_of (fun _ => rfl) fun cdv A outer s' H E hr => ?_
  refine ⟨_, (pss_cons (ps_if (pt_cmpR opLt (pv 0) (pv 1) (nomark _)) (pss_one (ps_ret pe_str)) pss_nil) (pss_one (ps_ret (pe_ifExp (pt_cmpR opGt (pv 0) (pv 1) (nomark _)) pe_str pe_str)))), fun x hx => ?_⟩
  obtain ⟨a, b⟩ := x
  refine ds_seq (ds_if (EvT.dl (evt_test (ev_op (ev_var rfl) (ev_var rfl) lt_int')) ⟨fun h => ds_ret (Ev.dl ev_str ?_), fun h => ds_next (ds_ret (Ev.dl (ev_if (evt_test (ev_op (ev_var rfl) (ev_var rfl) dr2_gt)) (fun _ => ev_str) fun _ => ev_str) ?_))⟩))
  · have h : decide ((a : Int) < (b : Int)) = true := h
    have h := of_decide_eq_true h
    show D.str (Str.ofString "+") = D.str (ch (agC a b))
    rw [ch_plus, show agC a b = 43 from if_pos (by omega)]
  · have h : decide ((a : Int) < (b : Int)) = false := h
    have h := of_decide_eq_false h
    by_cases h2 : b < a
    · have e : agC a b = 45 := (if_neg (by omega)).trans (if_pos h2)
      refine (if_pos (decide_eq_true (show (b : Int) < (a : Int) by omega))).trans ?_
      show D.str (Str.ofString "-") = D.str (ch (agC a b))
      rw [ch_minus, e]
    · have e : agC a b = 46 := (if_neg (by omega)).trans (if_neg h2)
      refine (if_neg (by rw [decide_eq_true_eq]; show ¬ (b : Int) < (a : Int); omega)).trans ?_
      show D.str (Str.ofString ".") = D.str (ch (agC a b))
      rw [ch_dot, e]
end K34

namespace K34
open PySem PySem.Spec PyProof.Rows L2 Dw
variable [Tabs0]
theorem d_row_between {P : Program} {w : World} {K : PySem.W.Frag} {mg : Str → Option Value} {base : Heap} (T : Txt K w mg) : FnOk P w K mg base CX0 2 T.f_row_between T.e_row_between ["mine", "theirs"] (toSp (spBetween)) := by
  refine fn_ok T.F_row_between sc_row_between (fun _ => rfl) fun cdv A outer s' H E hr => ?_
  refine ⟨_, (pss_one (ps_ret (joinA K pe_str (pe_lc (own := [("mark", 2), ("rival", 3)]) rfl sc_row_between.nd (zipA K (by rfl) T.n_zip (pa_cons (pv 0) (pa_cons (pv 1) pa_nil))) (blkOk_by (own := [("mark", 2), ("rival", 3)]) (N := N_row_between) (sc := (defScope s_row_between)) (by decide +kernel)) (fun _ _ _ _ _ => tupA K 2 rfl (pgs_cons (pg_name (i := 2) sc_row_between.nd rfl (Or.inl rfl)) (pgs_cons (pg_name (i := 3) sc_row_between.nd rfl (Or.inl rfl)) pgs_nil))) (fun _ _ _ _ _ => pts_nil) (fun _ _ _ _ _ => (pe_call (d_sign_of T) (hr.mono (by decide)) (by rfl) T.m_sign_of T.F_sign_of.kp T.b_sign_of .nil pass0 (pa_cons (pv 2) (pa_cons (pv 3) pa_nil)))))))), fun x hx => ?_⟩
  obtain ⟨a, b, n⟩ := x
  obtain ⟨ha, hb, h8⟩ := hx
  have ha : a.length = n := ha
  have hb : b.length = n := hb
  have h8 : n ≤ 8 := h8
  have hl : (agR a b).length = n := (agR_ok ha hb).len
  refine ds_ret (Ev.dl (ev_join (x := Str.ofString "") (ys := (agR a b).map ch) ev_str (EvN.b ?_) ?_) ?_)
  · have e1 : ((agR a b).map ch).map D.str = (a.zip b).map fun p => D.str (ch (agC p.1 p.2)) := by
      unfold agR
      rw [List.map_map, List.map_map]; rfl
    rw [e1]
    refine evn_lc1 (xs := a.zip b) (c := fun p => .tup [.int (p.1 : Nat), .int (p.2 : Nat)]) (by rw [← zip_ord]; exact ei_zipT (ev_var rfl) (ev_var rfl)) (by rw [List.length_zip]; omega) fun p hp => ⟨[2] ++ [3], _, dg_tup2 dg_name dg_name, fun i hi => hi, evt_yes, ev_call (s := spSignOf) (x := (p.1, p.2)) (eva_cons (ev_var rfl) (eva_cons (ev_var rfl) eva_nil)) rfl trivial fun d h => h⟩
  · rw [chs_len, List.length_map, hl]
    show n + n * 0 ≤ _
    omega
  · show D.str _ = D.str _
    rw [join_chs]
end K34

namespace K34
open PySem PySem.Spec PyProof.Rows L2 Dw
variable [Tabs0]
theorem d_read_candidates {P : Program} {w : World} {K : PySem.W.Frag} {mg : Str → Option Value} {base : Heap} (T : Txt K w mg) : FnOk P w K mg base CX0 3 T.f_read_candidates T.e_read_candidates ["text", "read_word"] (toSp (spReadC T.f_read_mark true)) := by
  refine fn_ok T.F_read_candidates sc_read_candidates (fun _ => rfl) fun cdv A outer s' H E hr => ?_
  refine ⟨_, (pss_cons (ps_if (pt_not (truA K (pe_callB (isiA K) (by rfl) T.n_isinstance (by decide +kernel) (pa_cons (pv 0) (pa_cons (pe_bltn (v := .ty "str") (by rfl) T.n_str (by decide +kernel) rfl) pa_nil))))) (pss_one (ps_ret pe_non)) pss_nil) (pss_cons (ps_setLc (i := 2) (own := [("part", 6)]) rfl sc_read_candidates.nd rfl rfl (sw_true rfl rfl rfl (by decide +kernel)) (piR K (pe_split (pv 0) pe_str)) (blkOk_by (own := [("part", 6)]) (N := N_read_candidates) (sc := (defScope s_read_candidates)) (by decide +kernel)) (fun _ _ _ _ _ => pg_name (i := 6) sc_read_candidates.nd rfl (Or.inl rfl)) (fun _ _ _ _ _ => pts_nil) (fun _ _ _ _ _ => (pe_split (pv 6) pe_str))) (pss_cons (ps_set (i := 3) sc_read_candidates.nd rfl (Or.inl rfl) (pe_callTy (tupleFA K) (by rfl) T.n_tuple (by decide +kernel) (pa_cons (pe_lc (own := [("words", 7)]) rfl sc_read_candidates.nd (piR K (pv 2)) (blkOk_by (own := [("words", 7)]) (N := N_read_candidates) (sc := (defScope s_read_candidates)) (by decide +kernel)) (fun _ _ _ _ _ => pg_name (i := 7) sc_read_candidates.nd rfl (Or.inl rfl)) (fun _ _ _ _ _ => pts_nil) (fun _ _ _ _ _ => (pe_ix (ixA K) (pv 7) pe_int (fun _ _ => rfl)))) pa_nil))) (pss_cons (ps_if (PW.pt (pw_or (pt_not (pt_chain opLe opLe (pe_glob (v := .int 2) (by rfl) T.c_LEAST_CANDIDATES ⟨_, rfl⟩) (pe_callB (lenA K) (by rfl) T.n_len (by decide +kernel) (pa_cons (pv 3) pa_nil)) (pe_glob (v := .int 8) (by rfl) T.c_MOST_CANDIDATES ⟨_, rfl⟩))) (pw_or1 (pt_not (truA K (pe_call (d_are_names T) (hr.mono (by decide)) (by rfl) T.m_are_names T.F_are_names.kp T.b_are_names .nil pass0 (pa_cons (pv 3) pa_nil))))))) (pss_one (ps_ret pe_non)) pss_nil) (pss_cons (ps_set (i := 4) sc_read_candidates.nd rfl (Or.inr rfl) (pe_op op_sub (pe_callB (lenA K) (by rfl) T.n_len (by decide +kernel) (pa_cons (pe_ix (ixA K) (pv 2) pe_int (fun _ _ => rfl)) pa_nil)) pe_int)) (pss_cons (ps_if (PW.pt (pw_or (pt_not (pt_chain opLe opLe pe_int (pv 4) (pe_glob (v := .int 8) (by rfl) T.c_MOST_RULES ⟨_, rfl⟩))) (pw_or1 (pt_not (truA K (pe_callB (allA K) (by rfl) T.n_all (by decide +kernel) (pa_cons (pe_lc (own := [("words", 7)]) rfl sc_read_candidates.nd (piR K (pv 2)) (blkOk_by (own := [("words", 7)]) (N := N_read_candidates) (sc := (defScope s_read_candidates)) (by decide +kernel)) (fun _ _ _ _ _ => pg_name (i := 7) sc_read_candidates.nd rfl (Or.inl rfl)) (fun _ _ _ _ _ => pts_nil) (fun _ _ _ _ _ => (pe_cmpR (eqA K hr.units) (pe_callB (lenA K) (by rfl) T.n_len (by decide +kernel) (pa_cons (pv 7) pa_nil)) (pe_op (plusF K) (pv 4) pe_int) (nomark _)))) pa_nil))))))) (pss_one (ps_ret pe_non)) pss_nil) (pss_cons (ps_set (i := 5) sc_read_candidates.nd rfl (Or.inl rfl) (pe_callTy (tupleFA K) (by rfl) T.n_tuple (by decide +kernel) (pa_cons (pe_lc (own := [("words", 7)]) rfl sc_read_candidates.nd (piR K (pv 2)) (blkOk_by (own := [("words", 7)]) (N := N_read_candidates) (sc := (defScope s_read_candidates)) (by decide +kernel)) (fun _ _ _ _ _ => pg_name (i := 7) sc_read_candidates.nd rfl (Or.inl rfl)) (fun _ _ _ _ _ => pts_nil) (fun _ _ _ _ _ => (pe_callTy (tupleFA K) (by rfl) T.n_tuple (by decide +kernel) (pa_cons (pe_lc (own := [("word", 9)]) rfl sc_read_candidates.nd (piR K (pe_slice (slXA K) (pv 7) (po_some pe_int) po_none)) (blkOk_by (own := [("word", 9)]) (N := N_read_candidates) (sc := (relS { kind := .function, names := [(".0", .local), ("words", .local), ("tuple", .globalImplicit), ("read_word", .free)], isGenerator := false, isCoroutine := false, more := [] } (defScope s_read_candidates))) (by decide +kernel)) (fun _ _ _ _ _ => pg_name (i := 9) sc_read_candidates.nd rfl (Or.inl rfl)) (fun _ _ _ _ _ => pts_nil) (fun _ _ _ _ _ => (pe_callL (i := 1) (d_read_mark T) (hr.mono (by decide)) (by rfl) (Or.inr (Or.inl (by rfl))) T.F_read_mark.kp T.b_read_mark .nil pass0 (pa_cons (pv 9) pa_nil)))) pa_nil)))) pa_nil))) (pss_cons (ps_if (pt_not (truA K (pe_callB (allA K) (by rfl) T.n_all (by decide +kernel) (pa_cons (pe_lc (own := [("row", 8)]) rfl sc_read_candidates.nd (piR K (pv 5)) (blkOk_by (own := [("row", 8)]) (N := N_read_candidates) (sc := (defScope s_read_candidates)) (by decide +kernel)) (fun _ _ _ _ _ => pg_name (i := 8) sc_read_candidates.nd rfl (Or.inl rfl)) (fun _ _ _ _ _ => pts_nil) (fun _ _ _ _ _ => (pe_cmpR (ninA K) pe_non (pv 8) (by rfl)))) pa_nil)))) (pss_one (ps_ret pe_non)) pss_nil) (pss_one (ps_ret (pe_tupF (pa_cons (pv 3) (pa_cons (pv 5) pa_nil))))))))))))), fun x hx => ?_⟩
  obtain ⟨ls, ms, n⟩ := x
  have hc : CaseOk ls ms n := hx
  have h8 := hc.names.hi
  have h2 := hc.two
  have n1 := hc.lo
  have n8 := hc.hi
  have hlen := hc.len
  have zl := hc.zl
  have zz : ∀ p ∈ ls.zip ms, NameOk p.1 ∧ p.2.length = n ∧ ∀ k ∈ p.2, k < 100 := fun p hp => hc.zip hp
  have l1 : (nameD ls).length = ls.length := List.length_map ..
  have wl : ∀ p ∈ ls.zip ms, (nameD (wordsL p)).length = n + 1 := fun p hp => (List.length_map ..).trans (words_len (zz p hp))
  have en : (ls.zip ms).map (fun p => D.str (tx p.1)) = nameD ls := by
    unfold nameD
    conv => rhs; rw [← names_zip hc.same]
    rw [List.map_map]; rfl
  have em : (ls.zip ms).map (fun p => D.tup (ordD p.2)) = ms.map fun m => D.tup (ordD m) := by
    conv => rhs; rw [← marks_zip hc.same]
    rw [List.map_map]; rfl
  obtain ⟨z0, hz0⟩ : ∃ z, (ls.zip ms)[0]? = some z := ⟨_, List.getElem?_eq_getElem (by omega)⟩
  have hz0m := List.mem_of_getElem? hz0
  refine ds_seq (ds_if (EvT.dl (b := false) (evt_not (a := true) (evt_tru_bl (ev_isi (ev_var rfl) ev_raw (.inl rfl) (.ty "str") rfl))) ⟨fun h => (nomatch h), fun _ => ds_next ?_⟩))
  refine ds_seq (ds_asg (Ev.dl (EvN.ev (evn_lc1 (xs := ls.zip ms) (c := fun p => .str (tx (partT p))) (f := fun p => .lst (nameD (wordsL p))) (hc.split ▸ ej_list (EvN.b (evn_split (a := tx (caseTx ls ms)) (ev_var rfl) ev_str (by decide +kernel) (by rw [tx_len]; exact small (by omega))))) (by omega) fun p hp => ⟨[6], _, dg_name, fun i hi => hi, evt_yes, ev_cast (congrArg D.lst (words_split (zz p hp))) (EvN.ev (evn_split (a := tx (partT p)) (ev_var rfl) ev_str (by decide +kernel) (by rw [tx_len]; have := (hc.part (List.mem_map_of_mem (f := partT) hp)).1; exact small (by omega))))⟩)) ?_))
  have pv : ∀ Γ : Gam, Γ[2]? = some (.val (.lst ((ls.zip ms).map fun p => D.lst (nameD (wordsL p))))) → Ei (iAnyR K (tVar 2)) Γ ((ls.zip ms).map fun p => D.lst (nameD (wordsL p))) := fun Γ h => ej_list (ev_var h).b
  refine ds_seq (ds_asg (Ev.dl (ev_cast (congrArg D.tupN en) (ev_tupleN (EvN.b (evn_lc1 (xs := ls.zip ms) (c := fun p => .lst (nameD (wordsL p))) (f := fun p => .str (tx p.1)) (pv _ rfl) (by omega) fun p hp => ⟨[7], _, dg_name, fun i hi => hi, evt_yes, ev_ix (ev_var (d := .lst (nameD (wordsL p))) rfl).b ev_int (atI_nat (j := 0) rfl)⟩)))) ?_))
  refine ds_seq (ds_if (EvT.dl (b := false) (evt_or (a := false) (b := false) (evt_not (a := true) (evt_chain (p := true) (q := true) ev_int (ev_lenT (ds := nameD ls) (ev_dn (ev_var rfl))) (fun _ => ev_int) (le_b (decide_eq_true (by omega))) fun _ => le_b (decide_eq_true (by omega)))) fun _ => evt_not (a := true) (evt_tru_bl (ev_call (s := spNamesG) (x := nameD ls) (eva_cons (ev_dn (ev_var rfl)) eva_nil) (np_tup (np_name _)) (pv_names hc.names.all (by omega)) fun d h => by rw [h, names_ok hc.names]))) ⟨fun h => (nomatch h), fun _ => ds_next ?_⟩))
  refine ds_seq (ds_asg (Ev.dl (ev_cast (d' := .int (n : Nat)) (congrArg D.int (by rw [wl z0 hz0m]; omega)) (ev_op (ev_len (ds := nameD (wordsL z0)) (Ev.b (ev_ix (ev_var (d := .lst ((ls.zip ms).map fun p => D.lst (nameD (wordsL p)))) rfl).b ev_int (atI_nat (j := 0) (by rw [List.getElem?_map, hz0]; rfl))))) ev_int dr2_sub)) ?_))
  refine ds_seq (ds_if (EvT.dl (b := false) (evt_or (a := false) (b := false) (evt_not (a := true) (evt_chain (p := true) (q := true) ev_int (ev_var rfl) (fun _ => ev_int) (le_b (decide_eq_true (by omega))) fun _ => le_b (decide_eq_true (by omega)))) fun _ => evt_not (a := true) (evt_tru_bl (ev_cast (congrArg D.bl (all_yes (xs := ls.zip ms) (b := fun _ => true) fun _ _ => rfl)) (ev_all_lc (K := K) (xs := ls.zip ms) (c := fun p => .lst (nameD (wordsL p))) (b := fun _ => true) (pv _ rfl) (by omega) fun p hp => ⟨[7], _, dg_name, fun i hi => hi, evt_yes, ev_op (ev_len (ds := nameD (wordsL p)) (ev_var rfl).b) (ev_op (ev_var rfl) ev_int (plF_of (pl_int (i := (n : Int)) (j := 1)))) (eq_ib (by rw [wl p hp]; exact decide_eq_true (by omega)))⟩)))) ⟨fun h => (nomatch h), fun _ => ds_next ?_⟩))
  refine ds_seq (ds_asg (Ev.dl (ev_cast (congrArg D.tup em) (ev_tupleF (EvN.b (evn_lc1 (xs := ls.zip ms) (c := fun p => .lst (nameD (wordsL p))) (f := fun p => .tup (ordD p.2)) (pv _ rfl) (by omega) fun p hp => ⟨[7], _, dg_name, fun i hi => hi, evt_yes, ev_tupleF (EvN.b (evn_lc1 (xs := p.2) (c := fun k => .str (tx (TL.numL k))) (f := fun k : Nat => D.int k) ?sl (by have := (zz p hp).2.1; omega) fun k hk => ⟨[9], _, dg_name, fun i hi => hi, evt_yes, ev_callL (s := spMark) (x := (TL.numL k, k)) rfl (eva_cons (ev_var rfl) eva_nil) rfl ⟨num_ok ((zz p hp).2.2 k hk), (zz p hp).2.2 k hk⟩ fun d h => h⟩))⟩)))) ?_))
  case sl =>
    have e : Dw.cutD (nameD (wordsL p)) (some 1) none = p.2.map fun k => D.str (tx (TL.numL k)) := by
      rw [cut_tail]
      unfold wordsL nameD
      rw [List.map_cons, List.drop_one, List.tail_cons, List.map_map]; rfl
    exact e ▸ ej_list (EvN.b (evn_sliceY (ds := nameD (wordsL p)) (ev_var rfl).b (eo_some ev_int) eo_none))
  refine ds_seq (ds_if (EvT.dl (b := false) (evt_not (a := true) (evt_tru_bl (ev_cast (congrArg D.bl (all_yes (xs := ms) (b := fun _ => true) fun _ _ => rfl)) (ev_all_lc (K := K) (xs := ms) (c := fun m => .tup (ordD m)) (b := fun _ => true) (ej_tup (ev_var rfl)) (by have := hc.same; omega) fun m hm => ⟨[8], _, dg_name, fun i hi => hi, evt_yes, ev_cast (congrArg D.bl (congrArg not (inV_non m))) (ev_inT (K := K) (neg := true) (d := .non) (ds := ordD m) ev_non (ev_var rfl) rfl (sc_ord m))⟩)))) ⟨fun h => (nomatch h), fun _ => ds_next ?_⟩))
  exact ds_ret (Ev.dl (ev_tupF (eva_cons (ev_var rfl) (eva_cons (ev_var rfl) eva_nil)) (small (show 2 ≤ 100000 by decide))) rfl)
end K34

namespace K34
open PySem PySem.Spec PyProof.Rows L2 Dw
variable [Tabs0]
theorem d_read_case {P : Program} {w : World} {K : PySem.W.Frag} {mg : Str → Option Value} {base : Heap} (T : Txt K w mg) : FnOk P w K mg base CX0 4 T.f_read_case T.e_read_case ["text"] (toSp (spReadC T.f_read_mark false)) := by
  refine fn_ok T.F_read_case sc_read_case (fun _ => rfl) fun cdv A outer s' H E hr => ?_
  refine ⟨_, (pss_one (ps_ret (pe_call (d_read_candidates T) (hr.mono (by decide)) (by rfl) T.m_read_candidates T.F_read_candidates.kp T.b_read_candidates .nil pass0 (pa_cons (pv 0) (pa_cons (pe_glob (v := .ref T.f_read_mark) (by rfl) T.m_read_mark rfl) pa_nil))))), fun x hx => ?_⟩
  obtain ⟨ls, ms, n⟩ := x
  exact ds_ret (Ev.dl (ev_call (s := spReadC T.f_read_mark true) (x := (ls, ms, n)) (eva_cons (ev_var rfl) (eva_cons ev_raw eva_nil)) rfl hx fun d h => h) rfl)
end K34

namespace K34
open PySem PySem.Spec PyProof.Rows L2 Dw
variable [Tabs0]
theorem inc_pair : ∀ {ls : List (List Nat)}, (∀ p ∈ ls.zip (ls.drop 1), p.1 < p.2) → ls.Pairwise (· < ·)
  | [], _ => .nil
  | [a], _ => List.pairwise_singleton ..
  | a :: b :: r, h => by
    have hab : a < b := h (a, b) List.mem_cons_self
    have ih := inc_pair (ls := b :: r) fun p hp => h p (List.mem_cons_of_mem _ hp)
    refine List.pairwise_cons.mpr ⟨fun x hx => ?_, ih⟩
    rcases List.mem_cons.mp hx with rfl | hx
    · exact hab
    · exact List.lt_trans hab ((List.pairwise_cons.mp ih).1 x hx)
theorem NamesOk.pw {ls : List (List Nat)} (h : NamesOk ls) : ls.Pairwise (· < ·) := inc_pair h.inc
theorem rowAt_get {ls : List (List Nat)} {a : Nat} (h : a < ls.length) : rowAt ls a = ls[a] := by
  unfold rowAt
  rw [List.getD_eq_getElem?_getD, List.getElem?_eq_getElem h]; rfl
theorem rowAt_lt {ls : List (List Nat)} (h : ls.Pairwise (· < ·)) {a b : Nat} (hb : b < ls.length) (hab : a < b) : rowAt ls a < rowAt ls b := by
  rw [rowAt_get hb, rowAt_get (by omega)]
  exact List.pairwise_iff_getElem.mp h a b (by omega) hb hab
theorem rowAt_inj {ls : List (List Nat)} (h : ls.Pairwise (· < ·)) {a b : Nat} (ha : a < ls.length) (hb : b < ls.length) (e : rowAt ls a = rowAt ls b) : a = b := by
  rcases Nat.lt_trichotomy a b with h1 | h1 | h1
  · have := rowAt_lt h hb h1
    rw [e] at this
    exact absurd this (List.lt_irrefl _)
  · exact h1
  · have := rowAt_lt h ha h1
    rw [e] at this
    exact absurd this (List.lt_irrefl _)
theorem rowAt_mem {ls : List (List Nat)} {a : Nat} (h : a < ls.length) : rowAt ls a ∈ ls := by rw [rowAt_get h]; exact List.getElem_mem h
theorem inV_name (c : List Nat) : ∀ ls : List (List Nat), inV (.str (tx c)) ((nameD ls).map scV) = decide (c ∈ ls)
  | [] => rfl
  | b :: l => by
    show ((tx b == tx c) || inV (.str (tx c)) ((nameD l).map scV)) = _
    rw [inV_name c l, Bool.eq_iff_iff]
    simp only [Bool.or_eq_true, beq_iff_eq, tx_eq, decide_eq_true_eq, List.mem_cons]
    constructor
    · rintro (h | h)
      · exact .inl h.symm
      · exact .inr h
    · rintro (h | h)
      · exact .inl h.symm
      · exact .inr h
theorem sc_names (ls : List (List Nat)) : (nameD ls).all isSc = true := by
  unfold nameD
  rw [List.all_map, List.all_eq_true]
  exact fun _ _ => rfl
def idxM (m i : Nat) : List Nat := (List.range m).filter fun k => !decide (k = i)
def rwM (ms : List (List Nat)) (i : Nat) : List (List Nat) := (idxM ms.length i).map fun k => agR (rowAt ms i) (rowAt ms k)
theorem idxM_lt {m i k : Nat} (h : k ∈ idxM m i) : k < m ∧ k ≠ i := by
  obtain ⟨h1, h2⟩ := List.mem_filter.mp h
  exact ⟨List.mem_range.mp h1, by simpa using h2⟩
theorem idxM_len (m i : Nat) : (idxM m i).length ≤ m := by
  refine Nat.le_trans (List.length_filter_le _ _) ?_
  rw [List.length_range]; exact Nat.le_refl _
theorem rwM_ok {ls ms : List (List Nat)} {n i : Nat} (h : CaseOk ls ms n) (hi : i < ls.length) : ∀ r ∈ rwM ms i, RowOk r n := fun r hr => by
  obtain ⟨k, hk, rfl⟩ := List.mem_map.mp hr
  have := idxM_lt hk
  have e := h.same
  exact agR_ok (h.wide _ (rowAt_mem (by omega))) (h.wide _ (rowAt_mem this.1))
end K34

namespace K34
open PySem PySem.Spec PyProof.Rows L2 Dw
variable [Tabs0]
/-! cases drawn and told by the law -/
def msD (ms : List (List Nat)) : List D := ms.map fun m => D.tup (ordD m)
theorem msD_at {ms : List (List Nat)} {k : Nat} (h : k < ms.length) : (msD ms)[k]? = some (.tup (ordD (rowAt ms k))) := by
  unfold msD
  rw [List.getElem?_map, List.getElem?_eq_getElem h, rowAt_get h]; rfl
theorem nameD_ix {ls : List (List Nat)} {k : Nat} (h : k < ls.length) : (nameD ls)[k]? = some (.str (tx (rowAt ls k))) := by
  unfold nameD
  rw [List.getElem?_map, List.getElem?_eq_getElem h, rowAt_get h]; rfl
end K34

namespace K34
open PySem PySem.Spec PyProof.Rows L2 Dw
variable [Tabs0]
/-! cases as things of the program, and what they certify -/
def caseO (C : Addr) (ls ms : List (List Nat)) : D := .obj C ["_text", "_names", "_marks"] [.str (tx (caseTx ls ms)), .tupN (nameD ls), .tup (msD ms)]
theorem np_msD (ms : List (List Nat)) : noPs (msD ms) = true := noPs_map (f := fun m => D.tup (ordD m)) (fun m => np_ord m) ms
theorem np_caseO {C : Addr} {ls ms : List (List Nat)} {r : List D} (h : noPs r = true) : noPs (caseO C ls ms :: r) = true := by
  show ((true && (noPs (nameD ls) && (noPs (msD ms) && true))) && noPs r) = true
  rw [np_name, np_msD, h]; rfl
theorem idx_name {ls : List (List Nat)} {i : Nat} (pw : ls.Pairwise (· < ·)) (hi : i < ls.length) : (ls.map tx).idxOf (tx (rowAt ls i)) = i := by
  have hm : tx (rowAt ls i) ∈ ls.map tx := List.mem_map_of_mem (rowAt_mem hi)
  have h1 := idx_at hm
  have hlt : (ls.map tx).idxOf (tx (rowAt ls i)) < ls.length := by
    have := List.idxOf_lt_length_iff.mpr hm
    rw [List.length_map] at this
    exact this
  generalize (ls.map tx).idxOf (tx (rowAt ls i)) = j at h1 hlt
  rw [List.getElem?_map, List.getElem?_eq_getElem hlt] at h1
  have h1 : tx ls[j] = tx (rowAt ls i) := Option.some.inj h1
  exact rowAt_inj pw hlt hi (by rw [rowAt_get hlt]; exact tx_eq.mp h1)
theorem names_range (ls : List (List Nat)) : (List.range ls.length).map (fun k => D.str (tx (rowAt ls k))) = nameD ls := by
  unfold nameD
  refine List.ext_getElem (by simp) fun k h1 h2 => ?_
  have hk : k < ls.length := by simpa using h2
  rw [List.getElem_map, List.getElem_map, List.getElem_range, rowAt_get hk]
abbrev CaseT := List (List Nat) × List (List Nat) × Nat
def spCInit : Spc where
  ty := CaseT
  args := fun x => [.str (tx (caseTx x.1 x.2.1))]
  ok := fun x => CaseOk x.1 x.2.1 x.2.2
  rel := fun x d => d = .tup [.str (tx (caseTx x.1 x.2.1)), .tupN (nameD x.1), .tup (msD x.2.1)]
def spCkCase (C : Addr) : Spc where
  ty := CaseT
  args := fun x => [caseO C x.1 x.2.1]
  ok := fun _ => True
  rel := fun _ d => d = .non
def spCNames (C : Addr) : Spc where
  ty := CaseT
  args := fun x => [caseO C x.1 x.2.1]
  ok := fun _ => True
  rel := fun x d => d = .tupN (nameD x.1)
def spCMarks (C : Addr) : Spc where
  ty := CaseT
  args := fun x => [caseO C x.1 x.2.1]
  ok := fun _ => True
  rel := fun x d => d = .tup (msD x.2.1)
def spKnown : Spc where
  ty := List (List Nat) × Nat
  args := fun x => [.str (tx (rowAt x.1 x.2)), .tupN (nameD x.1)]
  ok := fun x => x.2 < x.1.length
  rel := fun _ d => d = .non
def spAgC (C : Addr) : Spc where
  ty := CaseT × Nat × Nat
  args := fun x => [caseO C x.1.1 x.1.2.1, .str (tx (rowAt x.1.1 x.2.1)), .str (tx (rowAt x.1.1 x.2.2))]
  ok := fun x => CaseOk x.1.1 x.1.2.1 x.1.2.2 ∧ x.2.1 < x.1.1.length ∧ x.2.2 < x.1.1.length
  rel := fun x d => d = .str (tx (agR (rowAt x.1.2.1 x.2.1) (rowAt x.1.2.1 x.2.2)))
def spRowsOf (C : Addr) : Spc where
  ty := CaseT × Nat
  args := fun x => [caseO C x.1.1 x.1.2.1, .str (tx (rowAt x.1.1 x.2))]
  ok := fun x => CaseOk x.1.1 x.1.2.1 x.1.2.2 ∧ x.2 < x.1.1.length
  rel := fun x d => d = .tup (nameD (rwM x.1.2.1 x.2))
end K34

namespace K34
open PySem PySem.Spec PyProof.Rows L2 Dw
variable [Tabs0]
theorem d_Case___init__ {P : Program} {w : World} {K : PySem.W.Frag} {mg : Str → Option Value} {base : Heap} (T : Txt K w mg) : FnOk P w K mg base CX0 5 T.f_Case___init__ T.e_Case___init__ ["self", "text"] (toIn T.C_Case ["_text", "_names", "_marks"] spCInit) := by
  refine in_ok T.F_Case___init__ sc_Case___init__ (fun _ => rfl) fun cdv A outer s' H E hr => ?_
  refine ⟨_, (pss_cons (ps_set (i := 2) sc_Case___init__.nd rfl (Or.inl rfl) (pe_call (d_read_case T) (hr.mono (by decide)) (by rfl) T.m_read_case T.F_read_case.kp T.b_read_case .nil pass0 (pa_cons (pv 1) pa_nil))) (pss_cons (ps_if (pt_cmpR op_isN (pv 2) pe_non (nomark _)) (pss_one ps_never) pss_nil) (pss_cons (ps_fld (pv 0) (pv 1) rfl) (pss_one (ps_asg (pv 2) (tupA K 2 rfl (pgs_cons (pg_fld (pv 0)) (pgs_cons (pg_fld (pv 0)) pgs_nil)))))))), fun x hx a => ?_⟩
  obtain ⟨ls, ms, n⟩ := x
  have hc : CaseOk ls ms n := hx
  refine di_seq (di_of (ds_asg (Ev.dl (ev_call (s := spReadC T.f_read_mark false) (d := .tup [.tupN (nameD ls), .tup (msD ms)]) (x := (ls, ms, n)) (eva_cons (ev_var rfl) eva_nil) rfl hc fun d h => h) ?_)))
  refine di_seq (di_of (ds_if (EvT.dl (b := false) (evt_test (ev_op (ev_var rfl) ev_non (dr2_isN fun W v h => ?_))) ⟨fun h => (nomatch h), fun _ => ds_next ?_⟩)))
  · obtain ⟨p, vs, e, _⟩ := h
    rw [e]; exact decide_eq_false fun h => nomatch h
  refine di_seq (di_fld T.cl_Case T.cno_text (by simp) (by decide) (ev_var rfl) (ev_var rfl) ?_)
  exact di_fld2 T.cl_Case T.cno_names T.cno_marks (by decide +kernel) (by decide +kernel) (by decide) (ev_var rfl) (ev_var rfl) ⟨rfl, rfl⟩

end K34

namespace K34
open PySem PySem.Spec PyProof.Rows L2 Dw
variable [Tabs0]
theorem d_check_case {P : Program} {w : World} {K : PySem.W.Frag} {mg : Str → Option Value} {base : Heap} (T : Txt K w mg) : FnOk P w K mg base CX0 1 T.f_check_case T.e_check_case ["case"] (toSp (spCkCase T.C_Case)) := by
  refine fn_ok T.F_check_case sc_check_case (fun _ => rfl) fun cdv A outer s' H E hr => ?_
  refine ⟨_, (pss_one (ps_if (pt_not (truA K (pe_callB (isiA K) (by rfl) T.n_isinstance (by decide +kernel) (pa_cons (pv 0) (pa_cons (pe_glob (v := .ref T.C_Case) (by rfl) T.m_Case rfl) pa_nil))))) (pss_one ps_never) pss_nil)), fun x hx => ?_⟩
  obtain ⟨ls, ms, n⟩ := x
  exact ds_if (EvT.dl (b := false) (evt_not (a := true) (evt_tru_bl (ev_isi (ev_var rfl) ev_raw (.inr ⟨_, _, _, rfl, T.ins_Case⟩) (.own _) kit_self))) ⟨fun h => (nomatch h), fun _ => ds_next rfl⟩)
end K34

namespace K34
open PySem PySem.Spec PyProof.Rows L2 Dw
variable [Tabs0]
theorem d_Case_names {P : Program} {w : World} {K : PySem.W.Frag} {mg : Str → Option Value} {base : Heap} (T : Txt K w mg) : FnOk P w K mg base CX0 1 T.f_Case_names T.e_Case_names ["self"] (toSp (spCNames T.C_Case)) := by
  refine fn_ok T.F_Case_names sc_Case_names (fun _ => rfl) fun cdv A outer s' H E hr => ?_
  refine ⟨_, (pss_one (ps_ret (fldA K (pv 0)))), fun x hx => ?_⟩
  obtain ⟨ls, ms, n⟩ := x
  exact ds_ret (Ev.dl (ev_fld T.cl_Case T.cno_names (ev_var rfl) (by rfl)) rfl)
end K34

namespace K34
open PySem PySem.Spec PyProof.Rows L2 Dw
variable [Tabs0]
theorem d_Case_marks {P : Program} {w : World} {K : PySem.W.Frag} {mg : Str → Option Value} {base : Heap} (T : Txt K w mg) : FnOk P w K mg base CX0 1 T.f_Case_marks T.e_Case_marks ["self"] (toSp (spCMarks T.C_Case)) := by
  refine fn_ok T.F_Case_marks sc_Case_marks (fun _ => rfl) fun cdv A outer s' H E hr => ?_
  refine ⟨_, (pss_one (ps_ret (fldA K (pv 0)))), fun x hx => ?_⟩
  obtain ⟨ls, ms, n⟩ := x
  exact ds_ret (Ev.dl (ev_fld T.cl_Case T.cno_marks (ev_var rfl) (by rfl)) rfl)
end K34

namespace K34
open PySem PySem.Spec PyProof.Rows L2 Dw
variable [Tabs0]
theorem d_check_known {P : Program} {w : World} {K : PySem.W.Frag} {mg : Str → Option Value} {base : Heap} (T : Txt K w mg) : FnOk P w K mg base CX0 1 T.f_check_known T.e_check_known ["name", "names"] (toSp (spKnown)) := by
  refine fn_ok T.F_check_known sc_check_known (fun _ => rfl) fun cdv A outer s' H E hr => ?_
  refine ⟨_, (pss_one (ps_if (PW.pt (pw_or (pt_not (truA K (pe_callB (isiA K) (by rfl) T.n_isinstance (by decide +kernel) (pa_cons (pv 0) (pa_cons (pe_bltn (v := .ty "str") (by rfl) T.n_str (by decide +kernel) rfl) pa_nil))))) (pw_or1 (pt_cmpR (ninA K) (pv 0) (pv 1) (by rfl))))) (pss_one ps_never) pss_nil)), fun x hx => ?_⟩
  obtain ⟨ls, i⟩ := x
  have hi : i < ls.length := hx
  have ein : inV (.str (tx (rowAt ls i))) ((nameD ls).map scV) = true := by rw [inV_name]; exact decide_eq_true (rowAt_mem hi)
  exact ds_if (EvT.dl (b := false) (evt_or (a := false) (b := false) (evt_not (a := true) (evt_tru_bl (ev_isi (ev_var rfl) ev_raw (.inl rfl) (.ty "str") rfl))) fun _ => evt_test (ev_cast (congrArg D.bl (congrArg not ein)) (ev_inT (K := K) (neg := true) (d := .str (tx (rowAt ls i))) (ds := nameD ls) (ev_var rfl) (ev_dn (ev_var rfl)) rfl (sc_names ls)))) ⟨fun h => (nomatch h), fun _ => ds_next rfl⟩)
end K34

namespace K34
open PySem PySem.Spec PyProof.Rows L2 Dw
variable [Tabs0]
theorem d_row_against {P : Program} {w : World} {K : PySem.W.Frag} {mg : Str → Option Value} {base : Heap} (T : Txt K w mg) : FnOk P w K mg base CX0 3 T.f_row_against T.e_row_against ["case", "one", "other"] (toSp (spAgC T.C_Case)) := by
  refine fn_ok T.F_row_against sc_row_against (fun _ => rfl) fun cdv A outer s' H E hr => ?_
  refine ⟨_, (pss_one (ps_ret (pe_call (d_row_between T) (hr.mono (by decide)) (by rfl) T.m_row_between T.F_row_between.kp T.b_row_between .nil pass0 (pa_cons (pe_ix (ixA K) (pe_prop (pv 0) T.cl_Case T.p_Case_marks (d_Case_marks T) (hr.mono (by decide)) T.b_Case_marks .nil pass0 rfl) (pe_tm PySem.F.slot_tuple_index PySem.F.type_tuple_index (tidxA K) (pe_prop (pv 0) T.cl_Case T.p_Case_names (d_Case_names T) (hr.mono (by decide)) T.b_Case_names .nil pass0 rfl) (pa_cons (pv 1) pa_nil)) (fun _ _ => rfl)) (pa_cons (pe_ix (ixA K) (pe_prop (pv 0) T.cl_Case T.p_Case_marks (d_Case_marks T) (hr.mono (by decide)) T.b_Case_marks .nil pass0 rfl) (pe_tm PySem.F.slot_tuple_index PySem.F.type_tuple_index (tidxA K) (pe_prop (pv 0) T.cl_Case T.p_Case_names (d_Case_names T) (hr.mono (by decide)) T.b_Case_names .nil pass0 rfl) (pa_cons (pv 2) pa_nil)) (fun _ _ => rfl)) pa_nil))))), fun x hx => ?_⟩
  obtain ⟨⟨ls, ms, n⟩, i, k⟩ := x
  obtain ⟨hc, hi, hk⟩ := hx
  have hc : CaseOk ls ms n := hc
  have hi : i < ls.length := hi
  have hk : k < ls.length := hk
  have sm := hc.same
  have pw := hc.names.pw
  refine ds_ret (Ev.dl (ev_call (s := spBetween) (x := (rowAt ms i, rowAt ms k, n)) (eva_cons (ev_ixT (d := .tup (ordD (rowAt ms i))) (ds := msD ms) (ev_prop (s := spCMarks T.C_Case) (x := (ls, ms, n)) (ev_var rfl) rfl (np_caseO (r := []) rfl) trivial fun d h => h) (ev_cast (congrArg (fun j : Nat => D.int j) (idx_name pw hi)) (ev_tidxS (o := ls.map tx) (c := tx (rowAt ls i)) (ev_cast (congrArg D.tupN (nameD_map ls).symm) (ev_prop (s := spCNames T.C_Case) (x := (ls, ms, n)) (ev_var rfl) rfl (np_caseO (r := []) rfl) trivial fun d h => h)) (ev_var rfl) (List.mem_map_of_mem (rowAt_mem hi)))) (atI_nat (msD_at (by omega)))) (eva_cons (ev_ixT (d := .tup (ordD (rowAt ms k))) (ds := msD ms) (ev_prop (s := spCMarks T.C_Case) (x := (ls, ms, n)) (ev_var rfl) rfl (np_caseO (r := []) rfl) trivial fun d h => h) (ev_cast (congrArg (fun j : Nat => D.int j) (idx_name pw hk)) (ev_tidxS (o := ls.map tx) (c := tx (rowAt ls k)) (ev_cast (congrArg D.tupN (nameD_map ls).symm) (ev_prop (s := spCNames T.C_Case) (x := (ls, ms, n)) (ev_var rfl) rfl (np_caseO (r := []) rfl) trivial fun d h => h)) (ev_var rfl) (List.mem_map_of_mem (rowAt_mem hk)))) (atI_nat (msD_at (by omega)))) eva_nil)) (np_to (np_to (r := []) rfl)) ⟨hc.wide _ (rowAt_mem (by omega)), hc.wide _ (rowAt_mem (by omega)), hc.hi⟩ fun d h => h) rfl)
end K34

namespace K34
open PySem PySem.Spec PyProof.Rows L2 Dw
variable [Tabs0]
theorem d_rows_of {P : Program} {w : World} {K : PySem.W.Frag} {mg : Str → Option Value} {base : Heap} (T : Txt K w mg) : FnOk P w K mg base CX0 4 T.f_rows_of T.e_rows_of ["case", "one"] (toSp (spRowsOf T.C_Case)) := by
  refine fn_ok T.F_rows_of sc_rows_of (fun _ => rfl) fun cdv A outer s' H E hr => ?_
  refine ⟨_, (pss_one (ps_ret (pe_callTy (tupleA K) (by rfl) T.n_tuple (by decide +kernel) (pa_cons (pe_lc (own := [("other", 2)]) rfl sc_rows_of.nd (piR K (pe_prop (pv 0) T.cl_Case T.p_Case_names (d_Case_names T) (hr.mono (by decide)) T.b_Case_names .nil pass0 rfl)) (blkOk_by (own := [("other", 2)]) (N := N_rows_of) (sc := (defScope s_rows_of)) (by decide +kernel)) (fun _ _ _ _ _ => pg_name (i := 2) sc_rows_of.nd rfl (Or.inl rfl)) (fun _ _ _ _ _ => pts_one (pt_cmpR (neA K hr.units) (pv 2) (pv 1) (nomark _))) (fun _ _ _ _ _ => (pe_call (d_row_against T) (hr.mono (by decide)) (by rfl) T.m_row_against T.F_row_against.kp T.b_row_against .nil pass0 (pa_cons (pv 0) (pa_cons (pv 1) (pa_cons (pv 2) pa_nil)))))) pa_nil)))), fun x hx => ?_⟩
  obtain ⟨⟨ls, ms, n⟩, i⟩ := x
  obtain ⟨hc, hi⟩ := hx
  have hc : CaseOk ls ms n := hc
  have hi : i < ls.length := hi
  have sm := hc.same
  have pw := hc.names.pw
  have h8 := hc.names.hi
  refine ds_ret (Ev.dl (ev_cast (d' := .tup (nameD (rwM ms i))) (by unfold rwM idxM nameD; rw [List.map_map, sm]; rfl) (ev_tuple (EvN.b (evn_lc (xs := List.range ls.length) (c := fun k => .str (tx (rowAt ls k))) (p := fun k => !decide (k = i)) (f := fun k => .str (tx (agR (rowAt ms i) (rowAt ms k)))) ?ej (by rw [List.length_range]; omega) fun k hk => ⟨[2], _, dg_name, fun i hi => hi, evt_test (ev_op (ev_var rfl) (ev_var rfl) (ne_sb (congrArg not (decide_eq_decide.mpr ⟨fun e => rowAt_inj pw (List.mem_range.mp hk) hi (tx_eq.mp e), fun e => by rw [e]⟩)))), fun _ => ev_call (s := spAgC T.C_Case) (x := ((ls, ms, n), i, k)) (eva_cons (ev_var rfl) (eva_cons (ev_var rfl) (eva_cons (ev_var rfl) eva_nil))) (np_caseO (r := [_, _]) rfl) ⟨hc, hi, List.mem_range.mp hk⟩ fun d h => h⟩)))) rfl)
  rw [names_range]
  exact ej_tup (ev_dn (ev_prop (s := spCNames T.C_Case) (x := (ls, ms, n)) (ev_var rfl) rfl (np_caseO (r := []) rfl) trivial fun d h => h))
end K34

namespace K34
open PySem PySem.Spec PyProof.Rows L2 Dw
variable [Tabs0]
/-! a law's own lots and its own least ones -/
def lotsF (ts : List Nat) : List (List Nat) := ts.foldl (fun f t => f ++ f.map (· ++ [t])) [[]]
theorem lotsF_snoc (ts : List Nat) (t : Nat) : lotsF (ts ++ [t]) = lotsF ts ++ (lotsF ts).map (· ++ [t]) := by
  unfold lotsF
  rw [List.foldl_append]; rfl
theorem lotsA_len : ∀ (ts : List Nat) (acc : List (List Nat)), (ts.foldl (fun f t => f ++ f.map (· ++ [t])) acc).length = acc.length * 2 ^ ts.length
  | [], acc => by simp
  | t :: ts, acc => by
    rw [List.foldl_cons, lotsA_len ts, List.length_append, List.length_map, List.length_cons, Nat.pow_succ]
    have : acc.length + acc.length = acc.length * 2 := by omega
    rw [this, Nat.mul_assoc, Nat.mul_comm 2]
theorem lotsF_len (ts : List Nat) : (lotsF ts).length = 2 ^ ts.length := by
  unfold lotsF
  rw [lotsA_len]
  show 1 * _ = _
  omega
theorem lotsA_few : ∀ (ts : List Nat) (acc : List (List Nat)) (m : Nat), (∀ o ∈ acc, o.length ≤ m) → ∀ o ∈ ts.foldl (fun f t => f ++ f.map (· ++ [t])) acc, o.length ≤ m + ts.length
  | [], acc, m, h, o, ho => by have := h o ho; simpa using this
  | t :: ts, acc, m, h, o, ho => by
    rw [List.foldl_cons] at ho
    have := lotsA_few ts _ (m + 1) (fun p hp => by
      rcases List.mem_append.mp hp with hp | hp
      · have := h p hp; omega
      · obtain ⟨q, hq, rfl⟩ := List.mem_map.mp hp
        have := h q hq
        rw [List.length_append]
        show q.length + 1 ≤ m + 1
        omega) o ho
    rw [List.length_cons]; omega
theorem lotsF_few (ts : List Nat) : ∀ o ∈ lotsF ts, o.length ≤ ts.length := fun o ho => by
  have := lotsA_few ts [[]] 0 (fun p hp => by rw [List.mem_singleton.mp hp]; exact Nat.le_refl _) o ho
  omega
theorem lotsF_fil (f : Nat → Bool) : ∀ n, lotsF ((List.range n).filter f) = (lots n).filter fun o => o.all f
  | 0 => rfl
  | n + 1 => by
    rw [List.range_succ, List.filter_append]
    show _ = (lots n ++ (lots n).map (· ++ [n])).filter _
    rw [List.filter_append, List.filter_map]
    have ih := lotsF_fil f n
    cases e : f n with
    | true =>
      rw [List.filter_cons_of_pos e, List.filter_nil, lotsF_snoc, ih]
      congr 2
      refine List.filter_congr fun o _ => ?_
      show _ = (o ++ [n]).all f
      rw [List.all_append]
      simp [e]
    | false =>
      rw [List.filter_cons_of_neg (by rw [e]; decide), List.filter_nil, List.append_nil, ih]
      have : (lots n).filter ((fun o => o.all f) ∘ fun o => o ++ [n]) = [] := List.filter_eq_nil_iff.mpr fun o _ => by
        show ¬ (o ++ [n]).all f = true
        rw [List.all_append]
        simp [e]
      rw [this, List.map_nil, List.append_nil]
def notK (n k : Nat) : List Nat := (List.range n).filter fun j => !decide (j = k)
theorem fsort (n : Nat) (g : List Nat → Bool) : ((lots n).filter g).mergeSort lotLe = (lotsO n).filter g := by
  refine List.Perm.eq_of_pairwise (le := fun a b => lotLe a b = true) (fun a b _ _ h1 h2 => lotLe_anti h1 h2) (List.pairwise_mergeSort lotLe_trans lotLe_total _) ((lotsO_inc n).filter _) ?_
  exact (List.mergeSort_perm _ _).trans ((List.mergeSort_perm _ _).symm.filter _)
theorem notK_sort (n k : Nat) : (lotsF (notK n k)).mergeSort lotLe = (lotsO n).filter fun o => o.all fun j => !decide (j = k) := by
  unfold notK
  rw [lotsF_fil, fsort]
theorem least_filter {p f : List Nat → Bool} {ls : List (List Nat)} : ∀ {acc : List (List Nat)}, (∀ S ∈ ls.foldl (leastIn p) acc, f S = true) → ls.foldl (leastIn p) acc = (ls.filter f).foldl (leastIn p) acc := by
  induction ls with
  | nil => exact fun _ => rfl
  | cons l ls ih =>
    intro acc h
    rw [List.foldl_cons] at h ⊢
    cases e : f l with
    | true => rw [List.filter_cons_of_pos e, List.foldl_cons]; exact ih h
    | false =>
      rw [List.filter_cons_of_neg (by rw [e]; decide)]
      have eq : leastIn p acc l = acc := by
        unfold leastIn
        by_cases z : (p l && !partB l acc) = true
        · exfalso
          have : l ∈ ls.foldl (leastIn p) (leastIn p acc l) := least_acc (by
            unfold leastIn
            rw [if_pos z]
            exact List.mem_append_right _ (List.mem_singleton.mpr rfl))
          rw [h l this] at e
          cases e
        · rw [if_neg z]
      rw [eq] at h ⊢
      exact ih h
/-- of which some rule is above this one in all of these rankings -/
def abvB (os : List (List Nat)) (k : Nat) (S : List Nat) : Bool := os.all fun o => S.any fun j => decide (o.idxOf j < o.idxOf k)
def dueL (os : List (List Nat)) (n k : Nat) : List (List Nat) := leastM (abvB os k) ((lotsF (notK n k)).mergeSort lotLe)
theorem head_meet {rs : List (List Nat)} {n k : Nat} {S : List Nat} (hr : ∀ r ∈ rs, RowOk r n) (hk : k < n) (hS : S ∈ lots n) : abvB (fitM rs n) k S = meetB (headsM rs n k) S := by
  have ok := lots_ok n S hS
  rw [Bool.eq_iff_iff, meet_iff hr hk hS]
  unfold abvB
  rw [List.all_eq_true]
  have key : ∀ p q j, p ++ k :: q ∈ fitM rs n → j ∈ S → (j ∈ p ↔ (p ++ k :: q).idxOf j < (p ++ k :: q).idxOf k) := fun p q j hf hj => by
    obtain ⟨hp, _⟩ := fitM_mem.mp hf
    have nd : (p ++ k :: q).Nodup := hp.nodup_iff.mpr List.nodup_range
    have nb : k ∉ p := fun z => (List.nodup_append.mp nd).2.2 k z k List.mem_cons_self rfl
    exact mem_idx nb nd (hp.mem_iff.mpr (List.mem_range.mpr (ok.lt j hj)))
  constructor
  · intro h p q hf
    obtain ⟨j, hj, hlt⟩ := List.any_eq_true.mp (h _ hf)
    exact ⟨j, hj, (key p q j hf hj).mpr (of_decide_eq_true hlt)⟩
  · intro h o ho
    obtain ⟨p, q, eo, nb⟩ := cut_fit hk ho
    subst eo
    obtain ⟨j, hj, hp⟩ := h p q ho
    exact List.any_eq_true.mpr ⟨j, hj, decide_eq_true ((key p q j ho hj).mp hp)⟩
theorem due_reas {rs : List (List Nat)} {n k : Nat} (hr : ∀ r ∈ rs, RowOk r n) (hk : k < n) : dueL (fitM rs n) n k = reasM rs n k := by
  unfold dueL
  rw [notK_sort]
  have e1 : reasM rs n k = ((lotsO n).filter fun o => o.all fun j => !decide (j = k)).foldl (leastIn (meetB (headsM rs n k))) [] := least_filter (f := fun o => o.all fun j => !decide (j = k)) fun S hS => by
    have := reas_self hr hk hS
    rw [List.all_eq_true]
    intro j hj
    have : j ≠ k := fun z => this (z ▸ hj)
    simp [this]
  rw [e1]
  exact least_congr fun S hS => head_meet hr hk (lotsO_mem.mp (List.mem_filter.mp hS).1)
end K34

namespace K34
open PySem PySem.Spec PyProof.Rows L2 Dw
variable [Tabs0]
/-! a case beside a book -/
def spCaseFits (CB CC : Addr) : Spc where
  ty := Bk × List (List Nat) × List (List Nat)
  args := fun x => [caseO CC x.2.1 x.2.2, bookD CB x.1.1 x.1.2]
  ok := fun x => BookOk x.1.1 x.1.2 ∧ CaseOk x.2.1 x.2.2 x.1.1.length
  rel := fun _ d => d = .bl true
def spCkBes (CB CC : Addr) : Spc where
  ty := Bk × List (List Nat) × List (List Nat)
  args := fun x => [bookD CB x.1.1 x.1.2, caseO CC x.2.1 x.2.2]
  ok := fun x => BookOk x.1.1 x.1.2 ∧ CaseOk x.2.1 x.2.2 x.1.1.length
  rel := fun _ d => d = .non
def spWins (CB CC : Addr) : Spc where
  ty := (Bk × List (List Nat) × List (List Nat)) × Nat
  args := fun x => [bookD CB x.1.1.1 x.1.1.2, caseO CC x.1.2.1 x.1.2.2, .str (tx (rowAt x.1.2.1 x.2))]
  ok := fun x => BookOk x.1.1.1 x.1.1.2 ∧ CaseOk x.1.2.1 x.1.2.2 x.1.1.1.length ∧ x.2 < x.1.2.1.length
  rel := fun x d => d = .int (countM (x.1.1.2 ++ rwM x.1.2.2 x.2) x.1.1.1.length : Nat)
def posI (rs ms : List (List Nat)) (n : Nat) : List Nat := (List.range ms.length).filter fun i => decide (Still (rs ++ rwM ms i) n = [])
def sureI (rs ms : List (List Nat)) (n : Nat) : List Nat := (List.range ms.length).filter fun i => decide (countM (rs ++ rwM ms i) n = countM rs n)
def spPoss (CB CC : Addr) : Spc where
  ty := Bk × List (List Nat) × List (List Nat)
  args := fun x => [bookD CB x.1.1 x.1.2, caseO CC x.2.1 x.2.2]
  ok := fun x => BookOk x.1.1 x.1.2 ∧ CaseOk x.2.1 x.2.2 x.1.1.length ∧ Still x.1.2 x.1.1.length = []
  rel := fun x d => d = .tup (nameD ((posI x.1.2 x.2.2 x.1.1.length).map (rowAt x.2.1)))
def spSure (CB CC : Addr) : Spc where
  ty := Bk × List (List Nat) × List (List Nat)
  args := fun x => [bookD CB x.1.1 x.1.2, caseO CC x.2.1 x.2.2]
  ok := fun x => BookOk x.1.1 x.1.2 ∧ CaseOk x.2.1 x.2.2 x.1.1.length ∧ Still x.1.2 x.1.1.length = []
  rel := fun x d => d = .tup (nameD ((sureI x.1.2 x.2.2 x.1.1.length).map (rowAt x.2.1)))
theorem np_bc {CB CC : Addr} {Ls rs ls ms : List (List Nat)} {r : List D} (h : noPs r = true) : noPs (bookD CB Ls rs :: caseO CC ls ms :: r) = true := np_bk (np_caseO h)
theorem np_cb {CB CC : Addr} {Ls rs ls ms : List (List Nat)} {r : List D} (h : noPs r = true) : noPs (caseO CC ls ms :: bookD CB Ls rs :: r) = true := np_caseO (np_bk h)
theorem rw_few {ms : List (List Nat)} {i : Nat} (h : ms.length ≤ 8) : (rwM ms i).length ≤ 8 := by
  unfold rwM
  rw [List.length_map]
  exact Nat.le_trans (idxM_len _ _) h
/-- the rows of a book and those that one candidate asks -/
theorem ev_both {K : PySem.W.Frag} {Γ : Gam} {t u : TE} {rs qs : List (List Nat)} (h1 : Ev t Γ (.tup (nameD rs))) (h2 : Ev u Γ (.tup (nameD qs))) (hz : rs.length + qs.length ≤ 1000) : Ev (tTup (StX.tStar K t (StX.tStar K u tNil))) Γ (.tup (nameD (rs ++ qs))) := by
  have e := ev_tup (eva_star (K := K) h1 (eva_star (K := K) h2 eva_nil)) (by rw [List.append_nil, List.length_append, nameD_len, nameD_len]; exact small (by omega))
  rw [List.append_nil, nameD_app] at e
  exact e
end K34

namespace K34
open PySem PySem.Spec PyProof.Rows L2 Dw
variable [Tabs0]
theorem d_case_fits {P : Program} {w : World} {K : PySem.W.Frag} {mg : Str → Option Value} {base : Heap} (T : Txt K w mg) : FnOk P w K mg base CX0 3 T.f_case_fits T.e_case_fits ["case", "book"] (toSp (spCaseFits T.C_Book T.C_Case)) := by
  refine fn_ok T.F_case_fits sc_case_fits (fun _ => rfl) fun cdv A outer s' H E hr => ?_
  refine ⟨_, (pss_one (ps_ret (pe_and (pe_callB (isiA K) (by rfl) T.n_isinstance (by decide +kernel) (pa_cons (pv 0) (pa_cons (pe_glob (v := .ref T.C_Case) (by rfl) T.m_Case rfl) pa_nil))) (pe_one (pe_cmpR (eqA K hr.units) (pe_callB (lenA K) (by rfl) T.n_len (by decide +kernel) (pa_cons (pe_ix (ixA K) (pe_prop (pv 0) T.cl_Case T.p_Case_marks (d_Case_marks T) (hr.mono (by decide)) T.b_Case_marks .nil pass0 rfl) pe_int (fun _ _ => rfl)) pa_nil)) (pe_callB (lenA K) (by rfl) T.n_len (by decide +kernel) (pa_cons (pe_prop (pv 1) T.cl_Book T.p_Book_names (d_Book_names T) (hr.mono (by decide)) T.b_Book_names .nil pass0 rfl) pa_nil)) (nomark _)))))), fun x hx => ?_⟩
  obtain ⟨⟨Ls, rs⟩, ls, ms⟩ := x
  obtain ⟨hb, hc⟩ := hx
  have hb : BookOk Ls rs := hb
  have hc : CaseOk ls ms Ls.length := hc
  have sm := hc.same
  have h2 := hc.two
  have hm0 : (rowAt ms 0).length = Ls.length := hc.wide _ (rowAt_mem (by omega))
  refine ds_ret (Ev.dl (ev_cast (d := .bl (true && decide (Ls.length = Ls.length))) (by rw [decide_eq_true rfl]; rfl) (ev_andV (ev_isi (ev_var rfl) ev_raw (.inr ⟨_, _, _, rfl, T.ins_Case⟩) (.own _) kit_self) fun _ => ev_op (ev_cast (congrArg (fun n : Nat => D.int n) ((ordD_len (rowAt ms 0)).trans hm0)) (ev_lenT (ds := ordD (rowAt ms 0)) (ev_ixT (d := .tup (ordD (rowAt ms 0))) (ds := msD ms) (ev_prop (s := spCMarks T.C_Case) (x := (ls, ms, Ls.length)) (ev_var rfl) rfl (np_caseO (r := []) rfl) trivial fun d h => h) ev_int (atI_nat (j := 0) (msD_at (show 0 < ms.length by omega)))))) (ev_names (C := T.C_Book) (rs := rs) (ev_prop (s := spBNames T.C_Book) (x := (Ls, rs)) (ev_var rfl) rfl (np_book _ Ls rs) trivial fun d h => h)) (eq_nat _ _))) rfl)
end K34

namespace K34
open PySem PySem.Spec PyProof.Rows L2 Dw
variable [Tabs0]
theorem d_check_case_beside {P : Program} {w : World} {K : PySem.W.Frag} {mg : Str → Option Value} {base : Heap} (T : Txt K w mg) : FnOk P w K mg base CX0 4 T.f_check_case_beside T.e_check_case_beside ["book", "case"] (toSp (spCkBes T.C_Book T.C_Case)) := by
  refine fn_ok T.F_check_case_beside sc_check_case_beside (fun _ => rfl) fun cdv A outer s' H E hr => ?_
  refine ⟨_, (pss_one (ps_if (pt_not (truA K (pe_call (d_case_fits T) (hr.mono (by decide)) (by rfl) T.m_case_fits T.F_case_fits.kp T.b_case_fits .nil pass0 (pa_cons (pv 1) (pa_cons (pv 0) pa_nil))))) (pss_one ps_never) pss_nil)), fun x hx => ?_⟩
  obtain ⟨⟨Ls, rs⟩, ls, ms⟩ := x
  obtain ⟨hb, hc⟩ := hx
  have hb : BookOk Ls rs := hb
  have hc : CaseOk ls ms Ls.length := hc
  exact ds_if (EvT.dl (b := false) (evt_not (a := true) (evt_tru_bl (ev_call (s := spCaseFits T.C_Book T.C_Case) (d := .bl true) (x := ((Ls, rs), ls, ms)) (eva_cons (ev_var rfl) (eva_cons (ev_var rfl) eva_nil)) (np_cb (r := []) rfl) ⟨hb, hc⟩ fun d h => h))) ⟨fun h => (nomatch h), fun _ => ds_next rfl⟩)
end K34

namespace K34
open PySem PySem.Spec PyProof.Rows L2 Dw
variable [Tabs0]
theorem d_wins {P : Program} {w : World} {K : PySem.W.Frag} {mg : Str → Option Value} {base : Heap} (T : Txt K w mg) : FnOk P w K mg base CX0 5 T.f_wins T.e_wins ["book", "case", "name"] (toSp (spWins T.C_Book T.C_Case)) := by
  refine fn_ok T.F_wins sc_wins (fun _ => rfl) fun cdv A outer s' H E hr => ?_
  refine ⟨_, (pss_one (ps_ret (pe_call (d_count_fitting T) (hr.mono (by decide)) (by rfl) T.m_count_fitting T.F_count_fitting.kp T.b_count_fitting .nil pass0 (pa_cons (pe_tup (starA K (pe_prop (pv 0) T.cl_Book T.p_Book_rows (d_Book_rows T) (hr.mono (by decide)) T.b_Book_rows .nil pass0 rfl) (starA K (pe_call (d_rows_of T) (hr.mono (by decide)) (by rfl) T.m_rows_of T.F_rows_of.kp T.b_rows_of .nil pass0 (pa_cons (pv 1) (pa_cons (pv 2) pa_nil))) pa_nil))) (pa_cons (pe_callB (lenA K) (by rfl) T.n_len (by decide +kernel) (pa_cons (pe_prop (pv 0) T.cl_Book T.p_Book_names (d_Book_names T) (hr.mono (by decide)) T.b_Book_names .nil pass0 rfl) pa_nil)) pa_nil))))), fun x hx => ?_⟩
  obtain ⟨⟨⟨Ls, rs⟩, ls, ms⟩, i⟩ := x
  obtain ⟨hb, hc, hi⟩ := hx
  have hb : BookOk Ls rs := hb
  have hc : CaseOk ls ms Ls.length := hc
  have hi : i < ls.length := hi
  have sm := hc.same
  have h20 := hb.few
  have rz := rw_few (i := i) (show ms.length ≤ 8 by rw [sm]; exact hc.names.hi)
  have rok := rwM_ok (i := i) hc hi
  refine ds_ret (Ev.dl (ev_call (s := spCount) (d := .int (countM (rs ++ rwM ms i) Ls.length : Nat)) (x := (rs ++ rwM ms i, Ls.length, false)) (eva_cons (ev_both (ev_prop (s := spBRows T.C_Book) (x := (Ls, rs)) (ev_var rfl) rfl (np_book _ Ls rs) trivial fun d h => h) (ev_call (s := spRowsOf T.C_Case) (d := .tup (nameD (rwM ms i))) (x := ((ls, ms, Ls.length), i)) (eva_cons (ev_var rfl) (eva_cons (ev_var rfl) eva_nil)) (np_caseO (r := [_]) rfl) ⟨hc, hi⟩ fun d h => h) (by omega)) (eva_cons (ev_names (C := T.C_Book) (rs := rs) (ev_prop (s := spBNames T.C_Book) (x := (Ls, rs)) (ev_var rfl) rfl (np_book _ Ls rs) trivial fun d h => h)) eva_nil)) (np_rd (b := false) (r := [_]) rfl) ⟨fun r hr => (List.mem_append.mp hr).elim (hb.rows r) (rok r), hb.n8, by show (rs ++ rwM ms i).length ≤ 1000; rw [List.length_append]; omega⟩ fun d h => h) rfl)
end K34

namespace K34
open PySem PySem.Spec PyProof.Rows L2 Dw
variable [Tabs0]
theorem d_possible {P : Program} {w : World} {K : PySem.W.Frag} {mg : Str → Option Value} {base : Heap} (T : Txt K w mg) : FnOk P w K mg base CX0 5 T.f_possible T.e_possible ["book", "case"] (toSp (spPoss T.C_Book T.C_Case)) := by
  refine fn_ok T.F_possible sc_possible (fun _ => rfl) fun cdv A outer s' H E hr => ?_
  refine ⟨_, (pss_cons (ps_expr (pe_call (d_check_book T) (hr.mono (by decide)) (by rfl) T.m_check_book T.F_check_book.kp T.b_check_book .nil pass0 (pa_cons (pv 0) pa_nil))) (pss_cons (ps_expr (pe_call (d_check_case_beside T) (hr.mono (by decide)) (by rfl) T.m_check_case_beside T.F_check_case_beside.kp T.b_check_case_beside .nil pass0 (pa_cons (pv 0) (pa_cons (pv 1) pa_nil)))) (pss_cons (ps_expr (pe_call (d_check_some_fits T) (hr.mono (by decide)) (by rfl) T.m_check_some_fits T.F_check_some_fits.kp T.b_check_some_fits .nil pass0 (pa_cons (pv 0) pa_nil))) (pss_cons (ps_set (i := 2) sc_possible.nd rfl (Or.inr rfl) (pe_callB (lenA K) (by rfl) T.n_len (by decide +kernel) (pa_cons (pe_prop (pv 0) T.cl_Book T.p_Book_names (d_Book_names T) (hr.mono (by decide)) T.b_Book_names .nil pass0 rfl) pa_nil))) (pss_one (ps_ret (pe_callTy (tupleA K) (by rfl) T.n_tuple (by decide +kernel) (pa_cons (pe_lc (own := [("name", 3)]) rfl sc_possible.nd (piR K (pe_prop (pv 1) T.cl_Case T.p_Case_names (d_Case_names T) (hr.mono (by decide)) T.b_Case_names .nil pass0 rfl)) (blkOk_by (own := [("name", 3)]) (N := N_possible) (sc := (defScope s_possible)) (by decide +kernel)) (fun _ _ _ _ _ => pg_name (i := 3) sc_possible.nd rfl (Or.inl rfl)) (fun _ _ _ _ _ => pts_one (truA K (pe_call (d_some_fits T) (hr.mono (by decide)) (by rfl) T.m_some_fits T.F_some_fits.kp T.b_some_fits .nil pass0 (pa_cons (pe_tup (starA K (pe_prop (pv 0) T.cl_Book T.p_Book_rows (d_Book_rows T) (hr.mono (by decide)) T.b_Book_rows .nil pass0 rfl) (starA K (pe_call (d_rows_of T) (hr.mono (by decide)) (by rfl) T.m_rows_of T.F_rows_of.kp T.b_rows_of .nil pass0 (pa_cons (pv 1) (pa_cons (pv 3) pa_nil))) pa_nil))) (pa_cons (pv 2) pa_nil))))) (fun _ _ _ _ _ => (pv 3))) pa_nil)))))))), fun x hx => ?_⟩
  obtain ⟨⟨Ls, rs⟩, ls, ms⟩ := x
  obtain ⟨hb, hc, hs⟩ := hx
  have hb : BookOk Ls rs := hb
  have hc : CaseOk ls ms Ls.length := hc
  have hs : Still rs Ls.length = [] := hs
  have sm := hc.same
  have h20 := hb.few
  have h8 := hc.names.hi
  have rz := fun i => rw_few (i := i) (show ms.length ≤ 8 by rw [sm]; exact hc.names.hi)
  refine ds_seq (ds_drop (Ev.dl (ev_call (s := spCheck T.C_Book) (x := (Ls, rs)) (eva_cons (ev_var rfl) eva_nil) (np_book _ Ls rs) trivial fun d h => h) ?_))
  refine ds_seq (ds_drop (Ev.dl (ev_call (s := spCkBes T.C_Book T.C_Case) (d := .non) (x := ((Ls, rs), ls, ms)) (eva_cons (ev_var rfl) (eva_cons (ev_var rfl) eva_nil)) (np_bc (r := []) rfl) ⟨hb, hc⟩ fun d h => h) ?_))
  refine ds_seq (ds_drop (Ev.dl (ev_call (s := spCkFits T.C_Book) (x := (Ls, rs)) (eva_cons (ev_var rfl) eva_nil) (np_book _ Ls rs) ⟨hb, hs⟩ fun d h => h) ?_))
  refine ds_seq (ds_asg (Ev.dl (ev_names (C := T.C_Book) (rs := rs) (ev_prop (s := spBNames T.C_Book) (x := (Ls, rs)) (ev_var rfl) rfl (np_book _ Ls rs) trivial fun d h => h)) ?_))
  refine ds_ret (Ev.dl (ev_cast (d' := .tup (nameD ((posI rs ms Ls.length).map (rowAt ls)))) (by unfold posI nameD; rw [List.map_map, sm]; rfl) (ev_tuple (EvN.b (evn_lc (xs := List.range ls.length) (c := fun k => .str (tx (rowAt ls k))) (p := fun i => decide (Still (rs ++ rwM ms i) Ls.length = [])) (f := fun k => .str (tx (rowAt ls k))) ?ej (by rw [List.length_range]; omega) fun i hi => ⟨[3], _, dg_name, fun i hi => hi, evt_tru_bl (ev_call (s := spSome) (d := .bl (decide (Still (rs ++ rwM ms i) Ls.length = []))) (x := (rs ++ rwM ms i, Ls.length, false)) (eva_cons (ev_both (ev_prop (s := spBRows T.C_Book) (x := (Ls, rs)) (ev_var rfl) rfl (np_book _ Ls rs) trivial fun d h => h) (ev_call (s := spRowsOf T.C_Case) (d := .tup (nameD (rwM ms i))) (x := ((ls, ms, Ls.length), i)) (eva_cons (ev_var rfl) (eva_cons (ev_var rfl) eva_nil)) (np_caseO (r := [_]) rfl) ⟨hc, List.mem_range.mp hi⟩ fun d h => h) (by have := rz i; omega)) (eva_cons (ev_var rfl) eva_nil)) (np_rd (b := false) (r := [_]) rfl) ⟨fun r hr => (List.mem_append.mp hr).elim (hb.rows r) (rwM_ok (i := i) hc (List.mem_range.mp hi) r), hb.n8, by show (rs ++ rwM ms i).length ≤ 1000; rw [List.length_append]; have := rz i; omega⟩ fun d h => h), fun _ => ev_var rfl⟩)))) rfl)
  rw [names_range]
  exact ej_tup (ev_dn (ev_prop (s := spCNames T.C_Case) (x := (ls, ms, Ls.length)) (ev_var rfl) rfl (np_caseO (r := []) rfl) trivial fun d h => h))
end K34

namespace K34
open PySem PySem.Spec PyProof.Rows L2 Dw
variable [Tabs0]
theorem d_sure {P : Program} {w : World} {K : PySem.W.Frag} {mg : Str → Option Value} {base : Heap} (T : Txt K w mg) : FnOk P w K mg base CX0 6 T.f_sure T.e_sure ["book", "case"] (toSp (spSure T.C_Book T.C_Case)) := by
  refine fn_ok T.F_sure sc_sure (fun _ => rfl) fun cdv A outer s' H E hr => ?_
  refine ⟨_, (pss_cons (ps_expr (pe_call (d_check_book T) (hr.mono (by decide)) (by rfl) T.m_check_book T.F_check_book.kp T.b_check_book .nil pass0 (pa_cons (pv 0) pa_nil))) (pss_cons (ps_expr (pe_call (d_check_case_beside T) (hr.mono (by decide)) (by rfl) T.m_check_case_beside T.F_check_case_beside.kp T.b_check_case_beside .nil pass0 (pa_cons (pv 0) (pa_cons (pv 1) pa_nil)))) (pss_cons (ps_expr (pe_call (d_check_some_fits T) (hr.mono (by decide)) (by rfl) T.m_check_some_fits T.F_check_some_fits.kp T.b_check_some_fits .nil pass0 (pa_cons (pv 0) pa_nil))) (pss_cons (ps_set (i := 2) sc_sure.nd rfl (Or.inr rfl) (pe_call (d_count_fitting T) (hr.mono (by decide)) (by rfl) T.m_count_fitting T.F_count_fitting.kp T.b_count_fitting .nil pass0 (pa_cons (pe_prop (pv 0) T.cl_Book T.p_Book_rows (d_Book_rows T) (hr.mono (by decide)) T.b_Book_rows .nil pass0 rfl) (pa_cons (pe_callB (lenA K) (by rfl) T.n_len (by decide +kernel) (pa_cons (pe_prop (pv 0) T.cl_Book T.p_Book_names (d_Book_names T) (hr.mono (by decide)) T.b_Book_names .nil pass0 rfl) pa_nil)) pa_nil)))) (pss_one (ps_ret (pe_callTy (tupleA K) (by rfl) T.n_tuple (by decide +kernel) (pa_cons (pe_lc (own := [("name", 3)]) rfl sc_sure.nd (piR K (pe_prop (pv 1) T.cl_Case T.p_Case_names (d_Case_names T) (hr.mono (by decide)) T.b_Case_names .nil pass0 rfl)) (blkOk_by (own := [("name", 3)]) (N := N_sure) (sc := (defScope s_sure)) (by decide +kernel)) (fun _ _ _ _ _ => pg_name (i := 3) sc_sure.nd rfl (Or.inl rfl)) (fun _ _ _ _ _ => pts_one (pt_cmpR (eqA K hr.units) (pe_call (d_wins T) (hr.mono (by decide)) (by rfl) T.m_wins T.F_wins.kp T.b_wins .nil pass0 (pa_cons (pv 0) (pa_cons (pv 1) (pa_cons (pv 3) pa_nil)))) (pv 2) (nomark _))) (fun _ _ _ _ _ => (pv 3))) pa_nil)))))))), fun x hx => ?_⟩
  obtain ⟨⟨Ls, rs⟩, ls, ms⟩ := x
  obtain ⟨hb, hc, hs⟩ := hx
  have hb : BookOk Ls rs := hb
  have hc : CaseOk ls ms Ls.length := hc
  have hs : Still rs Ls.length = [] := hs
  have sm := hc.same
  have h20 := hb.few
  have h8 := hc.names.hi
  refine ds_seq (ds_drop (Ev.dl (ev_call (s := spCheck T.C_Book) (x := (Ls, rs)) (eva_cons (ev_var rfl) eva_nil) (np_book _ Ls rs) trivial fun d h => h) ?_))
  refine ds_seq (ds_drop (Ev.dl (ev_call (s := spCkBes T.C_Book T.C_Case) (d := .non) (x := ((Ls, rs), ls, ms)) (eva_cons (ev_var rfl) (eva_cons (ev_var rfl) eva_nil)) (np_bc (r := []) rfl) ⟨hb, hc⟩ fun d h => h) ?_))
  refine ds_seq (ds_drop (Ev.dl (ev_call (s := spCkFits T.C_Book) (x := (Ls, rs)) (eva_cons (ev_var rfl) eva_nil) (np_book _ Ls rs) ⟨hb, hs⟩ fun d h => h) ?_))
  refine ds_seq (ds_asg (Ev.dl (ev_call (s := spCount) (d := .int (countM rs Ls.length : Nat)) (x := (rs, Ls.length, false)) (eva_cons (ev_prop (s := spBRows T.C_Book) (x := (Ls, rs)) (ev_var rfl) rfl (np_book _ Ls rs) trivial fun d h => h) (eva_cons (ev_names (C := T.C_Book) (rs := rs) (ev_prop (s := spBNames T.C_Book) (x := (Ls, rs)) (ev_var rfl) rfl (np_book _ Ls rs) trivial fun d h => h)) eva_nil)) (np_rd (b := false) (r := [_]) rfl) ⟨hb.rows, hb.n8, by show rs.length ≤ 1000; omega⟩ fun d h => h) ?_))
  refine ds_ret (Ev.dl (ev_cast (d' := .tup (nameD ((sureI rs ms Ls.length).map (rowAt ls)))) (by unfold sureI nameD; rw [List.map_map, sm]; rfl) (ev_tuple (EvN.b (evn_lc (xs := List.range ls.length) (c := fun k => .str (tx (rowAt ls k))) (p := fun i => decide (countM (rs ++ rwM ms i) Ls.length = countM rs Ls.length)) (f := fun k => .str (tx (rowAt ls k))) ?ej (by rw [List.length_range]; omega) fun i hi => ⟨[3], _, dg_name, fun i hi => hi, evt_test (ev_op (ev_call (s := spWins T.C_Book T.C_Case) (d := .int (countM (rs ++ rwM ms i) Ls.length : Nat)) (x := (((Ls, rs), ls, ms), i)) (eva_cons (ev_var rfl) (eva_cons (ev_var rfl) (eva_cons (ev_var rfl) eva_nil))) (np_bc (r := [_]) rfl) ⟨hb, hc, List.mem_range.mp hi⟩ fun d h => h) (ev_var (d := .int (countM rs Ls.length : Nat)) rfl) (eq_nat _ _)), fun _ => ev_var rfl⟩)))) rfl)
  rw [names_range]
  exact ej_tup (ev_dn (ev_prop (s := spCNames T.C_Case) (x := (ls, ms, Ls.length)) (ev_var rfl) rfl (np_caseO (r := []) rfl) trivial fun d h => h))

end K34

namespace K34
open PySem PySem.Spec PyProof.Rows L2 Dw
variable [Tabs0]
/-! the jar and what is drawn from it -/
def strs2 : List Str := ["a", "ann", "b", "bob", "cid", "cost", "near", "safe", "zzzzzzzz", "tell", "rows", "undo", "x", "none", "sure", "count", "m"]
def lab2 : List (List Nat) := strs2.map fun s => s.cps.toList
theorem lab2_D : nameD lab2 = strs2.map D.str := by
  unfold nameD lab2
  rw [List.map_map]
  exact List.map_congr_left fun s _ => congrArg D.str (of_tx s)
theorem lab2_ok : ∀ l ∈ lab2, NameOk l := by
  have h : lab2.all nameB = true := by decide +kernel
  exact fun l hl => nameB_ok (List.all_eq_true.mp h l hl)
theorem lab2_nd : lab2.Nodup := by decide +kernel
/-- names of their own, put in order -/
theorem names_ofN {lab : List (List Nat)} (hok : ∀ l ∈ lab, NameOk l) {zs : List Str} {acc : List (List Nat)} {n : Nat} (hn : acc.Nodup) (hp : ∀ l ∈ acc, l ∈ lab) (hz : zs.Perm (acc.map tx)) (hs : sortedS zs = true) (hl : acc.length = n) (h1 : 1 ≤ n) (h8 : n ≤ 8) :
    NamesOk (zs.map fun s => s.cps.toList) := by
  have ln : zs.length = n := by rw [hz.length_eq, List.length_map, hl]
  have nd : zs.Nodup := hz.nodup_iff.mpr (nodup_tx hn)
  refine ⟨by rw [List.length_map]; omega, by rw [List.length_map]; omega, fun l h => ?_, ?_⟩
  · obtain ⟨s, h1, rfl⟩ := List.mem_map.mp h
    obtain ⟨m, h2, rfl⟩ := List.mem_map.mp (hz.mem_iff.mp h1)
    show NameOk (tx m).cps.toList
    rw [tx_cps]
    exact hok m (hp m h2)
  · cases zs with
    | nil => exact fun p hp => by cases hp
    | cons x r => exact rising_inc x r hs nd
def stepAt (a s : Nat) (k : Nat) : Nat := (a + s * k) % 17
theorem step_lt (a s k : Nat) : stepAt a s k < 17 := Nat.mod_lt _ (by decide)
theorem steps_nd : ∀ a < 17, ∀ s < 17, 1 ≤ s → ((List.range 8).map (stepAt a s)).Nodup := by decide +kernel
theorem tags_nd {a s n : Nat} (ha : a < 17) (hs : s < 17) (h1 : 1 ≤ s) (h8 : n ≤ 8) : ((List.range n).map fun k => rowAt lab2 (stepAt a s k)).Nodup := by
  have h := steps_nd a ha s hs h1
  have e : List.range n = (List.range 8).take n := by rw [List.take_range]; congr 1; omega
  have h2 : ((List.range n).map (stepAt a s)).Nodup := by
    rw [e, List.map_take]
    exact h.sublist (List.take_sublist _ _)
  have h3 : (List.range n).map (fun k => rowAt lab2 (stepAt a s k)) = ((List.range n).map (stepAt a s)).map (rowAt lab2) := by rw [List.map_map]; rfl
  rw [h3]
  unfold List.Nodup at h2 ⊢
  rw [List.pairwise_map]
  refine h2.imp_of_mem fun {x y} hx hy hxy he => hxy ?_
  obtain ⟨i, _, rfl⟩ := List.mem_map.mp hx
  obtain ⟨j, _, rfl⟩ := List.mem_map.mp hy
  have l1 := step_lt a s i
  have l2 := step_lt a s j
  rw [rowAt_get (show _ < lab2.length from l1), rowAt_get (show _ < lab2.length from l2)] at he
  exact (List.getElem_inj lab2_nd).mp he
def spTags : Spc where
  ty := Nat
  args := fun n => [.purse, .int n]
  ok := fun n => 1 ≤ n ∧ n ≤ 8
  rel := fun n d => ∃ ls, d = .lst (nameD ls) ∧ NamesOk ls ∧ ls.length = n
def pairDm (p : List Nat × List Nat) : D := .tup [.str (tx p.1), .tup (ordD p.2)]
def folkD (ls ms : List (List Nat)) : List D := (ls.zip ms).map pairDm
def spFolk : Spc where
  ty := Nat × Nat × Nat
  args := fun x => [.purse, .int x.1, .int x.2.1, .int x.2.2]
  ok := fun x => 1 ≤ x.1 ∧ x.1 ≤ 8 ∧ 2 ≤ x.2.1 ∧ x.2.1 ≤ x.2.2 ∧ x.2.2 ≤ 8
  rel := fun x d => ∃ ls ms, d = .lst (folkD ls ms) ∧ CaseOk ls ms x.1 ∧ x.2.1 ≤ ls.length ∧ ls.length ≤ x.2.2
def spCell (K : PySem.W.Frag) : Spc where
  ty := List Int × Nat
  args := fun x => [.scr K (x.1.map V.int), .int x.2]
  ok := fun x => x.1.length ≤ 63
  rel := fun _ d => ∃ z : Int, d = .int z
theorem at_step (a s k : Nat) : atI (nameD lab2) (((a : Int) + (s : Int) * (k : Int)) % 17) = some (.str (tx (rowAt lab2 (stepAt a s k)))) := by
  have e : ((a : Int) + (s : Int) * (k : Int)) % 17 = ((stepAt a s k : Nat) : Int) := by
    unfold stepAt
    rw [Int.natCast_emod, Int.natCast_add, Int.natCast_mul]; rfl
  rw [e]
  exact rowAt_at (show _ < lab2.length from step_lt a s k)
theorem dg_tup3J {K : PySem.W.Frag} {g1 g2 g3 : TG} {is js ks : List Nat} {x y z : D} {Γ Γ1 Γ2 Γ3 : Gam} (h1 : DG g1 is x Γ Γ1) (h2 : DG g2 js y Γ1 Γ2) (h3 : DG g3 ks z Γ2 Γ3) : DG (gTup K 3 (gCons g1 (gCons g2 (gCons g3 gNil)))) (is ++ (js ++ ks)) (.tup [x, y, z]) Γ Γ3 := fun F σ W v R g r k => by
  obtain ⟨a, vs, e, ha, nu, v1, _, rfl, r1, v2, _, rfl, r2, v3, _, rfl, r3, rfl⟩ := r
  refine ⟨a, [v1, v2, v3], e, ha.sq, rfl, v1, [v2, v3], rfl, h1 F σ W v1 _ g r1 fun σ1 g1 w1 => ⟨v2, [v3], rfl, h2 F σ1 W v2 _ g1 r2 fun σ2 g2 w2 => ⟨v3, [], rfl, h3 F σ2 W v3 _ g2 r3 fun σ3 g3 w3 => ⟨rfl, k σ3 g3 fun vs h => ?_⟩⟩⟩⟩
  rw [w3 vs fun i hi => h i (List.mem_append_right _ (List.mem_append_right _ hi)), w2 vs fun i hi => h i (List.mem_append_right _ (List.mem_append_left _ hi)), w1 vs fun i hi => h i (List.mem_append_left _ hi)]
end K34

namespace K34
open PySem PySem.Spec PyProof.Rows L2 Dw
variable [Tabs0]
theorem d__law_cell {P : Program} {w : World} {K : PySem.W.Frag} {mg : Str → Option Value} {base : Heap} (T : Txt K w mg) : FnOk P w K mg base CX0 1 T.f__law_cell T.e__law_cell ["_law_cells", "_law_k"] (toSp (spCell K)) := by
  refine fn_ok T.F__law_cell sc__law_cell (fun _ => rfl) fun cdv A outer s' H E hr => ?_
  refine ⟨_, (pss_cons (ps_if (pt_cmpR opLt (pv 1) (pe_callB (lenA K) (by rfl) T.n_len (by decide +kernel) (pa_cons (pv 0) pa_nil)) (nomark _)) (pss_one (ps_ret (pe_ix (ixA K) (pv 0) (pv 1) (fun _ _ => rfl)))) pss_nil) (pss_cons (ps_set (i := 2) sc__law_cell.nd rfl (Or.inl rfl) (pe_op (plusE K) pe_int (pe_op opTimes pe_int (pv 1)))) (pss_cons (ps_for PassesOwn.never rfl (piR K (pe_slice (slXA K) (pv 0) po_none (po_some pe_int))) (pg_name (i := 3) sc__law_cell.nd rfl (Or.inl rfl)) (pss_one (ps_set (i := 2) sc__law_cell.nd rfl (Or.inl rfl) (pe_op op_mod (pe_callTy call_int1 (by rfl) T.n_int (by decide +kernel) (pa_cons (pe_op (plusE K) (pe_op (plusE K) (pe_op opTimes (pv 2) pe_int) (pe_op opTimes (pv 3) pe_int)) (pv 1)) pa_nil)) pe_int)))) (pss_one (ps_ret (pv 2)))))), fun x hx => ?_⟩
  obtain ⟨ns, k⟩ := x
  have hn : ns.length ≤ 63 := hx
  have l0 : (ns.map V.int).length = ns.length := List.length_map ..
  refine ds_seq (ds_if (EvT.dl (b := decide ((k : Int) < ((ns.map V.int).length : Int))) (evt_test (ev_op (ev_var rfl) (ev_lenX (ev_var rfl)) lt_int')) ⟨fun h => ds_ret (Ev.dl (ev_ixX (z := ns.getD k 0) (ev_var rfl) (ev_var rfl) (scr_at ?_)) ⟨_, rfl⟩), fun _ => ds_next ?_⟩))
  · have := of_decide_eq_true h
    rw [l0] at this
    show k < ns.length
    omega
  refine ds_seq (ds_asg (Ev.dl (ev_op ev_int (ev_op ev_int (ev_var rfl) (times_int (.inl ⟨by decide, by decide⟩))) pl_int) ?_))
  refine ds_seq (ds_for (fun xs i Γ' => (∀ x ∈ xs, ∃ z : Int, x = .int z) ∧ ∃ (made : Int) (s3 : Sl), Γ' = [.val (.scr K (ns.map V.int)), .val (.int k), .val (.int made), s3])
      (dj_list (Ev.dl (EvN.ev (evn_sliceXY (hi := some 5) (ev_var rfl) eo_none (eo_some ev_int))) ⟨_, rfl, ⟨fun x hx => ?_, _, _, rfl⟩, fun i x Γ' hx' ⟨hx0, made, s3, e⟩ => ?_, fun Γ' ⟨hx0, made, s3, e⟩ => ?_⟩)))
  · obtain ⟨z, _, rfl⟩ := List.mem_map.mp hx
    exact ⟨z, rfl⟩
  · subst e
    obtain ⟨z, rfl⟩ := hx0 x (List.mem_of_getElem? hx')
    exact ⟨[3], _, dg_name, ds_asg (Ev.dl (ev_op (ev_int1 (ev_op (ev_op (ev_op (ev_var rfl) ev_int (times_int (.inr ⟨by decide, by decide⟩))) (ev_op (ev_var rfl) ev_int (times_int (.inr ⟨by decide, by decide⟩))) pl_int) (ev_var rfl) pl_int)) ev_int (dr2_mod (by decide))) ⟨hx0, _, _, rfl⟩)⟩
  · subst e
    exact ds_ret (Ev.dl (ev_var rfl) ⟨_, rfl⟩)
end K34

namespace K34
open PySem PySem.Spec PyProof.Rows L2 Dw
variable [Tabs0]
theorem d__law_well {P : Program} {w : World} {K : PySem.W.Frag} {mg : Str → Option Value} {base : Heap} (T : Txt K w mg) : FnOk P w K mg base CX0 1 T.f__law_well T.e__law_well ["_law_cell_here"] toWell := by
  refine T.F__law_well.ok sc__law_well (fun vs H Q E ⟨F, W, cell, _, _, r, _⟩ => by rw [← r.length]; rfl) fun cdv A outer s' H vs Q E hr h => ?_
  refine ⟨_, (pss_one (ps_ret (pe_lst (pa_cons (pe_ifExp (PW.pt (pw_or (pt_cmpR opLt (pv 0) pe_int (nomark _)) (pw_or1 (pt_cmpR opGe (pv 0) (pe_op op_pow pe_int pe_int) (nomark _))))) (pe_callB call_abs (by rfl) T.n_abs (by decide +kernel) (pa_cons (pv 0) pa_nil)) pe_int) (pa_cons (pe_op op_mod (pe_callTy call_int1 (by rfl) T.n_int (by decide +kernel) (pa_cons (pv 0) pa_nil)) pe_int) (pa_cons pe_int pa_nil)))))), ?_⟩
  obtain ⟨F, W, cell, rfl, ok, r, k⟩ := h
  have g0 : SR F (Gz0 1 [.int cell]) (L2.start N__law_well vs) W := sr_start (N := N__law_well) ok r
  have ep : (10 : Int) ^ (18 : Int).toNat = 1000000000000000000 := by decide +kernel
  refine evn_lst (ds := [.int (if (decide (cell < 0) || decide ((10 : Int) ^ (18 : Int).toNat ≤ cell)) = true then (if cell < 0 then -cell else cell) else 0), .int (cell % 2147483587), .int 0]) (eva_cons (ev_cast ?_ (ev_if (a := (decide (cell < 0) || decide ((10 : Int) ^ (18 : Int).toNat ≤ cell))) (evt_or (evt_test (ev_op (ev_var rfl) ev_int lt_int')) fun _ => evt_test (ev_op (ev_var rfl) (ev_op ev_int ev_int (dr2_pow ?_)) dr2_ge)) (fun _ => ev_abs (ev_var rfl)) fun _ => ev_int)) (eva_cons (ev_op (ev_int1 (ev_var rfl)) ev_int (dr2_mod (by decide))) (eva_cons ev_int eva_nil))) (small (show 3 ≤ 100000 by decide)) F _ W _ g0 fun a vs H' sm hn ha rl => ?_
  · cases (decide (cell < 0) || decide ((10 : Int) ^ (18 : Int).toNat ≤ cell)) <;> rfl
  · exact ⟨by decide, by decide, by decide⟩
  · have ev := RepL.ints (ns := [_, _, _]) |>.mp rl
    rw [ev] at ha
    refine k a _ _ _ W H' (Stp.refl _) ok sm hn ha ?_ (Int.emod_nonneg _ (by decide)) (Int.lt_trans (Int.emod_lt_of_pos _ (by decide)) (by decide))
    by_cases hq : (decide (cell < 0) || decide ((10 : Int) ^ (18 : Int).toNat ≤ cell)) = true
    · rw [if_pos hq]
      by_cases h : cell < 0 <;> simp [h] <;> omega
    · rw [if_neg hq]; exact Int.le_refl _

end K34

namespace K34
open PySem PySem.Spec PyProof.Rows L2 Dw
variable [Tabs0]
theorem d__law_dip {P : Program} {w : World} {K : PySem.W.Frag} {mg : Str → Option Value} {base : Heap} (T : Txt K w mg) : FnOk P w K mg base CX0 1 T.f__law_dip T.e__law_dip ["_law_jar", "_law_many"] (toSp (spDraw)) := by
  refine fn_ok T.F__law_dip sc__law_dip (fun _ => rfl) fun cdv A outer s' H E hr => ?_
  refine ⟨_, (pss_cons (ps_asg (pe_op (plusE K) (pe_ix (ixA K) (pv 0) pe_int (fun _ _ => rfl)) pe_int) (pg_sub (pv 0) pe_int set_list)) (pss_cons (ps_set (i := 2) sc__law_dip.nd rfl (Or.inl rfl) (pe_op op_mod (pe_callTy call_int1 (by rfl) T.n_int (by decide +kernel) (pa_cons (pe_op (plusE K) (pe_ix (ixA K) (pv 0) pe_int (fun _ _ => rfl)) (pe_op opTimes pe_int (pe_ix (ixA K) (pv 0) pe_int (fun _ _ => rfl)))) pa_nil)) pe_int)) (pss_cons (ps_asg (pe_op op_mod (pe_callTy call_int1 (by rfl) T.n_int (by decide +kernel) (pa_cons (pe_op (plusE K) (pe_op (plusE K) (pe_op op_mulX (pv 2) (pv 2)) (pe_op opTimes pe_int (pv 2))) pe_int) pa_nil)) pe_int) (pg_sub (pv 0) pe_int set_list)) (pss_cons (ps_if (pt_cmpR (eqA K hr.units) (pe_ix (ixA K) (pv 0) pe_int (fun _ _ => rfl)) pe_int (nomark _)) (pss_one (ps_ret (pe_op op_mod (pe_callTy call_int1 (by rfl) T.n_int (by decide +kernel) (pa_cons (pe_op op_fdiv (pe_ix (ixA K) (pv 0) pe_int (fun _ _ => rfl)) pe_int) pa_nil)) (pv 1)))) pss_nil) (pss_cons (ps_asg (pe_callB call_divmod (by rfl) T.n_divmod (by decide +kernel) (pa_cons (pe_ix (ixA K) (pv 0) pe_int (fun _ _ => rfl)) (pa_cons (pv 1) pa_nil))) (tupA K 2 rfl (pgs_cons (pg_name (i := 3) sc__law_dip.nd rfl (Or.inl rfl)) (pgs_cons (pg_name (i := 4) sc__law_dip.nd rfl (Or.inl rfl)) pgs_nil)))) (pss_cons (ps_asg (pv 3) (pg_sub (pv 0) pe_int set_list)) (pss_one (ps_ret (pv 4))))))))), fun x hx => ?_⟩
  obtain ⟨x, rfl⟩ : ∃ n : Nat, n = x := ⟨x, rfl⟩
  obtain ⟨hn0, hn1⟩ := hx
  have hn0 : 0 < x := hn0
  have hn1 : x < 100000 := hn1
  refine fun F σ W Dr g l => ?_
  obtain ⟨v0, e0, a, ev, hp, nn, tbl⟩ := g.val 0 .purse rfl
  obtain ⟨v1, e1, r1⟩ := g.val 1 (.int x) rfl
  subst ev
  rw [show v1 = V.int x from r1] at e1
  have l2 : 2 < σ.length := by rw [← g.len]; exact (show 2 < 5 by decide)
  have l3 : 3 < σ.length := by rw [← g.len]; exact (show 3 < 5 by decide)
  have l4 : 4 < σ.length := by rw [← g.len]; exact (show 4 < 5 by decide)
  obtain ⟨⟨p, c⟩, q, hp0, hq0, hq1, hH⟩ := (g.ok.pu a hp).2.2.purse nn
  have hp0 : 0 ≤ p := hp0
  have hH : W.H a = some (.lst [.int p, .int q, .int c]) := hH
  have i0 : ∀ y c : Int, atI [V.int p, V.int y, V.int c] 0 = some (V.int p) := fun y c => atI_nat (j := 0) rfl
  have i1 : ∀ y c : Int, atI [V.int p, V.int y, V.int c] 1 = some (V.int y) := fun y c => atI_nat (j := 1) rfl
  have i2 : ∀ y c : Int, atI [V.int p, V.int y, V.int c] 2 = some (V.int c) := fun y c => atI_nat (j := 2) rfl
  have md : ∀ z : Int, ∃ r : Nat, r < x ∧ V.int (z % (x : Int)) = V.int r := fun z => ⟨(z % (x : Int)).toNat, by
    have h1 := Int.emod_nonneg z (show (x : Int) ≠ 0 by omega)
    have h2 := Int.emod_lt_of_pos z (show (0 : Int) < x by omega)
    omega, by
    have h1 := Int.emod_nonneg z (show (x : Int) ≠ 0 by omega)
    rw [Int.toNat_of_nonneg h1]⟩
  refine ⟨.ref a, e0, .inl ⟨a, _, 2, .int c, rfl, rfl, .of hH, i2 q c, .inl (.inl ⟨c, 1, rfl, rfl, ?_⟩)⟩⟩
  obtain ⟨st1, ok1⟩ := purse_step (x := p) (y := q) (c := c + 1) g.ok hp nn hp0 hq0 hq1
  refine ⟨.ref a, e0, a, _, 2, 2, rfl, rfl, hH, rfl, ?_⟩
  refine ⟨.ref a, e0, .inl ⟨a, [.int p, .int q, .int (c + 1)], 1, .int q, rfl, rfl, .of upd_same, i1 _ _, ?_⟩⟩
  refine ⟨.ref a, e0, .inl ⟨a, [.int p, .int q, .int (c + 1)], 2, .int (c + 1), rfl, rfl, .of upd_same, i2 _ _, .inl ⟨770551, c + 1, rfl, rfl, .inl ⟨by decide, by decide⟩, ?_⟩⟩⟩
  refine .inl (.inl ⟨_, _, rfl, rfl, .inl ⟨_, rfl, _, _, rfl, rfl, (show (0 : Int) < 2147483587 by decide), ?_⟩⟩)
  have b0 := Int.emod_nonneg (q + 770551 * (c + 1)) (show (2147483587 : Int) ≠ 0 by decide)
  have b1 := Int.emod_lt_of_pos (q + 770551 * (c + 1)) (show (0 : Int) < 2147483587 by decide)
  obtain ⟨m, hm⟩ : ∃ m : Int, (q + 770551 * (c + 1)) % 2147483587 = m := ⟨_, rfl⟩
  refine (show gName 2 (V.int ((q + 770551 * (c + 1)) % 2147483587)) σ _ _ from ?_)
  rw [hm] at b0 b1 ⊢
  have cm : CMulX m m := mulx_ok (a := 31) (b := 31) (by omega) (by omega) (by decide)
  have e0' : (σ.set 2 (some (V.int m)))[0]? = some (some (.ref a)) := (List.getElem?_set_ne (by decide)).trans e0
  have e1' : (σ.set 2 (some (V.int m)))[1]? = some (some (.int x)) := (List.getElem?_set_ne (by decide)).trans e1
  refine ⟨.int m, List.getElem?_set_self l2, .int m, List.getElem?_set_self l2, m, m, rfl, rfl, cm, ?_⟩
  refine ⟨.int m, List.getElem?_set_self l2, .inl ⟨2753159, m, rfl, rfl, .inl ⟨by decide, by decide⟩, ?_⟩⟩
  refine .inl (.inl ⟨_, _, rfl, rfl, .inl (.inl ⟨_, 519371, rfl, rfl, .inl ⟨_, rfl, _, _, rfl, rfl, (show (0 : Int) < 2147483587 by decide), ?_⟩⟩)⟩)
  have d0 := Int.emod_nonneg (m * m + 2753159 * m + 519371) (show (2147483587 : Int) ≠ 0 by decide)
  have d1 := Int.emod_lt_of_pos (m * m + 2753159 * m + 519371) (show (0 : Int) < 2147483587 by decide)
  obtain ⟨st2, ok2⟩ := purse_step (x := p) (y := (m * m + 2753159 * m + 519371) % 2147483587) (c := c + 1) ok1 hp nn hp0 d0 (Int.lt_trans d1 (by decide))
  refine ⟨.ref a, e0', a, _, 1, 1, rfl, rfl, upd_same, rfl, ?_⟩
  refine ⟨.ref a, e0', .inl ⟨a, [.int p, .int ((m * m + 2753159 * m + 519371) % 2147483587), .int (c + 1)], 0, .int p, rfl, rfl, .of upd_same, i0 _ _, .inl ⟨rfl, _, rfl, ?_⟩⟩⟩
  have ifB : ∀ {b : Bool} {A B : Prop}, (b = true → A) → (b = false → B) → (if b = true then A else B) := fun {b A B} h1 h2 => by
    cases b with
    | true => exact h1 rfl
    | false => exact h2 rfl
  refine ifB (fun hz => ?_) fun hz => ?_
  · have hz : p = 0 := by
      have := of_decide_eq_true hz
      injection this
    obtain ⟨r, hr1, hr2⟩ := md (((m * m + 2753159 * m + 519371) % 2147483587) / 103)
    refine ⟨.ref a, e0', .inl ⟨a, [.int p, .int ((m * m + 2753159 * m + 519371) % 2147483587), .int (c + 1)], 1, .int ((m * m + 2753159 * m + 519371) % 2147483587), rfl, rfl, .of upd_same, i1 _ _, _, 103, rfl, rfl, ⟨by decide, by decide⟩, .inl ⟨_, rfl, .int x, e1', _, _, rfl, rfl, (show (0 : Int) < x by omega), ?_⟩⟩⟩
    exact l.rt _ (Wd.at _ _) (.int r) (st1.trans st2) ok2 hr2 ⟨r, hr1, rfl⟩
  · have hz : ¬ p = 0 := fun h => by
      have := of_decide_eq_false hz
      exact this (congrArg V.int h)
    refine ⟨.ref a, e0', .inl ⟨a, [.int p, .int ((m * m + 2753159 * m + 519371) % 2147483587), .int (c + 1)], 0, .int p, rfl, rfl, .of upd_same, i0 _ _, .int x, e1', p, x, rfl, ⟨by omega, by omega⟩, fun t ht => ?_⟩⟩
    have na : a ≠ t := ne_of_none upd_same ht
    have s1 := same_upd (o := .tup [.int (p / x), .int (p % x)]) ht
    obtain ⟨st3, ok3⟩ := purse_step (x := p / x) (y := ((m * m + 2753159 * m + 519371) % 2147483587)) (c := c + 1) (ok2.same s1) hp nn (Int.ediv_nonneg hp0 (by omega)) d0 (Int.lt_trans d1 (by decide))
    obtain ⟨r, hr1, hr2⟩ := md p
    refine ⟨t, _, rfl, .of upd_same, rfl, .int (p / x), [.int (p % x)], rfl, .int (p % x), [], rfl, rfl, ?_⟩
    have e0'' : (((σ.set 2 (some (V.int m))).set 3 (some (V.int (p / x)))).set 4 (some (V.int (p % x))))[0]? = some (some (.ref a)) := (List.getElem?_set_ne (by decide)).trans ((List.getElem?_set_ne (by decide)).trans e0')
    have e3 : (((σ.set 2 (some (V.int m))).set 3 (some (V.int (p / x)))).set 4 (some (V.int (p % x))))[3]? = some (some (.int (p / x))) := (List.getElem?_set_ne (by decide)).trans (List.getElem?_set_self (by rw [List.length_set]; exact l3))
    have e4 : (((σ.set 2 (some (V.int m))).set 3 (some (V.int (p / x)))).set 4 (some (V.int (p % x))))[4]? = some (some (.int (p % x))) := List.getElem?_set_self (by rw [List.length_set, List.length_set]; exact l4)
    refine ⟨.int (p / x), e3, .ref a, e0'', a, _, 0, 0, rfl, rfl, (upd_ne na).trans upd_same, rfl, ?_⟩
    refine ⟨.int (p % x), e4, ?_⟩
    exact l.rt _ (Wd.at _ _) (.int r) ((st1.trans st2).trans ((Stp.of_same ok2 s1).trans st3)) ok3 hr2 ⟨r, hr1, rfl⟩
end K34

namespace K34
open PySem PySem.Spec PyProof.Rows L2 Dw
variable [Tabs0]
theorem d__law_pick {P : Program} {w : World} {K : PySem.W.Frag} {mg : Str → Option Value} {base : Heap} (T : Txt K w mg) : FnOk P w K mg base CX0 2 T.f__law_pick T.e__law_pick ["_law_jar", "_law_things"] (toSp (spAnyOf)) := by
  refine fn_ok T.F__law_pick sc__law_pick (fun _ => rfl) fun cdv A outer s' H E hr => ?_
  refine ⟨_, (pss_one (ps_ret (pe_ix (ixA K) (pv 1) (pe_call (d__law_dip T) (hr.mono (by decide)) (by rfl) T.m__law_dip T.F__law_dip.kp T.b__law_dip .nil pass0 (pa_cons (pv 0) (pa_cons (pe_callB (lenA K) (by rfl) T.n_len (by decide +kernel) (pa_cons (pv 1) pa_nil)) pa_nil))) (fun _ _ => rfl)))), fun x hx => ?_⟩
  obtain ⟨b, ds⟩ := x
  obtain ⟨h0, h1⟩ := hx
  have h0 : 0 < ds.length := h0
  have h1 : ds.length < 100000 := h1
  cases b with
  | true =>
    refine ds_ret (dl_op (Ev.dl (ev_var rfl) (dl_call (s := spDraw) (dla_cons (Ev.dl (ev_var rfl) (dla_cons (Ev.dl (ev_len (ds := ds) (ev_var rfl).b) (dla_nil ⟨ds.length, rfl, ⟨h0, h1⟩, fun d hd => ?_⟩))))))))
    obtain ⟨r, hr1, rfl⟩ := hd
    exact ⟨_, dr2_ixL (atI_nat (List.getElem?_eq_getElem hr1)), List.getElem_mem hr1⟩
  | false =>
    refine ds_ret (dl_op (Ev.dl (ev_var rfl) (dl_call (s := spDraw) (dla_cons (Ev.dl (ev_var rfl) (dla_cons (Ev.dl (ev_lenT (ds := ds) (ev_var rfl)) (dla_nil ⟨ds.length, rfl, ⟨h0, h1⟩, fun d hd => ?_⟩))))))))
    obtain ⟨r, hr1, rfl⟩ := hd
    exact ⟨_, dr2_ixT (atI_nat (List.getElem?_eq_getElem hr1)), List.getElem_mem hr1⟩
end K34

namespace K34
open PySem PySem.Spec PyProof.Rows L2 Dw
variable [Tabs0]
theorem d__law_tags {P : Program} {w : World} {K : PySem.W.Frag} {mg : Str → Option Value} {base : Heap} (T : Txt K w mg) : FnOk P w K mg base CX0 2 T.f__law_tags T.e__law_tags ["_law_jar", "_law_many"] (toSp (spTags)) := by
  refine fn_ok T.F__law_tags sc__law_tags (fun _ => rfl) fun cdv A outer s' H E hr => ?_
  refine ⟨_, (pss_cons (ps_set (i := 2) sc__law_tags.nd rfl (Or.inr rfl) (pe_lst (pa_cons pe_str (pa_cons pe_str (pa_cons pe_str (pa_cons pe_str (pa_cons pe_str (pa_cons pe_str (pa_cons pe_str (pa_cons pe_str (pa_cons pe_str (pa_cons pe_str (pa_cons pe_str (pa_cons pe_str (pa_cons pe_str pa_nil))))))))))))))) (pss_cons (ps_asg (pe_tup (pa_cons (pe_op (plusE K) (pv 2) (pe_lst (pa_cons pe_str (pa_cons pe_str (pa_cons pe_str (pa_cons pe_str pa_nil)))))) (pa_cons (pe_call (d__law_dip T) (hr.mono (by decide)) (by rfl) T.m__law_dip T.F__law_dip.kp T.b__law_dip .nil pass0 (pa_cons (pv 0) (pa_cons pe_int pa_nil))) (pa_cons (pe_op (plusE K) pe_int (pe_call (d__law_dip T) (hr.mono (by decide)) (by rfl) T.m__law_dip T.F__law_dip.kp T.b__law_dip .nil pass0 (pa_cons (pv 0) (pa_cons pe_int pa_nil)))) pa_nil)))) (tupA K 3 rfl (pgs_cons (pg_name (i := 2) sc__law_tags.nd rfl (Or.inr rfl)) (pgs_cons (pg_name (i := 3) sc__law_tags.nd rfl (Or.inr rfl)) (pgs_cons (pg_name (i := 4) sc__law_tags.nd rfl (Or.inr rfl)) pgs_nil))))) (pss_one (ps_ret (pe_callB (sortedA K) (by rfl) T.n_sorted (by decide +kernel) (pa_cons (pe_lc (own := [("_law_k", 5)]) rfl sc__law_tags.nd (pi_range1 (by rfl) T.n_range (pa_cons (pv 1) pa_nil)) (blkOk_by (own := [("_law_k", 5)]) (N := N__law_tags) (sc := (defScope s__law_tags)) (by decide +kernel)) (fun _ _ _ _ _ => pg_name (i := 5) sc__law_tags.nd rfl (Or.inl rfl)) (fun _ _ _ _ _ => pts_nil) (fun _ _ _ _ _ => (pe_ix (ixA K) (pv 2) (pe_op op_mod (pe_callTy call_int1 (by rfl) T.n_int (by decide +kernel) (pa_cons (pe_op (plusE K) (pv 3) (pe_op opTimes (pv 4) (pv 5))) pa_nil)) pe_int) (fun _ _ => rfl)))) pa_nil)))))), fun x hx => ?_⟩
  obtain ⟨n, rfl⟩ : ∃ l : Nat, l = x := ⟨x, rfl⟩
  obtain ⟨h1, h8⟩ := hx
  have h1 : 1 ≤ n := h1
  have h8 : n ≤ 8 := h8
  refine ds_seq (ds_asg (Ev.dl (EvN.ev (evn_lst (ds := (strs2.take 13).map D.str) (eva_cons ev_str (eva_cons ev_str (eva_cons ev_str (eva_cons ev_str (eva_cons ev_str (eva_cons ev_str (eva_cons ev_str (eva_cons ev_str (eva_cons ev_str (eva_cons ev_str (eva_cons ev_str (eva_cons ev_str (eva_cons ev_str eva_nil))))))))))))) (small (show 13 ≤ 100000 by decide)))) ?_))
  refine ds_seq (ds_asg_g (dl_tup (dla_cons (Ev.dl (ev_cast (d' := .lst (nameD lab2)) (congrArg D.lst lab2_D.symm) (EvN.ev (pl_evn (ds := (strs2.take 13).map D.str) (es := (strs2.drop 13).map D.str) (ev_var rfl).b (EvN.b (evn_lst (eva_cons ev_str (eva_cons ev_str (eva_cons ev_str (eva_cons ev_str eva_nil)))) (small (show 4 ≤ 100000 by decide)))) (small (show 13 + 4 ≤ 100000 by decide))))) (dla_cons (dl_call (s := spDraw) (dla_cons (Ev.dl (ev_var rfl) (dla_cons (Ev.dl ev_int (dla_nil ⟨(17 : Nat), rfl, ⟨by decide, by decide⟩, fun d hd => ?_⟩)))))))))))
  obtain ⟨a, ha, rfl⟩ := hd
  have ha : a < 17 := ha
  refine dla_cons (dl_op (Ev.dl ev_int (dl_call (s := spDraw) (dla_cons (Ev.dl (ev_var rfl) (dla_cons (Ev.dl ev_int (dla_nil ⟨(16 : Nat), rfl, ⟨by decide, by decide⟩, fun d hd => ?_⟩))))))))
  obtain ⟨q, hq, rfl⟩ := hd
  have hq : q < 16 := hq
  refine ⟨.int ((1 + q : Nat) : Int), ?pl, ?_⟩
  case pl =>
    have e := pl_int (K := K) (i := 1) (j := (q : Int))
    rw [show (1 : Int) + (q : Int) = ((1 + q : Nat) : Int) by omega] at e
    exact e
  generalize hs : 1 + q = st
  have s1 : 1 ≤ st := by omega
  have s17 : st < 17 := by omega
  refine dla_nil ⟨small (show 3 ≤ 100000 by decide), [2] ++ ([3] ++ [4]), _, dg_tup3J dg_name dg_name dg_name, ?_⟩
  have nd := tags_nd (n := n) ha s17 s1 h8
  refine ds_ret (dl_sortedS (Ev.dl (EvN.ev (evn_lc1 (xs := List.range n) (c := fun k : Nat => D.int k) (f := fun k => .str (tx (rowAt lab2 (stepAt a st k)))) (ei_range (n := n) (eva_cons (ev_var rfl) eva_nil) (by omega)) (by rw [List.length_range]; omega) fun k hk => ⟨[5], _, dg_name, fun i hi => hi, evt_yes, ev_ix (ds := nameD lab2) (ev_var rfl).b (ev_op (ev_int1 (ev_op (ev_var rfl) (ev_op (ev_var rfl) (ev_var rfl) (times_int (.inl ⟨by omega, by omega⟩))) pl_int)) ev_int (dr2_mod (by decide))) (at_step a st k)⟩)) ⟨((List.range n).map fun k => rowAt lab2 (stepAt a st k)).map tx, ?_, by rw [List.length_map, List.length_map, List.length_range]; omega, fun zs hz hs => ⟨zs.map fun s => s.cps.toList, ?_, names_ofN lab2_ok nd (fun l hl => ?_) hz hs (by rw [List.length_map, List.length_range]) h1 h8, ?_⟩⟩))
  · rw [List.map_map, List.map_map]; rfl
  · unfold nameD
    rw [List.map_map]
    exact congrArg D.lst (List.map_congr_left fun s _ => congrArg D.str (of_tx s)).symm
  · obtain ⟨k, _, rfl⟩ := List.mem_map.mp hl
    exact rowAt_mem (show _ < lab2.length from step_lt a st k)
  · rw [List.length_map, hz.length_eq, List.length_map, List.length_map, List.length_range]
end K34

namespace K34
open PySem PySem.Spec PyProof.Rows L2 Dw
variable [Tabs0]
theorem d__law_holds {P : Program} {w : World} {K : PySem.W.Frag} {mg : Str → Option Value} {base : Heap} (T : Txt K w mg) : FnOk P w K mg base CX0 1 T.f__law_holds T.e__law_holds ["_law_row_here", "_law_order"] (toSp (spHas)) := by
  refine fn_ok T.F__law_holds sc__law_holds (fun _ => rfl) fun cdv A outer s' H E hr => ?_
  refine ⟨_, (pss_cons (ps_for PassesOwn.never rfl (piR K (pv 1)) (pg_name (i := 2) sc__law_holds.nd rfl (Or.inl rfl)) (pss_one (ps_if (pt_cmpR (neA K hr.units) (pe_ix (ixA K) (pv 0) (pv 2) (fun _ _ => rfl)) pe_str (nomark _)) (pss_one (ps_ret (pe_cmpR (eqA K hr.units) (pe_ix (ixA K) (pv 0) (pv 2) (fun _ _ => rfl)) pe_str (nomark _)))) pss_nil))) (pss_one (ps_ret pe_bl))), fun x hx => ?_⟩
  obtain ⟨l, o⟩ := x
  obtain ⟨n, hl, h8, hk⟩ := hx
  have hl : RowOk l n := hl
  have hk : ∀ k ∈ o, k < n := hk
  refine ds_seq (ds_for (fun xs i Γ' => xs = ordD o ∧ ∃ s : Sl, Γ' = [.val (.str (tx l)), .val (.tup (ordD o)), s] ∧ ∀ k ∈ o.take i, sgn l k = 46)
    (dj_tup (Ev.dl (ev_var rfl) ⟨ordD o, rfl, ⟨rfl, _, rfl, fun k h => absurd h (by simp)⟩, fun i x Γ' hx' ⟨exs, s, e, hd⟩ => ?_, fun Γ' ⟨exs, s, e, hd⟩ => ?_⟩)))
  · subst e
    have hx3 : (o.map fun k : Nat => D.int k)[i]? = some x := hx'
    rw [List.getElem?_map] at hx3
    cases q : o[i]? with
    | none => rw [q] at hx3; cases hx3
    | some k =>
      rw [q] at hx3; cases hx3
      have hkn := hk k (List.mem_of_getElem? q)
      refine ⟨[2], _, dg_name, ds_if (EvT.dl (evt_test (ev_op (sgn_ev hl h8 hkn (ev_var rfl) (ev_var rfl)) ev_str ne_str')) ⟨fun h => ?_, fun h => ?_⟩)⟩
      · refine ds_ret (Ev.dl (ev_op (sgn_ev hl h8 hkn (ev_var rfl) (ev_var rfl)) ev_str eq_str') ?_)
        show D.bl _ = D.bl (holdsB l o)
        have hne : sgn l k ≠ 46 := fun z => by
          rw [z, ← ch_dot] at h
          simp at h
        rw [holds_at q hd hne, ch_plus]
        congr 1
        rw [Bool.eq_iff_iff]; simp [ch_eq]
      · refine ds_next ⟨exs, _, rfl, fun j hj => ?_⟩
        have hz : sgn l k = 46 := by
          rw [ch_dot] at h
          simpa [ch_eq] using h
        rw [List.take_add_one, q] at hj
        rcases List.mem_append.mp hj with hj | hj
        · exact hd j hj
        · rw [List.mem_singleton.mp hj]; exact hz
  · subst e
    rw [ordD_len, List.take_length] at hd
    exact ds_ret (Ev.dl ev_bl (congrArg D.bl (holds_dots hd).symm))
end K34

namespace K34
open PySem PySem.Spec PyProof.Rows L2 Dw
variable [Tabs0]
theorem d__law_turned {P : Program} {w : World} {K : PySem.W.Frag} {mg : Str → Option Value} {base : Heap} (T : Txt K w mg) : FnOk P w K mg base CX0 1 T.f__law_turned T.e__law_turned ["_law_row_here"] (toSp (spFlip)) := by
  refine fn_ok T.F__law_turned sc__law_turned (fun _ => rfl) fun cdv A outer s' H E hr => ?_
  refine ⟨_, (pss_one (ps_ret (joinA K pe_str (pe_lc (own := [("_law_sign", 1)]) rfl sc__law_turned.nd (piR K (pv 0)) (blkOk_by (own := [("_law_sign", 1)]) (N := N__law_turned) (sc := (defScope s__law_turned)) (by decide +kernel)) (fun _ _ _ _ _ => pg_name (i := 1) sc__law_turned.nd rfl (Or.inl rfl)) (fun _ _ _ _ _ => pts_nil) (fun _ _ _ _ _ => (pe_dget (hu_of hr) (pe_disp (pps_cons pe_str pe_str (pps_cons pe_str pe_str (pps_cons pe_str pe_str pps_nil))) (by rfl) (by rfl) (fun z => by cases z) (by decide)) (pv 1) (fun _ _ => rfl))))))), fun x hx => ?_⟩
  obtain ⟨l, rfl⟩ : ∃ l : List Nat, l = x := ⟨x, rfl⟩
  obtain ⟨n, hl, hn⟩ := hx
  have hl : RowOk l n := hl
  have it : Ei (iAnyR K (tVar 0)) (Gz0 2 (spFlip.args l)) (l.map fun c => D.str (ch c)) := by
    have := ej_str (K := K) (ta := tVar 0) (Γ := Gz0 2 (spFlip.args l)) (x := tx l) (ev_var rfl)
    rw [signs_tx, List.map_map] at this
    exact this
  refine ds_ret (Ev.dl (ev_join (x := Str.ofString "") (ys := (flipped l).map ch) ev_str (EvN.b ?_) ?_) ?_)
  · have e1 : (((flipped l).map ch).map D.str) = ((l.filter fun _ => true).map fun c => D.str (ch (flip1 c))) := by
      rw [List.filter_eq_self.mpr (fun _ _ => rfl)]
      unfold flipped
      rw [List.map_map, List.map_map]; rfl
    rw [e1]
    exact evn_lc (c := fun c => .str (ch c)) (p := fun _ => true) (f := fun c => .str (ch (flip1 c))) it (by rw [hl.len]; omega)
      fun c hc => ⟨[1], _, dg_name, fun i hi => hi, evt_yes, fun _ => ev_dget [(Str.ofString "+", Str.ofString "-"), (Str.ofString "-", Str.ofString "+"), (Str.ofString ".", Str.ofString ".")] rfl (by decide) (ev_var rfl) (flip_get (hl.all c hc))⟩
  · rw [chs_len]
    show (l.map flip1).length + ((l.map flip1).map ch).length * 0 ≤ _
    rw [List.length_map, hl.len]
    omega
  · show D.str _ = D.str _
    rw [join_chs]
end K34

namespace K34
open PySem PySem.Spec PyProof.Rows L2 Dw
variable [Tabs0]
theorem d__law_row {P : Program} {w : World} {K : PySem.W.Frag} {mg : Str → Option Value} {base : Heap} (T : Txt K w mg) : FnOk P w K mg base CX0 2 T.f__law_row T.e__law_row ["_law_jar", "_law_many"] (toSp (spSigns)) := by
  refine fn_ok T.F__law_row sc__law_row (fun _ => rfl) fun cdv A outer s' H E hr => ?_
  refine ⟨_, (pss_one (ps_ret (joinA K pe_str (pe_lc (own := [("_law_k", 2)]) rfl sc__law_row.nd (pi_range1 (by rfl) T.n_range (pa_cons (pv 1) pa_nil)) (blkOk_by (own := [("_law_k", 2)]) (N := N__law_row) (sc := (defScope s__law_row)) (by decide +kernel)) (fun _ _ _ _ _ => pg_name (i := 2) sc__law_row.nd rfl (Or.inl rfl)) (fun _ _ _ _ _ => pts_nil) (fun _ _ _ _ _ => (pe_ix (ixA K) pe_str (pe_call (d__law_dip T) (hr.mono (by decide)) (by rfl) T.m__law_dip T.F__law_dip.kp T.b__law_dip .nil pass0 (pa_cons (pv 0) (pa_cons pe_int pa_nil))) (fun _ _ => rfl))))))), fun x hx => ?_⟩
  obtain ⟨n, rfl⟩ : ∃ n : Nat, n = x := ⟨x, rfl⟩
  have hn : n ≤ 8 := hx
  refine ds_ret (dl_join ev_str (dl_lc (di_range (dla_cons (Ev.dl (ev_var rfl) (dla_nil ⟨n, rfl, by omega, by rw [rng_length]; omega, fun i acc Γ' => Γ' = wipeG (Gz0 3 (spSigns.args n)) [2] ∧ ∃ l : List Nat, acc = (l.map ch).map D.str ∧ RowOk l i, ⟨rfl, [], rfl, rfl, fun c h => absurd h (by simp)⟩, fun i x acc Γ' hx' ⟨e, l, ea, hl⟩ => ?_, fun acc Γ' ⟨e, l, ea, hl⟩ => ?_⟩))))))
  · subst e
    refine ⟨[2], _, dg_name, fun i hi => hi, dlt_yes ⟨fun _ => ?_, fun h => nomatch h⟩⟩
    refine dl_op (Ev.dl ev_str (dl_call (dla_cons (Ev.dl (ev_var rfl) (dla_cons (Ev.dl ev_int (dla_nil ⟨(5 : Nat), rfl, ⟨by decide, by decide⟩, fun d hd => ?_⟩)))))))
    obtain ⟨r, hr', ed⟩ := hd
    subst ed
    have : ∃ c, isSign c ∧ atI (Str.ofString "+-.+-").cps.toList (r : Int) = some c := by
      rcases (show r = 0 ∨ r = 1 ∨ r = 2 ∨ r = 3 ∨ r = 4 by omega) with rfl | rfl | rfl | rfl | rfl
      · exact ⟨43, .inl rfl, by decide +kernel⟩
      · exact ⟨45, .inr (.inl rfl), by decide +kernel⟩
      · exact ⟨46, .inr (.inr rfl), by decide +kernel⟩
      · exact ⟨43, .inl rfl, by decide +kernel⟩
      · exact ⟨45, .inr (.inl rfl), by decide +kernel⟩
    obtain ⟨c, hc, hat⟩ := this
    refine ⟨_, dr2_ixS (by decide +kernel) hat, rfl, l ++ [c], ?_, by rw [List.length_append, hl.len]; rfl, fun z hz => ?_⟩
    · rw [ea, List.map_append, List.map_append]; rfl
    · rcases List.mem_append.mp hz with hz | hz
      · exact hl.all z hz
      · rw [List.mem_singleton.mp hz]; exact hc
  · rw [rng_length] at hl
    refine ⟨l.map ch, congrArg D.lst ea, ?_, l, hl, by rw [join_chs]⟩
    rw [chs_len, List.length_map, hl.len]
    show n + n * 0 ≤ _
    omega
end K34

namespace K34
open PySem PySem.Spec PyProof.Rows L2 Dw
variable [Tabs0]
theorem d__law_orders {P : Program} {w : World} {K : PySem.W.Frag} {mg : Str → Option Value} {base : Heap} (T : Txt K w mg) : FnOk P w K mg base CX0 1 T.f__law_orders T.e__law_orders ["_law_many"] (toSp (spOrders)) := by
  refine fn_ok T.F__law_orders sc__law_orders (fun _ => rfl) fun cdv A outer s' H E hr => ?_
  refine ⟨_, (pss_cons (ps_set (i := 1) sc__law_orders.nd rfl (Or.inl rfl) (pe_lst (pa_cons (pe_tup pa_nil) pa_nil))) (pss_cons (ps_for PassesOwn.never rfl (pi_range1 (by rfl) T.n_range (pa_cons (pv 0) pa_nil)) (pg_name (i := 2) sc__law_orders.nd rfl (Or.inl rfl)) (pss_cons (ps_set (i := 3) sc__law_orders.nd rfl (Or.inl rfl) (pe_lst pa_nil)) (pss_cons (ps_for PassesOwn.never rfl (piR K (pv 1)) (pg_name (i := 4) sc__law_orders.nd rfl (Or.inr rfl)) (pss_one (ps_expr (bmA K PySem.F.plainAttrs_list PySem.F.slot_list_extend PySem.F.type_list_extend mt_extend (pv 3) (pa_cons (pe_lc (own := [("_law_k", 5)]) rfl sc__law_orders.nd (pi_range1 (by rfl) T.n_range (pa_cons (pv 0) pa_nil)) (blkOk_by (own := [("_law_k", 5)]) (N := N__law_orders) (sc := (defScope s__law_orders)) (by decide +kernel)) (fun _ _ _ _ _ => pg_name (i := 5) sc__law_orders.nd rfl (Or.inl rfl)) (fun _ _ _ _ _ => pts_one (pt_cmpR (ninA K) (pv 5) (pv 4) (by rfl))) (fun _ _ _ _ _ => (pe_op (plusE K) (pv 4) (pe_tup (pa_cons (pv 5) pa_nil))))) pa_nil))))) (pss_one (ps_set (i := 1) sc__law_orders.nd rfl (Or.inl rfl) (pv 3)))))) (pss_one (ps_ret (pv 1))))), fun x hx => ?_⟩
  obtain ⟨n, rfl⟩ : ∃ l : Nat, l = x := ⟨x, rfl⟩
  have hn : n ≤ 5 := hx
  refine ds_seq (ds_asg (Ev.dl (EvN.ev (evn_lst (ds := ordT (ordersM n 0)) (eva_cons (ev_tup eva_nil (Nat.zero_le _)) eva_nil) (small (show 1 ≤ 100000 by decide)))) ?_))
  refine ds_seq (ds_for (fun xs i Γ' => ∃ (s2 s3 s4 : Sl), Γ' = [.val (.int n), .val (.lst (ordT (ordersM n i))), s2, s3, s4, .unset]) (di_range (dla_cons (Ev.dl (ev_var rfl) (dla_nil ⟨n, rfl, by omega, ⟨_, _, _, rfl⟩, fun i x Γ' hx' ⟨s2, s3, s4, e⟩ => ?_, fun Γ' ⟨s2, s3, s4, e⟩ => ?_⟩)))))
  · subst e
    obtain ⟨hi, rfl⟩ := rng_get hx'
    have hl : (ordersM n i).length ≤ 3125 := Nat.le_trans (ordersM_len n i) (pow5' (by omega) hn)
    refine ⟨[2], _, dg_name, ds_seq (ds_asg_own (evn_lst eva_nil (Nat.zero_le _)) ?_)⟩
    refine ds_seq (ds_for (fun xs j Γ' => ∃ s4 : Sl, Γ' = [.val (.int n), .val (.lst (ordT (ordersM n i))), .val (.int i), .own (ordT (((ordersM n i).take j).flatMap (stepO n))), s4, .unset]) (dj_list (Ev.dl (ev_var rfl) ⟨ordT (ordersM n i), rfl, ⟨_, rfl⟩, fun j x Γ' hx2 ⟨s4, e⟩ => ?_, fun Γ' ⟨s4, e⟩ => ?_⟩)))
    · subst e
      have hx3 : ((ordersM n i).map fun o => D.tup (ordD o))[j]? = some x := hx2
      rw [List.getElem?_map] at hx3
      cases q : (ordersM n i)[j]? with
      | none => rw [q] at hx3; cases hx3
      | some o =>
        rw [q] at hx3; cases hx3
        have ho := ordersM_ok n i o (List.mem_of_getElem? q)
        have hj : j < (ordersM n i).length := (List.getElem?_eq_some_iff.mp q).1
        have e1 : ((ordersM n i).take (j + 1)).flatMap (stepO n) = ((ordersM n i).take j).flatMap (stepO n) ++ stepO n o := by
          rw [List.take_add_one, q, List.flatMap_append]
          simp
        have b1 := flat_lenZ (stepO n) (stepO_len n) ((ordersM n i).take j)
        have b2 := stepO_len n o
        have b3 : ((ordersM n i).take j).length * n ≤ 3125 * 5 := Nat.mul_le_mul (by rw [List.length_take]; omega) hn
        have c1 : ordT (((ordersM n i).take (j + 1)).flatMap (stepO n)) = ordT (((ordersM n i).take j).flatMap (stepO n)) ++ ((List.range n).filter fun k => !decide (k ∈ o)).map fun k : Nat => D.tup (ordD o ++ [.int k]) := by
          rw [e1]
          unfold ordT
          rw [List.map_append]
          congr 1
          unfold stepO
          rw [List.map_map]
          exact List.map_congr_left fun k _ => (congrArg D.tup (ordD_snoc o k)).symm
        refine ⟨[4], _, dg_name, ds_drop (dl_extend (i := 3) (ds := ordT (((ordersM n i).take j).flatMap (stepO n))) rfl (EvN.b (evn_lc (xs := List.range n) (c := fun k : Nat => D.int k) (p := fun k => !decide (k ∈ o)) (f := fun k => .tup (ordD o ++ [.int k])) (ei_range (n := n) (eva_cons (ev_var rfl) eva_nil) (by omega)) (by rw [List.length_range]; omega) fun k hk => ⟨[5], _, dg_name, fun i hi => hi, evt_test (ev_ninT (ev_var rfl) (ev_var rfl)), fun _ => ev_op (ev_var rfl) (ev_tup (eva_cons (ev_var rfl) eva_nil) (small (show 1 ≤ 100000 by decide))) (pl_tup (by rw [ordD_len, ho.len]; show i + 1 ≤ _; exact small (by omega)))⟩)) ?_ ⟨_, by rw [c1]; rfl⟩)⟩
        rw [ordT_len, List.length_map]
        have b4 : ((List.range n).filter fun k => !decide (k ∈ o)).length ≤ n := Nat.le_trans (List.length_filter_le _ _) (by rw [List.length_range]; exact Nat.le_refl _)
        exact small (by omega)
    · subst e
      rw [ordT_len, List.take_length]
      exact ds_freeze 3 rfl (ds_asg (Ev.dl (ev_var rfl) ⟨_, _, _, rfl⟩))
  · subst e
    rw [rng_length]
    exact ds_ret (Ev.dl (ev_var rfl) rfl)
end K34

namespace K34
open PySem PySem.Spec PyProof.Rows L2 Dw
variable [Tabs0]
/-! winners, by the law's own look and by the rows -/
abbrev Pr := List Nat × List Nat
def mk (p : Pr) (k : Nat) : Nat := p.2.getD k 0
theorem sgn_agR {a b : List Nat} {n k : Nat} (ha : a.length = n) (hb : b.length = n) (hk : k < n) : sgn (agR a b) k = agC (a.getD k 0) (b.getD k 0) := by
  unfold sgn agR
  have h1 : a[k]? = some (a[k]'(by omega)) := List.getElem?_eq_getElem (by omega)
  have h2 : b[k]? = some (b[k]'(by omega)) := List.getElem?_eq_getElem (by omega)
  have h3 : (a.zip b)[k]? = some (a[k]'(by omega), b[k]'(by omega)) := List.getElem?_zip_eq_some.mpr ⟨h1, h2⟩
  rw [List.getD_eq_getElem?_getD, List.getElem?_map, h3, List.getD_eq_getElem?_getD, List.getD_eq_getElem?_getD, h1, h2]; rfl
theorem holds_consJ {r : List Nat} (k : Nat) (o : List Nat) : holdsB r (k :: o) = if sgn r k = 46 then holdsB r o else decide (sgn r k = 43) := by
  by_cases z : sgn r k = 46
  · rw [if_pos z]
    have : holdsB r ([k] ++ o) = holdsB r o := holds_pre fun j hj => by rw [List.mem_singleton.mp hj]; exact z
    exact this
  · rw [if_neg z]
    unfold holdsB told
    rw [List.map_cons, List.filter_cons_of_pos (by simp [z])]
theorem zip_rangeJ {ls ms : List (List Nat)} (h : ms.length = ls.length) : ls.zip ms = (List.range ls.length).map fun k => (rowAt ls k, rowAt ms k) := by
  refine List.ext_getElem (by simp [h]) fun k h1 h2 => ?_
  have hk : k < ls.length := by simpa using h2
  rw [List.getElem_map, List.getElem_range, List.getElem_zip, rowAt_get hk, rowAt_get (by omega)]
/-! the program's cases -/
def barI (ms : List (List Nat)) (n : Nat) : List Nat := (List.range ms.length).filter fun i => !decide (Still (rwM ms i) n = [])
def spBarred (C : Addr) : Spc where
  ty := CaseT
  args := fun x => [caseO C x.1 x.2.1]
  ok := fun x => CaseOk x.1 x.2.1 x.2.2
  rel := fun x d => d = .tup (nameD ((barI x.2.1 x.2.2).map (rowAt x.1)))
theorem rw_len {ms : List (List Nat)} {i : Nat} : (rwM ms i).length ≤ ms.length := by unfold rwM; rw [List.length_map]; exact idxM_len _ _
end K34

namespace K34
open PySem PySem.Spec PyProof.Rows L2 Dw
variable [Tabs0]
theorem d_told_by {P : Program} {w : World} {K : PySem.W.Frag} {mg : Str → Option Value} {base : Heap} (T : Txt K w mg) : FnOk P w K mg base CX0 5 T.f_told_by T.e_told_by ["case", "one"] (toSp (spRowsOf T.C_Case)) := by
  refine fn_ok T.F_told_by sc_told_by (fun _ => rfl) fun cdv A outer s' H E hr => ?_
  refine ⟨_, (pss_cons (ps_expr (pe_call (d_check_case T) (hr.mono (by decide)) (by rfl) T.m_check_case T.F_check_case.kp T.b_check_case .nil pass0 (pa_cons (pv 0) pa_nil))) (pss_cons (ps_expr (pe_call (d_check_known T) (hr.mono (by decide)) (by rfl) T.m_check_known T.F_check_known.kp T.b_check_known .nil pass0 (pa_cons (pv 1) (pa_cons (pe_prop (pv 0) T.cl_Case T.p_Case_names (d_Case_names T) (hr.mono (by decide)) T.b_Case_names .nil pass0 rfl) pa_nil)))) (pss_one (ps_ret (pe_call (d_rows_of T) (hr.mono (by decide)) (by rfl) T.m_rows_of T.F_rows_of.kp T.b_rows_of .nil pass0 (pa_cons (pv 0) (pa_cons (pv 1) pa_nil))))))), fun x hx => ?_⟩
  obtain ⟨⟨ls, ms, n⟩, i⟩ := x
  obtain ⟨hc, hi⟩ := hx
  have hc : CaseOk ls ms n := hc
  have hi : i < ls.length := hi
  refine ds_seq (ds_drop (Ev.dl (ev_call (s := spCkCase T.C_Case) (x := (ls, ms, n)) (eva_cons (ev_var rfl) eva_nil) (np_caseO (r := []) rfl) trivial fun d h => h) ?_))
  refine ds_seq (ds_drop (Ev.dl (ev_call (s := spKnown) (x := (ls, i)) (eva_cons (ev_var rfl) (eva_cons (ev_prop (s := spCNames T.C_Case) (x := (ls, ms, n)) (ev_var rfl) rfl (np_caseO (r := []) rfl) trivial fun d h => h) eva_nil)) ?npk hi fun d h => h) ?_))
  case npk =>
    show (true && (noPs (nameD ls) && true)) = true
    rw [np_name]; rfl
  exact ds_ret (Ev.dl (ev_call (s := spRowsOf T.C_Case) (x := ((ls, ms, n), i)) (eva_cons (ev_var rfl) (eva_cons (ev_var rfl) eva_nil)) (np_caseO (r := [_]) rfl) ⟨hc, hi⟩ fun d h => h) rfl)
end K34

namespace K34
open PySem PySem.Spec PyProof.Rows L2 Dw
variable [Tabs0]
theorem d_barred {P : Program} {w : World} {K : PySem.W.Frag} {mg : Str → Option Value} {base : Heap} (T : Txt K w mg) : FnOk P w K mg base CX0 5 T.f_barred T.e_barred ["case"] (toSp (spBarred T.C_Case)) := by
  refine fn_ok T.F_barred sc_barred (fun _ => rfl) fun cdv A outer s' H E hr => ?_
  refine ⟨_, (pss_cons (ps_expr (pe_call (d_check_case T) (hr.mono (by decide)) (by rfl) T.m_check_case T.F_check_case.kp T.b_check_case .nil pass0 (pa_cons (pv 0) pa_nil))) (pss_cons (ps_set (i := 1) sc_barred.nd rfl (Or.inr rfl) (pe_callB (lenA K) (by rfl) T.n_len (by decide +kernel) (pa_cons (pe_ix (ixA K) (pe_prop (pv 0) T.cl_Case T.p_Case_marks (d_Case_marks T) (hr.mono (by decide)) T.b_Case_marks .nil pass0 rfl) pe_int (fun _ _ => rfl)) pa_nil))) (pss_one (ps_ret (pe_callTy (tupleA K) (by rfl) T.n_tuple (by decide +kernel) (pa_cons (pe_lc (own := [("name", 2)]) rfl sc_barred.nd (piR K (pe_prop (pv 0) T.cl_Case T.p_Case_names (d_Case_names T) (hr.mono (by decide)) T.b_Case_names .nil pass0 rfl)) (blkOk_by (own := [("name", 2)]) (N := N_barred) (sc := (defScope s_barred)) (by decide +kernel)) (fun _ _ _ _ _ => pg_name (i := 2) sc_barred.nd rfl (Or.inl rfl)) (fun _ _ _ _ _ => pts_one (pt_not (truA K (pe_call (d_some_fits T) (hr.mono (by decide)) (by rfl) T.m_some_fits T.F_some_fits.kp T.b_some_fits .nil pass0 (pa_cons (pe_call (d_rows_of T) (hr.mono (by decide)) (by rfl) T.m_rows_of T.F_rows_of.kp T.b_rows_of .nil pass0 (pa_cons (pv 0) (pa_cons (pv 2) pa_nil))) (pa_cons (pv 1) pa_nil)))))) (fun _ _ _ _ _ => (pv 2))) pa_nil)))))), fun x hx => ?_⟩
  obtain ⟨ls, ms, n⟩ := x
  have hc : CaseOk ls ms n := hx
  have h8 := hc.names.hi
  have n8 := hc.hi
  have sm := hc.same
  have h2 := hc.two
  have hm0 : (rowAt ms 0).length = n := hc.wide _ (rowAt_mem (by omega))
  refine ds_seq (ds_drop (Ev.dl (ev_call (s := spCkCase T.C_Case) (x := (ls, ms, n)) (eva_cons (ev_var rfl) eva_nil) (np_caseO (r := []) rfl) trivial fun d h => h) ?_))
  refine ds_seq (ds_asg (Ev.dl (ev_cast (congrArg (fun n : Nat => D.int n) ((ordD_len (rowAt ms 0)).trans hm0)) (ev_lenT (ds := ordD (rowAt ms 0)) (ev_ixT (d := .tup (ordD (rowAt ms 0))) (ds := msD ms) (ev_prop (s := spCMarks T.C_Case) (x := (ls, ms, n)) (ev_var rfl) rfl (np_caseO (r := []) rfl) trivial fun d h => h) ev_int (atI_nat (j := 0) (msD_at (show 0 < ms.length by omega)))))) ?_))
  refine ds_ret (Ev.dl (ev_cast (d' := .tup (nameD ((barI ms n).map (rowAt ls)))) (by unfold barI nameD; rw [List.map_map, sm]; rfl) (ev_tuple (EvN.b (evn_lc (xs := List.range ls.length) (c := fun k => .str (tx (rowAt ls k))) (p := fun i => !decide (Still (rwM ms i) n = [])) (f := fun k => .str (tx (rowAt ls k))) ?ej (by rw [List.length_range]; omega) fun i hi => ⟨[2], _, dg_name, fun i hi => hi, evt_not (evt_tru_bl (ev_call (s := spSome) (d := .bl (decide (Still (rwM ms i) n = []))) (x := (rwM ms i, n, false)) (eva_cons (ev_call (s := spRowsOf T.C_Case) (d := .tup (nameD (rwM ms i))) (x := ((ls, ms, n), i)) (eva_cons (ev_var rfl) (eva_cons (ev_var rfl) eva_nil)) (np_caseO (r := [_]) rfl) ⟨hc, List.mem_range.mp hi⟩ fun d h => h) (eva_cons (ev_var rfl) eva_nil)) (np_rd (b := false) (r := [_]) rfl) ⟨rwM_ok hc (List.mem_range.mp hi), n8, (by show (rwM ms i).length ≤ 1000; have := rw_len (ms := ms) (i := i); omega)⟩ fun d h => h)), fun _ => ev_var rfl⟩)))) rfl)
  rw [names_range]
  exact ej_tup (ev_dn (ev_prop (s := spCNames T.C_Case) (x := (ls, ms, n)) (ev_var rfl) rfl (np_caseO (r := []) rfl) trivial fun d h => h))
end K34

namespace K34
open PySem PySem.Spec PyProof.Rows L2 Dw
variable [Tabs0]
/-! folk that is drawn, and told again -/
theorem folkD_snoc {ls ms : List (List Nat)} {m : List Nat} {i : Nat} (h : ms.length = i) (hi : i < ls.length) : folkD (ls.take i) ms ++ [.tup [.str (tx (rowAt ls i)), .tup (ordD m)]] = folkD (ls.take (i + 1)) (ms ++ [m]) := by
  have e : ls.take (i + 1) = ls.take i ++ [rowAt ls i] := by rw [List.take_add_one, List.getElem?_eq_getElem hi, rowAt_get hi]; rfl
  unfold folkD
  rw [e, List.zip_append (by rw [List.length_take, h]; omega), List.map_append]; rfl
theorem folkD_len (ls ms : List (List Nat)) : (folkD ls ms).length = min ls.length ms.length := by unfold folkD; rw [List.length_map, List.length_zip]
theorem ok_folk {ls ms : List (List Nat)} (h : ∀ l ∈ ls, NameOk l) : dOk 3 (.lst (folkD ls ms)) = true := dOks_map fun p hp => by
  have hn := h p.1 (List.of_mem_zip hp).1
  have h1 : okS (tx p.1) := okS_tx fun c hc => by have := hn.all c hc; omega
  have h2 : dOk 1 (.tup (ordD p.2)) = true := ok_ordT1 p.2
  show (dOk 1 (.str (tx p.1)) && (dOk 1 (.tup (ordD p.2)) && true)) = true
  rw [show dOk 1 (.str (tx p.1)) = true from h1, h2]; rfl
theorem np_folk {ls ms : List (List Nat)} {r : List D} (h : noPs r = true := by rfl) : noPs (.lst (folkD ls ms) :: r) = true := by
  have one : ∀ p : List Nat × List Nat, noP (pairDm p) = true := fun p => by
    show (true && (noPs (ordD p.2) && true)) = true
    rw [np_ord]; rfl
  show (noPs (folkD ls ms) && noPs r) = true
  unfold folkD
  rw [noPs_map one, h]; rfl
def spRightJ : Spc where
  ty := Unit
  args := fun _ => [.purse]
  ok := fun _ => True
  rel := fun _ d => d = .bl true
end K34

namespace K34
open PySem PySem.Spec PyProof.Rows L2 Dw
variable [Tabs0]
theorem d__law_folk {P : Program} {w : World} {K : PySem.W.Frag} {mg : Str → Option Value} {base : Heap} (T : Txt K w mg) : FnOk P w K mg base CX0 3 T.f__law_folk T.e__law_folk ["_law_jar", "_law_many", "_law_least", "_law_most"] (toSp (spFolk)) := by
  refine fn_ok T.F__law_folk sc__law_folk (fun _ => rfl) fun cdv A outer s' H E hr => ?_
  refine ⟨_, (pss_cons (ps_asg (pe_tup (pa_cons (pe_ix (ixA K) (pe_lst (pa_cons pe_int (pa_cons pe_int (pa_cons pe_int pa_nil)))) (pe_call (d__law_dip T) (hr.mono (by decide)) (by rfl) T.m__law_dip T.F__law_dip.kp T.b__law_dip .nil pass0 (pa_cons (pv 0) (pa_cons pe_int pa_nil))) (fun _ _ => rfl)) (pa_cons (pe_lst pa_nil) pa_nil))) (tupA K 2 rfl (pgs_cons (pg_name (i := 4) sc__law_folk.nd rfl (Or.inr rfl)) (pgs_cons (pg_name (i := 5) sc__law_folk.nd rfl (Or.inl rfl)) pgs_nil)))) (pss_cons (ps_for PassesOwn.never rfl (piR K (pe_call (d__law_tags T) (hr.mono (by decide)) (by rfl) T.m__law_tags T.F__law_tags.kp T.b__law_tags .nil pass0 (pa_cons (pv 0) (pa_cons (pe_op (plusE K) (pv 2) (pe_call (d__law_dip T) (hr.mono (by decide)) (by rfl) T.m__law_dip T.F__law_dip.kp T.b__law_dip .nil pass0 (pa_cons (pv 0) (pa_cons (pe_op (plusE K) (pe_op op_sub (pv 3) (pv 2)) pe_int) pa_nil)))) pa_nil)))) (pg_name (i := 6) sc__law_folk.nd rfl (Or.inl rfl)) (pss_cons (ps_set (i := 7) sc__law_folk.nd rfl (Or.inl rfl) (pe_callTy (tupleA K) (by rfl) T.n_tuple (by decide +kernel) (pa_cons (pe_lc (own := [("_law_k", 8)]) rfl sc__law_folk.nd (pi_range1 (by rfl) T.n_range (pa_cons (pv 1) pa_nil)) (blkOk_by (own := [("_law_k", 8)]) (N := N__law_folk) (sc := (defScope s__law_folk)) (by decide +kernel)) (fun _ _ _ _ _ => pg_name (i := 8) sc__law_folk.nd rfl (Or.inl rfl)) (fun _ _ _ _ _ => pts_nil) (fun _ _ _ _ _ => (pe_call (d__law_dip T) (hr.mono (by decide)) (by rfl) T.m__law_dip T.F__law_dip.kp T.b__law_dip .nil pass0 (pa_cons (pv 0) (pa_cons (pv 4) pa_nil))))) pa_nil))) (pss_one (ps_expr (bmA K PySem.F.plainAttrs_list PySem.F.slot_list_append PySem.F.type_list_append mt_append (pv 5) (pa_cons (pe_tup (pa_cons (pv 6) (pa_cons (pe_ifExp (PW.pt (pw_and (pt_cmpR (neA K hr.units) (pv 5) (pe_lst pa_nil) (nomark _)) (pw_and1 (pt_cmpR (eqA K hr.units) (pe_call (d__law_dip T) (hr.mono (by decide)) (by rfl) T.m__law_dip T.F__law_dip.kp T.b__law_dip .nil pass0 (pa_cons (pv 0) (pa_cons pe_int pa_nil))) pe_int (nomark _))))) (pe_ix (ixA K) (pe_call (d__law_pick T) (hr.mono (by decide)) (by rfl) T.m__law_pick T.F__law_pick.kp T.b__law_pick .nil pass0 (pa_cons (pv 0) (pa_cons (pv 5) pa_nil))) pe_int (fun _ _ => rfl)) (pv 7)) pa_nil))) pa_nil)))))) (pss_one (ps_ret (pv 5))))), fun x hx => ?_⟩
  obtain ⟨n, lo, hi⟩ := x
  obtain ⟨n1, n8, h2, hlh, h8⟩ := hx
  have n1 : 1 ≤ n := n1
  have n8 : n ≤ 8 := n8
  have h2 : 2 ≤ lo := h2
  have hlh : lo ≤ hi := hlh
  have h8 : hi ≤ 8 := h8
  refine ds_seq (ds_asg_2o (dl_op (Ev.dl (EvN.ev (evn_lst (ds := [.int 2, .int 4, .int 100]) (eva_cons ev_int (eva_cons ev_int (eva_cons ev_int eva_nil))) (small (show 3 ≤ 100000 by decide)))) (dl_call (s := spDraw) (dla_cons (Ev.dl (ev_var rfl) (dla_cons (Ev.dl ev_int (dla_nil ⟨(3 : Nat), rfl, ⟨by decide, by decide⟩, fun d hd => ?_⟩)))))))))
  obtain ⟨r, hr, rfl⟩ := hd
  have hr : r < 3 := hr
  obtain ⟨tp, e, t1, t2⟩ : ∃ tp : Nat, [D.int 2, .int 4, .int 100][r]? = some (.int tp) ∧ 1 ≤ tp ∧ tp ≤ 100 := by
    match r, hr with
    | 0, _ => exact ⟨2, rfl, by decide, by decide⟩
    | 1, _ => exact ⟨4, rfl, by decide, by decide⟩
    | 2, _ => exact ⟨100, rfl, by decide, by decide⟩
  refine ⟨.int tp, dr2_ixL (atI_nat e), [], evn_lst eva_nil (Nat.zero_le _), ?_⟩
  refine ds_seq (ds_for (fun xs i Γ' => ∃ (ls ms : List (List Nat)) (s6 s7 : Sl), xs = nameD ls ∧ NamesOk ls ∧ lo ≤ ls.length ∧ ls.length ≤ hi ∧ Γ' = [.val .purse, .val (.int n), .val (.int lo), .val (.int hi), .val (.int tp), .own (folkD (ls.take i) ms), s6, s7, .unset] ∧ ms.length = i ∧ (∀ m ∈ ms, m.length = n) ∧ ∀ m ∈ ms, ∀ k ∈ m, k < 100) (dj_list (dl_call (s := spTags) (dla_cons (Ev.dl (ev_var rfl) (dla_cons (dl_op (Ev.dl (ev_var rfl) (dl_call (s := spDraw) (dla_cons (Ev.dl (ev_var rfl) (dla_cons (Ev.dl (ev_cast (congrArg D.int (by omega : (hi : Int) - (lo : Int) + 1 = ((hi - lo + 1 : Nat) : Int))) (ev_op (ev_op (ev_var rfl) (ev_var rfl) dr2_sub) ev_int pl_int)) (dla_nil ⟨hi - lo + 1, rfl, ⟨by omega, by omega⟩, fun d hd => ?_⟩))))))))))))))
  obtain ⟨q, hq, rfl⟩ := hd
  have hq : q < hi - lo + 1 := hq
  refine ⟨.int ((lo + q : Nat) : Int), ?pl, dla_nil ⟨lo + q, rfl, ⟨by omega, by omega⟩, fun d hd => ?_⟩⟩
  case pl =>
    have e := pl_int (K := K) (i := (lo : Int)) (j := (q : Int))
    rw [show (lo : Int) + (q : Int) = ((lo + q : Nat) : Int) by omega] at e
    exact e
  obtain ⟨ls0, rfl, hls0, hll0⟩ := hd
  have hll0 : ls0.length = lo + q := hll0
  refine ⟨nameD ls0, rfl, ⟨ls0, [], _, _, rfl, hls0, by omega, by omega, rfl, rfl, fun k h => absurd h (by simp), fun k h => absurd h (by simp)⟩, fun i x Γ' hx' ⟨ls, ms, s6, s7, exs, hls, l1, l2, e, p1, p2, p3⟩ => ?_, fun Γ' ⟨ls, ms, s6, s7, exs, hls, l1, l2, e, p1, p2, p3⟩ => ?_⟩
  · subst e
    rw [exs] at hx'
    have hil : i < ls.length := by
      have := (List.getElem?_eq_some_iff.mp hx').1
      rw [nameD_len] at this; exact this
    obtain rfl : x = .str (tx (rowAt ls i)) := by
      rw [nameD_ix hil] at hx'
      exact (Option.some.inj hx').symm
    refine ⟨[6], _, dg_name, ds_seq (ds_asg (dl_tuple (dl_lc (di_range (dla_cons (Ev.dl (ev_var rfl) (dla_nil ⟨n, rfl, by omega, by rw [rng_length]; omega, fun j acc Γ' => Γ' = [.val .purse, .val (.int n), .val (.int lo), .val (.int hi), .val (.int tp), .own (folkD (ls.take i) ms), .val (.str (tx (rowAt ls i))), s7, .unset] ∧ ∃ l : List Nat, acc = ordD l ∧ l.length = j ∧ ∀ k ∈ l, k < 100, ⟨rfl, [], rfl, rfl, fun c h => absurd h (by simp)⟩, fun j x acc Γ' hx2 ⟨e, l, ea, hl, hk⟩ => ?_, fun acc Γ' ⟨e, l, ea, hl, hk⟩ => ?_⟩)))))))⟩
    · subst e
      refine ⟨[8], _, dg_name, fun i hi => hi, dlt_yes ⟨fun _ => dl_call (s := spDraw) (dla_cons (Ev.dl (ev_var rfl) (dla_cons (Ev.dl (ev_var rfl) (dla_nil ⟨tp, rfl, ⟨by omega, by omega⟩, fun d hd => ?_⟩))))), fun h => nomatch h⟩⟩
      obtain ⟨q, hq, rfl⟩ := hd
      have hq : q < tp := hq
      refine ⟨rfl, l ++ [q], ?_, by rw [List.length_append, hl]; rfl, fun k hk' => ?_⟩
      · rw [ea, ← ordD_snoc]
      · rcases List.mem_append.mp hk' with hk' | hk'
        · exact hk k hk'
        · rw [List.mem_singleton.mp hk']; omega
    · subst e
      rw [rng_length] at hl
      refine ⟨ordD l, congrArg D.lst ea, ?_⟩
      have okm : ∀ m : List Nat, m.length = n → (∀ k ∈ m, k < 100) → (ms ++ [m]).length = i + 1 ∧ (∀ q ∈ ms ++ [m], q.length = n) ∧ ∀ q ∈ ms ++ [m], ∀ k ∈ q, k < 100 := fun m a b => ⟨by rw [List.length_append, p1]; rfl, fun q hq => by
        rcases List.mem_append.mp hq with hq | hq
        · exact p2 q hq
        · rw [List.mem_singleton.mp hq]; exact a, fun q hq => by
        rcases List.mem_append.mp hq with hq | hq
        · exact p3 q hq
        · rw [List.mem_singleton.mp hq]; exact b⟩
      have okn : ∀ l ∈ ls.take i, NameOk l := fun l hl => hls.all l (List.mem_of_mem_take hl)
      have hfl : (folkD (ls.take i) ms).length = i := by rw [folkD_len, List.length_take]; omega
      have hlt : (folkD (ls.take i) ms).length < sizeLine := by rw [hfl]; exact Nat.lt_of_lt_of_le (by omega : i < 100) (by decide)
      have fin : ∀ m : List Nat, m.length = n → (∀ k ∈ m, k < 100) → ∃ (ls' ms' : List (List Nat)) (s6 s7 : Sl), nameD ls0 = nameD ls' ∧ NamesOk ls' ∧ lo ≤ ls'.length ∧ ls'.length ≤ hi ∧ [Sl.val .purse, .val (.int n), .val (.int lo), .val (.int hi), .val (.int tp), .own (folkD (ls.take i) ms ++ [.tup [.str (tx (rowAt ls i)), .tup (ordD m)]]), .val (.str (tx (rowAt ls i))), .val (.tup (ordD l)), .unset] = [.val .purse, .val (.int n), .val (.int lo), .val (.int hi), .val (.int tp), .own (folkD (ls'.take (i + 1)) ms'), s6, s7, .unset] ∧ ms'.length = i + 1 ∧ (∀ m ∈ ms', m.length = n) ∧ ∀ m ∈ ms', ∀ k ∈ m, k < 100 := fun m a b => by
        obtain ⟨x1, x2, x3⟩ := okm m a b
        exact ⟨ls, ms ++ [m], _, _, exs, hls, l1, l2, by rw [folkD_snoc p1 hil], x1, x2, x3⟩
      refine ds_drop (dl_append ⟨_, rfl⟩ (dla_cons (dl_tup (dla_cons (Ev.dl (ev_var rfl) (dla_cons (dl_lend 5 rfl ?one (dl_if (dlt_and (EvT.dl (evt_test (ev_op (ev_var (d := .lst (folkD (ls.take i) ms)) rfl) (evn_lst eva_nil (Nat.zero_le _)).ev (ne_nil (ok_folk okn) (by decide)))) ⟨fun hne => dlt_test (dl_op (dl_call (s := spDraw) (dla_cons (Ev.dl (ev_var rfl) (dla_cons (Ev.dl ev_int (dla_nil ⟨(8 : Nat), rfl, ⟨by decide, by decide⟩, fun d1 hd1 => ?_⟩))))))), fun h => ⟨fun z => (nomatch z), fun _ => Ev.dl (ev_var rfl) ?_⟩⟩))))))))))
      case one =>
        intro j es e
        rcases j with _ | _ | _ | _ | _ | _ | _ | _ | _ | j <;> first | rfl | cases e
      · obtain ⟨q, _, rfl⟩ := hd1
        refine Ev.dl ev_int ⟨_, eq_int', _, rfl, fun _ => dl_op (dl_call (s := spAnyOf) (dla_cons (Ev.dl (ev_var rfl) (dla_cons (Ev.dl (ev_var (d := .lst (folkD (ls.take i) ms)) rfl) (dla_nil ⟨(true, folkD (ls.take i) ms), rfl, ⟨?_, ?_⟩, fun d2 hd2 => ?_⟩)))))), fun _ => Ev.dl (ev_var rfl) ?_⟩
        · show 0 < (folkD (ls.take i) ms).length
          cases hm : folkD (ls.take i) ms with
          | nil => rw [hm] at hne; exact absurd hne (by decide)
          | cons _ _ => exact Nat.succ_pos _
        · show (folkD (ls.take i) ms).length < 100000
          omega
        · obtain ⟨p, hp, rfl⟩ := List.mem_map.mp hd2
          have hpm := (List.of_mem_zip hp).2
          exact Ev.dl ev_int ⟨.tup (ordD p.2), dr2_ixT (atI_nat (j := 1) rfl), rfl, ⟨p.2, rfl⟩, dla_nil ⟨small (show 2 ≤ 100000 by decide), dla_nil ⟨_, folkD (ls.take i) ms, rfl, rfl, hlt, fin p.2 (p2 _ hpm) (p3 _ hpm)⟩⟩⟩
        · exact ⟨rfl, ⟨l, rfl⟩, dla_nil ⟨small (show 2 ≤ 100000 by decide), dla_nil ⟨_, folkD (ls.take i) ms, rfl, rfl, hlt, fin l hl hk⟩⟩⟩
      · exact ⟨rfl, ⟨l, rfl⟩, dla_nil ⟨small (show 2 ≤ 100000 by decide), dla_nil ⟨_, folkD (ls.take i) ms, rfl, rfl, hlt, fin l hl hk⟩⟩⟩
  · subst e
    have hxl : (nameD ls0).length = ls.length := by rw [exs, nameD_len]
    rw [hxl, List.take_length]
    rw [hxl] at p1
    exact ds_freeze 5 rfl (ds_ret (Ev.dl (ev_var rfl) ⟨ls, ms, rfl, ⟨hls, (by omega), p1, p2, n1, n8, p3⟩, l1, l2⟩))
end K34

namespace K34
open PySem PySem.Spec PyProof.Rows L2 Dw
variable [Tabs0]
/-! cases beside reasons -/
theorem ev_int1b {Γ : Gam} {ta : TE} {b : Bool} (h : Ev ta Γ (.bl b)) : Ev (tCB (fun xs H Q => (∃ i, xs = [.int i] ∧ Q (.int i) H) ∨ ∃ k, xs = [.bl k] ∧ Q (.int (if k then 1 else 0)) H) (tCons ta tNil)) Γ (.int (if b then 1 else 0)) :=
  ev_cb (eva_cons h eva_nil) fun W us Q dom r k => by
    obtain ⟨v, _, rfl, rv, rfl⟩ := r
    exact .inr ⟨b, by rw [show v = V.bl b from rv], k _ _ (Same.refl _) rfl⟩
theorem ds_mid {t : TS} {Γ : Gam} {De : DE} (P : Gam → Prop) (h : Ds t Γ { De with nx := P }) (hq : ∀ Γ', P Γ' → De.nx Γ') : Ds t Γ De := fun F σ W Dr g l => h F σ W Dr g ⟨fun σ1 W1 Γ1 s g1 q => l.nx σ1 W1 Γ1 s g1 (hq Γ1 q), l.rt, l.bk, l.ct⟩
theorem part_fil (S : List Nat) (acc : List (List Nat)) : ((acc.filter fun q => ((q.filter fun j => !decide (j ∈ S)).map fun j : Nat => D.int j).isEmpty).map fun q => D.tup (ordD q)).isEmpty = !partB S acc := by
  have e : ∀ q : List Nat, ((q.filter fun j => !decide (j ∈ S)).map fun j : Nat => D.int j).isEmpty = q.all fun k => decide (k ∈ S) := fun q => by
    rw [Bool.eq_iff_iff, List.isEmpty_iff, List.map_eq_nil_iff, List.filter_eq_nil_iff, List.all_eq_true]
    refine forall_congr' fun k => forall_congr' fun hk => ?_
    cases decide (k ∈ S) <;> decide
  unfold partB
  rw [Bool.eq_iff_iff, List.isEmpty_iff, List.map_eq_nil_iff, List.filter_eq_nil_iff, Bool.not_eq_true', List.any_eq_false]
  refine forall_congr' fun q => forall_congr' fun hq => ?_
  rw [e]
def lotP (S : List Nat) : D := .tup [.int (S.length : Nat), .tup (ordD S)]
theorem py_lotP (S : List Nat) : py (lotP S) = .tuple [.int ((intN S).length : Int), .tuple ((intN S).map .int)] := by
  rw [pys_intN, intN_len]; rfl
theorem lotP_le (a b : List Nat) : PySem.W.dataLe false (fun a => py (lotP a)) a b = lotLe a b := by
  rw [show (fun a => py (lotP a)) = fun a => PyData.tuple [.int ((intN a).length : Int), .tuple ((intN a).map .int)] from funext py_lotP]
  exact key_le V.non V.non a b
theorem lotP_alike (l : List (List Nat)) : PySem.W.AllAlike (l.map fun a => py (lotP a)) := fun d hd d' hd' => by
  obtain ⟨a, _, rfl⟩ := List.mem_map.mp hd
  obtain ⟨b, _, rfl⟩ := List.mem_map.mp hd'
  rw [py_lotP, py_lotP, PySem.W.alike]
  simp only [PySem.W.alikeAll, PySem.W.alike]
  rw [PySem.W.alike_ints]
  rfl
theorem lotP_sortable (l : List (List Nat)) : PySem.W.Sortable (l.map fun a => py (lotP a)) := .inl fun d hd => by
  obtain ⟨a, _, rfl⟩ := List.mem_map.mp hd
  exact ⟨_, _, rfl⟩
theorem lotP_ok (S : List Nat) : dOk 2 (lotP S) = true := by
  show (dOk 1 (.int (S.length : Nat)) && (dOk 1 (.tup (ordD S)) && true)) = true
  rw [show dOk 1 (.tup (ordD S)) = true from dOks_map fun _ _ => rfl]; rfl
theorem rOk_ord {o : List Nat} (h : ∀ k ∈ o, k < 8) : rOk 1 (.tup (ordD o)) = true := by
  show rOks 0 (ordD o) = true
  induction o with
  | nil => rfl
  | cons k o ih =>
    have hk := h k List.mem_cons_self
    show (rOk 0 (.int (k : Nat)) && rOks 0 (ordD o)) = true
    rw [ih fun j hj => h j (List.mem_cons_of_mem _ hj), Bool.and_true]
    rcases (show k = 0 ∨ k = 1 ∨ k = 2 ∨ k = 3 ∨ k = 4 ∨ k = 5 ∨ k = 6 ∨ k = 7 by omega) with rfl | rfl | rfl | rfl | rfl | rfl | rfl | rfl <;> decide +kernel
theorem rOk_ordT {X : List (List Nat)} (h : ∀ o ∈ X, ∀ k ∈ o, k < 8) : rOk 2 (.tup (ordT X)) = true := by
  show rOks 1 (ordT X) = true
  induction X with
  | nil => rfl
  | cons o X ih =>
    show (rOk 1 (.tup (ordD o)) && rOks 1 (ordT X)) = true
    rw [rOk_ord (h o List.mem_cons_self), ih fun p hp => h p (List.mem_cons_of_mem _ hp)]; rfl
theorem cntDs_ord : ∀ o : List Nat, cntDs (ordD o) = o.length
  | [] => rfl
  | k :: o => by
    show 1 + cntDs (ordD o) = _
    rw [cntDs_ord o, List.length_cons]; omega
theorem cntDs_ordT {m : Nat} : ∀ {X : List (List Nat)}, (∀ o ∈ X, o.length ≤ m) → cntDs (ordT X) ≤ (m + 1) * X.length
  | [], _ => Nat.zero_le _
  | o :: X, h => by
    show cntD (.tup (ordD o)) + cntDs (ordT X) ≤ _
    have h1 : cntD (.tup (ordD o)) = o.length + 1 := by show cntDs (ordD o) + 1 = _; rw [cntDs_ord]
    have h2 := h o List.mem_cons_self
    have h3 := cntDs_ordT (X := X) fun p hp => h p (List.mem_cons_of_mem _ hp)
    rw [h1, List.length_cons, Nat.mul_succ]
    omega
theorem joinL_cons' (s a : List Nat) : ∀ rs : List (List Nat), TL.joinL s (a :: rs) = a ++ (rs.map (s ++ ·)).flatten := joinL_cons s a
theorem ds_par3_dod {Γ : Gam} {De : DE} {i j l : Nat} {t0 t1 t2 : TE} (h : Dl t0 Γ fun d Γ1 => ∃ ds, EvN t1 Γ1 ds ∧ Dl t2 Γ1 fun z Γ2 => De.nx (((Γ2.set i (.val d)).set j (.own ds)).set l (.val z))) : Ds (tPar3 i j l (tCons t0 (tCons t1 (tCons t2 tNil)))) Γ De := fun F σ W Dr g k =>
  h F σ W _ g fun v W0 d Γ0 st0 g0 r0 ⟨ds, h1, h2⟩ => h1 F σ W0 _ g0 fun a vs H s n e r => by
    obtain ⟨st1, g1, no1, f1, p1⟩ := g0.plus s n (by rw [e]; exact fun z => nomatch z)
    have g1' : SR (fun b => F b ∨ b = a) Γ0 σ (W0.plus H a) := ⟨⟨g1.ok.dom, fun b z => z.elim (g1.ok.fu b) (fun z => z ▸ .inr rfl), fun b z => let ⟨u, f, p⟩ := g1.ok.pu b z; ⟨u, fun w => w.elim f (fun w => p1 (w ▸ z)), p⟩⟩, g1.len, g1.val, fun i ds e => let ⟨b, vs, e1, u, f, p, q, r⟩ := g1.ownX i ds e; ⟨b, vs, e1, u, fun w => w.elim f (fun w => no1 ⟨i, ds, e, w ▸ e1⟩), p, q, r⟩, g1.apartX⟩
    refine h2 (fun b => F b ∨ b = a) σ (W0.plus H a) _ g1' fun w W1 z Γ1 st g2 rz q => ?_
    have ea : W1.H a = some (.lst vs) := (st.fr a (.inr rfl)).trans e
    have g2' : SR F Γ1 σ W1 := ⟨⟨g2.ok.dom, fun b z => g2.ok.fu b (.inl z), fun b z => let ⟨u, f, p⟩ := g2.ok.pu b z; ⟨u, fun w => f (.inl w), p⟩⟩, g2.len, g2.val, fun i ds e => let ⟨b, vs, e1, u, f, p, q, r⟩ := g2.ownX i ds e; ⟨b, vs, e1, u, fun w => f (.inl w), p, q, r⟩, g2.apartX⟩
    have no2 : ¬ ownA Γ1 σ a := fun ⟨i, ds, e1, e2⟩ => by
      obtain ⟨b, vs, e3, _, f, _⟩ := g2.ownX i ds e1
      rw [e2] at e3; cases e3
      exact f (.inr rfl)
    have p2 : ¬ W1.P a := fun z => (g2.ok.pu a z).2.1 (.inr rfl)
    have ra : RepL W1 ds vs := r.stp st
    have gv := g2'.set (i := i) ((r0.stp st1).stp st)
    have g3 := gv.adopt (i := j) (g2.ok.fu a (.inr rfl)) f1 p2 ea ra (own_setV no2)
    exact ⟨v, .ref a, w, rfl, k.nx _ W1 _ ((st0.trans st1).trans (st.sub fun b z => .inl z)) (g3.set rz) q⟩
def spJRows : Spc where
  ty := Nat × Nat
  args := fun x => [.purse, .int x.1, .int x.2]
  ok := fun x => x.1 ≤ 5 ∧ x.2 ≤ 1000
  rel := fun x d => ∃ rs, d = .lst (nameD rs) ∧ rs.length ≤ x.2 ∧ ∀ r ∈ rs, RowOk r x.1
def spJFits : Spc where
  ty := List (List Nat) × Nat
  args := fun x => [.lst (nameD x.1), .int x.2]
  ok := fun x => (∀ r ∈ x.1, RowOk r x.2) ∧ x.2 ≤ 5 ∧ x.1.length ≤ 1000
  rel := fun x d => d = .lst (ordT (fittersM x.1 x.2))
def spJLots : Spc where
  ty := List Nat
  args := fun ts => [.lst (ordD ts)]
  ok := fun ts => ts.length ≤ 8
  rel := fun ts d => d = .lst (ordT ((lotsF ts).mergeSort lotLe))
def nmOT : List (List Nat) := [[111, 110, 101], [116, 119, 111]]
def onM (k n : Nat) : List Nat := (List.range n).map fun j => if j = k then 1 else 0
def twM (S : List Nat) (n : Nat) : List Nat := (List.range n).map fun j => if j ∈ S then 1 else 0
/-- folk whose marks are lists -/
def folkL (ls ms : List (List Nat)) : List D := (ls.zip ms).map fun p => D.tup [.str (tx p.1), .lst (ordD p.2)]
def spPageF : Spc where
  ty := (List (List Nat) × List (List Nat) × Nat) × Bool
  args := fun x => [.lst (if x.2 = true then folkL x.1.1 x.1.2.1 else folkD x.1.1 x.1.2.1)]
  ok := fun x => CaseOk x.1.1 x.1.2.1 x.1.2.2
  rel := fun x d => d = .str (tx (caseTx x.1.1 x.1.2.1))
def spTwo (CC : Addr) : Spc where
  ty := List Nat × Nat × Nat
  args := fun x => [.tup (ordD x.1), .int x.2.1, .int x.2.2]
  ok := fun x => 1 ≤ x.2.2 ∧ x.2.2 ≤ 8
  rel := fun x d => d = caseO CC nmOT [onM x.2.1 x.2.2, twM x.1 x.2.2]
theorem ot_names : NamesOk nmOT := by
  refine ⟨by decide, by decide, fun l hl => nameB_ok (List.all_eq_true.mp (show nmOT.all nameB = true by decide +kernel) l hl), ?_⟩
  exact fun p hp => by
    rcases List.mem_cons.mp hp with rfl | hp
    · decide
    · cases hp
theorem ot_case {k n : Nat} {S : List Nat} (h1 : 1 ≤ n) (h8 : n ≤ 8) : CaseOk nmOT [onM k n, twM S n] n := by
  refine ⟨ot_names, by decide, rfl, fun m hm => ?_, h1, h8, fun m hm x hx => ?_⟩
  · rcases List.mem_cons.mp hm with rfl | hm
    · unfold onM; rw [List.length_map, List.length_range]
    · rw [List.mem_singleton.mp hm]
      unfold twM; rw [List.length_map, List.length_range]
  · rcases List.mem_cons.mp hm with rfl | hm
    · obtain ⟨j, _, rfl⟩ := List.mem_map.mp hx
      split <;> decide
    · rw [List.mem_singleton.mp hm] at hx
      obtain ⟨j, _, rfl⟩ := List.mem_map.mp hx
      split <;> decide
theorem on_at {k n j : Nat} (h : j < n) : (onM k n).getD j 0 = if j = k then 1 else 0 := by
  unfold onM
  rw [List.getD_eq_getElem?_getD, List.getElem?_map, List.getElem?_range h]; rfl
theorem tw_at {S : List Nat} {n j : Nat} (h : j < n) : (twM S n).getD j 0 = if j ∈ S then 1 else 0 := by
  unfold twM
  rw [List.getD_eq_getElem?_getD, List.getElem?_map, List.getElem?_range h]; rfl
theorem sgn_two {S : List Nat} {k n j : Nat} (hk : k ∉ S) (hj : j < n) : sgn (agR (onM k n) (twM S n)) j = if j ∈ S then 43 else if j = k then 45 else 46 := by
  rw [sgn_agR (n := n) (by unfold onM; rw [List.length_map, List.length_range]) (by unfold twM; rw [List.length_map, List.length_range]) hj, on_at hj, tw_at hj]
  unfold agC
  by_cases h1 : j ∈ S
  · have : j ≠ k := fun z => hk (z ▸ h1)
    rw [if_pos h1, if_pos h1, if_neg this]; rfl
  · rw [if_neg h1, if_neg h1]
    by_cases h2 : j = k
    · rw [if_pos h2, if_pos h2]; rfl
    · rw [if_neg h2, if_neg h2]; rfl
theorem holds_two {S o : List Nat} {k n : Nat} (hk : k ∉ S) (hkn : k < n) (ho : o.Perm (List.range n)) (hS : ∀ j ∈ S, j < n) : holdsB (agR (onM k n) (twM S n)) o = S.any fun j => decide (o.idxOf j < o.idxOf k) := by
  have mem : ∀ j, j ∈ o ↔ j < n := fun j => by rw [ho.mem_iff, List.mem_range]
  have nd : o.Nodup := ho.nodup_iff.mpr List.nodup_range
  obtain ⟨p, q, rfl, el, hkp⟩ := cut_at ((mem k).mpr hkn)
  have pn : ∀ j ∈ p, j < n := fun j hj => (mem j).mp (List.mem_append_left _ hj)
  by_cases h : ∃ j ∈ S, j ∈ p
  · obtain ⟨j, hj, hjp⟩ := h
    rw [holds_lay (q := p) (fun i hi => ?_) ⟨j, hjp, by rw [sgn_two hk (pn j hjp), if_pos hj]⟩]
    · refine (List.any_eq_true.mpr ⟨j, hj, decide_eq_true ?_⟩).symm
      exact (mem_idx hkp nd ((mem j).mpr (hS j hj))).mp hjp
    · rw [sgn_two hk (pn i hi)]
      by_cases h1 : i ∈ S
      · rw [if_pos h1]; exact .inl rfl
      · rw [if_neg h1, if_neg (fun z : i = k => hkp (z ▸ hi))]; exact .inr rfl
  · have dots : ∀ j ∈ p, sgn (agR (onM k n) (twM S n)) j = 46 := fun j hj => by
      rw [sgn_two hk (pn j hj), if_neg (fun z : j ∈ S => h ⟨j, z, hj⟩), if_neg (fun z : j = k => hkp (z ▸ hj))]
    rw [holds_pre dots, holds_consJ, sgn_two hk hkn, if_neg hk, if_pos rfl]
    rw [if_neg (by decide)]
    symm
    rw [show decide ((45 : Nat) = 43) = false from rfl, List.any_eq_false]
    intro j hj z
    exact h ⟨j, hj, (mem_idx hkp nd ((mem j).mpr (hS j hj))).mpr (of_decide_eq_true z)⟩
theorem zip_sw : ∀ a b : List Nat, b.zip a = (a.zip b).map fun p => (p.2, p.1)
  | [], b => by cases b <;> rfl
  | x :: a, [] => rfl
  | x :: a, y :: b => by rw [List.zip_cons_cons, List.zip_cons_cons, List.map_cons, zip_sw a b]
theorem ag_flip (a b : List Nat) : agR b a = flipped (agR a b) := by
  unfold agR flipped
  rw [List.map_map, zip_sw a b, List.map_map]
  refine List.map_congr_left fun p _ => ?_
  show agC p.2 p.1 = flip1 (agC p.1 p.2)
  unfold agC
  by_cases h1 : p.1 < p.2
  · rw [if_pos h1, if_neg (by omega), if_pos h1]; rfl
  · by_cases h2 : p.2 < p.1
    · simp [h1, h2, flip1]
    · simp [h1, h2, flip1]
theorem cnt_all {rs qs : List (List Nat)} {n : Nat} (h1 : ∀ r ∈ rs, RowOk r n) (h2 : ∀ r ∈ qs, RowOk r n) : countM (rs ++ qs) n = countM rs n ↔ ∀ o ∈ fitM rs n, ∀ r ∈ qs, holdsB r o = true := by
  have h3 : ∀ r ∈ rs ++ qs, RowOk r n := fun r h => (List.mem_append.mp h).elim (h1 r) (h2 r)
  rw [count_eq (rows_sgn h3), count_eq (rows_sgn h1)]
  have e : fitM (rs ++ qs) n = (fitM rs n).filter fun o => qs.all fun r => holdsB r o := by
    unfold fitM
    rw [List.filter_filter]
    refine List.filter_congr fun o _ => ?_
    rw [List.all_append, Bool.and_comm]
  rw [e, List.length_filter_eq_length_iff]
  exact forall_congr' fun o => forall_congr' fun _ => List.all_eq_true
/-- one wins surely, and only one, just if the lot stands above -/
theorem sure_two {rs : List (List Nat)} {n k : Nat} {S : List Nat} (hr : ∀ r ∈ rs, RowOk r n) (h1 : 1 ≤ n) (h8 : n ≤ 8) (hk : k ∉ S) (hkn : k < n) (hS : ∀ j ∈ S, j < n) (ne : fitM rs n ≠ []) : decide ((sureI rs [onM k n, twM S n] n).map (rowAt nmOT) = [[111, 110, 101]]) = abvB (fitM rs n) k S := by
  have hc := ot_case (k := k) (S := S) h1 h8
  have r0 := rwM_ok (i := 0) hc (by decide)
  have r1 := rwM_ok (i := 1) hc (by decide)
  have e0 : rwM [onM k n, twM S n] 0 = [agR (onM k n) (twM S n)] := rfl
  have e1 : rwM [onM k n, twM S n] 1 = [agR (twM S n) (onM k n)] := rfl
  have a0 : countM (rs ++ rwM [onM k n, twM S n] 0) n = countM rs n ↔ abvB (fitM rs n) k S = true := by
    rw [cnt_all hr r0, e0]
    unfold abvB
    rw [List.all_eq_true]
    refine forall_congr' fun o => forall_congr' fun ho => ?_
    have hp := (fitM_mem.mp ho).1
    rw [← holds_two hk hkn hp hS]
    exact ⟨fun h => h _ (List.mem_singleton.mpr rfl), fun h r hr => by rw [List.mem_singleton.mp hr]; exact h⟩
  have ex : abvB (fitM rs n) k S = true → ¬ countM (rs ++ rwM [onM k n, twM S n] 1) n = countM rs n := fun h z => by
    rw [cnt_all hr r1, e1] at z
    obtain ⟨o, ho⟩ := List.exists_mem_of_ne_nil _ ne
    have hp := (fitM_mem.mp ho).1
    have z1 := z o ho _ (List.mem_singleton.mpr rfl)
    have z0 : holdsB (agR (onM k n) (twM S n)) o = true := by rw [holds_two hk hkn hp hS]; exact List.all_eq_true.mp h o ho
    have hrow : RowOk (agR (onM k n) (twM S n)) n := r0 _ (by rw [e0]; exact List.mem_singleton.mpr rfl)
    rw [ag_flip, flip_holds hrow o (fun j hj => List.mem_range.mp (hp.mem_iff.mp hj)) ⟨k, hp.mem_iff.mpr (List.mem_range.mpr hkn), by rw [sgn_two hk hkn, if_neg hk, if_pos rfl]; decide⟩, z0] at z1
    cases z1
  have es : sureI rs [onM k n, twM S n] n = (if countM (rs ++ rwM [onM k n, twM S n] 0) n = countM rs n then [0] else []) ++ (if countM (rs ++ rwM [onM k n, twM S n] 1) n = countM rs n then [1] else []) := by
    show (List.range 2).filter _ = _
    rw [show List.range 2 = [0, 1] from rfl, List.filter_cons, List.filter_cons, List.filter_nil]
    by_cases x0 : countM (rs ++ rwM [onM k n, twM S n] 0) n = countM rs n <;> by_cases x1 : countM (rs ++ rwM [onM k n, twM S n] 1) n = countM rs n <;> simp [x0, x1]
  cases h : abvB (fitM rs n) k S with
  | true => rw [es, if_pos (a0.mpr h), if_neg (ex h)]; decide
  | false =>
    rw [es, if_neg fun z => by rw [a0.mp z] at h; cases h]
    split <;> decide
theorem eq_one {K : PySem.W.Frag} (X : List (List Nat)) (h : ∀ l ∈ X, NameOk l) : DR2 (rEqX K) (.tup (nameD X)) (.tup [.str "one"]) (.bl (decide (X = [[111, 110, 101]]))) := by
  have ok : ∀ Y : List (List Nat), (∀ l ∈ Y, NameOk l) → dOk 1 (.tup (nameD Y)) = true := fun Y hY => dOks_map fun l hl => okS_tx fun c hc => by have := (hY l hl).all c hc; omega
  have one : D.tup [.str "one"] = D.tup (nameD [[111, 110, 101]]) := by
    show _ = D.tup [.str (tx [111, 110, 101])]
    rw [show tx [111, 110, 101] = ("one" : Str) from by decide +kernel]
  rw [one]
  obtain ⟨h1, h2⟩ := dOk_shaped (ok X h) (by decide)
  obtain ⟨h3, h4⟩ := dOk_shaped (ok [[111, 110, 101]] fun l hl => by rw [List.mem_singleton.mp hl]; exact nameB_ok (by decide +kernel)) (by decide)
  have := eq_deep (K := K) h1 h3 h2 h4
  have e : PyData.eqv (py (.tup (nameD X))) (py (.tup (nameD [[111, 110, 101]]))) = decide (X = [[111, 110, 101]]) := by
    show PyData.eqvAll (pys (nameD X)) (pys (nameD [[111, 110, 101]])) = _
    have := eqv_strs (X.map tx) ([[111, 110, 101]].map tx)
    rw [nameD_map, nameD_map] at this
    rw [this]
    refine decide_eq_decide.mpr ⟨fun h => ?_, fun h => by rw [h]⟩
    have h := congrArg (List.map fun s : Str => s.cps.toList) h
    rw [List.map_map, List.map_map] at h
    have idm : ∀ Y : List (List Nat), Y.map ((fun s : Str => s.cps.toList) ∘ tx) = Y := fun Y => by
      refine (List.map_congr_left fun l _ => ?_).trans (List.map_id' Y)
      exact tx_cps l
    rw [idm, idm] at h
    exact h
  rw [e] at this
  exact this
theorem ej_mk {K : PySem.W.Frag} {t : TE} {Γ : Gam} {o : List Nat} (fl : Bool) (h : Ev t Γ (if fl = true then .lst (ordD o) else .tup (ordD o))) : Ei (iAnyR K t) Γ (o.map fun k : Nat => D.int k) := by
  cases fl with
  | true => exact ej_list (Ev.b h)
  | false => exact ej_tup h
theorem ordersM_all {n : Nat} {o : List Nat} (h : o.Perm (List.range n)) : o ∈ ordersM n n := by
  have e : ∀ i, ordersM n i = allM n i := fun i => by
    induction i with
    | zero => rfl
    | succ i ih => rw [allM_succ, ← ih]; rfl
  rw [e, allM_mem]
  exact perm_iff.mp h
def spPageT : Spc where
  ty := Bk × Bool
  args := fun x => [rowsD x.2 x.1.1, .lst (nameD x.1.2)]
  ok := fun x => BookOk x.1.1 x.1.2
  rel := fun x d => d = .str (tx (bookTx x.1.1 x.1.2))
theorem evb_lot {K : PySem.W.Frag} {t : TE} {Γ : Gam} {ls : List (List Nat)} (fl : Bool) (h : Ev t Γ (rowsD fl ls)) : EvB (tCB (rListOf K) (tCons t tNil)) Γ (nameD ls) := by
  cases fl with
  | true => exact EvN.b (evn_list (Ev.b h))
  | false => exact EvN.b (evn_listT h)
theorem ne_natZ {K : PySem.W.Frag} (a b : Nat) : DR2 (rNeX K) (.int (a : Nat)) (.int (b : Nat)) (.bl (!decide (a = b))) := by
  have e := ne_int' (K := K) (i := (a : Int)) (j := (b : Int))
  rw [show decide ((a : Int) = (b : Int)) = decide (a = b) from decide_eq_decide.mpr (by omega)] at e
  exact e
theorem ev_nmIn {K : PySem.W.Frag} {Γ : Gam} {ta tb : TE} {r' : R2} {c : List Nat} {ls : List (List Nat)} (ha : Ev ta Γ (.str (tx c))) (h : Ev tb Γ (.tup (nameD ls))) : Ev (tOp (rOr (rIn K false) r') ta tb) Γ (.bl (decide (c ∈ ls))) := by
  have e := ev_inT (neg := false) (K := K) (r' := r') ha h rfl (sc_names ls)
  rw [show scV (.str (tx c)) = V.str (tx c) from rfl, inV_name] at e
  exact e
theorem idx_in {ls : List (List Nat)} (pw : ls.Pairwise (· < ·)) {I : List Nat} (hI : ∀ i ∈ I, i < ls.length) {i : Nat} (hi : i < ls.length) : rowAt ls i ∈ I.map (rowAt ls) ↔ i ∈ I := by
  rw [List.mem_map]
  constructor
  · rintro ⟨j, hj, e⟩
    rw [← rowAt_inj pw (hI j hj) hi e]; exact hj
  · exact fun h => ⟨i, h, rfl⟩
theorem judge_iff {rs : List (List Nat)} {n : Nat} {r : List Nat} (hr : ∀ q ∈ rs, RowOk q n) (hq : RowOk r n) (ne : fitM rs n ≠ []) : judgeS rs n r = "sure" ↔ ∀ o ∈ fitM rs n, holdsB r o = true := by
  have hr2 : ∀ q ∈ rs ++ [r], RowOk q n := fun q h => (List.mem_append.mp h).elim (hr q) fun h => by rw [List.mem_singleton.mp h]; exact hq
  have pos : 0 < (fitM rs n).length := List.length_pos_iff.mpr ne
  unfold judgeS
  rw [count_eq (rows_sgn hr2), count_eq (rows_sgn hr), fit_snoc]
  constructor
  · intro h
    split at h
    · exact absurd h (by decide +kernel)
    · split at h
      · rename_i e
        exact List.length_filter_eq_length_iff.mp e
      · exact absurd h (by decide +kernel)
  · intro h
    have e : (fitM rs n).filter (fun o => holdsB r o) = fitM rs n := List.filter_eq_self.mpr h
    rw [e, if_neg (by omega), if_pos rfl]
def oneD (X : List (List Nat)) : D := .tup (ordT X)
theorem one_ok {X : List (List Nat)} (h : ∀ o ∈ X, ∀ k ∈ o, k < 8) (h8 : ∀ o ∈ X, o.length ≤ 8) (hX : X.length ≤ 256) : dOk 2 (oneD X) = true ∧ shOk (oneD X) = true ∧ shB (oneD X) ≤ sizeLine := by
  obtain ⟨h1, h2, h3⟩ := rOk_sh 2 (oneD X) (rOk_ordT h)
  have h4 := cntDs_ordT h8
  have h5 : cntD (oneD X) = cntDs (ordT X) + 1 := rfl
  refine ⟨h1, h2, Nat.le_trans (m := 3010 * 5000) ?_ (by decide)⟩
  have : cntD (oneD X) ≤ 5000 := by
    rw [h5]
    have := Nat.mul_le_mul_left (8 + 1) hX
    omega
  have := Nat.mul_le_mul_left 3010 this
  omega
def spReasR (C : Addr) : Spc where
  ty := Bk
  args := fun x => [.tag (bookD C x.1 x.2), .int (x.1.length : Nat)]
  ok := fun x => BookOk x.1 x.2 ∧ Still x.2 x.1.length = []
  rel := fun _ d => d = .bl true
theorem fits_M {rs : List (List Nat)} {n : Nat} : fittersM rs n = fitM rs n := by
  have e : ∀ i, ordersM n i = allM n i := fun i => by
    induction i with
    | zero => rfl
    | succ i ih => rw [allM_succ, ← ih]; rfl
  unfold fittersM fitM
  rw [e]
theorem rep_row (R : List (List Nat)) (r : List Nat) (b : Bool) : nameD R ++ (List.replicate (if b = true then 1 else 0) [D.str (tx r)]).flatten = nameD (if b = true then R ++ [r] else R) := by
  cases b with
  | true =>
    show nameD R ++ [D.str (tx r)] = nameD (R ++ [r])
    unfold nameD
    rw [List.map_append]; rfl
  | false =>
    show nameD R ++ [] = nameD R
    rw [List.append_nil]
end K34

namespace K34
open PySem PySem.Spec PyProof.Rows L2 Dw
variable [Tabs0]
theorem d__law_book_page {P : Program} {w : World} {K : PySem.W.Frag} {mg : Str → Option Value} {base : Heap} (T : Txt K w mg) : FnOk P w K mg base CX0 1 T.f__law_book_page T.e__law_book_page ["_law_tags_here", "_law_rows_here"] (toSp (spPageT)) := by
  refine fn_ok T.F__law_book_page sc__law_book_page (fun _ => rfl) fun cdv A outer s' H E hr => ?_
  refine ⟨_, (pss_one (ps_ret (pe_op (plusE K) (pe_op (plusE K) (joinA K pe_str (pe_callTy (listA K) (by rfl) T.n_list (by decide +kernel) (pa_cons (pv 0) pa_nil))) pe_str) (joinA K pe_str (pe_lc (own := [("_law_row_here", 2)]) rfl sc__law_book_page.nd (piR K (pv 1)) (blkOk_by (own := [("_law_row_here", 2)]) (N := N__law_book_page) (sc := (defScope s__law_book_page)) (by decide +kernel)) (fun _ _ _ _ _ => pg_name (i := 2) sc__law_book_page.nd rfl (Or.inl rfl)) (fun _ _ _ _ _ => pts_nil) (fun _ _ _ _ _ => (pe_op (plusE K) pe_str (pv 2)))))))), fun x hx => ?_⟩
  obtain ⟨⟨ls, rs⟩, flg⟩ := x
  have hb : BookOk ls rs := hx
  have h8 := hb.names.hi
  have h20 := hb.few
  have hl := hb.hl
  have s1 := sum_tx (m := 8) ls fun p hp => (hb.names.all p hp).hi
  have s2 := sum_tx (m := 9) (rs.map ([32] ++ ·)) fun p hp => by
    obtain ⟨r, hr, rfl⟩ := List.mem_map.mp hp
    have := (hb.rows r hr).len
    rw [List.length_append, this]
    show 1 + ls.length ≤ 9
    omega
  rw [List.length_map] at s2
  have fl : ((rs.map ([32] ++ ·)).flatten).length ≤ 180 := by
    have := joinL_len (m := 9) (rs.map ([32] ++ ·)) fun p hp => by
      obtain ⟨r, hr, rfl⟩ := List.mem_map.mp hp
      have := (hb.rows r hr).len
      rw [List.length_append, this]
      show 1 + ls.length ≤ 9
      omega
    have e : ∀ l : List (List Nat), l.flatten.length ≤ (TL.joinL [32] l).length := fun l => by
      cases l with
      | nil => exact Nat.le_refl _
      | cons a l =>
        rw [joinL_cons', List.flatten_cons, List.length_append, List.length_append]
        have : ∀ l : List (List Nat), l.flatten.length ≤ ((l.map ([32] ++ ·)).flatten).length := fun l => by
          induction l with
          | nil => exact Nat.le_refl _
          | cons b l ih =>
            rw [List.map_cons, List.flatten_cons, List.flatten_cons, List.length_append, List.length_append, List.length_append]
            omega
        have := this l
        omega
    have e2 := e (rs.map ([32] ++ ·))
    have e3 : ((rs.map ([32] ++ ·)).flatten).length ≤ rs.length * 9 := by
      clear e e2 this
      have key : ∀ l : List (List Nat), (∀ p ∈ l, p.length ≤ 9) → l.flatten.length ≤ l.length * 9 := fun l => by
        induction l with
        | nil => exact fun _ => Nat.le_refl _
        | cons a l ih =>
          intro h
          rw [List.flatten_cons, List.length_append, List.length_cons, Nat.succ_mul]
          have := h a List.mem_cons_self
          have := ih fun p hp => h p (List.mem_cons_of_mem _ hp)
          omega
      have := key (rs.map ([32] ++ ·)) fun p hp => by
        obtain ⟨r, hr, rfl⟩ := List.mem_map.mp hp
        have := (hb.rows r hr).len
        rw [List.length_append, this]
        show 1 + ls.length ≤ 9
        omega
      rwa [List.length_map] at this
    omega
  refine ds_ret (Ev.dl (ev_cast (d := .str ((tx (TL.joinL [32] ls) ++ Str.ofString ":") ++ tx ((rs.map ([32] ++ ·)).flatten))) ?c (ev_op (ev_op (ev_cast (d' := .str (tx (TL.joinL [32] ls))) (congrArg D.str (join_sp ls)) (ev_join (x := Str.ofString " ") (ys := ls.map tx) ev_str ?b ?z1)) ev_str (dr2_l (plus_str ?z2))) (ev_cast (d' := .str (tx ((rs.map ([32] ++ ·)).flatten))) ?a2 (ev_join (x := Str.ofString "") (ys := (rs.map ([32] ++ ·)).map tx) ev_str ?b2 ?z3)) (dr2_l (plus_str ?z4)))) rfl)
  case c =>
    rw [colonS, tx_append, tx_append]
    unfold bookTx
    rw [joinL_cons']
  case b =>
    rw [nameD_map]
    exact evb_lot flg (ev_var rfl)
  case z1 =>
    rw [List.length_map, spaceS, tx_len]
    show _ + ls.length * 1 ≤ _
    omega
  case z2 =>
    rw [tx_len, colonS, tx_len]
    show _ + 1 ≤ _
    exact small (by omega)
  case a2 =>
    rw [show Str.ofString "" = tx [] from by decide +kernel, join_tx, joinL_nil]
  case b2 =>
    have e : ((rs.map ([32] ++ ·)).map tx).map D.str = rs.map fun r => D.str (tx ([32] ++ r)) := by rw [List.map_map, List.map_map]; rfl
    rw [e]
    exact EvN.b (evn_lc1 (xs := rs) (c := fun r => D.str (tx r)) (f := fun r => D.str (tx ([32] ++ r))) (ej_list (ev_var (d := .lst (nameD rs)) rfl).b) (by omega) fun r hr => ⟨[2], _, dg_name, fun i hi => hi, evt_yes, ev_cast (congrArg D.str (by rw [spaceS, tx_append])) (ev_op ev_str (ev_var rfl) (dr2_l (plus_str (by
      have := (hb.rows r hr).len
      rw [spaceS, tx_len, tx_len, this]
      show 1 + ls.length ≤ _
      exact small (by omega)))))⟩)
  case z3 =>
    rw [List.length_map, List.length_map, show (Str.ofString "").length = 0 from rfl]
    omega
  case z4 =>
    rw [colonS, tx_append, tx_len, tx_len, List.length_append]
    show (TL.joinL [32] ls).length + 1 + _ ≤ _
    exact small (by omega)
end K34

namespace K34
open PySem PySem.Spec PyProof.Rows L2 Dw
variable [Tabs0]
theorem d__law_case_page {P : Program} {w : World} {K : PySem.W.Frag} {mg : Str → Option Value} {base : Heap} (T : Txt K w mg) : FnOk P w K mg base CX0 1 T.f__law_case_page T.e__law_case_page ["_law_folk_here"] (toSp (spPageF)) := by
  refine fn_ok T.F__law_case_page sc__law_case_page (fun _ => rfl) fun cdv A outer s' H E hr => ?_
  refine ⟨_, (pss_one (ps_ret (joinA K pe_str (pe_lc (own := [("_law_tag", 1), ("_law_marks", 2)]) rfl sc__law_case_page.nd (piR K (pv 0)) (blkOk_by (own := [("_law_tag", 1), ("_law_marks", 2)]) (N := N__law_case_page) (sc := (defScope s__law_case_page)) (by decide +kernel)) (fun _ _ _ _ _ => tupA K 2 rfl (pgs_cons (pg_name (i := 1) sc__law_case_page.nd rfl (Or.inl rfl)) (pgs_cons (pg_name (i := 2) sc__law_case_page.nd rfl (Or.inl rfl)) pgs_nil))) (fun _ _ _ _ _ => pts_nil) (fun _ _ _ _ _ => (joinA K pe_str (pe_op (plusE K) (pe_lst (pa_cons (pv 1) pa_nil)) (pe_lc (own := [("_law_mark", 3)]) rfl sc__law_case_page.nd (piR K (pv 2)) (blkOk_by (own := [("_law_mark", 3)]) (N := N__law_case_page) (sc := (relS { kind := .function, names := [(".0", .local), ("_law_tag", .local), ("_law_marks", .local)], isGenerator := false, isCoroutine := false, more := [] } (defScope s__law_case_page))) (by decide +kernel)) (fun _ _ _ _ _ => pg_name (i := 3) sc__law_case_page.nd rfl (Or.inl rfl)) (fun _ _ _ _ _ => pts_nil) (fun _ _ _ _ _ => (pe_callTy call_str_int (by rfl) T.n_str (by decide +kernel) (pa_cons (pv 3) pa_nil))))))))))), fun x hx => ?_⟩
  obtain ⟨⟨ls, ms, n⟩, fl⟩ := x
  have hc : CaseOk ls ms n := hx
  have h8 := hc.names.hi
  have n8 := hc.hi
  have s1 := sum_tx (m := 81) ((ls.zip ms).map partT) fun q hq => (hc.part hq).1
  rw [List.length_map, hc.zl] at s1
  refine ds_ret (Ev.dl (ev_join (x := Str.ofString "; ") (ys := ((ls.zip ms).map partT).map tx) ev_str (EvN.b ?_) ?_) ?_)
  · have e1 : (((ls.zip ms).map partT).map tx).map D.str = (ls.zip ms).map fun p => D.str (tx (partT p)) := by
      rw [List.map_map, List.map_map]; rfl
    rw [e1]
    refine evn_lc1 (xs := ls.zip ms) (c := fun p : List Nat × List Nat => D.tup [.str (tx p.1), if fl = true then .lst (ordD p.2) else .tup (ordD p.2)]) (f := fun p => .str (tx (partT p))) (ej_list (Ev.b (ev_cast (congrArg D.lst (by cases fl <;> rfl)) (ev_var (d := .lst (if fl = true then folkL ls ms else folkD ls ms)) rfl)))) (by rw [hc.zl]; omega) fun p hp => ?_
    have hz := hc.zip hp
    have s2 := sum_tx (m := 8) (wordsL p) (words_8 hz)
    have wl : (wordsL p).length = n + 1 := words_len hz
    have els : [D.str (tx p.1)] ++ (p.2.map fun k => D.str (tx (TL.numL k))) = ((wordsL p).map tx).map D.str := by
      unfold wordsL
      rw [List.map_cons, List.map_cons, List.map_map, List.map_map]; rfl
    refine ⟨[1] ++ [2], _, dg_tup2 dg_name dg_name, by decide, evt_yes, ev_cast (d := .str (Txt.join (Str.ofString " ") ((wordsL p).map tx))) ?ej (ev_join (x := Str.ofString " ") (ys := (wordsL p).map tx) ev_str (EvN.b (els ▸ pl_evn (ds := [D.str (tx p.1)]) (es := p.2.map fun k => D.str (tx (TL.numL k))) (EvN.b (evn_lst (eva_cons (ev_var rfl) eva_nil) (small (show 1 ≤ 100000 by decide)))) (EvN.b (evn_lc1 (xs := p.2) (c := fun k : Nat => D.int k) (f := fun k => .str (tx (TL.numL k))) (ej_mk fl (ev_var rfl)) (by have := hz.2.1; omega) fun k hk => ⟨[3], _, dg_name, by decide, evt_yes, ev_cast (congrArg D.str (SX.num_S k)) (ev_strK (ev_var rfl) (show k.log2 < 1920 from Nat.lt_of_le_of_lt (Nat.log2_le_self k) (by have := hz.2.2 k hk; omega)))⟩)) ?hz1)) ?hz2)⟩
    case ej => rw [spaceS, join_tx]; rfl
    case hz1 => rw [List.length_map, hz.2.1]; exact small (show 1 + n ≤ 100000 by omega)
    case hz2 =>
      rw [List.length_map, wl, spaceS, tx_len]
      show _ + (n + 1) * 1 ≤ _
      have : 8 * (wordsL p).length ≤ 8 * 9 := Nat.mul_le_mul (Nat.le_refl _) (by omega)
      omega
  · rw [List.length_map, List.length_map, hc.zl, semiS, tx_len]
    show _ + ls.length * 2 ≤ _
    omega
  · show D.str _ = D.str _
    rw [semiS, join_tx]; rfl
end K34

namespace K34
open PySem PySem.Spec PyProof.Rows L2 Dw
variable [Tabs0]
theorem d__law_rows {P : Program} {w : World} {K : PySem.W.Frag} {mg : Str → Option Value} {base : Heap} (T : Txt K w mg) : FnOk P w K mg base CX0 3 T.f__law_rows T.e__law_rows ["_law_jar", "_law_many", "_law_most"] (toSp (spJRows)) := by
  refine fn_ok T.F__law_rows sc__law_rows (fun _ => rfl) fun cdv A outer s' H E hr => ?_
  refine ⟨_, (pss_cons (ps_par3 (i := 3) (j := 4) (l := 5) (by rfl) sc__law_rows.nd rfl rfl rfl (by decide) (by decide) (by decide) rfl rfl rfl (pa_cons (pe_call (d__law_pick T) (hr.mono (by decide)) (by rfl) T.m__law_pick T.F__law_pick.kp T.b__law_pick .nil pass0 (pa_cons (pv 0) (pa_cons (pe_call (d__law_orders T) (hr.mono (by decide)) (by rfl) T.m__law_orders T.F__law_orders.kp T.b__law_orders .nil pass0 (pa_cons (pv 1) pa_nil)) pa_nil))) (pa_cons (pe_lst pa_nil) (pa_cons (pe_cmpR opGt (pe_call (d__law_dip T) (hr.mono (by decide)) (by rfl) T.m__law_dip T.F__law_dip.kp T.b__law_dip .nil pass0 (pa_cons (pv 0) (pa_cons pe_int pa_nil))) pe_int (nomark _)) pa_nil))) (by rfl)) (pss_cons (ps_for PassesOwn.never rfl (pi_range1 (by rfl) T.n_range (pa_cons (pe_call (d__law_dip T) (hr.mono (by decide)) (by rfl) T.m__law_dip T.F__law_dip.kp T.b__law_dip .nil pass0 (pa_cons (pv 0) (pa_cons (pe_op (plusE K) (pv 2) pe_int) pa_nil))) pa_nil)) (pg_name (i := 6) sc__law_rows.nd rfl (Or.inl rfl)) (pss_cons (ps_set (i := 7) sc__law_rows.nd rfl (Or.inl rfl) (pe_call (d__law_row T) (hr.mono (by decide)) (by rfl) T.m__law_row T.F__law_row.kp T.b__law_row .nil pass0 (pa_cons (pv 0) (pa_cons (pv 1) pa_nil)))) (pss_cons (ps_if (PW.pt (pw_and (truA K (pv 5)) (pw_and1 (pt_not (truA K (pe_call (d__law_holds T) (hr.mono (by decide)) (by rfl) T.m__law_holds T.F__law_holds.kp T.b__law_holds .nil pass0 (pa_cons (pv 7) (pa_cons (pv 3) pa_nil)))))))) (pss_one (ps_set (i := 7) sc__law_rows.nd rfl (Or.inl rfl) (pe_call (d__law_turned T) (hr.mono (by decide)) (by rfl) T.m__law_turned T.F__law_turned.kp T.b__law_turned .nil pass0 (pa_cons (pv 7) pa_nil)))) pss_nil) (pss_one (ps_expr (bmA K PySem.F.plainAttrs_list PySem.F.slot_list_append PySem.F.type_list_append mt_append (pv 4) (pa_cons (pv 7) pa_nil))))))) (pss_one (ps_ret (pv 4))))), fun x hx => ?_⟩
  obtain ⟨n, m⟩ := x
  obtain ⟨h5, hm⟩ := hx
  have h5 : n ≤ 5 := h5
  have hm : m ≤ 1000 := hm
  have olen : (ordersM n n).length ≤ 3125 := Nat.le_trans (ordersM_len n n) (pow5' h5 h5)
  have opos : 0 < (ordersM n n).length := List.length_pos_iff_exists_mem.mpr ⟨List.range n, ordersM_all (List.Perm.refl _)⟩
  refine ds_seq (ds_par3_dod (dl_call (s := spAnyOf) (dla_cons (Ev.dl (ev_var rfl) (dla_cons (Ev.dl (ev_call (s := spOrders) (d := .lst (ordT (ordersM n n))) (x := n) (eva_cons (ev_var rfl) eva_nil) rfl h5 fun d h => h) (dla_nil ⟨(true, ordT (ordersM n n)), rfl, ⟨by rw [ordT_len]; exact opos, by rw [ordT_len]; omega⟩, fun d hd => ?_⟩)))))))
  obtain ⟨o, ho, rfl⟩ := List.mem_map.mp hd
  have ok := ordersM_ok n n o ho
  refine ⟨nameD [], evn_lst eva_nil (Nat.zero_le _), dl_op (dl_call (s := spDraw) (dla_cons (Ev.dl (ev_var rfl) (dla_cons (Ev.dl ev_int (dla_nil ⟨(4 : Nat), rfl, ⟨by decide, by decide⟩, fun d hd => ?_⟩))))))⟩
  obtain ⟨c, hc, rfl⟩ := hd
  refine Ev.dl ev_int ⟨_, dr2_gt, ?_⟩
  obtain ⟨kp, ekp⟩ : ∃ kp, kp = decide ((0 : Int) < ((c : Nat) : Int)) := ⟨_, rfl⟩
  rw [← ekp]
  refine ds_seq (ds_for (fun xs i Γ' => xs.length ≤ m ∧ ∃ (rs : List (List Nat)) (s6 s7 : Sl), Γ' = [.val .purse, .val (.int (n : Nat)), .val (.int (m : Nat)), .val (.tup (ordD o)), .own (nameD rs), .val (.bl kp), s6, s7] ∧ rs.length = i ∧ ∀ r ∈ rs, RowOk r n)
    (di_range (dla_cons (dl_call (s := spDraw) (dla_cons (Ev.dl (ev_var rfl) (dla_cons (Ev.dl (ev_op (ev_var (d := .int (m : Nat)) rfl) ev_int pl_int) (dla_nil ⟨m + 1, rfl, ⟨by omega, by omega⟩, fun d hd => ?_⟩)))))))))
  obtain ⟨q, hq, rfl⟩ := hd
  refine dla_nil ⟨q, rfl, by omega, ⟨by rw [rng_length]; omega, [], _, _, rfl, rfl, fun r h => absurd h (by simp)⟩, fun i x Γ' hx' ⟨hxs, rs, s6, s7, e, l1, l2⟩ => ?_, fun Γ' ⟨hxs, rs, s6, s7, e, l1, l2⟩ => ?_⟩
  · subst e
    obtain ⟨hi, rfl⟩ := rng_get hx'
    refine ⟨[6], _, dg_name, ds_seq (ds_asg (dl_call (s := spSigns) (dla_cons (Ev.dl (ev_var rfl) (dla_cons (Ev.dl (ev_var rfl) (dla_nil ⟨n, rfl, by show n ≤ 8; omega, fun d hd => ?_⟩)))))))⟩
    obtain ⟨r, hr1, rfl⟩ := hd
    have hr1 : RowOk r n := hr1
    refine ds_seq (ds_mid (fun Γ' => ∃ r', RowOk r' n ∧ Γ' = [.val .purse, .val (.int (n : Nat)), .val (.int (m : Nat)), .val (.tup (ordD o)), .own (nameD rs), .val (.bl kp), .val (.int (i : Nat)), .val (.str (tx r'))]) (ds_if (EvT.dl (evt_and (evt_tru_bl (ev_var rfl)) fun _ => evt_not (evt_tru_bl (ev_call (s := spHas) (x := (r, o)) (eva_cons (ev_var rfl) (eva_cons (ev_var rfl) eva_nil)) (np_to (r := []) rfl) ⟨n, hr1, by omega, ok.lt⟩ fun d h => h))) ⟨fun _ => ds_asg (Ev.dl (ev_call (s := spFlip) (x := r) (eva_cons (ev_var rfl) eva_nil) rfl ⟨n, hr1, by show n ≤ 8; omega⟩ fun d h => h) ⟨flipped r, flipped_ok hr1, rfl⟩), fun _ => ds_next ⟨r, hr1, rfl⟩⟩)) fun Γ' ⟨r', hr2, e⟩ => ?_)
    subst e
    refine ds_drop (dl_append ⟨_, rfl⟩ (dla_cons (Ev.dl (ev_var rfl) (dla_nil ⟨_, nameD rs, rfl, rfl, ?lt, hxs, rs ++ [r'], .val (.int (i : Nat)), .val (.str (tx r')), ?nx, by rw [List.length_append, l1]; rfl, fun p hp => ?al⟩))))
    case lt => rw [nameD_len, l1]; exact Nat.lt_of_lt_of_le (m := 1001) (by omega) (by decide)
    case nx =>
      unfold nameD
      rw [List.map_append]; rfl
    case al =>
      rcases List.mem_append.mp hp with hp | hp
      · exact l2 p hp
      · rw [List.mem_singleton.mp hp]; exact hr2
  · subst e
    exact ds_ret_own rfl ⟨rs, rfl, by show rs.length ≤ m; omega, l2⟩
end K34

namespace K34
open PySem PySem.Spec PyProof.Rows L2 Dw
variable [Tabs0]
theorem d__law_fits {P : Program} {w : World} {K : PySem.W.Frag} {mg : Str → Option Value} {base : Heap} (T : Txt K w mg) : FnOk P w K mg base CX0 2 T.f__law_fits T.e__law_fits ["_law_rows_here", "_law_many"] (toSp (spJFits)) := by
  refine fn_ok T.F__law_fits sc__law_fits (fun _ => rfl) fun cdv A outer s' H E hr => ?_
  refine ⟨_, (pss_cons (ps_set (i := 2) sc__law_fits.nd rfl (Or.inl rfl) (pe_lst pa_nil)) (pss_cons (ps_for PassesOwn.never rfl (piR K (pe_call (d__law_orders T) (hr.mono (by decide)) (by rfl) T.m__law_orders T.F__law_orders.kp T.b__law_orders .nil pass0 (pa_cons (pv 1) pa_nil))) (pg_name (i := 3) sc__law_fits.nd rfl (Or.inr rfl)) (pss_one (ps_if (pt_cmpR (eqA K hr.units) (pe_lc (own := [("_law_row_here", 4)]) rfl sc__law_fits.nd (piR K (pv 0)) (blkOk_by (own := [("_law_row_here", 4)]) (N := N__law_fits) (sc := (defScope s__law_fits)) (by decide +kernel)) (fun _ _ _ _ _ => pg_name (i := 4) sc__law_fits.nd rfl (Or.inl rfl)) (fun _ _ _ _ _ => pts_one (pt_not (truA K (pe_call (d__law_holds T) (hr.mono (by decide)) (by rfl) T.m__law_holds T.F__law_holds.kp T.b__law_holds .nil pass0 (pa_cons (pv 4) (pa_cons (pv 3) pa_nil)))))) (fun _ _ _ _ _ => (pv 4))) (pe_lst pa_nil) (nomark _)) (pss_one (ps_expr (bmA K PySem.F.plainAttrs_list PySem.F.slot_list_append PySem.F.type_list_append mt_append (pv 2) (pa_cons (pv 3) pa_nil)))) pss_nil))) (pss_one (ps_ret (pv 2))))), fun x hx => ?_⟩
  obtain ⟨rs, n⟩ := x
  obtain ⟨hr', h5, hz⟩ := hx
  have hr' : ∀ r ∈ rs, RowOk r n := hr'
  have h5 : n ≤ 5 := h5
  have hz : rs.length ≤ 1000 := hz
  have olen : (ordersM n n).length ≤ 3125 := Nat.le_trans (ordersM_len n n) (pow5' h5 h5)
  refine ds_seq (ds_asg_own (ds := ordT (((ordersM n n).take 0).filter fun o => rs.all fun r => holdsB r o)) (evn_lst eva_nil (Nat.zero_le _)) ?_)
  refine ds_seq (ds_for (fun xs i Γ' => xs = ordT (ordersM n n) ∧ ∃ s3 : Sl, Γ' = [.val (.lst (nameD rs)), .val (.int (n : Nat)), .own (ordT (((ordersM n n).take i).filter fun o => rs.all fun r => holdsB r o)), s3, .unset])
    (dj_list (Ev.dl (ev_call (s := spOrders) (d := .lst (ordT (ordersM n n))) (x := n) (eva_cons (ev_var rfl) eva_nil) rfl h5 fun d h => h) ⟨_, rfl, ⟨rfl, _, rfl⟩, fun i x Γ' hx2 ⟨exs, s3, e⟩ => ?_, fun Γ' ⟨exs, s3, e⟩ => ?_⟩)))
  · subst e
    rw [exs] at hx2
    have hx2 : ((ordersM n n).map fun o => D.tup (ordD o))[i]? = some x := hx2
    rw [List.getElem?_map] at hx2
    obtain ⟨o, ho, rfl⟩ := Option.map_eq_some_iff.mp hx2
    have ok := ordersM_ok n n o (List.mem_of_getElem? ho)
    have et : (ordersM n n).take (i + 1) = (ordersM n n).take i ++ [o] := by rw [List.take_add_one, ho]; rfl
    have la : (((ordersM n n).take i).filter fun o => rs.all fun r => holdsB r o).length ≤ 3125 := Nat.le_trans (List.length_filter_le _ _) (by rw [List.length_take]; omega)
    rw [et, List.filter_append]
    refine ⟨[3], _, dg_name, ds_if (EvT.dl (b := rs.all fun r => holdsB r o) (evt_castB (b := ((rs.filter fun r => !holdsB r o).map fun r => D.str (tx r)).isEmpty) ?em (evt_test (ev_op (EvN.ev (evn_lc (xs := rs) (c := fun r => D.str (tx r)) (p := fun r => !holdsB r o) (f := fun r => D.str (tx r)) (ej_list (ev_var (d := .lst (nameD rs)) rfl).b) (by omega) fun r hr => ⟨[4], _, dg_name, fun i hi => hi, evt_not (evt_tru_bl (ev_call (s := spHas) (x := (r, o)) (eva_cons (ev_var rfl) (eva_cons (ev_var rfl) eva_nil)) (np_to (r := []) rfl) ⟨n, hr' r hr, by omega, ok.lt⟩ fun d h => h)), fun _ => ev_var rfl⟩)) (EvN.ev (evn_lst eva_nil (Nat.zero_le _))) (eq_nil (k := 1) (dOks_map fun r hr => okS_tx fun c hc => ((hr' r (List.mem_filter.mp hr).1).all c hc).lt) (by decide))))) ⟨fun h => ?_, fun h => ds_next ⟨exs, .val (.tup (ordD o)), ?_⟩⟩)⟩
    case em =>
      rw [Bool.eq_iff_iff, List.isEmpty_iff, List.map_eq_nil_iff, List.filter_eq_nil_iff, List.all_eq_true]
      refine forall_congr' fun r => forall_congr' fun _ => ?_
      cases holdsB r o <;> decide
    · refine ds_drop (dl_append ⟨_, rfl⟩ (dla_cons (Ev.dl (ev_var rfl) (dla_nil ⟨_, ordT (((ordersM n n).take i).filter fun o => rs.all fun r => holdsB r o), rfl, rfl, ?_, exs, .val (.tup (ordD o)), ?_⟩))))
      · rw [ordT_len]
        exact Nat.lt_of_le_of_lt (m := 3125) la (by decide)
      · rw [List.filter_cons, if_pos h]
        unfold ordT
        rw [List.map_append]; rfl
    · rw [List.filter_cons, if_neg (by rw [h]; exact Bool.false_ne_true), List.filter_nil, List.append_nil]; rfl
  · subst e
    rw [exs, ordT_len, List.take_length]
    exact ds_ret_own rfl rfl
end K34

namespace K34
open PySem PySem.Spec PyProof.Rows L2 Dw
variable [Tabs0]
theorem d__law_lots {P : Program} {w : World} {K : PySem.W.Frag} {mg : Str → Option Value} {base : Heap} (T : Txt K w mg) : FnOk P w K mg base CX0 1 T.f__law_lots T.e__law_lots ["_law_others"] (toSp (spJLots)) := by
  refine fn_ok T.F__law_lots sc__law_lots (fun _ => rfl) fun cdv A outer s' H E hr => ?_
  refine ⟨_, (pss_cons (ps_set (i := 1) sc__law_lots.nd rfl (Or.inl rfl) (pe_lst (pa_cons (pe_tup pa_nil) pa_nil))) (pss_cons (ps_for PassesOwn.never rfl (piR K (pv 0)) (pg_name (i := 2) sc__law_lots.nd rfl (Or.inr rfl)) (pss_one (ps_set (i := 1) sc__law_lots.nd rfl (Or.inl rfl) (pe_op (plusE K) (pv 1) (pe_lc (own := [("_law_lot", 4)]) rfl sc__law_lots.nd (piR K (pv 1)) (blkOk_by (own := [("_law_lot", 4)]) (N := N__law_lots) (sc := (defScope s__law_lots)) (by decide +kernel)) (fun _ _ _ _ _ => pg_name (i := 4) sc__law_lots.nd rfl (Or.inl rfl)) (fun _ _ _ _ _ => pts_nil) (fun _ _ _ _ _ => (pe_op (plusE K) (pv 4) (pe_tup (pa_cons (pv 2) pa_nil))))))))) (pss_one (ps_ret (pe_lc (own := [("_law_pair", 3)]) rfl sc__law_lots.nd (piR K (pe_callB (sortDA K hr) (by rfl) T.n_sorted (by decide +kernel) (pa_cons (pe_lc (own := [("_law_lot", 4)]) rfl sc__law_lots.nd (piR K (pv 1)) (blkOk_by (own := [("_law_lot", 4)]) (N := N__law_lots) (sc := (defScope s__law_lots)) (by decide +kernel)) (fun _ _ _ _ _ => pg_name (i := 4) sc__law_lots.nd rfl (Or.inl rfl)) (fun _ _ _ _ _ => pts_nil) (fun _ _ _ _ _ => (pe_tup (pa_cons (pe_callB (lenA K) (by rfl) T.n_len (by decide +kernel) (pa_cons (pv 4) pa_nil)) (pa_cons (pv 4) pa_nil))))) pa_nil))) (blkOk_by (own := [("_law_pair", 3)]) (N := N__law_lots) (sc := (defScope s__law_lots)) (by decide +kernel)) (fun _ _ _ _ _ => pg_name (i := 3) sc__law_lots.nd rfl (Or.inl rfl)) (fun _ _ _ _ _ => pts_nil) (fun _ _ _ _ _ => (pe_ix (ixA K) (pv 3) pe_int (fun _ _ => rfl)))))))), fun x hx => ?_⟩
  obtain ⟨ts, rfl⟩ : ∃ l : List Nat, l = x := ⟨x, rfl⟩
  have hn : ts.length ≤ 8 := hx
  refine ds_seq (ds_asg (Ev.dl (EvN.ev (evn_lst (ds := ordT (lotsF (ts.take 0))) (eva_cons (ev_tup eva_nil (Nat.zero_le _)) eva_nil) (small (show 1 ≤ 100000 by decide)))) ?_))
  refine ds_seq (ds_for (fun xs i Γ' => xs = ordD ts ∧ ∃ s2 : Sl, Γ' = [.val (.lst (ordD ts)), .val (.lst (ordT (lotsF (ts.take i)))), s2, .unset, .unset]) (dj_list (Ev.dl (ev_var rfl) ⟨ordD ts, rfl, ⟨rfl, _, rfl⟩, fun i x Γ' hx' ⟨exs, s2, e⟩ => ?_, fun Γ' ⟨exs, s2, e⟩ => ?_⟩)))
  · subst e
    have hx3 : (ts.map fun k : Nat => D.int k)[i]? = some x := hx'
    rw [List.getElem?_map] at hx3
    cases q : ts[i]? with
    | none => rw [q] at hx3; cases hx3
    | some t =>
      rw [q] at hx3; cases hx3
      have il := (List.getElem?_eq_some_iff.mp q).1
      have tk : ts.take (i + 1) = ts.take i ++ [t] := by rw [List.take_add_one, q]; rfl
      have tl : (ts.take i).length = i := by rw [List.length_take]; omega
      have hp : (lotsF (ts.take i)).length ≤ 256 := by
        rw [lotsF_len, tl]
        exact pow8 (by omega)
      refine ⟨[2], _, dg_name, ds_asg (Ev.dl (ev_cast (d' := .lst (ordT (lotsF (ts.take (i + 1))))) ?_ (EvN.ev (pl_evn (ev_var (d := .lst (ordT (lotsF (ts.take i)))) rfl).b (EvN.b (evn_lc1 (xs := lotsF (ts.take i)) (c := fun o => .tup (ordD o)) (f := fun o => .tup (ordD o ++ [.int (t : Nat)])) (ej_list (ev_var (d := .lst (ordT (lotsF (ts.take i)))) rfl).b) (by omega) fun o ho => ⟨[4], _, dg_name, fun i hi => hi, evt_yes, ev_op (ev_var rfl) (ev_tup (eva_cons (ev_var rfl) eva_nil) (small (show 1 ≤ 100000 by decide))) (pl_tup ?_)⟩)) ?_))) ⟨rfl, .val (.int (t : Nat)), ?_⟩)⟩
      · rw [tk, lotsF_snoc]
        unfold ordT
        rw [List.map_append, List.map_map]
        congr 3
        funext o
        exact congrArg D.tup (ordD_snoc o t)
      · have := lotsF_few _ o ho
        rw [ordD_len]
        show o.length + 1 ≤ _
        exact small (by omega)
      · rw [ordT_len, List.length_map]
        exact small (by omega)
      · rfl
  · subst e
    rw [ordD_len, List.take_length]
    have hp : (lotsF ts).length ≤ 256 := by rw [lotsF_len]; exact pow8 hn
    obtain ⟨A, eA⟩ : ∃ A, A = lotsF ts := ⟨_, rfl⟩
    rw [← eA] at hp ⊢
    refine ds_ret (Ev.dl (EvN.ev (evn_lc1 (xs := A.mergeSort lotLe) (c := lotP) (f := fun S => D.tup (ordD S)) (ej_list (EvN.b (ev_sortD (l := A) (c := lotP) (le := lotLe) (EvN.b (evn_lc1 (xs := A) (c := fun S => D.tup (ordD S)) (f := lotP) (ej_list (ev_var (d := .lst (ordT A)) rfl).b) (by omega) fun S hS => ⟨[4], _, dg_name, fun i hi => hi, evt_yes, ev_tup (eva_cons (ev_cast (congrArg (fun n : Nat => D.int n) (ordD_len S)) (ev_lenT (ds := ordD S) (ev_var rfl))) (eva_cons (ev_var rfl) eva_nil)) (small (show 2 ≤ 100000 by decide))⟩)) (fun S hS => (dOk_shaped (lotP_ok S) (by decide)).1) (lotP_alike A) (lotP_sortable A) (fun S hS => Nat.le_trans (dOk_py 2 _ (lotP_ok S)).2.2 (by decide)) lotP_le))) (by rw [List.length_mergeSort]; omega) fun S hS => ⟨[3], _, dg_name, fun i hi => hi, evt_yes, ev_ixT (ds := [.int (S.length : Nat), .tup (ordD S)]) (ev_var rfl) ev_int (atI_nat (j := 1) rfl)⟩)) ?_)
    rw [eA]; rfl
end K34

namespace K34
open PySem PySem.Spec PyProof.Rows L2 Dw
variable [Tabs0]
theorem d__law_two {P : Program} {w : World} {K : PySem.W.Frag} {mg : Str → Option Value} {base : Heap} (T : Txt K w mg) : FnOk P w K mg base CX0 7 T.f__law_two T.e__law_two ["_law_lot", "_law_rule", "_law_many"] (toSp (spTwo T.C_Case)) := by
  refine fn_ok T.F__law_two sc__law_two (fun _ => rfl) fun cdv A outer s' H E hr => ?_
  refine ⟨_, (pss_cons (ps_setLc (i := 3) (own := [("_law_k", 5)]) rfl sc__law_two.nd rfl rfl (sw_true rfl rfl rfl (by decide +kernel)) (pi_range1 (by rfl) T.n_range (pa_cons (pv 2) pa_nil)) (blkOk_by (own := [("_law_k", 5)]) (N := N__law_two) (sc := (defScope s__law_two)) (by decide +kernel)) (fun _ _ _ _ _ => pg_name (i := 5) sc__law_two.nd rfl (Or.inl rfl)) (fun _ _ _ _ _ => pts_nil) (fun _ _ _ _ _ => (pe_ifExp (pt_cmpR (eqA K hr.units) (pv 5) (pv 1) (nomark _)) pe_int pe_int))) (pss_cons (ps_setLc (i := 4) (own := [("_law_k", 5)]) rfl sc__law_two.nd rfl rfl (sw_true rfl rfl rfl (by decide +kernel)) (pi_range1 (by rfl) T.n_range (pa_cons (pv 2) pa_nil)) (blkOk_by (own := [("_law_k", 5)]) (N := N__law_two) (sc := (defScope s__law_two)) (by decide +kernel)) (fun _ _ _ _ _ => pg_name (i := 5) sc__law_two.nd rfl (Or.inl rfl)) (fun _ _ _ _ _ => pts_nil) (fun _ _ _ _ _ => (pe_ifExp (pt_cmpR (inA K) (pv 5) (pv 0) (by rfl)) pe_int pe_int))) (pss_one (ps_ret (pe_make T.mk_Case (d_Case___init__ T) (hr.mono (by decide)) (by rfl) T.m_Case T.b_Case___init__ .nil pass0 (pa_cons (pe_call (d__law_case_page T) (hr.mono (by decide)) (by rfl) T.m__law_case_page T.F__law_case_page.kp T.b__law_case_page .nil pass0 (pa_cons (pe_lst (pa_cons (pe_tup (pa_cons pe_str (pa_cons (pv 3) pa_nil))) (pa_cons (pe_tup (pa_cons pe_str (pa_cons (pv 4) pa_nil))) pa_nil))) pa_nil)) pa_nil)))))), fun x hx => ?_⟩
  obtain ⟨S, k, n⟩ := x
  obtain ⟨h1, h8⟩ := hx
  have h1 : 1 ≤ n := h1
  have h8 : n ≤ 8 := h8
  refine ds_seq (ds_asg (Ev.dl (ev_cast (d' := .lst (ordD (onM k n))) ?c1 (EvN.ev (evn_lc1 (xs := List.range n) (c := fun j : Nat => D.int j) (f := fun j => if decide (j = k) = true then D.int 1 else D.int 0) (ei_range (n := n) (eva_cons (ev_var rfl) eva_nil) (by omega)) (by rw [List.length_range]; omega) fun j hj => ⟨[5], _, dg_name, fun i hi => hi, evt_yes, ev_if (evt_test (ev_op (ev_var (d := .int (j : Nat)) rfl) (ev_var (d := .int (k : Nat)) rfl) (eq_nat j k))) (fun _ => ev_int) fun _ => ev_int⟩))) ?_))
  case c1 =>
    unfold onM ordD
    rw [List.map_map]
    refine congrArg D.lst (List.map_congr_left fun j _ => ?_)
    show _ = D.int ((if j = k then 1 else 0 : Nat) : Int)
    by_cases h : j = k
    · rw [if_pos (decide_eq_true h), if_pos h]; rfl
    · rw [if_neg (by rw [decide_eq_false h]; exact Bool.false_ne_true), if_neg h]; rfl
  refine ds_seq (ds_asg (Ev.dl (ev_cast (d' := .lst (ordD (twM S n))) ?c2 (EvN.ev (evn_lc1 (xs := List.range n) (c := fun j : Nat => D.int j) (f := fun j => if decide (j ∈ S) = true then D.int 1 else D.int 0) (ei_range (n := n) (eva_cons (ev_var rfl) eva_nil) (by omega)) (by rw [List.length_range]; omega) fun j hj => ⟨[5], _, dg_name, fun i hi => hi, evt_yes, ev_if (evt_test (ev_inOT (neg := false) (ev_var rfl) (ev_var rfl))) (fun _ => ev_int) fun _ => ev_int⟩))) ?_))
  case c2 =>
    unfold twM ordD
    rw [List.map_map]
    refine congrArg D.lst (List.map_congr_left fun j _ => ?_)
    show _ = D.int ((if j ∈ S then 1 else 0 : Nat) : Int)
    by_cases h : j ∈ S
    · rw [if_pos (decide_eq_true h), if_pos h]; rfl
    · rw [if_neg (by rw [decide_eq_false h]; exact Bool.false_ne_true), if_neg h]; rfl
  have hc := ot_case (k := k) (S := S) h1 h8
  have e1 : [D.tup [.str "one", .lst (ordD (onM k n))], D.tup [.str "two", .lst (ordD (twM S n))]] = folkL nmOT [onM k n, twM S n] := by
    show _ = [D.tup [.str (tx [111, 110, 101]), .lst (ordD (onM k n))], D.tup [.str (tx [116, 119, 111]), .lst (ordD (twM S n))]]
    rw [show tx [111, 110, 101] = ("one" : Str) from by decide +kernel, show tx [116, 119, 111] = ("two" : Str) from by decide +kernel]
  refine ds_ret (dl_make (s := spCInit) (dla_cons (Ev.dl (ev_call (s := spPageF) (x := ((nmOT, [onM k n, twM S n], n), true)) (eva_cons (ev_cast (congrArg D.lst e1) (EvN.ev (evn_lst (eva_cons (ev_tup (eva_cons ev_str (eva_cons (ev_var rfl) eva_nil)) (small (show 2 ≤ 100000 by decide))) (eva_cons (ev_tup (eva_cons ev_str (eva_cons (ev_var rfl) eva_nil)) (small (show 2 ≤ 100000 by decide))) eva_nil)) (small (show 2 ≤ 100000 by decide))))) eva_nil) ?np hc fun d h => h) (dla_nil ⟨(nmOT, [onM k n, twM S n], n), rfl, hc, fun es hes => ?_⟩))))
  case np =>
    show noPs [D.lst (folkL nmOT [onM k n, twM S n])] = true
    show ((((true && (noPs (ordD (onM k n)) && true)) && (((true && (noPs (ordD (twM S n)) && true))) && true))) && true) = true
    rw [np_ord, np_ord]; rfl
  cases hes
  rfl
end K34

namespace K34
open PySem PySem.Spec PyProof.Rows L2 Dw
variable [Tabs0]
theorem d__law_reasons_right {P : Program} {w : World} {K : PySem.W.Frag} {mg : Str → Option Value} {base : Heap} (T : Txt K w mg) (TB_all_lots : LamX.TabB base mg T.lc_all_lots T.lt_all_lots) : FnG P w K mg base 8 T.f__law_reasons_right T.e__law_reasons_right ["_law_base", "_law_many"] (spReasR T.C_Book) := by
  refine fnG_ok T.F__law_reasons_right sc__law_reasons_right (fun _ => rfl) fun cdv A outer s' H E hr hG => ?_
  refine ⟨_, (pss_cons (ps_for PassesOwn.never rfl (pi_range1 (by rfl) T.n_range (pa_cons (pv 1) pa_nil)) (pg_name (i := 2) sc__law_reasons_right.nd rfl (Or.inr rfl)) (pss_cons (ps_set (i := 3) sc__law_reasons_right.nd rfl (Or.inl rfl) (pe_lst pa_nil)) (pss_cons (ps_for PassesOwn.never rfl (piR K (pe_call (d__law_lots T) (hr.mono (by decide)) (by rfl) T.m__law_lots T.F__law_lots.kp T.b__law_lots .nil pass0 (pa_cons (pe_lc (own := [("_law_k", 6)]) rfl sc__law_reasons_right.nd (pi_range1 (by rfl) T.n_range (pa_cons (pv 1) pa_nil)) (blkOk_by (own := [("_law_k", 6)]) (N := N__law_reasons_right) (sc := (defScope s__law_reasons_right)) (by decide +kernel)) (fun _ _ _ _ _ => pg_name (i := 6) sc__law_reasons_right.nd rfl (Or.inl rfl)) (fun _ _ _ _ _ => pts_one (pt_cmpR (neA K hr.units) (pv 6) (pv 2) (nomark _))) (fun _ _ _ _ _ => (pv 6))) pa_nil))) (pg_name (i := 4) sc__law_reasons_right.nd rfl (Or.inr rfl)) (pss_cons (ps_set (i := 5) sc__law_reasons_right.nd rfl (Or.inl rfl) (pe_cmpR (neL0A K hr.units) (pe_lc (own := [("_law_less", 7)]) rfl sc__law_reasons_right.nd (piR K (pv 3)) (blkOk_by (own := [("_law_less", 7)]) (N := N__law_reasons_right) (sc := (defScope s__law_reasons_right)) (by decide +kernel)) (fun _ _ _ _ _ => pg_name (i := 7) sc__law_reasons_right.nd rfl (Or.inl rfl)) (fun _ _ _ _ _ => pts_one (pt_cmpR (eqA K hr.units) (pe_lc (own := [("_law_k", 6)]) rfl sc__law_reasons_right.nd (piR K (pv 7)) (blkOk_by (own := [("_law_k", 6)]) (N := N__law_reasons_right) (sc := (relS { kind := .function, names := [(".0", .local), ("_law_less", .local), ("_law_lot", .free)], isGenerator := false, isCoroutine := false, more := [] } (defScope s__law_reasons_right))) (by decide +kernel)) (fun _ _ _ _ _ => pg_name (i := 6) sc__law_reasons_right.nd rfl (Or.inl rfl)) (fun _ _ _ _ _ => pts_one (pt_cmpR (ninA K) (pv 6) (pv 4) (by rfl))) (fun _ _ _ _ _ => (pv 6))) (pe_lst pa_nil) (nomark _))) (fun _ _ _ _ _ => (pv 7))) (pe_lst pa_nil) (nomark _))) (pss_one (ps_if (PW.pt (pw_and (pt_not (truA K (pv 5))) (pw_and1 (pt_cmpR (eqA K hr.units) (pe_call (d_sure T) (hr.mono (by decide)) (by rfl) T.m_sure T.F_sure.kp T.b_sure .nil pass0 (pa_cons (pv 0) (pa_cons (pe_call (d__law_two T) (hr.mono (by decide)) (by rfl) T.m__law_two T.F__law_two.kp T.b__law_two .nil pass0 (pa_cons (pv 4) (pa_cons (pv 2) (pa_cons (pv 1) pa_nil)))) pa_nil))) (pe_tup (pa_cons pe_str pa_nil)) (nomark _))))) (pss_one (ps_expr (bmA K PySem.F.plainAttrs_list PySem.F.slot_list_append PySem.F.type_list_append mt_append (pv 3) (pa_cons (pv 4) pa_nil)))) pss_nil)))) (pss_one (ps_if (pt_cmpR (neA K hr.units) (pe_callB (reprX K hr hG) (by rfl) T.n_repr (by decide +kernel) (pa_cons (pe_call (d_reasons T TB_all_lots) (hr.mono (by decide)) (by rfl) T.m_reasons T.F_reasons.kp T.b_reasons .nil pass0 (pa_cons (pv 0) (pa_cons (pv 2) pa_nil))) pa_nil)) (pe_callB (reprX K hr hG) (by rfl) T.n_repr (by decide +kernel) (pa_cons (pe_callTy (tupleA K) (by rfl) T.n_tuple (by decide +kernel) (pa_cons (pv 3) pa_nil)) pa_nil)) (nomark _)) (pss_one (ps_ret pe_bl)) pss_nil))))) (pss_one (ps_ret pe_bl))), fun x hx => ?_⟩
  obtain ⟨L, R⟩ := x
  obtain ⟨hb, hs⟩ := hx
  have hb : BookOk L R := hb
  have hs : Still R L.length = [] := hs
  have h8 := hb.n8
  have hR := hb.rows
  have h1 : 1 ≤ L.length := hb.names.lo
  have ne : fitM R L.length ≠ [] := (fit_still hR).mp hs
  refine ds_seq (ds_for (fun xs i Γ' => xs = rng L.length ∧ ∃ s2 s3 s4 s5 : Sl, Γ' = [.val (.tag (bookD T.C_Book L R)), .val (.int (L.length : Nat)), s2, s3, s4, s5, .unset, .unset])
    (di_range (dla_cons (Ev.dl (ev_var rfl) (dla_nil ⟨L.length, rfl, by omega, ⟨rfl, _, _, _, _, rfl⟩, fun k x Γ' hx' ⟨exs, s2, s3, s4, s5, e⟩ => ?_, fun Γ' ⟨exs, s2, s3, s4, s5, e⟩ => ?_⟩)))))
  · subst e
    obtain ⟨hk, rfl⟩ := rng_get hx'
    obtain ⟨p, ep⟩ : ∃ p, p = abvB (fitM R L.length) k := ⟨_, rfl⟩
    obtain ⟨sl, esl⟩ : ∃ sl, sl = (lotsF (notK L.length k)).mergeSort lotLe := ⟨_, rfl⟩
    have slm : ∀ S ∈ sl, S ∈ lots L.length ∧ k ∉ S := fun S hS => by
      rw [esl, notK_sort] at hS
      obtain ⟨a, b⟩ := List.mem_filter.mp hS
      refine ⟨lotsO_mem.mp a, fun z => ?_⟩
      have := List.all_eq_true.mp b k z
      rw [decide_eq_true rfl] at this; cases this
    have lnk : (notK L.length k).length ≤ 8 := Nat.le_trans (List.length_filter_le _ _) (by rw [List.length_range]; exact h8)
    have lsl : sl.length ≤ 256 := by rw [esl, List.length_mergeSort, lotsF_len]; exact pow8 lnk
    refine ⟨[2], _, dg_name, ds_seq (ds_asg_own (ds := ordT (leastM p (sl.take 0))) (evn_lst eva_nil (Nat.zero_le _)) ?_)⟩
    refine ds_seq (ds_for (fun xs i Γ' => xs = ordT sl ∧ ∃ s4 s5 : Sl, Γ' = [.val (.tag (bookD T.C_Book L R)), .val (.int (L.length : Nat)), .val (.int (k : Nat)), .own (ordT (leastM p (sl.take i))), s4, s5, .unset, .unset])
      (dj_list (Ev.dl (ev_call (s := spJLots) (d := .lst (ordT sl)) (x := notK L.length k) (eva_cons (EvN.ev (evn_lc (xs := List.range L.length) (c := fun j : Nat => D.int j) (p := fun j => !decide (j = k)) (f := fun j : Nat => D.int j) (ei_range (n := L.length) (eva_cons (ev_var rfl) eva_nil) (by omega)) (by rw [List.length_range]; omega) fun j hj => ⟨[6], _, dg_name, fun i hi => hi, evt_test (ev_op (ev_var (d := .int (j : Nat)) rfl) (ev_var (d := .int (k : Nat)) rfl) (ne_natZ j k)), fun _ => ev_var rfl⟩)) eva_nil) (np_lo (r := []) rfl) lnk fun d h => by rw [esl]; exact h) ⟨_, rfl, ⟨rfl, _, _, rfl⟩, fun i x Γ' hx2 ⟨exs2, s4, s5, e⟩ => ?_, fun Γ' ⟨exs2, s4, s5, e⟩ => ?_⟩)))
    · subst e
      rw [exs2] at hx2
      have hx2 : (sl.map fun o => D.tup (ordD o))[i]? = some x := hx2
      rw [List.getElem?_map] at hx2
      obtain ⟨S, hS, rfl⟩ := Option.map_eq_some_iff.mp hx2
      obtain ⟨hSl, hkS⟩ := slm S (List.mem_of_getElem? hS)
      have ok := lots_ok _ S hSl
      have lS := lot_len ok
      have et : sl.take (i + 1) = sl.take i ++ [S] := by rw [List.take_add_one, hS]; rfl
      obtain ⟨acc, ea⟩ : ∃ acc, acc = leastM p (sl.take i) := ⟨_, rfl⟩
      have la : acc.length ≤ 256 := by
        rw [ea]
        refine Nat.le_trans least_len ?_
        rw [List.length_take]
        show 0 + _ ≤ _
        omega
      have aq : ∀ q ∈ acc, q.length ≤ 8 := fun q hq => by
        rw [ea] at hq
        rcases least_mem hq with hq | ⟨hq, _⟩
        · simp at hq
        · have := lot_len (lots_ok _ q (slm q (List.mem_of_mem_take hq)).1)
          omega
      rw [et, least_snoc, ← ea]
      have pf := part_fil S acc
      refine ⟨[4], _, dg_name, ds_seq (ds_asg (Ev.dl (ev_cast (d' := .bl (partB S acc)) (congrArg D.bl (by rw [pf, Bool.not_not])) (ev_op (EvN.ev (evn_lc (xs := acc) (c := fun q => D.tup (ordD q)) (p := fun q => ((q.filter fun j => !decide (j ∈ S)).map fun j : Nat => D.int j).isEmpty) (f := fun q => D.tup (ordD q)) (ej_list (evb_own (ds := ordT acc) rfl)) (by omega) fun q hq => ⟨[7], _, dg_name, fun i hi => hi, evt_test (ev_op (EvN.ev (evn_lc (xs := q) (c := fun j : Nat => D.int j) (p := fun j => !decide (j ∈ S)) (f := fun j : Nat => D.int j) (ej_tup (ev_var rfl)) (by have := aq q hq; omega) fun j hj => ⟨[6], _, dg_name, fun i hi => hi, evt_test (ev_ninT (ev_var rfl) (ev_var rfl)), fun _ => ev_var rfl⟩)) (EvN.ev (evn_lst eva_nil (Nat.zero_le _))) (eq_nil (k := 1) (dOks_map fun _ _ => rfl) (by decide))), fun _ => ev_var rfl⟩)) (EvN.ev (evn_lst eva_nil (Nat.zero_le _))) ne_L0)) ?_))⟩
      have hc := ot_case (k := k) (S := S) h1 h8
      have st := sure_two hR h1 h8 hkS hk ok.lt ne
      obtain ⟨X, eX⟩ : ∃ X, X = (sureI R [onM k L.length, twM S L.length] L.length).map (rowAt nmOT) := ⟨_, rfl⟩
      rw [← eX, ← ep] at st
      have hX : ∀ l ∈ X, NameOk l := fun l hl => by
        rw [eX] at hl
        obtain ⟨i, hi, rfl⟩ := List.mem_map.mp hl
        have hi : i < 2 := List.mem_range.mp (List.mem_filter.mp hi).1
        exact ot_names.all _ (rowAt_mem (show i < nmOT.length from hi))
      refine ds_if (EvT.dl (b := p S && !partB S acc) (evt_castB (b := !partB S acc && p S) (Bool.and_comm _ _) (evt_and (evt_not (evt_tru_bl (ev_var rfl))) fun _ => evt_test (ev_cast (congrArg D.bl st) (ev_op (ev_call (s := spSure T.C_Book T.C_Case) (d := .tup (nameD X)) (x := ((L, R), nmOT, [onM k L.length, twM S L.length])) (eva_cons (ev_untag (ev_var rfl)) (eva_cons (ev_call (s := spTwo T.C_Case) (x := (S, k, L.length)) (eva_cons (ev_var rfl) (eva_cons (ev_var rfl) (eva_cons (ev_var rfl) eva_nil))) (np_to (r := [_, _]) rfl) ⟨h1, h8⟩ fun d h => h) eva_nil)) (np_bc (r := []) rfl) ⟨hb, hc, hs⟩ fun d h => by rw [eX]; exact h) (ev_tup (eva_cons ev_str eva_nil) (small (show 1 ≤ 100000 by decide))) (eq_one X hX))))) ⟨fun h => ?_, fun h => ds_next ⟨exs2, .val (.tup (ordD S)), .val (.bl (partB S acc)), ?_⟩⟩)
      · refine ds_drop (dl_append ⟨_, rfl⟩ (dla_cons (Ev.dl (ev_var rfl) (dla_nil ⟨_, ordT acc, rfl, rfl, ?_, exs2, .val (.tup (ordD S)), .val (.bl (partB S acc)), ?_⟩))))
        · rw [ordT_len]
          exact Nat.lt_of_le_of_lt (m := 256) la (by decide)
        · unfold leastIn
          rw [if_pos h]
          unfold ordT
          rw [List.map_append]; rfl
      · unfold leastIn
        rw [if_neg (by rw [h]; exact Bool.false_ne_true)]; rfl
    subst e
    have ed : leastM p (sl.take (ordT sl).length) = reasM R L.length k := by
      rw [ordT_len, List.take_length, ep, esl]
      exact due_reas hR hk
    rw [exs2, ed]
    obtain ⟨X, eX⟩ : ∃ X, X = reasM R L.length k := ⟨_, rfl⟩
    rw [← eX]
    have Xm : ∀ S ∈ X, LotOk S L.length := fun S hS => by
      rw [eX] at hS
      exact lots_ok _ _ (reas_mem hS).1
    obtain ⟨w1, w2, w3⟩ := one_ok (X := X) (fun S hS j hj => by have := (Xm S hS).lt j hj; omega) (fun S hS => by have := lot_len (Xm S hS); omega) (by
      rw [eX]
      refine Nat.le_trans least_len ?_
      rw [lotsO_len]
      have : 2 ^ L.length ≤ 256 := pow8 h8
      show 0 + _ ≤ _
      omega)
    refine ds_if (dlt_test (dl_op (dl_reprX (dl_call (s := spReasons T.C_Book) (dla_cons (Ev.dl (ev_var rfl) (dla_cons (Ev.dl (ev_var rfl) (dla_nil ⟨((L, R), k), rfl, ⟨hb, hk, hs⟩, fun d hd => ?_⟩)))))))))
    have hd : d = .tup (ordT X) := by rw [eX]; exact hd
    subst hd
    refine ⟨⟨2, by decide, w1⟩, w2, w3, ?_⟩
    refine Ev.dl (ev_reprX (k := 2) (d := oneD X) (ev_tuple (evb_own (ds := ordT X) rfl)) w1 (by decide) w2 w3) ⟨_, ne_str', _, rfl, fun h => ?_, fun _ => ds_next ⟨rfl, _, _, _, _, rfl⟩⟩
    rw [show oneD X = D.tup (ordT X) from rfl, decide_eq_true rfl] at h
    cases h
  · subst e
    exact ds_ret (Ev.dl ev_bl rfl)
end K34

namespace K34
open PySem PySem.Spec PyProof.Rows L2 Dw
variable [Tabs0]
theorem d__law_right {P : Program} {w : World} {K : PySem.W.Frag} {mg : Str → Option Value} {base : Heap} (T : Txt K w mg) (TB_all_lots : LamX.TabB base mg T.lc_all_lots T.lt_all_lots) : FnG P w K mg base 9 T.f__law_right T.e__law_right ["_law_jar"] (spRightJ) := by
  refine fnG_ok T.F__law_right sc__law_right (fun _ => rfl) fun cdv A outer s' H E hr hG => ?_
  refine ⟨_, (pss_cons (ps_for PassesOwn.never rfl (pi_range1 (by rfl) T.n_range (pa_cons pe_int pa_nil)) (pg_name (i := 1) sc__law_right.nd rfl (Or.inl rfl)) (pss_cons (ps_par (i := 2) (j := 3) (by rfl) sc__law_right.nd rfl rfl (by decide) rfl rfl (pa_cons (pe_op (plusE K) pe_int (pe_call (d__law_dip T) (hr.mono (by decide)) (by rfl) T.m__law_dip T.F__law_dip.kp T.b__law_dip .nil pass0 (pa_cons (pv 0) (pa_cons pe_int pa_nil)))) (pa_cons (pe_lst pa_nil) pa_nil)) (by rfl)) (pss_cons (ps_for PassesOwn.never rfl (piR K (pe_call (d__law_rows T) (hr.mono (by decide)) (by rfl) T.m__law_rows T.F__law_rows.kp T.b__law_rows .nil pass0 (pa_cons (pv 0) (pa_cons (pv 2) (pa_cons pe_int pa_nil))))) (pg_name (i := 4) sc__law_right.nd rfl (Or.inl rfl)) (pss_one (ps_set (i := 3) sc__law_right.nd rfl (Or.inl rfl) (pe_op (plusE K) (pv 3) (pe_op opTimes (pe_lst (pa_cons (pv 4) pa_nil)) (pe_callTy call_int1 (by rfl) T.n_int (by decide +kernel) (pa_cons (pe_cmpR (neA K hr.units) (pe_call (d__law_fits T) (hr.mono (by decide)) (by rfl) T.m__law_fits T.F__law_fits.kp T.b__law_fits .nil pass0 (pa_cons (pe_op (plusE K) (pv 3) (pe_lst (pa_cons (pv 4) pa_nil))) (pa_cons (pv 2) pa_nil))) (pe_lst pa_nil) (nomark _)) pa_nil))))))) (pss_cons (ps_asg (pe_tup (pa_cons (pe_make T.mk_Book (d_Book___init__ T) (hr.mono (by decide)) (by rfl) T.m_Book T.b_Book___init__ .nil pass0 (pa_cons (pe_call (d__law_book_page T) (hr.mono (by decide)) (by rfl) T.m__law_book_page T.F__law_book_page.kp T.b__law_book_page .nil pass0 (pa_cons (pe_call (d__law_tags T) (hr.mono (by decide)) (by rfl) T.m__law_tags T.F__law_tags.kp T.b__law_tags .nil pass0 (pa_cons (pv 0) (pa_cons (pv 2) pa_nil))) (pa_cons (pv 3) pa_nil))) pa_nil)) (pa_cons (pe_call (d__law_folk T) (hr.mono (by decide)) (by rfl) T.m__law_folk T.F__law_folk.kp T.b__law_folk .nil pass0 (pa_cons (pv 0) (pa_cons (pv 2) (pa_cons pe_int (pa_cons pe_int pa_nil))))) pa_nil))) (tupA K 2 rfl (pgs_cons (pg_name (i := 5) sc__law_right.nd rfl (Or.inr rfl)) (pgs_cons (pg_name (i := 6) sc__law_right.nd rfl (Or.inl rfl)) pgs_nil)))) (pss_cons (ps_set (i := 7) sc__law_right.nd rfl (Or.inl rfl) (pe_make T.mk_Case (d_Case___init__ T) (hr.mono (by decide)) (by rfl) T.m_Case T.b_Case___init__ .nil pass0 (pa_cons (pe_call (d__law_case_page T) (hr.mono (by decide)) (by rfl) T.m__law_case_page T.F__law_case_page.kp T.b__law_case_page .nil pass0 (pa_cons (pv 6) pa_nil)) pa_nil))) (pss_cons (ps_if (pt_not (truA K (pe_callG (E := E0) (d__law_reasons_right T TB_all_lots) (hr.mono (by decide)) hG (by rfl) T.m__law_reasons_right T.F__law_reasons_right.kp T.b__law_reasons_right (pa_cons (pv 5) (pa_cons (pv 2) pa_nil))))) (pss_one (ps_ret pe_bl)) pss_nil) (pss_cons (ps_par3 (i := 8) (j := 9) (l := 10) (by rfl) sc__law_right.nd rfl rfl rfl (by decide) (by decide) (by decide) rfl rfl rfl (pa_cons (pe_call (d_possible T) (hr.mono (by decide)) (by rfl) T.m_possible T.F_possible.kp T.b_possible .nil pass0 (pa_cons (pv 5) (pa_cons (pv 7) pa_nil))) (pa_cons (pe_call (d_sure T) (hr.mono (by decide)) (by rfl) T.m_sure T.F_sure.kp T.b_sure .nil pass0 (pa_cons (pv 5) (pa_cons (pv 7) pa_nil))) (pa_cons (pe_call (d_barred T) (hr.mono (by decide)) (by rfl) T.m_barred T.F_barred.kp T.b_barred .nil pass0 (pa_cons (pv 7) pa_nil)) pa_nil))) (by rfl)) (pss_one (ps_for PassesOwn.never rfl (piR K (pv 6)) (tupA K 2 rfl (pgs_cons (pg_name (i := 11) sc__law_right.nd rfl (Or.inl rfl)) (pgs_cons (pg_name (i := 12) sc__law_right.nd rfl (Or.inl rfl)) pgs_nil))) (pss_cons (ps_set (i := 13) sc__law_right.nd rfl (Or.inl rfl) (pe_call (d_told_by T) (hr.mono (by decide)) (by rfl) T.m_told_by T.F_told_by.kp T.b_told_by .nil pass0 (pa_cons (pv 7) (pa_cons (pv 11) pa_nil)))) (pss_cons (ps_set (i := 14) sc__law_right.nd rfl (Or.inl rfl) (pe_make T.mk_Book (d_Book___init__ T) (hr.mono (by decide)) (by rfl) T.m_Book T.b_Book___init__ .nil pass0 (pa_cons (pe_call (d__law_book_page T) (hr.mono (by decide)) (by rfl) T.m__law_book_page T.F__law_book_page.kp T.b__law_book_page .nil pass0 (pa_cons (pe_prop (pv 5) T.cl_Book T.p_Book_names (d_Book_names T) (hr.mono (by decide)) T.b_Book_names .nil pass0 rfl) (pa_cons (pe_op (plusE K) (pv 3) (pe_callTy (listA K) (by rfl) T.n_list (by decide +kernel) (pa_cons (pv 13) pa_nil))) pa_nil))) pa_nil))) (pss_cons (ps_if (PW.pt (pw_or (pt_cmpR (neA K hr.units) (pe_cmpR (inA K) (pv 11) (pv 8) (by rfl)) (pe_cmpR op_notN (pe_call (d_layers T) (hr.mono (by decide)) (by rfl) T.m_layers T.F_layers.kp T.b_layers .nil pass0 (pa_cons (pv 14) pa_nil)) pe_non (nomark _)) (nomark _)) (pw_or1 (PW.pt (pw_and (pt_cmpR (inA K) (pv 11) (pv 10) (by rfl)) (pw_and1 (pt_cmpR (inA K) (pv 11) (pv 8) (by rfl)))))))) (pss_one (ps_ret pe_bl)) pss_nil) (pss_one (ps_if (pt_cmpR (neA K hr.units) (pe_cmpR (inA K) (pv 11) (pv 9) (by rfl)) (pe_cmpR (eqA K hr.units) (pe_lc (own := [("_law_row_here", 4)]) rfl sc__law_right.nd (piR K (pv 13)) (blkOk_by (own := [("_law_row_here", 4)]) (N := N__law_right) (sc := (defScope s__law_right)) (by decide +kernel)) (fun _ _ _ _ _ => pg_name (i := 4) sc__law_right.nd rfl (Or.inl rfl)) (fun _ _ _ _ _ => pts_one (pt_cmpR (neA K hr.units) (pe_call (d_judge T) (hr.mono (by decide)) (by rfl) T.m_judge T.F_judge.kp T.b_judge .nil pass0 (pa_cons (pv 5) (pa_cons (pv 4) pa_nil))) pe_str (nomark _))) (fun _ _ _ _ _ => (pv 4))) (pe_lst pa_nil) (nomark _)) (nomark _)) (pss_one (ps_ret pe_bl)) pss_nil)))))))))))))) (pss_one (ps_ret pe_bl))), fun x hx => ?_⟩
  refine ds_seq (ds_for (fun xs i Γ' => ∃ s1 s2 s3 s4 s5 s6 s7 s8 s9 s10 s11 s12 s13 s14 : Sl, Γ' = [.val .purse, s1, s2, s3, s4, s5, s6, s7, s8, s9, s10, s11, s12, s13, s14])
    (di_range (dla_cons (Ev.dl ev_int (dla_nil ⟨(2 : Nat), rfl, by decide, ⟨_, _, _, _, _, _, _, _, _, _, _, _, _, _, rfl⟩, fun t x Γ' hx' ⟨s1, s2, s3, s4, s5, s6, s7, s8, s9, s10, s11, s12, s13, s14, e⟩ => ?_, fun Γ' ⟨s1, s2, s3, s4, s5, s6, s7, s8, s9, s10, s11, s12, s13, s14, e⟩ => ?_⟩)))))
  · subst e
    obtain ⟨hi, rfl⟩ := rng_get hx'
    refine ⟨[1], _, dg_name, ds_seq (ds_par (dla_cons (dl_op (Ev.dl ev_int (dl_call (s := spDraw) (dla_cons (Ev.dl (ev_var rfl) (dla_cons (Ev.dl ev_int (dla_nil ⟨(4 : Nat), rfl, ⟨by decide, by decide⟩, fun d hd => ?_⟩))))))))))⟩
    obtain ⟨q, hq, rfl⟩ := hd
    have hq : q < 4 := hq
    refine ⟨.int ((2 + q : Nat) : Int), ?pl, ?_⟩
    case pl =>
      have e := pl_int (K := K) (i := 2) (j := (q : Int))
      rw [show (2 : Int) + (q : Int) = ((2 + q : Nat) : Int) by omega] at e
      exact e
    obtain ⟨n, en⟩ : ∃ n, n = 2 + q := ⟨_, rfl⟩
    rw [← en]
    have n2 : 2 ≤ n := by omega
    have n5 : n ≤ 5 := by omega
    refine dla_cons (Ev.dl (EvN.ev (evn_lst (ds := nameD []) eva_nil (Nat.zero_le _))) (dla_nil ⟨_, _, rfl, ?_⟩))
    show Ds _ [.val .purse, .val (.int (t : Int)), .val (.int (n : Nat)), .val (.lst (nameD [])), s4, s5, s6, s7, s8, s9, s10, s11, s12, s13, s14] _
    refine ds_seq (ds_for (fun xs i Γ' => (∃ RS, xs = nameD RS ∧ RS.length ≤ 5 ∧ ∀ r ∈ RS, RowOk r n) ∧ ∃ (R : List (List Nat)) (s4 : Sl), Γ' = [.val .purse, .val (.int (t : Int)), .val (.int (n : Nat)), .val (.lst (nameD R)), s4, s5, s6, s7, s8, s9, s10, s11, s12, s13, s14] ∧ R.length ≤ i ∧ (∀ r ∈ R, RowOk r n) ∧ fitM R n ≠ [])
      (dj_list (dl_call (s := spJRows) (dla_cons (Ev.dl (ev_var rfl) (dla_cons (Ev.dl (ev_var rfl) (dla_cons (Ev.dl (ev_int (z := ((5 : Nat) : Int))) (dla_nil ⟨(n, 5), rfl, ⟨n5, by show 5 ≤ 1000; decide⟩, fun d hd => ?_⟩))))))))))
    obtain ⟨RS, rfl, lRS, hRS⟩ := hd
    have lRS : RS.length ≤ 5 := lRS
    have f0 : fitM [] n ≠ [] := fun z => by
      have : List.range n ∈ fitM [] n := fitM_mem.mpr ⟨List.Perm.refl _, fun r h => absurd h (by simp)⟩
      rw [z] at this; cases this
    refine ⟨nameD RS, rfl, ⟨⟨RS, rfl, lRS, hRS⟩, [], _, rfl, Nat.zero_le _, fun r h => absurd h (by simp), f0⟩, fun i x Γ' hx2 ⟨⟨RS', exs, lx, hx5⟩, R, s4, e, r1, r2, r3⟩ => ?_, fun Γ' ⟨⟨RS', exs, lx, hx5⟩, R, s4, e, r1, r2, r3⟩ => ?_⟩
    · subst e
      rw [exs] at hx2
      have hx2 : (RS'.map fun l => D.str (tx l))[i]? = some x := hx2
      rw [List.getElem?_map] at hx2
      obtain ⟨r, hr, rfl⟩ := Option.map_eq_some_iff.mp hx2
      have hi5 := (List.getElem?_eq_some_iff.mp hr).1
      have hrow : RowOk r n := hx5 r (List.mem_of_getElem? hr)
      have rr : ∀ p ∈ R ++ [r], RowOk p n := fun p hp => (List.mem_append.mp hp).elim (r2 p) fun h => by rw [List.mem_singleton.mp h]; exact hrow
      obtain ⟨F, eF⟩ : ∃ F, F = fitM (R ++ [r]) n := ⟨_, rfl⟩
      obtain ⟨b, eb⟩ : ∃ b, b = !(ordT F).isEmpty := ⟨_, rfl⟩
      refine ⟨[4], _, dg_name, ds_asg (Ev.dl (ev_cast (congrArg D.lst (rep_row R r b)) (ev_op (ev_var (d := .lst (nameD R)) rfl) (EvN.ev (evn_rep (n := if b = true then 1 else 0) (EvN.b (evn_lst (ds := [.str (tx r)]) (eva_cons (ev_var rfl) eva_nil) (small (show 1 ≤ 100000 by decide)))) (ev_cast (congrArg D.int (by cases b <;> rfl)) (ev_int1b (ev_cast (congrArg D.bl eb.symm) (ev_op (ev_call (s := spJFits) (d := .lst (ordT F)) (x := (R ++ [r], n)) (eva_cons (ev_cast (d' := .lst (nameD (R ++ [r]))) (by unfold nameD; rw [List.map_append]; rfl) (ev_op (ev_var (d := .lst (nameD R)) rfl) (EvN.ev (evn_lst (ds := [.str (tx r)]) (eva_cons (ev_var rfl) eva_nil) (small (show 1 ≤ 100000 by decide)))) (dr2_l (plus_lst (small (by rw [nameD_len]; show _ + 1 ≤ _; omega)))))) (eva_cons (ev_var rfl) eva_nil)) (np_ln (r := [_]) rfl) ⟨rr, n5, by show (R ++ [r]).length ≤ 1000; rw [List.length_append]; show _ + 1 ≤ _; omega⟩ fun d h => by rw [eF, ← fits_M]; exact h) (EvN.ev (evn_lst eva_nil (Nat.zero_le _))) (ne_nil (k := 2) (dOk_ordT F) (by decide)))))) (small (by show 1 * _ ≤ 100000; split <;> omega)) (by split <;> omega))) (dr2_l (plus_lst (small ?sz))))) ⟨⟨RS', exs, lx, hx5⟩, if b = true then R ++ [r] else R, .val (.str (tx r)), rfl, ?l1, ?l2, ?l3⟩)⟩
      case sz =>
        rw [nameD_len, List.length_flatten, List.map_replicate, List.sum_replicate_nat]
        show R.length + _ * 1 ≤ 100000
        split <;> omega
      case l1 =>
        split
        · rw [List.length_append]; show _ + 1 ≤ _; omega
        · omega
      case l2 =>
        split
        · exact rr
        · exact r2
      case l3 =>
        cases hb : b with
        | true =>
          rw [if_pos rfl, ← eF]
          intro z
          rw [hb, z] at eb; cases eb
        | false =>
          rw [if_neg Bool.false_ne_true]
          exact r3
    subst e
    have lR : R.length ≤ 5 := by
      have : (nameD RS).length = RS'.length := by rw [exs, nameD_len]
      rw [this] at r1
      omega
    refine ds_seq (ds_asg_g (dl_tup (dla_cons (dl_make (s := spInit) (dla_cons (dl_call (s := spPageT) (dla_cons (dl_call (s := spTags) (dla_cons (Ev.dl (ev_var rfl) (dla_cons (Ev.dl (ev_var rfl) (dla_nil ⟨n, rfl, ⟨by omega, by omega⟩, fun d hd => ?_⟩)))))))))))))
    obtain ⟨L, rfl, hL, lL⟩ := hd
    subst lL
    have hb : BookOk L R := ⟨hL, by omega, r2⟩
    refine dla_cons (Ev.dl (ev_var rfl) (dla_nil ⟨((L, R), true), rfl, hb, fun d hd => dla_nil ⟨(L, R), by rw [show d = _ from hd]; rfl, hb, fun es hes => ?_⟩⟩))
    cases hes
    refine dla_cons (dl_call (s := spFolk) (dla_cons (Ev.dl (ev_var rfl) (dla_cons (Ev.dl (ev_var rfl) (dla_cons (Ev.dl (ev_int (z := ((2 : Nat) : Int))) (dla_cons (Ev.dl (ev_int (z := ((4 : Nat) : Int))) (dla_nil ⟨(L.length, 2, 4), rfl, ⟨by show 1 ≤ L.length; omega, by show L.length ≤ 8; omega, by show (2 : Nat) ≤ 2; decide, by show (2 : Nat) ≤ 4; decide, by show (4 : Nat) ≤ 8; decide⟩, fun d hd => ?_⟩))))))))))
    obtain ⟨ls, ms, rfl, hc, l2, l4⟩ := hd
    have hc : CaseOk ls ms L.length := hc
    have l4 : ls.length ≤ 4 := l4
    have sm := hc.same
    have pw := hc.names.pw
    refine dla_nil ⟨small (show 2 ≤ 100000 by decide), [5] ++ [6], _, dg_tup2 dg_name dg_name, ?_⟩
    refine ds_seq (ds_asg (dl_make (s := spCInit) (dla_cons (Ev.dl (ev_call (s := spPageF) (x := ((ls, ms, L.length), false)) (eva_cons (ev_var (d := .lst (folkD ls ms)) rfl) eva_nil) np_folk hc fun d h => h) (dla_nil ⟨(ls, ms, L.length), rfl, hc, fun es hes => ?_⟩)))))
    cases hes
    show Ds _ [.val .purse, .val (.int (t : Int)), .val (.int (L.length : Nat)), .val (.lst (nameD R)), s4, .val (bookD T.C_Book L R), .val (.lst (folkD ls ms)), .val (caseO T.C_Case ls ms), s8, s9, s10, s11, s12, s13, s14] _
    have hR := hb.rows
    have hst : Still R L.length = [] := (fit_still hR).mpr r3
    refine ds_seq (ds_if (dlt_not (dlt_tru_bl (dl_call (s := spReasR T.C_Book) (dla_cons (Ev.dl (ev_tag (i := 0) rfl TgS.purse (ev_var rfl)) (dla_cons (Ev.dl (ev_var rfl) (dla_nil ⟨(L, R), rfl, ⟨hb, hst⟩, fun d hd => ⟨true, hd, fun h => (nomatch h), fun _ => ds_next ?_⟩⟩)))))))))
    obtain ⟨CA, eCA⟩ : ∃ CA, CA = (posI R ms L.length).map (rowAt ls) := ⟨_, rfl⟩
    obtain ⟨MU, eMU⟩ : ∃ MU, MU = (sureI R ms L.length).map (rowAt ls) := ⟨_, rfl⟩
    obtain ⟨OU, eOU⟩ : ∃ OU, OU = (barI ms L.length).map (rowAt ls) := ⟨_, rfl⟩
    refine ds_seq (ds_par3 (dla_cons (Ev.dl (ev_call (s := spPoss T.C_Book T.C_Case) (d := .tup (nameD CA)) (x := ((L, R), ls, ms)) (eva_cons (ev_var rfl) (eva_cons (ev_var rfl) eva_nil)) (np_bc (r := []) rfl) ⟨hb, hc, hst⟩ fun d h => by rw [eCA]; exact h) (dla_cons (Ev.dl (ev_call (s := spSure T.C_Book T.C_Case) (d := .tup (nameD MU)) (x := ((L, R), ls, ms)) (eva_cons (ev_var rfl) (eva_cons (ev_var rfl) eva_nil)) (np_bc (r := []) rfl) ⟨hb, hc, hst⟩ fun d h => by rw [eMU]; exact h) (dla_cons (Ev.dl (ev_call (s := spBarred T.C_Case) (d := .tup (nameD OU)) (x := (ls, ms, L.length)) (eva_cons (ev_var rfl) eva_nil) (np_caseO (r := []) rfl) hc fun d h => by rw [eOU]; exact h) (dla_nil ⟨_, _, _, rfl, ?_⟩))))))))
    refine ds_for (fun xs i Γ' => xs = folkD ls ms ∧ ∃ s4 s11 s12 s13 s14 : Sl, Γ' = [.val .purse, .val (.int (t : Int)), .val (.int (L.length : Nat)), .val (.lst (nameD R)), s4, .val (bookD T.C_Book L R), .val (.lst (folkD ls ms)), .val (caseO T.C_Case ls ms), .val (.tup (nameD CA)), .val (.tup (nameD MU)), .val (.tup (nameD OU)), s11, s12, s13, s14])
      (dj_list (Ev.dl (ev_var (d := .lst (folkD ls ms)) rfl) ⟨_, rfl, ⟨rfl, _, _, _, _, _, rfl⟩, fun i x Γ' hx2 ⟨exs, s4, s11, s12, s13, s14, e⟩ => ?_, fun Γ' ⟨exs, s4, s11, s12, s13, s14, e⟩ => ?_⟩))
    · subst e
      rw [exs] at hx2
      have hx2 : ((ls.zip ms).map pairDm)[i]? = some x := hx2
      rw [zip_rangeJ sm, List.map_map, List.getElem?_map] at hx2
      obtain ⟨j, hj, rfl⟩ := Option.map_eq_some_iff.mp hx2
      have hji : j < ls.length := List.mem_range.mp (List.mem_of_getElem? hj)
      have rok := rwM_ok (i := j) hc hji
      have rz : (rwM ms j).length ≤ 4 := by
        unfold rwM
        rw [List.length_map]
        exact Nat.le_trans (idxM_len _ _) (by omega)
      refine ⟨[11] ++ [12], _, dg_tup2 dg_name dg_name, ?_⟩
      refine ds_seq (ds_asg (Ev.dl (ev_call (s := spRowsOf T.C_Case) (d := .tup (nameD (rwM ms j))) (x := ((ls, ms, L.length), j)) (eva_cons (ev_var rfl) (eva_cons (ev_var rfl) eva_nil)) (np_caseO (r := [_]) rfl) ⟨hc, hji⟩ fun d h => h) ?_))
      have hr3 : ∀ r ∈ R ++ rwM ms j, RowOk r L.length := fun r h => (List.mem_append.mp h).elim (hR r) (rok r)
      have hb3 : BookOk L (R ++ rwM ms j) := ⟨hL, by rw [List.length_append]; omega, hr3⟩
      refine ds_seq (ds_asg (dl_make (s := spInit) (dla_cons (Ev.dl (ev_call (s := spPageT) (x := ((L, R ++ rwM ms j), false)) (eva_cons (ev_prop (s := spBNames T.C_Book) (d := .tup (nameD L)) (x := (L, R)) (ev_var rfl) rfl (np_book _ L R) trivial fun d h => h) (eva_cons (ev_cast (d' := .lst (nameD (R ++ rwM ms j))) (by rw [← nameD_app]) (ev_op (ev_var (d := .lst (nameD R)) rfl) (EvN.ev (evn_listT (ds := nameD (rwM ms j)) (ev_var rfl))) (dr2_l (plus_lst (small (by rw [nameD_len, nameD_len]; omega)))))) eva_nil)) ?np hb3 fun d h => h) (dla_nil ⟨(L, R ++ rwM ms j), rfl, hb3, fun es hes => ?_⟩)))))
      case np => exact np_tn (np_ln (r := []) rfl)
      cases hes
      show Ds _ [.val .purse, .val (.int (t : Int)), .val (.int (L.length : Nat)), .val (.lst (nameD R)), s4, .val (bookD T.C_Book L R), .val (.lst (folkD ls ms)), .val (caseO T.C_Case ls ms), .val (.tup (nameD CA)), .val (.tup (nameD MU)), .val (.tup (nameD OU)), .val (.str (tx (rowAt ls j))), .val (.tup (ordD (rowAt ms j))), .val (.tup (nameD (rwM ms j))), .val (bookD T.C_Book L (R ++ rwM ms j))] _
      have jm : j < ms.length := by omega
      have inCA : rowAt ls j ∈ CA ↔ Still (R ++ rwM ms j) L.length = [] := by
        rw [eCA, idx_in pw (fun i hi => by have := List.mem_range.mp (List.mem_filter.mp hi).1; omega) hji]
        unfold posI
        rw [List.mem_filter, List.mem_range, decide_eq_true_eq]
        exact ⟨fun h => h.2, fun h => ⟨jm, h⟩⟩
      have inMU : rowAt ls j ∈ MU ↔ countM (R ++ rwM ms j) L.length = countM R L.length := by
        rw [eMU, idx_in pw (fun i hi => by have := List.mem_range.mp (List.mem_filter.mp hi).1; omega) hji]
        unfold sureI
        rw [List.mem_filter, List.mem_range, decide_eq_true_eq]
        exact ⟨fun h => h.2, fun h => ⟨jm, h⟩⟩
      have notB : ¬ (rowAt ls j ∈ OU ∧ rowAt ls j ∈ CA) := fun ⟨h1, h2⟩ => by
        rw [eOU, idx_in pw (fun i hi => by have := List.mem_range.mp (List.mem_filter.mp hi).1; omega) hji] at h1
        have h1 := (List.mem_filter.mp h1).2
        have h2 := (fit_still hr3).mp (inCA.mp h2)
        obtain ⟨o, ho⟩ := List.exists_mem_of_ne_nil _ h2
        obtain ⟨p1, p2⟩ := fitM_mem.mp ho
        have : Still (rwM ms j) L.length = [] := (fit_still rok).mpr fun z => by
          have : o ∈ fitM (rwM ms j) L.length := fitM_mem.mpr ⟨p1, fun r h => p2 r (List.mem_append_right _ h)⟩
          rw [z] at this; cases this
        rw [decide_eq_true this] at h1; cases h1
      obtain ⟨dl, edl, ndl⟩ : ∃ dl : D, dl = (if (splitM (R ++ rwM ms j) L.length).2 = [] then .tup (ordT (splitM (R ++ rwM ms j) L.length).1) else .non) ∧ ∀ (W : Wd) v, Rep W dl v → (!decide (v = V.non)) = decide (rowAt ls j ∈ CA) := by
        refine ⟨_, rfl, fun W v r => ?_⟩
        by_cases z : Still (R ++ rwM ms j) L.length = []
        · rw [if_pos (show (splitM (R ++ rwM ms j) L.length).2 = [] from z)] at r
          obtain ⟨a, vs, ev, _⟩ := r
          rw [ev, decide_eq_true (inCA.mpr z)]; rfl
        · rw [if_neg (show ¬ (splitM (R ++ rwM ms j) L.length).2 = [] from z)] at r
          rw [show v = V.non from r, decide_eq_false fun y => z (inCA.mp y)]; rfl
      refine ds_seq (ds_if (EvT.dl (b := false) (evt_castB (b := (decide (rowAt ls j ∈ CA) != decide (rowAt ls j ∈ CA)) || (decide (rowAt ls j ∈ OU) && decide (rowAt ls j ∈ CA))) ?b1 (evt_or (evt_test (ev_op (ev_nmIn (ev_var rfl) (ev_var rfl)) (ev_op (ev_call (s := spLay T.C_Book) (d := dl) (x := (L, R ++ rwM ms j)) (eva_cons (ev_var rfl) eva_nil) (np_book _ L (R ++ rwM ms j)) hb3 fun d h => by rw [edl]; exact h) ev_non (dr2_notN ndl)) (ne_bl _ _))) fun _ => evt_and (evt_test (ev_nmIn (ev_var rfl) (ev_var rfl))) fun _ => evt_test (ev_nmIn (ev_var rfl) (ev_var rfl)))) ⟨fun h => (nomatch h), fun _ => ds_next ?_⟩))
      case b1 =>
        have : (decide (rowAt ls j ∈ OU) && decide (rowAt ls j ∈ CA)) = false := by
          cases z : decide (rowAt ls j ∈ OU) && decide (rowAt ls j ∈ CA) with
          | false => rfl
          | true =>
            rw [Bool.and_eq_true, decide_eq_true_eq, decide_eq_true_eq] at z
            exact absurd z notB
        rw [this]
        cases decide (rowAt ls j ∈ CA) <;> rfl
      refine ds_if (EvT.dl (b := false) (evt_castB (b := decide (rowAt ls j ∈ MU) != (((rwM ms j).filter fun r => !decide (judgeS R L.length r = "sure")).map fun r => D.str (tx r)).isEmpty) ?b2 (evt_test (ev_op (ev_nmIn (ev_var rfl) (ev_var rfl)) (ev_op (EvN.ev (evn_lc (xs := rwM ms j) (c := fun r => D.str (tx r)) (p := fun r => !decide (judgeS R L.length r = "sure")) (f := fun r => D.str (tx r)) (ej_tup (ev_var (d := .tup (nameD (rwM ms j))) rfl)) (by omega) fun r hr => ⟨[4], _, dg_name, fun i hi => hi, evt_test (ev_op (ev_call (s := spJudge T.C_Book) (d := .str (judgeS R L.length r)) (x := ((L, R), r)) (eva_cons (ev_var rfl) (eva_cons (ev_var rfl) eva_nil)) (np_bk (r := [_]) rfl) ⟨hb, rok r hr, hst⟩ fun d h => h) ev_str ne_str'), fun _ => ev_var rfl⟩)) (EvN.ev (evn_lst eva_nil (Nat.zero_le _))) (eq_nil (k := 1) (dOks_map fun r hr => okS_tx fun c hc => ((rok r (List.mem_filter.mp hr).1).all c hc).lt) (by decide))) (ne_bl _ _)))) ⟨fun h => (nomatch h), fun _ => ds_next ⟨exs, _, _, _, _, _, rfl⟩⟩)
      case b2 =>
        have key : (((rwM ms j).filter fun r => !decide (judgeS R L.length r = "sure")).map fun r => D.str (tx r)).isEmpty = decide (rowAt ls j ∈ MU) := by
          rw [Bool.eq_iff_iff, List.isEmpty_iff, List.map_eq_nil_iff, List.filter_eq_nil_iff, decide_eq_true_eq, inMU, cnt_all hR rok]
          constructor
          · intro h o ho r hr
            have := h r hr
            have js : judgeS R L.length r = "sure" := Classical.byContradiction fun z => this (by rw [decide_eq_false z]; rfl)
            exact (judge_iff hR (rok r hr) r3).mp js o ho
          · intro h r hr z
            rw [decide_eq_true ((judge_iff hR (rok r hr) r3).mpr fun o ho => h o ho r hr)] at z
            cases z
        rw [key]
        cases decide (rowAt ls j ∈ MU) <;> rfl
    · subst e
      exact ⟨_, _, _, _, _, _, _, _, _, _, _, _, _, _, rfl⟩
  · subst e
    exact ds_ret (Ev.dl ev_bl rfl)

end K34

namespace K34
open PySem PySem.Spec PyProof.Rows L2 Dw
variable [Tabs0]
def spLaw (K : PySem.W.Frag) : Spc where
  ty := List Int
  args := fun ns => [.scr K (ns.map V.int)]
  ok := fun ns => ns.length ≤ 63 ∧ ∀ z ∈ ns, Builtin.Int.intBits z ≤ 1048576
  rel := fun _ d => d = .bl true
end K34

namespace K34
open PySem PySem.Spec PyProof.Rows L2 Dw
variable [Tabs0]
theorem d_law {P : Program} {w : World} {K : PySem.W.Frag} {mg : Str → Option Value} {base : Heap} (T : Txt K w mg) (TB_all_lots : LamX.TabB base mg T.lc_all_lots T.lt_all_lots) : FnG P w K mg base 10 T.f_law T.e_law ["_law_cells"] (spLaw K) := by
  refine fnG_ok T.F_law sc_law (fun _ => rfl) fun cdv A outer s' H E hr hG => ?_
  refine ⟨_, (pss_one (ps_ret (pe_cmpR (eqA K hr.units) (pe_lc (own := [("_law_k", 1)]) rfl sc_law.nd (pi_range1 (by rfl) T.n_range (pa_cons (pe_callB (call_max2 rfl) (by rfl) T.n_max (by decide +kernel) (pa_cons pe_int (pa_cons (pe_callB (call_min2 rfl) (by rfl) T.n_min (by decide +kernel) (pa_cons (pe_callB (lenA K) (by rfl) T.n_len (by decide +kernel) (pa_cons (pv 0) pa_nil)) (pa_cons pe_int pa_nil))) pa_nil))) pa_nil)) (blkOk_by (own := [("_law_k", 1)]) (N := N_law) (sc := (defScope s_law)) (by decide +kernel)) (fun _ _ _ _ _ => pg_name (i := 1) sc_law.nd rfl (Or.inl rfl)) (fun _ _ _ _ _ => pts_one (pt_not (truA K (pe_callG (E := E0) (d__law_right T TB_all_lots) (hr.mono (by decide)) hG (by rfl) T.m__law_right T.F__law_right.kp T.b__law_right (pa_cons (pe_call (d__law_well T) (hr.mono (by decide)) (by rfl) T.m__law_well T.F__law_well.kp T.b__law_well .nil pass0 (pa_cons (pe_call (d__law_cell T) (hr.mono (by decide)) (by rfl) T.m__law_cell T.F__law_cell.kp T.b__law_cell .nil pass0 (pa_cons (pv 0) (pa_cons (pv 1) pa_nil))) pa_nil)) pa_nil))))) (fun _ _ _ _ _ => (pv 1))) (pe_lst pa_nil) (nomark _)))), fun x hx => ?_⟩
  obtain ⟨ns, rfl⟩ : ∃ l : List Int, l = x := ⟨x, rfl⟩
  obtain ⟨hn, hbit⟩ := hx
  have hn : ns.length ≤ 63 := hn
  have l0 : (ns.map V.int).length = ns.length := List.length_map ..
  have em : ∃ m : Nat, m ≤ 63 ∧ (if (if (4 : Int) < ((ns.map V.int).length : Int) then (4 : Int) else ((ns.map V.int).length : Int)) > 2 then (if (4 : Int) < ((ns.map V.int).length : Int) then (4 : Int) else ((ns.map V.int).length : Int)) else 2) = (m : Int) := by
    rw [l0]
    by_cases h : (4 : Int) < (ns.length : Int)
    · rw [if_pos h, if_pos (by decide)]; exact ⟨4, by decide, rfl⟩
    · rw [if_neg h]
      by_cases h2 : (ns.length : Int) > 2
      · rw [if_pos h2]; exact ⟨ns.length, by omega, rfl⟩
      · rw [if_neg h2]; exact ⟨2, by decide, rfl⟩
  obtain ⟨m, hm, em⟩ := em
  refine ds_ret (dl_op (dl_lc (di_range (dla_cons (Ev.dl (ev_max2 ev_int (ev_min2 (ev_lenX (ev_var rfl)) ev_int)) (dla_nil ⟨m, ?_, by omega, by rw [rng_length]; omega, fun i acc Γ' => Γ' = [.val (.scr K (ns.map V.int)), .unset] ∧ acc = [], ⟨rfl, rfl⟩, fun i x acc Γ' hx' ⟨e, ea⟩ => ?_, fun acc Γ' ⟨e, ea⟩ => ?_⟩))))))
  · rw [em]
  · subst e
    subst ea
    obtain ⟨hi, rfl⟩ := rng_get hx'
    exact ⟨[1], _, dg_name, fun i hi => hi, dlt_not (dlt_tru_bl (dl_wellT (K := K) (s := spRightJ) (x := ()) rfl trivial (fun d h => h) (dl_call (s := spCell K) (dla_cons (Ev.dl (ev_var rfl) (dla_cons (Ev.dl (ev_var rfl) (dla_nil ⟨(ns, i), rfl, hn, fun d hd => ⟨hd, ⟨0, _, rfl⟩, true, rfl, (fun h => nomatch h), fun _ => ⟨rfl, rfl⟩⟩⟩))))))))⟩
  · subst e
    subst ea
    exact Ev.dl (EvN.ev (evn_lst eva_nil (Nat.zero_le _))) ⟨.bl true, eq_nil (k := 1) rfl (by decide), rfl⟩

end K34

namespace K34
open PySem PySem.Spec PyProof.Rows L2 Dw
abbrev qn_all_lots (f c : Addr) : Str := (envOfC "all_lots" (defScope s_all_lots) 0 f (.ref c)).qual ++ "<lambda>"
theorem all_mk {l : PySem.W.OpenLaw} {q : Program} {w : World} {K : PySem.W.Frag} {h : Heap} {mg : Str → Option Value} {fa : Addr} (X : K.In h) (G : h.Ns mainGlobals mg) (hfa : mg "law" = some (.ref fa)) (tb : ∀ (y : Str) (f : Addr), ((recsOf q).any fun e => e.name == y) = true → mg y = some (.ref f) → TabOf K f h)
    {C_Book : Addr}
    {C_Case : Addr}
    {f_is_name : Addr} {od_is_name an_is_name : Option Addr} {sl_is_name : Array (Option Value)} {oc_is_name kV_is_name dc_is_name pm_is_name cd_is_name ct_is_name : Value}
    {f_are_names : Addr} {od_are_names an_are_names : Option Addr} {sl_are_names : Array (Option Value)} {oc_are_names kV_are_names dc_are_names pm_are_names cd_are_names ct_are_names : Value}
    {f_is_number : Addr} {od_is_number an_is_number : Option Addr} {sl_is_number : Array (Option Value)} {oc_is_number kV_is_number dc_is_number pm_is_number cd_is_number ct_is_number : Value}
    {f_is_any_row : Addr} {od_is_any_row an_is_any_row : Option Addr} {sl_is_any_row : Array (Option Value)} {oc_is_any_row kV_is_any_row dc_is_any_row pm_is_any_row cd_is_any_row ct_is_any_row : Value}
    {f_is_row : Addr} {od_is_row an_is_row : Option Addr} {sl_is_row : Array (Option Value)} {oc_is_row kV_is_row dc_is_row pm_is_row cd_is_row ct_is_row : Value}
    {f_is_whole : Addr} {od_is_whole an_is_whole : Option Addr} {sl_is_whole : Array (Option Value)} {oc_is_whole kV_is_whole dc_is_whole pm_is_whole cd_is_whole ct_is_whole : Value}
    {f_is_index : Addr} {od_is_index an_is_index : Option Addr} {sl_is_index : Array (Option Value)} {oc_is_index kV_is_index dc_is_index pm_is_index cd_is_index ct_is_index : Value}
    {f_check_row : Addr} {od_check_row an_check_row : Option Addr} {sl_check_row : Array (Option Value)} {oc_check_row kV_check_row dc_check_row pm_check_row cd_check_row ct_check_row : Value}
    {f_check_rule : Addr} {od_check_rule an_check_rule : Option Addr} {sl_check_rule : Array (Option Value)} {oc_check_rule kV_check_rule dc_check_rule pm_check_rule cd_check_rule ct_check_rule : Value}
    {f_check_known : Addr} {od_check_known an_check_known : Option Addr} {sl_check_known : Array (Option Value)} {oc_check_known kV_check_known dc_check_known pm_check_known cd_check_known ct_check_known : Value}
    {f_read_book : Addr} {od_read_book an_read_book : Option Addr} {sl_read_book : Array (Option Value)} {oc_read_book kV_read_book dc_read_book pm_read_book cd_read_book ct_read_book : Value}
    {f_read_mark : Addr} {od_read_mark an_read_mark : Option Addr} {sl_read_mark : Array (Option Value)} {oc_read_mark kV_read_mark dc_read_mark pm_read_mark cd_read_mark ct_read_mark : Value}
    {f_read_candidates : Addr} {od_read_candidates an_read_candidates : Option Addr} {sl_read_candidates : Array (Option Value)} {oc_read_candidates kV_read_candidates dc_read_candidates pm_read_candidates cd_read_candidates ct_read_candidates : Value}
    {f_read_case : Addr} {od_read_case an_read_case : Option Addr} {sl_read_case : Array (Option Value)} {oc_read_case kV_read_case dc_read_case pm_read_case cd_read_case ct_read_case : Value}
    {f_sign_of : Addr} {od_sign_of an_sign_of : Option Addr} {sl_sign_of : Array (Option Value)} {oc_sign_of kV_sign_of dc_sign_of pm_sign_of cd_sign_of ct_sign_of : Value}
    {f_row_between : Addr} {od_row_between an_row_between : Option Addr} {sl_row_between : Array (Option Value)} {oc_row_between kV_row_between dc_row_between pm_row_between cd_row_between ct_row_between : Value}
    {f_check_book : Addr} {od_check_book an_check_book : Option Addr} {sl_check_book : Array (Option Value)} {oc_check_book kV_check_book dc_check_book pm_check_book cd_check_book ct_check_book : Value}
    {f_head_of : Addr} {od_head_of an_head_of : Option Addr} {sl_head_of : Array (Option Value)} {oc_head_of kV_head_of dc_head_of pm_head_of cd_head_of ct_head_of : Value}
    {f_rules_of : Addr} {od_rules_of an_rules_of : Option Addr} {sl_rules_of : Array (Option Value)} {oc_rules_of kV_rules_of dc_rules_of pm_rules_of cd_rules_of ct_rules_of : Value}
    {f_sides : Addr} {od_sides an_sides : Option Addr} {sl_sides : Array (Option Value)} {oc_sides kV_sides dc_sides pm_sides cd_sides ct_sides : Value}
    {f_rules_behind : Addr} {od_rules_behind an_rules_behind : Option Addr} {sl_rules_behind : Array (Option Value)} {oc_rules_behind kV_rules_behind dc_rules_behind pm_rules_behind cd_rules_behind ct_rules_behind : Value}
    {f_steps : Addr} {od_steps an_steps : Option Addr} {sl_steps : Array (Option Value)} {oc_steps kV_steps dc_steps pm_steps cd_steps ct_steps : Value}
    {f_openings : Addr} {od_openings an_openings : Option Addr} {sl_openings : Array (Option Value)} {oc_openings kV_openings dc_openings pm_openings cd_openings ct_openings : Value}
    {f_endings : Addr} {od_endings an_endings : Option Addr} {sl_endings : Array (Option Value)} {oc_endings kV_endings dc_endings pm_endings cd_endings ct_endings : Value}
    {f_count_fitting : Addr} {od_count_fitting an_count_fitting : Option Addr} {sl_count_fitting : Array (Option Value)} {oc_count_fitting kV_count_fitting dc_count_fitting pm_count_fitting cd_count_fitting ct_count_fitting : Value}
    {f_heads_above : Addr} {od_heads_above an_heads_above : Option Addr} {sl_heads_above : Array (Option Value)} {oc_heads_above kV_heads_above dc_heads_above pm_heads_above cd_heads_above ct_heads_above : Value}
    {f_has_sign : Addr} {od_has_sign an_has_sign : Option Addr} {sl_has_sign : Array (Option Value)} {oc_has_sign kV_has_sign dc_has_sign pm_has_sign cd_has_sign ct_has_sign : Value}
    {f_split : Addr} {od_split an_split : Option Addr} {sl_split : Array (Option Value)} {oc_split kV_split dc_split pm_split cd_split ct_split : Value}
    {f_some_fits : Addr} {od_some_fits an_some_fits : Option Addr} {sl_some_fits : Array (Option Value)} {oc_some_fits kV_some_fits dc_some_fits pm_some_fits cd_some_fits ct_some_fits : Value}
    {f_Book_rows : Addr} {od_Book_rows an_Book_rows : Option Addr} {sl_Book_rows : Array (Option Value)} {oc_Book_rows kV_Book_rows dc_Book_rows pm_Book_rows cd_Book_rows ct_Book_rows : Value}
    {q_Book_rows : Addr} {rest_Book_rows : List Value}
    {f_Book_names : Addr} {od_Book_names an_Book_names : Option Addr} {sl_Book_names : Array (Option Value)} {oc_Book_names kV_Book_names dc_Book_names pm_Book_names cd_Book_names ct_Book_names : Value}
    {q_Book_names : Addr} {rest_Book_names : List Value}
    {f_check_some_fits : Addr} {od_check_some_fits an_check_some_fits : Option Addr} {sl_check_some_fits : Array (Option Value)} {oc_check_some_fits kV_check_some_fits dc_check_some_fits pm_check_some_fits cd_check_some_fits ct_check_some_fits : Value}
    {f_layers : Addr} {od_layers an_layers : Option Addr} {sl_layers : Array (Option Value)} {oc_layers kV_layers dc_layers pm_layers cd_layers ct_layers : Value}
    {f_all_lots : Addr} {od_all_lots an_all_lots : Option Addr} {sl_all_lots : Array (Option Value)} {oc_all_lots kV_all_lots dc_all_lots pm_all_lots ct_all_lots : Value}
    {lc_all_lots lt_all_lots : Addr} {lo_all_lots : Value} {ld_all_lots : Option Addr} {lv_all_lots : Array Value} {ls_all_lots : Array (Option Value)}
    {f_has_part : Addr} {od_has_part an_has_part : Option Addr} {sl_has_part : Array (Option Value)} {oc_has_part kV_has_part dc_has_part pm_has_part cd_has_part ct_has_part : Value}
    {f_judge : Addr} {od_judge an_judge : Option Addr} {sl_judge : Array (Option Value)} {oc_judge kV_judge dc_judge pm_judge cd_judge ct_judge : Value}
    {f_meets_all : Addr} {od_meets_all an_meets_all : Option Addr} {sl_meets_all : Array (Option Value)} {oc_meets_all kV_meets_all dc_meets_all pm_meets_all cd_meets_all ct_meets_all : Value}
    {f_least_lots : Addr} {od_least_lots an_least_lots : Option Addr} {sl_least_lots : Array (Option Value)} {oc_least_lots kV_least_lots dc_least_lots pm_least_lots cd_least_lots ct_least_lots : Value}
    {f_reasons : Addr} {od_reasons an_reasons : Option Addr} {sl_reasons : Array (Option Value)} {oc_reasons kV_reasons dc_reasons pm_reasons cd_reasons ct_reasons : Value}
    {f_check_case : Addr} {od_check_case an_check_case : Option Addr} {sl_check_case : Array (Option Value)} {oc_check_case kV_check_case dc_check_case pm_check_case cd_check_case ct_check_case : Value}
    {f_Case_marks : Addr} {od_Case_marks an_Case_marks : Option Addr} {sl_Case_marks : Array (Option Value)} {oc_Case_marks kV_Case_marks dc_Case_marks pm_Case_marks cd_Case_marks ct_Case_marks : Value}
    {q_Case_marks : Addr} {rest_Case_marks : List Value}
    {f_case_fits : Addr} {od_case_fits an_case_fits : Option Addr} {sl_case_fits : Array (Option Value)} {oc_case_fits kV_case_fits dc_case_fits pm_case_fits cd_case_fits ct_case_fits : Value}
    {f_check_case_beside : Addr} {od_check_case_beside an_check_case_beside : Option Addr} {sl_check_case_beside : Array (Option Value)} {oc_check_case_beside kV_check_case_beside dc_check_case_beside pm_check_case_beside cd_check_case_beside ct_check_case_beside : Value}
    {f_Case_names : Addr} {od_Case_names an_Case_names : Option Addr} {sl_Case_names : Array (Option Value)} {oc_Case_names kV_Case_names dc_Case_names pm_Case_names cd_Case_names ct_Case_names : Value}
    {q_Case_names : Addr} {rest_Case_names : List Value}
    {f_row_against : Addr} {od_row_against an_row_against : Option Addr} {sl_row_against : Array (Option Value)} {oc_row_against kV_row_against dc_row_against pm_row_against cd_row_against ct_row_against : Value}
    {f_rows_of : Addr} {od_rows_of an_rows_of : Option Addr} {sl_rows_of : Array (Option Value)} {oc_rows_of kV_rows_of dc_rows_of pm_rows_of cd_rows_of ct_rows_of : Value}
    {f_told_by : Addr} {od_told_by an_told_by : Option Addr} {sl_told_by : Array (Option Value)} {oc_told_by kV_told_by dc_told_by pm_told_by cd_told_by ct_told_by : Value}
    {f_barred : Addr} {od_barred an_barred : Option Addr} {sl_barred : Array (Option Value)} {oc_barred kV_barred dc_barred pm_barred cd_barred ct_barred : Value}
    {f_wins : Addr} {od_wins an_wins : Option Addr} {sl_wins : Array (Option Value)} {oc_wins kV_wins dc_wins pm_wins cd_wins ct_wins : Value}
    {f_possible : Addr} {od_possible an_possible : Option Addr} {sl_possible : Array (Option Value)} {oc_possible kV_possible dc_possible pm_possible cd_possible ct_possible : Value}
    {f_sure : Addr} {od_sure an_sure : Option Addr} {sl_sure : Array (Option Value)} {oc_sure kV_sure dc_sure pm_sure cd_sure ct_sure : Value}
    {f__law_cell : Addr} {od__law_cell an__law_cell : Option Addr} {sl__law_cell : Array (Option Value)} {oc__law_cell kV__law_cell dc__law_cell pm__law_cell cd__law_cell ct__law_cell : Value}
    {f__law_well : Addr} {od__law_well an__law_well : Option Addr} {sl__law_well : Array (Option Value)} {oc__law_well kV__law_well dc__law_well pm__law_well cd__law_well ct__law_well : Value}
    {f__law_dip : Addr} {od__law_dip an__law_dip : Option Addr} {sl__law_dip : Array (Option Value)} {oc__law_dip kV__law_dip dc__law_dip pm__law_dip cd__law_dip ct__law_dip : Value}
    {f__law_pick : Addr} {od__law_pick an__law_pick : Option Addr} {sl__law_pick : Array (Option Value)} {oc__law_pick kV__law_pick dc__law_pick pm__law_pick cd__law_pick ct__law_pick : Value}
    {f__law_tags : Addr} {od__law_tags an__law_tags : Option Addr} {sl__law_tags : Array (Option Value)} {oc__law_tags kV__law_tags dc__law_tags pm__law_tags cd__law_tags ct__law_tags : Value}
    {f__law_orders : Addr} {od__law_orders an__law_orders : Option Addr} {sl__law_orders : Array (Option Value)} {oc__law_orders kV__law_orders dc__law_orders pm__law_orders cd__law_orders ct__law_orders : Value}
    {f__law_holds : Addr} {od__law_holds an__law_holds : Option Addr} {sl__law_holds : Array (Option Value)} {oc__law_holds kV__law_holds dc__law_holds pm__law_holds cd__law_holds ct__law_holds : Value}
    {f__law_turned : Addr} {od__law_turned an__law_turned : Option Addr} {sl__law_turned : Array (Option Value)} {oc__law_turned kV__law_turned dc__law_turned pm__law_turned cd__law_turned ct__law_turned : Value}
    {f__law_row : Addr} {od__law_row an__law_row : Option Addr} {sl__law_row : Array (Option Value)} {oc__law_row kV__law_row dc__law_row pm__law_row cd__law_row ct__law_row : Value}
    {f__law_rows : Addr} {od__law_rows an__law_rows : Option Addr} {sl__law_rows : Array (Option Value)} {oc__law_rows kV__law_rows dc__law_rows pm__law_rows cd__law_rows ct__law_rows : Value}
    {f__law_fits : Addr} {od__law_fits an__law_fits : Option Addr} {sl__law_fits : Array (Option Value)} {oc__law_fits kV__law_fits dc__law_fits pm__law_fits cd__law_fits ct__law_fits : Value}
    {f__law_book_page : Addr} {od__law_book_page an__law_book_page : Option Addr} {sl__law_book_page : Array (Option Value)} {oc__law_book_page kV__law_book_page dc__law_book_page pm__law_book_page cd__law_book_page ct__law_book_page : Value}
    {f__law_folk : Addr} {od__law_folk an__law_folk : Option Addr} {sl__law_folk : Array (Option Value)} {oc__law_folk kV__law_folk dc__law_folk pm__law_folk cd__law_folk ct__law_folk : Value}
    {f__law_case_page : Addr} {od__law_case_page an__law_case_page : Option Addr} {sl__law_case_page : Array (Option Value)} {oc__law_case_page kV__law_case_page dc__law_case_page pm__law_case_page cd__law_case_page ct__law_case_page : Value}
    {f__law_lots : Addr} {od__law_lots an__law_lots : Option Addr} {sl__law_lots : Array (Option Value)} {oc__law_lots kV__law_lots dc__law_lots pm__law_lots cd__law_lots ct__law_lots : Value}
    {f_Case___init__ : Addr} {od_Case___init__ an_Case___init__ : Option Addr} {sl_Case___init__ : Array (Option Value)} {oc_Case___init__ kV_Case___init__ dc_Case___init__ pm_Case___init__ cd_Case___init__ ct_Case___init__ : Value}
    {f__law_two : Addr} {od__law_two an__law_two : Option Addr} {sl__law_two : Array (Option Value)} {oc__law_two kV__law_two dc__law_two pm__law_two cd__law_two ct__law_two : Value}
    {f__law_reasons_right : Addr} {od__law_reasons_right an__law_reasons_right : Option Addr} {sl__law_reasons_right : Array (Option Value)} {oc__law_reasons_right kV__law_reasons_right dc__law_reasons_right pm__law_reasons_right cd__law_reasons_right ct__law_reasons_right : Value}
    {f_Book___init__ : Addr} {od_Book___init__ an_Book___init__ : Option Addr} {sl_Book___init__ : Array (Option Value)} {oc_Book___init__ kV_Book___init__ dc_Book___init__ pm_Book___init__ cd_Book___init__ ct_Book___init__ : Value}
    {f__law_right : Addr} {od__law_right an__law_right : Option Addr} {sl__law_right : Array (Option Value)} {oc__law_right kV__law_right dc__law_right pm__law_right cd__law_right ct__law_right : Value}
    {f_law : Addr} {od_law an_law : Option Addr} {sl_law : Array (Option Value)} {oc_law kV_law dc_law pm_law cd_law ct_law : Value}
    {t_DIGITS : Tok}
    {t_LEAST_CANDIDATES : Tok}
    {t_LETTERS : Tok}
    {t_MOST_CANDIDATES : Tok}
    {t_MOST_LETTERS : Tok}
    {t_MOST_MARKS : Tok}
    {t_MOST_ROWS : Tok}
    {t_MOST_RULES : Tok}
    {t_SIGNS : Tok}
    (cm_Book : PySem.W.nsIn K mainGlobals "Book" = some (some (.ref C_Book)))
    (cpg_Book : PySem.W.plainGet K C_Book Str.empty = true)
    (chd_Book : PySem.W.hasDictIn K C_Book = true)
    (cpo_Book : PySem.W.plainOver K C_Book = true)
    (csa_Book : PySem.W.findIn K (.ref C_Book) "__setattr__" = some (some (.builtin "object.__setattr__")))
    (cmk_Book : PySem.W.makesIn K C_Book = true)
    (ckc_Book : PySem.W.keepIn K (.ref C_Book) = true)
    (cia_Book : PySem.W.findIn K (.ref C_Book) "__class__" = some (some (.builtin "object.__class__")))
    (cim_Book : PySem.W.mroIn K C_Book (.type "object") = some true)
    (cm_Case : PySem.W.nsIn K mainGlobals "Case" = some (some (.ref C_Case)))
    (cpg_Case : PySem.W.plainGet K C_Case Str.empty = true)
    (chd_Case : PySem.W.hasDictIn K C_Case = true)
    (cpo_Case : PySem.W.plainOver K C_Case = true)
    (csa_Case : PySem.W.findIn K (.ref C_Case) "__setattr__" = some (some (.builtin "object.__setattr__")))
    (cmk_Case : PySem.W.makesIn K C_Case = true)
    (ckc_Case : PySem.W.keepIn K (.ref C_Case) = true)
    (cia_Case : PySem.W.findIn K (.ref C_Case) "__class__" = some (some (.builtin "object.__class__")))
    (cim_Case : PySem.W.mroIn K C_Case (.type "object") = some true)
    (ihn : PySem.W.specialIn K (.builtin "object.__class__") "__get__" = some (some (.builtin "getset_descriptor.__get__")))
    (iht : PySem.W.takesIn K (.builtin "object.__class__") = some true)
    (a_is_name : PySem.W.nsIn K mainGlobals "is_name" = some (some (.ref f_is_name)))
    (l_is_name : K.lookup f_is_name = some ⟨oc_is_name, od_is_name, .func (PySem.W.fnOf "is_name" "is_name" (defArgs s_is_name) (defBody s_is_name) (defScope s_is_name) .none kV_is_name dc_is_name pm_is_name an_is_name cd_is_name ct_is_name), sl_is_name⟩)
    (c_is_name : PySem.W.codeIn K cd_is_name "is_name" = true)
    (k_is_name : PySem.W.keepIn K (.ref f_is_name) = true)
    (a_are_names : PySem.W.nsIn K mainGlobals "are_names" = some (some (.ref f_are_names)))
    (l_are_names : K.lookup f_are_names = some ⟨oc_are_names, od_are_names, .func (PySem.W.fnOf "are_names" "are_names" (defArgs s_are_names) (defBody s_are_names) (defScope s_are_names) .none kV_are_names dc_are_names pm_are_names an_are_names cd_are_names ct_are_names), sl_are_names⟩)
    (c_are_names : PySem.W.codeIn K cd_are_names "are_names" = true)
    (k_are_names : PySem.W.keepIn K (.ref f_are_names) = true)
    (a_is_number : PySem.W.nsIn K mainGlobals "is_number" = some (some (.ref f_is_number)))
    (l_is_number : K.lookup f_is_number = some ⟨oc_is_number, od_is_number, .func (PySem.W.fnOf "is_number" "is_number" (defArgs s_is_number) (defBody s_is_number) (defScope s_is_number) .none kV_is_number dc_is_number pm_is_number an_is_number cd_is_number ct_is_number), sl_is_number⟩)
    (c_is_number : PySem.W.codeIn K cd_is_number "is_number" = true)
    (k_is_number : PySem.W.keepIn K (.ref f_is_number) = true)
    (a_is_any_row : PySem.W.nsIn K mainGlobals "is_any_row" = some (some (.ref f_is_any_row)))
    (l_is_any_row : K.lookup f_is_any_row = some ⟨oc_is_any_row, od_is_any_row, .func (PySem.W.fnOf "is_any_row" "is_any_row" (defArgs s_is_any_row) (defBody s_is_any_row) (defScope s_is_any_row) .none kV_is_any_row dc_is_any_row pm_is_any_row an_is_any_row cd_is_any_row ct_is_any_row), sl_is_any_row⟩)
    (c_is_any_row : PySem.W.codeIn K cd_is_any_row "is_any_row" = true)
    (k_is_any_row : PySem.W.keepIn K (.ref f_is_any_row) = true)
    (a_is_row : PySem.W.nsIn K mainGlobals "is_row" = some (some (.ref f_is_row)))
    (l_is_row : K.lookup f_is_row = some ⟨oc_is_row, od_is_row, .func (PySem.W.fnOf "is_row" "is_row" (defArgs s_is_row) (defBody s_is_row) (defScope s_is_row) .none kV_is_row dc_is_row pm_is_row an_is_row cd_is_row ct_is_row), sl_is_row⟩)
    (c_is_row : PySem.W.codeIn K cd_is_row "is_row" = true)
    (k_is_row : PySem.W.keepIn K (.ref f_is_row) = true)
    (a_is_whole : PySem.W.nsIn K mainGlobals "is_whole" = some (some (.ref f_is_whole)))
    (l_is_whole : K.lookup f_is_whole = some ⟨oc_is_whole, od_is_whole, .func (PySem.W.fnOf "is_whole" "is_whole" (defArgs s_is_whole) (defBody s_is_whole) (defScope s_is_whole) .none kV_is_whole dc_is_whole pm_is_whole an_is_whole cd_is_whole ct_is_whole), sl_is_whole⟩)
    (c_is_whole : PySem.W.codeIn K cd_is_whole "is_whole" = true)
    (k_is_whole : PySem.W.keepIn K (.ref f_is_whole) = true)
    (a_is_index : PySem.W.nsIn K mainGlobals "is_index" = some (some (.ref f_is_index)))
    (l_is_index : K.lookup f_is_index = some ⟨oc_is_index, od_is_index, .func (PySem.W.fnOf "is_index" "is_index" (defArgs s_is_index) (defBody s_is_index) (defScope s_is_index) .none kV_is_index dc_is_index pm_is_index an_is_index cd_is_index ct_is_index), sl_is_index⟩)
    (c_is_index : PySem.W.codeIn K cd_is_index "is_index" = true)
    (k_is_index : PySem.W.keepIn K (.ref f_is_index) = true)
    (a_check_row : PySem.W.nsIn K mainGlobals "check_row" = some (some (.ref f_check_row)))
    (l_check_row : K.lookup f_check_row = some ⟨oc_check_row, od_check_row, .func (PySem.W.fnOf "check_row" "check_row" (defArgs s_check_row) (defBody s_check_row) (defScope s_check_row) .none kV_check_row dc_check_row pm_check_row an_check_row cd_check_row ct_check_row), sl_check_row⟩)
    (c_check_row : PySem.W.codeIn K cd_check_row "check_row" = true)
    (k_check_row : PySem.W.keepIn K (.ref f_check_row) = true)
    (a_check_rule : PySem.W.nsIn K mainGlobals "check_rule" = some (some (.ref f_check_rule)))
    (l_check_rule : K.lookup f_check_rule = some ⟨oc_check_rule, od_check_rule, .func (PySem.W.fnOf "check_rule" "check_rule" (defArgs s_check_rule) (defBody s_check_rule) (defScope s_check_rule) .none kV_check_rule dc_check_rule pm_check_rule an_check_rule cd_check_rule ct_check_rule), sl_check_rule⟩)
    (c_check_rule : PySem.W.codeIn K cd_check_rule "check_rule" = true)
    (k_check_rule : PySem.W.keepIn K (.ref f_check_rule) = true)
    (a_check_known : PySem.W.nsIn K mainGlobals "check_known" = some (some (.ref f_check_known)))
    (l_check_known : K.lookup f_check_known = some ⟨oc_check_known, od_check_known, .func (PySem.W.fnOf "check_known" "check_known" (defArgs s_check_known) (defBody s_check_known) (defScope s_check_known) .none kV_check_known dc_check_known pm_check_known an_check_known cd_check_known ct_check_known), sl_check_known⟩)
    (c_check_known : PySem.W.codeIn K cd_check_known "check_known" = true)
    (k_check_known : PySem.W.keepIn K (.ref f_check_known) = true)
    (a_read_book : PySem.W.nsIn K mainGlobals "read_book" = some (some (.ref f_read_book)))
    (l_read_book : K.lookup f_read_book = some ⟨oc_read_book, od_read_book, .func (PySem.W.fnOf "read_book" "read_book" (defArgs s_read_book) (defBody s_read_book) (defScope s_read_book) .none kV_read_book dc_read_book pm_read_book an_read_book cd_read_book ct_read_book), sl_read_book⟩)
    (c_read_book : PySem.W.codeIn K cd_read_book "read_book" = true)
    (k_read_book : PySem.W.keepIn K (.ref f_read_book) = true)
    (a_read_mark : PySem.W.nsIn K mainGlobals "read_mark" = some (some (.ref f_read_mark)))
    (l_read_mark : K.lookup f_read_mark = some ⟨oc_read_mark, od_read_mark, .func (PySem.W.fnOf "read_mark" "read_mark" (defArgs s_read_mark) (defBody s_read_mark) (defScope s_read_mark) .none kV_read_mark dc_read_mark pm_read_mark an_read_mark cd_read_mark ct_read_mark), sl_read_mark⟩)
    (c_read_mark : PySem.W.codeIn K cd_read_mark "read_mark" = true)
    (k_read_mark : PySem.W.keepIn K (.ref f_read_mark) = true)
    (a_read_candidates : PySem.W.nsIn K mainGlobals "read_candidates" = some (some (.ref f_read_candidates)))
    (l_read_candidates : K.lookup f_read_candidates = some ⟨oc_read_candidates, od_read_candidates, .func (PySem.W.fnOf "read_candidates" "read_candidates" (defArgs s_read_candidates) (defBody s_read_candidates) (defScope s_read_candidates) .none kV_read_candidates dc_read_candidates pm_read_candidates an_read_candidates cd_read_candidates ct_read_candidates), sl_read_candidates⟩)
    (c_read_candidates : PySem.W.codeIn K cd_read_candidates "read_candidates" = true)
    (k_read_candidates : PySem.W.keepIn K (.ref f_read_candidates) = true)
    (a_read_case : PySem.W.nsIn K mainGlobals "read_case" = some (some (.ref f_read_case)))
    (l_read_case : K.lookup f_read_case = some ⟨oc_read_case, od_read_case, .func (PySem.W.fnOf "read_case" "read_case" (defArgs s_read_case) (defBody s_read_case) (defScope s_read_case) .none kV_read_case dc_read_case pm_read_case an_read_case cd_read_case ct_read_case), sl_read_case⟩)
    (c_read_case : PySem.W.codeIn K cd_read_case "read_case" = true)
    (k_read_case : PySem.W.keepIn K (.ref f_read_case) = true)
    (a_sign_of : PySem.W.nsIn K mainGlobals "sign_of" = some (some (.ref f_sign_of)))
    (l_sign_of : K.lookup f_sign_of = some ⟨oc_sign_of, od_sign_of, .func (PySem.W.fnOf "sign_of" "sign_of" (defArgs s_sign_of) (defBody s_sign_of) (defScope s_sign_of) .none kV_sign_of dc_sign_of pm_sign_of an_sign_of cd_sign_of ct_sign_of), sl_sign_of⟩)
    (c_sign_of : PySem.W.codeIn K cd_sign_of "sign_of" = true)
    (k_sign_of : PySem.W.keepIn K (.ref f_sign_of) = true)
    (a_row_between : PySem.W.nsIn K mainGlobals "row_between" = some (some (.ref f_row_between)))
    (l_row_between : K.lookup f_row_between = some ⟨oc_row_between, od_row_between, .func (PySem.W.fnOf "row_between" "row_between" (defArgs s_row_between) (defBody s_row_between) (defScope s_row_between) .none kV_row_between dc_row_between pm_row_between an_row_between cd_row_between ct_row_between), sl_row_between⟩)
    (c_row_between : PySem.W.codeIn K cd_row_between "row_between" = true)
    (k_row_between : PySem.W.keepIn K (.ref f_row_between) = true)
    (a_check_book : PySem.W.nsIn K mainGlobals "check_book" = some (some (.ref f_check_book)))
    (l_check_book : K.lookup f_check_book = some ⟨oc_check_book, od_check_book, .func (PySem.W.fnOf "check_book" "check_book" (defArgs s_check_book) (defBody s_check_book) (defScope s_check_book) .none kV_check_book dc_check_book pm_check_book an_check_book cd_check_book ct_check_book), sl_check_book⟩)
    (c_check_book : PySem.W.codeIn K cd_check_book "check_book" = true)
    (k_check_book : PySem.W.keepIn K (.ref f_check_book) = true)
    (a_head_of : PySem.W.nsIn K mainGlobals "head_of" = some (some (.ref f_head_of)))
    (l_head_of : K.lookup f_head_of = some ⟨oc_head_of, od_head_of, .func (PySem.W.fnOf "head_of" "head_of" (defArgs s_head_of) (defBody s_head_of) (defScope s_head_of) .none kV_head_of dc_head_of pm_head_of an_head_of cd_head_of ct_head_of), sl_head_of⟩)
    (c_head_of : PySem.W.codeIn K cd_head_of "head_of" = true)
    (k_head_of : PySem.W.keepIn K (.ref f_head_of) = true)
    (a_rules_of : PySem.W.nsIn K mainGlobals "rules_of" = some (some (.ref f_rules_of)))
    (l_rules_of : K.lookup f_rules_of = some ⟨oc_rules_of, od_rules_of, .func (PySem.W.fnOf "rules_of" "rules_of" (defArgs s_rules_of) (defBody s_rules_of) (defScope s_rules_of) .none kV_rules_of dc_rules_of pm_rules_of an_rules_of cd_rules_of ct_rules_of), sl_rules_of⟩)
    (c_rules_of : PySem.W.codeIn K cd_rules_of "rules_of" = true)
    (k_rules_of : PySem.W.keepIn K (.ref f_rules_of) = true)
    (a_sides : PySem.W.nsIn K mainGlobals "sides" = some (some (.ref f_sides)))
    (l_sides : K.lookup f_sides = some ⟨oc_sides, od_sides, .func (PySem.W.fnOf "sides" "sides" (defArgs s_sides) (defBody s_sides) (defScope s_sides) .none kV_sides dc_sides pm_sides an_sides cd_sides ct_sides), sl_sides⟩)
    (c_sides : PySem.W.codeIn K cd_sides "sides" = true)
    (k_sides : PySem.W.keepIn K (.ref f_sides) = true)
    (a_rules_behind : PySem.W.nsIn K mainGlobals "rules_behind" = some (some (.ref f_rules_behind)))
    (l_rules_behind : K.lookup f_rules_behind = some ⟨oc_rules_behind, od_rules_behind, .func (PySem.W.fnOf "rules_behind" "rules_behind" (defArgs s_rules_behind) (defBody s_rules_behind) (defScope s_rules_behind) .none kV_rules_behind dc_rules_behind pm_rules_behind an_rules_behind cd_rules_behind ct_rules_behind), sl_rules_behind⟩)
    (c_rules_behind : PySem.W.codeIn K cd_rules_behind "rules_behind" = true)
    (k_rules_behind : PySem.W.keepIn K (.ref f_rules_behind) = true)
    (a_steps : PySem.W.nsIn K mainGlobals "steps" = some (some (.ref f_steps)))
    (l_steps : K.lookup f_steps = some ⟨oc_steps, od_steps, .func (PySem.W.fnOf "steps" "steps" (defArgs s_steps) (defBody s_steps) (defScope s_steps) .none kV_steps dc_steps pm_steps an_steps cd_steps ct_steps), sl_steps⟩)
    (c_steps : PySem.W.codeIn K cd_steps "steps" = true)
    (k_steps : PySem.W.keepIn K (.ref f_steps) = true)
    (a_openings : PySem.W.nsIn K mainGlobals "openings" = some (some (.ref f_openings)))
    (l_openings : K.lookup f_openings = some ⟨oc_openings, od_openings, .func (PySem.W.fnOf "openings" "openings" (defArgs s_openings) (defBody s_openings) (defScope s_openings) .none kV_openings dc_openings pm_openings an_openings cd_openings ct_openings), sl_openings⟩)
    (c_openings : PySem.W.codeIn K cd_openings "openings" = true)
    (k_openings : PySem.W.keepIn K (.ref f_openings) = true)
    (a_endings : PySem.W.nsIn K mainGlobals "endings" = some (some (.ref f_endings)))
    (l_endings : K.lookup f_endings = some ⟨oc_endings, od_endings, .func (PySem.W.fnOf "endings" "endings" (defArgs s_endings) (defBody s_endings) (defScope s_endings) .none kV_endings dc_endings pm_endings an_endings cd_endings ct_endings), sl_endings⟩)
    (c_endings : PySem.W.codeIn K cd_endings "endings" = true)
    (k_endings : PySem.W.keepIn K (.ref f_endings) = true)
    (a_count_fitting : PySem.W.nsIn K mainGlobals "count_fitting" = some (some (.ref f_count_fitting)))
    (l_count_fitting : K.lookup f_count_fitting = some ⟨oc_count_fitting, od_count_fitting, .func (PySem.W.fnOf "count_fitting" "count_fitting" (defArgs s_count_fitting) (defBody s_count_fitting) (defScope s_count_fitting) .none kV_count_fitting dc_count_fitting pm_count_fitting an_count_fitting cd_count_fitting ct_count_fitting), sl_count_fitting⟩)
    (c_count_fitting : PySem.W.codeIn K cd_count_fitting "count_fitting" = true)
    (k_count_fitting : PySem.W.keepIn K (.ref f_count_fitting) = true)
    (a_heads_above : PySem.W.nsIn K mainGlobals "heads_above" = some (some (.ref f_heads_above)))
    (l_heads_above : K.lookup f_heads_above = some ⟨oc_heads_above, od_heads_above, .func (PySem.W.fnOf "heads_above" "heads_above" (defArgs s_heads_above) (defBody s_heads_above) (defScope s_heads_above) .none kV_heads_above dc_heads_above pm_heads_above an_heads_above cd_heads_above ct_heads_above), sl_heads_above⟩)
    (c_heads_above : PySem.W.codeIn K cd_heads_above "heads_above" = true)
    (k_heads_above : PySem.W.keepIn K (.ref f_heads_above) = true)
    (a_has_sign : PySem.W.nsIn K mainGlobals "has_sign" = some (some (.ref f_has_sign)))
    (l_has_sign : K.lookup f_has_sign = some ⟨oc_has_sign, od_has_sign, .func (PySem.W.fnOf "has_sign" "has_sign" (defArgs s_has_sign) (defBody s_has_sign) (defScope s_has_sign) .none kV_has_sign dc_has_sign pm_has_sign an_has_sign cd_has_sign ct_has_sign), sl_has_sign⟩)
    (c_has_sign : PySem.W.codeIn K cd_has_sign "has_sign" = true)
    (k_has_sign : PySem.W.keepIn K (.ref f_has_sign) = true)
    (a_split : PySem.W.nsIn K mainGlobals "split" = some (some (.ref f_split)))
    (l_split : K.lookup f_split = some ⟨oc_split, od_split, .func (PySem.W.fnOf "split" "split" (defArgs s_split) (defBody s_split) (defScope s_split) .none kV_split dc_split pm_split an_split cd_split ct_split), sl_split⟩)
    (c_split : PySem.W.codeIn K cd_split "split" = true)
    (k_split : PySem.W.keepIn K (.ref f_split) = true)
    (a_some_fits : PySem.W.nsIn K mainGlobals "some_fits" = some (some (.ref f_some_fits)))
    (l_some_fits : K.lookup f_some_fits = some ⟨oc_some_fits, od_some_fits, .func (PySem.W.fnOf "some_fits" "some_fits" (defArgs s_some_fits) (defBody s_some_fits) (defScope s_some_fits) .none kV_some_fits dc_some_fits pm_some_fits an_some_fits cd_some_fits ct_some_fits), sl_some_fits⟩)
    (c_some_fits : PySem.W.codeIn K cd_some_fits "some_fits" = true)
    (k_some_fits : PySem.W.keepIn K (.ref f_some_fits) = true)
    (a_Book_rows : PySem.W.findIn K (.ref C_Book) "rows" = some (some (.ref q_Book_rows)))
    (g_Book_rows : PySem.W.specialIn K (.ref q_Book_rows) "__get__" = some (some (.builtin "property.__get__")))
    (t_Book_rows : PySem.W.takesIn K (.ref q_Book_rows) = some true)
    (r_Book_rows : PySem.W.recIn K q_Book_rows "property" = some (.ref f_Book_rows :: rest_Book_rows))
    (l_Book_rows : K.lookup f_Book_rows = some ⟨oc_Book_rows, od_Book_rows, .func (PySem.W.fnOf "rows" "Book.rows" (defArgs s_Book_rows) (defBody s_Book_rows) (defScope s_Book_rows) .none kV_Book_rows dc_Book_rows pm_Book_rows an_Book_rows cd_Book_rows ct_Book_rows), sl_Book_rows⟩)
    (c_Book_rows : PySem.W.codeIn K cd_Book_rows "Book.rows" = true)
    (k_Book_rows : PySem.W.keepIn K (.ref f_Book_rows) = true)
    (a_Book_names : PySem.W.findIn K (.ref C_Book) "names" = some (some (.ref q_Book_names)))
    (g_Book_names : PySem.W.specialIn K (.ref q_Book_names) "__get__" = some (some (.builtin "property.__get__")))
    (t_Book_names : PySem.W.takesIn K (.ref q_Book_names) = some true)
    (r_Book_names : PySem.W.recIn K q_Book_names "property" = some (.ref f_Book_names :: rest_Book_names))
    (l_Book_names : K.lookup f_Book_names = some ⟨oc_Book_names, od_Book_names, .func (PySem.W.fnOf "names" "Book.names" (defArgs s_Book_names) (defBody s_Book_names) (defScope s_Book_names) .none kV_Book_names dc_Book_names pm_Book_names an_Book_names cd_Book_names ct_Book_names), sl_Book_names⟩)
    (c_Book_names : PySem.W.codeIn K cd_Book_names "Book.names" = true)
    (k_Book_names : PySem.W.keepIn K (.ref f_Book_names) = true)
    (a_check_some_fits : PySem.W.nsIn K mainGlobals "check_some_fits" = some (some (.ref f_check_some_fits)))
    (l_check_some_fits : K.lookup f_check_some_fits = some ⟨oc_check_some_fits, od_check_some_fits, .func (PySem.W.fnOf "check_some_fits" "check_some_fits" (defArgs s_check_some_fits) (defBody s_check_some_fits) (defScope s_check_some_fits) .none kV_check_some_fits dc_check_some_fits pm_check_some_fits an_check_some_fits cd_check_some_fits ct_check_some_fits), sl_check_some_fits⟩)
    (c_check_some_fits : PySem.W.codeIn K cd_check_some_fits "check_some_fits" = true)
    (k_check_some_fits : PySem.W.keepIn K (.ref f_check_some_fits) = true)
    (a_layers : PySem.W.nsIn K mainGlobals "layers" = some (some (.ref f_layers)))
    (l_layers : K.lookup f_layers = some ⟨oc_layers, od_layers, .func (PySem.W.fnOf "layers" "layers" (defArgs s_layers) (defBody s_layers) (defScope s_layers) .none kV_layers dc_layers pm_layers an_layers cd_layers ct_layers), sl_layers⟩)
    (c_layers : PySem.W.codeIn K cd_layers "layers" = true)
    (k_layers : PySem.W.keepIn K (.ref f_layers) = true)
    (a_all_lots : PySem.W.nsIn K mainGlobals "all_lots" = some (some (.ref f_all_lots)))
    (l_all_lots : K.lookup f_all_lots = some ⟨oc_all_lots, od_all_lots, .func (PySem.W.fnOf "all_lots" "all_lots" (defArgs s_all_lots) (defBody s_all_lots) (defScope s_all_lots) .none kV_all_lots dc_all_lots pm_all_lots an_all_lots (.ref lc_all_lots) ct_all_lots), sl_all_lots⟩)
    (c_all_lots : PySem.W.codeIn K (.ref lc_all_lots) "all_lots" = true)
    (k_all_lots : PySem.W.keepIn K (.ref f_all_lots) = true)
    (lk_all_lots : K.lookup lc_all_lots = some ⟨lo_all_lots, ld_all_lots, .fields lv_all_lots, ls_all_lots⟩)
    (lp_all_lots : lv_all_lots[11]? = some (.ref lt_all_lots))
    (ln_all_lots : K.lookup lt_all_lots = none)
    (lr_all_lots : ((recsOf q).any fun e => e.name == "all_lots") = true)
    (a_has_part : PySem.W.nsIn K mainGlobals "has_part" = some (some (.ref f_has_part)))
    (l_has_part : K.lookup f_has_part = some ⟨oc_has_part, od_has_part, .func (PySem.W.fnOf "has_part" "has_part" (defArgs s_has_part) (defBody s_has_part) (defScope s_has_part) .none kV_has_part dc_has_part pm_has_part an_has_part cd_has_part ct_has_part), sl_has_part⟩)
    (c_has_part : PySem.W.codeIn K cd_has_part "has_part" = true)
    (k_has_part : PySem.W.keepIn K (.ref f_has_part) = true)
    (a_judge : PySem.W.nsIn K mainGlobals "judge" = some (some (.ref f_judge)))
    (l_judge : K.lookup f_judge = some ⟨oc_judge, od_judge, .func (PySem.W.fnOf "judge" "judge" (defArgs s_judge) (defBody s_judge) (defScope s_judge) .none kV_judge dc_judge pm_judge an_judge cd_judge ct_judge), sl_judge⟩)
    (c_judge : PySem.W.codeIn K cd_judge "judge" = true)
    (k_judge : PySem.W.keepIn K (.ref f_judge) = true)
    (a_meets_all : PySem.W.nsIn K mainGlobals "meets_all" = some (some (.ref f_meets_all)))
    (l_meets_all : K.lookup f_meets_all = some ⟨oc_meets_all, od_meets_all, .func (PySem.W.fnOf "meets_all" "meets_all" (defArgs s_meets_all) (defBody s_meets_all) (defScope s_meets_all) .none kV_meets_all dc_meets_all pm_meets_all an_meets_all cd_meets_all ct_meets_all), sl_meets_all⟩)
    (c_meets_all : PySem.W.codeIn K cd_meets_all "meets_all" = true)
    (k_meets_all : PySem.W.keepIn K (.ref f_meets_all) = true)
    (a_least_lots : PySem.W.nsIn K mainGlobals "least_lots" = some (some (.ref f_least_lots)))
    (l_least_lots : K.lookup f_least_lots = some ⟨oc_least_lots, od_least_lots, .func (PySem.W.fnOf "least_lots" "least_lots" (defArgs s_least_lots) (defBody s_least_lots) (defScope s_least_lots) .none kV_least_lots dc_least_lots pm_least_lots an_least_lots cd_least_lots ct_least_lots), sl_least_lots⟩)
    (c_least_lots : PySem.W.codeIn K cd_least_lots "least_lots" = true)
    (k_least_lots : PySem.W.keepIn K (.ref f_least_lots) = true)
    (a_reasons : PySem.W.nsIn K mainGlobals "reasons" = some (some (.ref f_reasons)))
    (l_reasons : K.lookup f_reasons = some ⟨oc_reasons, od_reasons, .func (PySem.W.fnOf "reasons" "reasons" (defArgs s_reasons) (defBody s_reasons) (defScope s_reasons) .none kV_reasons dc_reasons pm_reasons an_reasons cd_reasons ct_reasons), sl_reasons⟩)
    (c_reasons : PySem.W.codeIn K cd_reasons "reasons" = true)
    (k_reasons : PySem.W.keepIn K (.ref f_reasons) = true)
    (a_check_case : PySem.W.nsIn K mainGlobals "check_case" = some (some (.ref f_check_case)))
    (l_check_case : K.lookup f_check_case = some ⟨oc_check_case, od_check_case, .func (PySem.W.fnOf "check_case" "check_case" (defArgs s_check_case) (defBody s_check_case) (defScope s_check_case) .none kV_check_case dc_check_case pm_check_case an_check_case cd_check_case ct_check_case), sl_check_case⟩)
    (c_check_case : PySem.W.codeIn K cd_check_case "check_case" = true)
    (k_check_case : PySem.W.keepIn K (.ref f_check_case) = true)
    (a_Case_marks : PySem.W.findIn K (.ref C_Case) "marks" = some (some (.ref q_Case_marks)))
    (g_Case_marks : PySem.W.specialIn K (.ref q_Case_marks) "__get__" = some (some (.builtin "property.__get__")))
    (t_Case_marks : PySem.W.takesIn K (.ref q_Case_marks) = some true)
    (r_Case_marks : PySem.W.recIn K q_Case_marks "property" = some (.ref f_Case_marks :: rest_Case_marks))
    (l_Case_marks : K.lookup f_Case_marks = some ⟨oc_Case_marks, od_Case_marks, .func (PySem.W.fnOf "marks" "Case.marks" (defArgs s_Case_marks) (defBody s_Case_marks) (defScope s_Case_marks) .none kV_Case_marks dc_Case_marks pm_Case_marks an_Case_marks cd_Case_marks ct_Case_marks), sl_Case_marks⟩)
    (c_Case_marks : PySem.W.codeIn K cd_Case_marks "Case.marks" = true)
    (k_Case_marks : PySem.W.keepIn K (.ref f_Case_marks) = true)
    (a_case_fits : PySem.W.nsIn K mainGlobals "case_fits" = some (some (.ref f_case_fits)))
    (l_case_fits : K.lookup f_case_fits = some ⟨oc_case_fits, od_case_fits, .func (PySem.W.fnOf "case_fits" "case_fits" (defArgs s_case_fits) (defBody s_case_fits) (defScope s_case_fits) .none kV_case_fits dc_case_fits pm_case_fits an_case_fits cd_case_fits ct_case_fits), sl_case_fits⟩)
    (c_case_fits : PySem.W.codeIn K cd_case_fits "case_fits" = true)
    (k_case_fits : PySem.W.keepIn K (.ref f_case_fits) = true)
    (a_check_case_beside : PySem.W.nsIn K mainGlobals "check_case_beside" = some (some (.ref f_check_case_beside)))
    (l_check_case_beside : K.lookup f_check_case_beside = some ⟨oc_check_case_beside, od_check_case_beside, .func (PySem.W.fnOf "check_case_beside" "check_case_beside" (defArgs s_check_case_beside) (defBody s_check_case_beside) (defScope s_check_case_beside) .none kV_check_case_beside dc_check_case_beside pm_check_case_beside an_check_case_beside cd_check_case_beside ct_check_case_beside), sl_check_case_beside⟩)
    (c_check_case_beside : PySem.W.codeIn K cd_check_case_beside "check_case_beside" = true)
    (k_check_case_beside : PySem.W.keepIn K (.ref f_check_case_beside) = true)
    (a_Case_names : PySem.W.findIn K (.ref C_Case) "names" = some (some (.ref q_Case_names)))
    (g_Case_names : PySem.W.specialIn K (.ref q_Case_names) "__get__" = some (some (.builtin "property.__get__")))
    (t_Case_names : PySem.W.takesIn K (.ref q_Case_names) = some true)
    (r_Case_names : PySem.W.recIn K q_Case_names "property" = some (.ref f_Case_names :: rest_Case_names))
    (l_Case_names : K.lookup f_Case_names = some ⟨oc_Case_names, od_Case_names, .func (PySem.W.fnOf "names" "Case.names" (defArgs s_Case_names) (defBody s_Case_names) (defScope s_Case_names) .none kV_Case_names dc_Case_names pm_Case_names an_Case_names cd_Case_names ct_Case_names), sl_Case_names⟩)
    (c_Case_names : PySem.W.codeIn K cd_Case_names "Case.names" = true)
    (k_Case_names : PySem.W.keepIn K (.ref f_Case_names) = true)
    (a_row_against : PySem.W.nsIn K mainGlobals "row_against" = some (some (.ref f_row_against)))
    (l_row_against : K.lookup f_row_against = some ⟨oc_row_against, od_row_against, .func (PySem.W.fnOf "row_against" "row_against" (defArgs s_row_against) (defBody s_row_against) (defScope s_row_against) .none kV_row_against dc_row_against pm_row_against an_row_against cd_row_against ct_row_against), sl_row_against⟩)
    (c_row_against : PySem.W.codeIn K cd_row_against "row_against" = true)
    (k_row_against : PySem.W.keepIn K (.ref f_row_against) = true)
    (a_rows_of : PySem.W.nsIn K mainGlobals "rows_of" = some (some (.ref f_rows_of)))
    (l_rows_of : K.lookup f_rows_of = some ⟨oc_rows_of, od_rows_of, .func (PySem.W.fnOf "rows_of" "rows_of" (defArgs s_rows_of) (defBody s_rows_of) (defScope s_rows_of) .none kV_rows_of dc_rows_of pm_rows_of an_rows_of cd_rows_of ct_rows_of), sl_rows_of⟩)
    (c_rows_of : PySem.W.codeIn K cd_rows_of "rows_of" = true)
    (k_rows_of : PySem.W.keepIn K (.ref f_rows_of) = true)
    (a_told_by : PySem.W.nsIn K mainGlobals "told_by" = some (some (.ref f_told_by)))
    (l_told_by : K.lookup f_told_by = some ⟨oc_told_by, od_told_by, .func (PySem.W.fnOf "told_by" "told_by" (defArgs s_told_by) (defBody s_told_by) (defScope s_told_by) .none kV_told_by dc_told_by pm_told_by an_told_by cd_told_by ct_told_by), sl_told_by⟩)
    (c_told_by : PySem.W.codeIn K cd_told_by "told_by" = true)
    (k_told_by : PySem.W.keepIn K (.ref f_told_by) = true)
    (a_barred : PySem.W.nsIn K mainGlobals "barred" = some (some (.ref f_barred)))
    (l_barred : K.lookup f_barred = some ⟨oc_barred, od_barred, .func (PySem.W.fnOf "barred" "barred" (defArgs s_barred) (defBody s_barred) (defScope s_barred) .none kV_barred dc_barred pm_barred an_barred cd_barred ct_barred), sl_barred⟩)
    (c_barred : PySem.W.codeIn K cd_barred "barred" = true)
    (k_barred : PySem.W.keepIn K (.ref f_barred) = true)
    (a_wins : PySem.W.nsIn K mainGlobals "wins" = some (some (.ref f_wins)))
    (l_wins : K.lookup f_wins = some ⟨oc_wins, od_wins, .func (PySem.W.fnOf "wins" "wins" (defArgs s_wins) (defBody s_wins) (defScope s_wins) .none kV_wins dc_wins pm_wins an_wins cd_wins ct_wins), sl_wins⟩)
    (c_wins : PySem.W.codeIn K cd_wins "wins" = true)
    (k_wins : PySem.W.keepIn K (.ref f_wins) = true)
    (a_possible : PySem.W.nsIn K mainGlobals "possible" = some (some (.ref f_possible)))
    (l_possible : K.lookup f_possible = some ⟨oc_possible, od_possible, .func (PySem.W.fnOf "possible" "possible" (defArgs s_possible) (defBody s_possible) (defScope s_possible) .none kV_possible dc_possible pm_possible an_possible cd_possible ct_possible), sl_possible⟩)
    (c_possible : PySem.W.codeIn K cd_possible "possible" = true)
    (k_possible : PySem.W.keepIn K (.ref f_possible) = true)
    (a_sure : PySem.W.nsIn K mainGlobals "sure" = some (some (.ref f_sure)))
    (l_sure : K.lookup f_sure = some ⟨oc_sure, od_sure, .func (PySem.W.fnOf "sure" "sure" (defArgs s_sure) (defBody s_sure) (defScope s_sure) .none kV_sure dc_sure pm_sure an_sure cd_sure ct_sure), sl_sure⟩)
    (c_sure : PySem.W.codeIn K cd_sure "sure" = true)
    (k_sure : PySem.W.keepIn K (.ref f_sure) = true)
    (a__law_cell : PySem.W.nsIn K mainGlobals "_law_cell" = some (some (.ref f__law_cell)))
    (l__law_cell : K.lookup f__law_cell = some ⟨oc__law_cell, od__law_cell, .func (PySem.W.fnOf "_law_cell" "_law_cell" (defArgs s__law_cell) (defBody s__law_cell) (defScope s__law_cell) .none kV__law_cell dc__law_cell pm__law_cell an__law_cell cd__law_cell ct__law_cell), sl__law_cell⟩)
    (c__law_cell : PySem.W.codeIn K cd__law_cell "_law_cell" = true)
    (k__law_cell : PySem.W.keepIn K (.ref f__law_cell) = true)
    (a__law_well : PySem.W.nsIn K mainGlobals "_law_well" = some (some (.ref f__law_well)))
    (l__law_well : K.lookup f__law_well = some ⟨oc__law_well, od__law_well, .func (PySem.W.fnOf "_law_well" "_law_well" (defArgs s__law_well) (defBody s__law_well) (defScope s__law_well) .none kV__law_well dc__law_well pm__law_well an__law_well cd__law_well ct__law_well), sl__law_well⟩)
    (c__law_well : PySem.W.codeIn K cd__law_well "_law_well" = true)
    (k__law_well : PySem.W.keepIn K (.ref f__law_well) = true)
    (a__law_dip : PySem.W.nsIn K mainGlobals "_law_dip" = some (some (.ref f__law_dip)))
    (l__law_dip : K.lookup f__law_dip = some ⟨oc__law_dip, od__law_dip, .func (PySem.W.fnOf "_law_dip" "_law_dip" (defArgs s__law_dip) (defBody s__law_dip) (defScope s__law_dip) .none kV__law_dip dc__law_dip pm__law_dip an__law_dip cd__law_dip ct__law_dip), sl__law_dip⟩)
    (c__law_dip : PySem.W.codeIn K cd__law_dip "_law_dip" = true)
    (k__law_dip : PySem.W.keepIn K (.ref f__law_dip) = true)
    (a__law_pick : PySem.W.nsIn K mainGlobals "_law_pick" = some (some (.ref f__law_pick)))
    (l__law_pick : K.lookup f__law_pick = some ⟨oc__law_pick, od__law_pick, .func (PySem.W.fnOf "_law_pick" "_law_pick" (defArgs s__law_pick) (defBody s__law_pick) (defScope s__law_pick) .none kV__law_pick dc__law_pick pm__law_pick an__law_pick cd__law_pick ct__law_pick), sl__law_pick⟩)
    (c__law_pick : PySem.W.codeIn K cd__law_pick "_law_pick" = true)
    (k__law_pick : PySem.W.keepIn K (.ref f__law_pick) = true)
    (a__law_tags : PySem.W.nsIn K mainGlobals "_law_tags" = some (some (.ref f__law_tags)))
    (l__law_tags : K.lookup f__law_tags = some ⟨oc__law_tags, od__law_tags, .func (PySem.W.fnOf "_law_tags" "_law_tags" (defArgs s__law_tags) (defBody s__law_tags) (defScope s__law_tags) .none kV__law_tags dc__law_tags pm__law_tags an__law_tags cd__law_tags ct__law_tags), sl__law_tags⟩)
    (c__law_tags : PySem.W.codeIn K cd__law_tags "_law_tags" = true)
    (k__law_tags : PySem.W.keepIn K (.ref f__law_tags) = true)
    (a__law_orders : PySem.W.nsIn K mainGlobals "_law_orders" = some (some (.ref f__law_orders)))
    (l__law_orders : K.lookup f__law_orders = some ⟨oc__law_orders, od__law_orders, .func (PySem.W.fnOf "_law_orders" "_law_orders" (defArgs s__law_orders) (defBody s__law_orders) (defScope s__law_orders) .none kV__law_orders dc__law_orders pm__law_orders an__law_orders cd__law_orders ct__law_orders), sl__law_orders⟩)
    (c__law_orders : PySem.W.codeIn K cd__law_orders "_law_orders" = true)
    (k__law_orders : PySem.W.keepIn K (.ref f__law_orders) = true)
    (a__law_holds : PySem.W.nsIn K mainGlobals "_law_holds" = some (some (.ref f__law_holds)))
    (l__law_holds : K.lookup f__law_holds = some ⟨oc__law_holds, od__law_holds, .func (PySem.W.fnOf "_law_holds" "_law_holds" (defArgs s__law_holds) (defBody s__law_holds) (defScope s__law_holds) .none kV__law_holds dc__law_holds pm__law_holds an__law_holds cd__law_holds ct__law_holds), sl__law_holds⟩)
    (c__law_holds : PySem.W.codeIn K cd__law_holds "_law_holds" = true)
    (k__law_holds : PySem.W.keepIn K (.ref f__law_holds) = true)
    (a__law_turned : PySem.W.nsIn K mainGlobals "_law_turned" = some (some (.ref f__law_turned)))
    (l__law_turned : K.lookup f__law_turned = some ⟨oc__law_turned, od__law_turned, .func (PySem.W.fnOf "_law_turned" "_law_turned" (defArgs s__law_turned) (defBody s__law_turned) (defScope s__law_turned) .none kV__law_turned dc__law_turned pm__law_turned an__law_turned cd__law_turned ct__law_turned), sl__law_turned⟩)
    (c__law_turned : PySem.W.codeIn K cd__law_turned "_law_turned" = true)
    (k__law_turned : PySem.W.keepIn K (.ref f__law_turned) = true)
    (a__law_row : PySem.W.nsIn K mainGlobals "_law_row" = some (some (.ref f__law_row)))
    (l__law_row : K.lookup f__law_row = some ⟨oc__law_row, od__law_row, .func (PySem.W.fnOf "_law_row" "_law_row" (defArgs s__law_row) (defBody s__law_row) (defScope s__law_row) .none kV__law_row dc__law_row pm__law_row an__law_row cd__law_row ct__law_row), sl__law_row⟩)
    (c__law_row : PySem.W.codeIn K cd__law_row "_law_row" = true)
    (k__law_row : PySem.W.keepIn K (.ref f__law_row) = true)
    (a__law_rows : PySem.W.nsIn K mainGlobals "_law_rows" = some (some (.ref f__law_rows)))
    (l__law_rows : K.lookup f__law_rows = some ⟨oc__law_rows, od__law_rows, .func (PySem.W.fnOf "_law_rows" "_law_rows" (defArgs s__law_rows) (defBody s__law_rows) (defScope s__law_rows) .none kV__law_rows dc__law_rows pm__law_rows an__law_rows cd__law_rows ct__law_rows), sl__law_rows⟩)
    (c__law_rows : PySem.W.codeIn K cd__law_rows "_law_rows" = true)
    (k__law_rows : PySem.W.keepIn K (.ref f__law_rows) = true)
    (a__law_fits : PySem.W.nsIn K mainGlobals "_law_fits" = some (some (.ref f__law_fits)))
    (l__law_fits : K.lookup f__law_fits = some ⟨oc__law_fits, od__law_fits, .func (PySem.W.fnOf "_law_fits" "_law_fits" (defArgs s__law_fits) (defBody s__law_fits) (defScope s__law_fits) .none kV__law_fits dc__law_fits pm__law_fits an__law_fits cd__law_fits ct__law_fits), sl__law_fits⟩)
    (c__law_fits : PySem.W.codeIn K cd__law_fits "_law_fits" = true)
    (k__law_fits : PySem.W.keepIn K (.ref f__law_fits) = true)
    (a__law_book_page : PySem.W.nsIn K mainGlobals "_law_book_page" = some (some (.ref f__law_book_page)))
    (l__law_book_page : K.lookup f__law_book_page = some ⟨oc__law_book_page, od__law_book_page, .func (PySem.W.fnOf "_law_book_page" "_law_book_page" (defArgs s__law_book_page) (defBody s__law_book_page) (defScope s__law_book_page) .none kV__law_book_page dc__law_book_page pm__law_book_page an__law_book_page cd__law_book_page ct__law_book_page), sl__law_book_page⟩)
    (c__law_book_page : PySem.W.codeIn K cd__law_book_page "_law_book_page" = true)
    (k__law_book_page : PySem.W.keepIn K (.ref f__law_book_page) = true)
    (a__law_folk : PySem.W.nsIn K mainGlobals "_law_folk" = some (some (.ref f__law_folk)))
    (l__law_folk : K.lookup f__law_folk = some ⟨oc__law_folk, od__law_folk, .func (PySem.W.fnOf "_law_folk" "_law_folk" (defArgs s__law_folk) (defBody s__law_folk) (defScope s__law_folk) .none kV__law_folk dc__law_folk pm__law_folk an__law_folk cd__law_folk ct__law_folk), sl__law_folk⟩)
    (c__law_folk : PySem.W.codeIn K cd__law_folk "_law_folk" = true)
    (k__law_folk : PySem.W.keepIn K (.ref f__law_folk) = true)
    (a__law_case_page : PySem.W.nsIn K mainGlobals "_law_case_page" = some (some (.ref f__law_case_page)))
    (l__law_case_page : K.lookup f__law_case_page = some ⟨oc__law_case_page, od__law_case_page, .func (PySem.W.fnOf "_law_case_page" "_law_case_page" (defArgs s__law_case_page) (defBody s__law_case_page) (defScope s__law_case_page) .none kV__law_case_page dc__law_case_page pm__law_case_page an__law_case_page cd__law_case_page ct__law_case_page), sl__law_case_page⟩)
    (c__law_case_page : PySem.W.codeIn K cd__law_case_page "_law_case_page" = true)
    (k__law_case_page : PySem.W.keepIn K (.ref f__law_case_page) = true)
    (a__law_lots : PySem.W.nsIn K mainGlobals "_law_lots" = some (some (.ref f__law_lots)))
    (l__law_lots : K.lookup f__law_lots = some ⟨oc__law_lots, od__law_lots, .func (PySem.W.fnOf "_law_lots" "_law_lots" (defArgs s__law_lots) (defBody s__law_lots) (defScope s__law_lots) .none kV__law_lots dc__law_lots pm__law_lots an__law_lots cd__law_lots ct__law_lots), sl__law_lots⟩)
    (c__law_lots : PySem.W.codeIn K cd__law_lots "_law_lots" = true)
    (k__law_lots : PySem.W.keepIn K (.ref f__law_lots) = true)
    (a_Case___init__ : PySem.W.findIn K (.ref C_Case) "__init__" = some (some (.ref f_Case___init__)))
    (i_Case___init__ : PySem.W.isFn K (.ref f_Case___init__) = true)
    (l_Case___init__ : K.lookup f_Case___init__ = some ⟨oc_Case___init__, od_Case___init__, .func (PySem.W.fnOf "__init__" "Case.__init__" (defArgs s_Case___init__) (defBody s_Case___init__) (defScope s_Case___init__) .none kV_Case___init__ dc_Case___init__ pm_Case___init__ an_Case___init__ cd_Case___init__ ct_Case___init__), sl_Case___init__⟩)
    (c_Case___init__ : PySem.W.codeIn K cd_Case___init__ "Case.__init__" = true)
    (k_Case___init__ : PySem.W.keepIn K (.ref f_Case___init__) = true)
    (a__law_two : PySem.W.nsIn K mainGlobals "_law_two" = some (some (.ref f__law_two)))
    (l__law_two : K.lookup f__law_two = some ⟨oc__law_two, od__law_two, .func (PySem.W.fnOf "_law_two" "_law_two" (defArgs s__law_two) (defBody s__law_two) (defScope s__law_two) .none kV__law_two dc__law_two pm__law_two an__law_two cd__law_two ct__law_two), sl__law_two⟩)
    (c__law_two : PySem.W.codeIn K cd__law_two "_law_two" = true)
    (k__law_two : PySem.W.keepIn K (.ref f__law_two) = true)
    (a__law_reasons_right : PySem.W.nsIn K mainGlobals "_law_reasons_right" = some (some (.ref f__law_reasons_right)))
    (l__law_reasons_right : K.lookup f__law_reasons_right = some ⟨oc__law_reasons_right, od__law_reasons_right, .func (PySem.W.fnOf "_law_reasons_right" "_law_reasons_right" (defArgs s__law_reasons_right) (defBody s__law_reasons_right) (defScope s__law_reasons_right) .none kV__law_reasons_right dc__law_reasons_right pm__law_reasons_right an__law_reasons_right cd__law_reasons_right ct__law_reasons_right), sl__law_reasons_right⟩)
    (c__law_reasons_right : PySem.W.codeIn K cd__law_reasons_right "_law_reasons_right" = true)
    (k__law_reasons_right : PySem.W.keepIn K (.ref f__law_reasons_right) = true)
    (a_Book___init__ : PySem.W.findIn K (.ref C_Book) "__init__" = some (some (.ref f_Book___init__)))
    (i_Book___init__ : PySem.W.isFn K (.ref f_Book___init__) = true)
    (l_Book___init__ : K.lookup f_Book___init__ = some ⟨oc_Book___init__, od_Book___init__, .func (PySem.W.fnOf "__init__" "Book.__init__" (defArgs s_Book___init__) (defBody s_Book___init__) (defScope s_Book___init__) .none kV_Book___init__ dc_Book___init__ pm_Book___init__ an_Book___init__ cd_Book___init__ ct_Book___init__), sl_Book___init__⟩)
    (c_Book___init__ : PySem.W.codeIn K cd_Book___init__ "Book.__init__" = true)
    (k_Book___init__ : PySem.W.keepIn K (.ref f_Book___init__) = true)
    (a__law_right : PySem.W.nsIn K mainGlobals "_law_right" = some (some (.ref f__law_right)))
    (l__law_right : K.lookup f__law_right = some ⟨oc__law_right, od__law_right, .func (PySem.W.fnOf "_law_right" "_law_right" (defArgs s__law_right) (defBody s__law_right) (defScope s__law_right) .none kV__law_right dc__law_right pm__law_right an__law_right cd__law_right ct__law_right), sl__law_right⟩)
    (c__law_right : PySem.W.codeIn K cd__law_right "_law_right" = true)
    (k__law_right : PySem.W.keepIn K (.ref f__law_right) = true)
    (a_law : PySem.W.nsIn K mainGlobals "law" = some (some (.ref f_law)))
    (l_law : K.lookup f_law = some ⟨oc_law, od_law, .func (PySem.W.fnOf "law" "law" (defArgs s_law) (defBody s_law) (defScope s_law) .none kV_law dc_law pm_law an_law cd_law ct_law), sl_law⟩)
    (c_law : PySem.W.codeIn K cd_law "law" = true)
    (k_law : PySem.W.keepIn K (.ref f_law) = true)
    (z_abs : PySem.W.nsIn K mainGlobals "abs" = some none)
    (z_all : PySem.W.nsIn K mainGlobals "all" = some none)
    (z_any : PySem.W.nsIn K mainGlobals "any" = some none)
    (z_bool : PySem.W.nsIn K mainGlobals "bool" = some none)
    (z_divmod : PySem.W.nsIn K mainGlobals "divmod" = some none)
    (z_enumerate : PySem.W.nsIn K mainGlobals "enumerate" = some none)
    (z_int : PySem.W.nsIn K mainGlobals "int" = some none)
    (z_isinstance : PySem.W.nsIn K mainGlobals "isinstance" = some none)
    (z_len : PySem.W.nsIn K mainGlobals "len" = some none)
    (z_list : PySem.W.nsIn K mainGlobals "list" = some none)
    (z_max : PySem.W.nsIn K mainGlobals "max" = some none)
    (z_min : PySem.W.nsIn K mainGlobals "min" = some none)
    (z_range : PySem.W.nsIn K mainGlobals "range" = some none)
    (z_repr : PySem.W.nsIn K mainGlobals "repr" = some none)
    (z_reversed : PySem.W.nsIn K mainGlobals "reversed" = some none)
    (z_sorted : PySem.W.nsIn K mainGlobals "sorted" = some none)
    (z_str : PySem.W.nsIn K mainGlobals "str" = some none)
    (z_sum : PySem.W.nsIn K mainGlobals "sum" = some none)
    (z_tuple : PySem.W.nsIn K mainGlobals "tuple" = some none)
    (z_zip : PySem.W.nsIn K mainGlobals "zip" = some none)
    (v_DIGITS : PySem.W.nsIn K mainGlobals "DIGITS" = some (some (.str "0123456789" t_DIGITS)))
    (v_LEAST_CANDIDATES : PySem.W.nsIn K mainGlobals "LEAST_CANDIDATES" = some (some (.int 2 t_LEAST_CANDIDATES)))
    (v_LETTERS : PySem.W.nsIn K mainGlobals "LETTERS" = some (some (.str "abcdefghijklmnopqrstuvwxyz" t_LETTERS)))
    (v_MOST_CANDIDATES : PySem.W.nsIn K mainGlobals "MOST_CANDIDATES" = some (some (.int 8 t_MOST_CANDIDATES)))
    (v_MOST_LETTERS : PySem.W.nsIn K mainGlobals "MOST_LETTERS" = some (some (.int 8 t_MOST_LETTERS)))
    (v_MOST_MARKS : PySem.W.nsIn K mainGlobals "MOST_MARKS" = some (some (.int 99 t_MOST_MARKS)))
    (v_MOST_ROWS : PySem.W.nsIn K mainGlobals "MOST_ROWS" = some (some (.int 20 t_MOST_ROWS)))
    (v_MOST_RULES : PySem.W.nsIn K mainGlobals "MOST_RULES" = some (some (.int 8 t_MOST_RULES)))
    (v_SIGNS : PySem.W.nsIn K mainGlobals "SIGNS" = some (some (.str "+-." t_SIGNS)))
    (no1 : PySem.W.findIn K (.ref C_Book) "_text" = some none)
    (no2 : PySem.W.findIn K (.ref C_Book) "_names" = some none)
    (no3 : PySem.W.findIn K (.ref C_Book) "_rows" = some none)
    (nq1 : PySem.W.findIn K (.ref C_Case) "_text" = some none)
    (nq2 : PySem.W.findIn K (.ref C_Case) "_names" = some none)
    (nq3 : PySem.W.findIn K (.ref C_Case) "_marks" = some none) :
    EndT l w K mg 10 fa "_law_cells" h (spLaw K) := by
  have e := hfa.symm.trans (PySem.W.mg_of X G a_law)
  cases e
  have o_all_lots := tb "all_lots" f_all_lots lr_all_lots (PySem.W.mg_of X G a_all_lots) lc_all_lots lt_all_lots _ _ _ _ _ _ l_all_lots rfl rfl lk_all_lots lp_all_lots
  letI I : Tabs0 := ⟨fun a => List.lookup a [(lt_all_lots, qn_all_lots f_all_lots lc_all_lots)]⟩
  have ok : TabsOk [(lt_all_lots, qn_all_lots f_all_lots lc_all_lots)] := tabsOk_of (by simp)
  let T : Txt K w mg := {
    C_Book := C_Book,
    m_Book := PySem.W.mg_of X G cm_Book,
    cl_Book := ⟨cpg_Book, chd_Book, cpo_Book, csa_Book⟩,
    C_Case := C_Case,
    m_Case := PySem.W.mg_of X G cm_Case,
    cl_Case := ⟨cpg_Case, chd_Case, cpo_Case, csa_Case⟩,
    f_is_name := f_is_name,
    e_is_name := PySem.W.fnOf "is_name" "is_name" (defArgs s_is_name) (defBody s_is_name) (defScope s_is_name) .none kV_is_name dc_is_name pm_is_name an_is_name cd_is_name ct_is_name,
    F_is_name := fun_mk (st := s_is_name) l_is_name c_is_name k_is_name,
    b_is_name := Fun.binds (ps := ["value"]) (fun_mk (st := s_is_name) l_is_name c_is_name k_is_name) fun _ _ _ _ _ _ us hl => match us, hl with | [_], _ => rfl,
    m_is_name := PySem.W.mg_of X G a_is_name,
    f_are_names := f_are_names,
    e_are_names := PySem.W.fnOf "are_names" "are_names" (defArgs s_are_names) (defBody s_are_names) (defScope s_are_names) .none kV_are_names dc_are_names pm_are_names an_are_names cd_are_names ct_are_names,
    F_are_names := fun_mk (st := s_are_names) l_are_names c_are_names k_are_names,
    b_are_names := Fun.binds (ps := ["values"]) (fun_mk (st := s_are_names) l_are_names c_are_names k_are_names) fun _ _ _ _ _ _ us hl => match us, hl with | [_], _ => rfl,
    m_are_names := PySem.W.mg_of X G a_are_names,
    f_is_number := f_is_number,
    e_is_number := PySem.W.fnOf "is_number" "is_number" (defArgs s_is_number) (defBody s_is_number) (defScope s_is_number) .none kV_is_number dc_is_number pm_is_number an_is_number cd_is_number ct_is_number,
    F_is_number := fun_mk (st := s_is_number) l_is_number c_is_number k_is_number,
    b_is_number := Fun.binds (ps := ["word"]) (fun_mk (st := s_is_number) l_is_number c_is_number k_is_number) fun _ _ _ _ _ _ us hl => match us, hl with | [_], _ => rfl,
    m_is_number := PySem.W.mg_of X G a_is_number,
    f_is_any_row := f_is_any_row,
    e_is_any_row := PySem.W.fnOf "is_any_row" "is_any_row" (defArgs s_is_any_row) (defBody s_is_any_row) (defScope s_is_any_row) .none kV_is_any_row dc_is_any_row pm_is_any_row an_is_any_row cd_is_any_row ct_is_any_row,
    F_is_any_row := fun_mk (st := s_is_any_row) l_is_any_row c_is_any_row k_is_any_row,
    b_is_any_row := Fun.binds (ps := ["value"]) (fun_mk (st := s_is_any_row) l_is_any_row c_is_any_row k_is_any_row) fun _ _ _ _ _ _ us hl => match us, hl with | [_], _ => rfl,
    m_is_any_row := PySem.W.mg_of X G a_is_any_row,
    f_is_row := f_is_row,
    e_is_row := PySem.W.fnOf "is_row" "is_row" (defArgs s_is_row) (defBody s_is_row) (defScope s_is_row) .none kV_is_row dc_is_row pm_is_row an_is_row cd_is_row ct_is_row,
    F_is_row := fun_mk (st := s_is_row) l_is_row c_is_row k_is_row,
    b_is_row := Fun.binds (ps := ["value", "many"]) (fun_mk (st := s_is_row) l_is_row c_is_row k_is_row) fun _ _ _ _ _ _ us hl => match us, hl with | [_, _], _ => rfl,
    m_is_row := PySem.W.mg_of X G a_is_row,
    f_is_whole := f_is_whole,
    e_is_whole := PySem.W.fnOf "is_whole" "is_whole" (defArgs s_is_whole) (defBody s_is_whole) (defScope s_is_whole) .none kV_is_whole dc_is_whole pm_is_whole an_is_whole cd_is_whole ct_is_whole,
    F_is_whole := fun_mk (st := s_is_whole) l_is_whole c_is_whole k_is_whole,
    b_is_whole := Fun.binds (ps := ["value"]) (fun_mk (st := s_is_whole) l_is_whole c_is_whole k_is_whole) fun _ _ _ _ _ _ us hl => match us, hl with | [_], _ => rfl,
    m_is_whole := PySem.W.mg_of X G a_is_whole,
    f_is_index := f_is_index,
    e_is_index := PySem.W.fnOf "is_index" "is_index" (defArgs s_is_index) (defBody s_is_index) (defScope s_is_index) .none kV_is_index dc_is_index pm_is_index an_is_index cd_is_index ct_is_index,
    F_is_index := fun_mk (st := s_is_index) l_is_index c_is_index k_is_index,
    b_is_index := Fun.binds (ps := ["value", "many"]) (fun_mk (st := s_is_index) l_is_index c_is_index k_is_index) fun _ _ _ _ _ _ us hl => match us, hl with | [_, _], _ => rfl,
    m_is_index := PySem.W.mg_of X G a_is_index,
    f_check_row := f_check_row,
    e_check_row := PySem.W.fnOf "check_row" "check_row" (defArgs s_check_row) (defBody s_check_row) (defScope s_check_row) .none kV_check_row dc_check_row pm_check_row an_check_row cd_check_row ct_check_row,
    F_check_row := fun_mk (st := s_check_row) l_check_row c_check_row k_check_row,
    b_check_row := Fun.binds (ps := ["row", "many"]) (fun_mk (st := s_check_row) l_check_row c_check_row k_check_row) fun _ _ _ _ _ _ us hl => match us, hl with | [_, _], _ => rfl,
    m_check_row := PySem.W.mg_of X G a_check_row,
    f_check_rule := f_check_rule,
    e_check_rule := PySem.W.fnOf "check_rule" "check_rule" (defArgs s_check_rule) (defBody s_check_rule) (defScope s_check_rule) .none kV_check_rule dc_check_rule pm_check_rule an_check_rule cd_check_rule ct_check_rule,
    F_check_rule := fun_mk (st := s_check_rule) l_check_rule c_check_rule k_check_rule,
    b_check_rule := Fun.binds (ps := ["rule", "many"]) (fun_mk (st := s_check_rule) l_check_rule c_check_rule k_check_rule) fun _ _ _ _ _ _ us hl => match us, hl with | [_, _], _ => rfl,
    m_check_rule := PySem.W.mg_of X G a_check_rule,
    f_check_known := f_check_known,
    e_check_known := PySem.W.fnOf "check_known" "check_known" (defArgs s_check_known) (defBody s_check_known) (defScope s_check_known) .none kV_check_known dc_check_known pm_check_known an_check_known cd_check_known ct_check_known,
    F_check_known := fun_mk (st := s_check_known) l_check_known c_check_known k_check_known,
    b_check_known := Fun.binds (ps := ["name", "names"]) (fun_mk (st := s_check_known) l_check_known c_check_known k_check_known) fun _ _ _ _ _ _ us hl => match us, hl with | [_, _], _ => rfl,
    m_check_known := PySem.W.mg_of X G a_check_known,
    f_read_book := f_read_book,
    e_read_book := PySem.W.fnOf "read_book" "read_book" (defArgs s_read_book) (defBody s_read_book) (defScope s_read_book) .none kV_read_book dc_read_book pm_read_book an_read_book cd_read_book ct_read_book,
    F_read_book := fun_mk (st := s_read_book) l_read_book c_read_book k_read_book,
    b_read_book := Fun.binds (ps := ["text"]) (fun_mk (st := s_read_book) l_read_book c_read_book k_read_book) fun _ _ _ _ _ _ us hl => match us, hl with | [_], _ => rfl,
    m_read_book := PySem.W.mg_of X G a_read_book,
    f_read_mark := f_read_mark,
    e_read_mark := PySem.W.fnOf "read_mark" "read_mark" (defArgs s_read_mark) (defBody s_read_mark) (defScope s_read_mark) .none kV_read_mark dc_read_mark pm_read_mark an_read_mark cd_read_mark ct_read_mark,
    F_read_mark := fun_mk (st := s_read_mark) l_read_mark c_read_mark k_read_mark,
    b_read_mark := Fun.binds (ps := ["word"]) (fun_mk (st := s_read_mark) l_read_mark c_read_mark k_read_mark) fun _ _ _ _ _ _ us hl => match us, hl with | [_], _ => rfl,
    m_read_mark := PySem.W.mg_of X G a_read_mark,
    f_read_candidates := f_read_candidates,
    e_read_candidates := PySem.W.fnOf "read_candidates" "read_candidates" (defArgs s_read_candidates) (defBody s_read_candidates) (defScope s_read_candidates) .none kV_read_candidates dc_read_candidates pm_read_candidates an_read_candidates cd_read_candidates ct_read_candidates,
    F_read_candidates := fun_mk (st := s_read_candidates) l_read_candidates c_read_candidates k_read_candidates,
    b_read_candidates := Fun.binds (ps := ["text", "read_word"]) (fun_mk (st := s_read_candidates) l_read_candidates c_read_candidates k_read_candidates) fun _ _ _ _ _ _ us hl => match us, hl with | [_, _], _ => rfl,
    m_read_candidates := PySem.W.mg_of X G a_read_candidates,
    f_read_case := f_read_case,
    e_read_case := PySem.W.fnOf "read_case" "read_case" (defArgs s_read_case) (defBody s_read_case) (defScope s_read_case) .none kV_read_case dc_read_case pm_read_case an_read_case cd_read_case ct_read_case,
    F_read_case := fun_mk (st := s_read_case) l_read_case c_read_case k_read_case,
    b_read_case := Fun.binds (ps := ["text"]) (fun_mk (st := s_read_case) l_read_case c_read_case k_read_case) fun _ _ _ _ _ _ us hl => match us, hl with | [_], _ => rfl,
    m_read_case := PySem.W.mg_of X G a_read_case,
    f_sign_of := f_sign_of,
    e_sign_of := PySem.W.fnOf "sign_of" "sign_of" (defArgs s_sign_of) (defBody s_sign_of) (defScope s_sign_of) .none kV_sign_of dc_sign_of pm_sign_of an_sign_of cd_sign_of ct_sign_of,
    F_sign_of := fun_mk (st := s_sign_of) l_sign_of c_sign_of k_sign_of,
    b_sign_of := Fun.binds (ps := ["mark", "rival"]) (fun_mk (st := s_sign_of) l_sign_of c_sign_of k_sign_of) fun _ _ _ _ _ _ us hl => match us, hl with | [_, _], _ => rfl,
    m_sign_of := PySem.W.mg_of X G a_sign_of,
    f_row_between := f_row_between,
    e_row_between := PySem.W.fnOf "row_between" "row_between" (defArgs s_row_between) (defBody s_row_between) (defScope s_row_between) .none kV_row_between dc_row_between pm_row_between an_row_between cd_row_between ct_row_between,
    F_row_between := fun_mk (st := s_row_between) l_row_between c_row_between k_row_between,
    b_row_between := Fun.binds (ps := ["mine", "theirs"]) (fun_mk (st := s_row_between) l_row_between c_row_between k_row_between) fun _ _ _ _ _ _ us hl => match us, hl with | [_, _], _ => rfl,
    m_row_between := PySem.W.mg_of X G a_row_between,
    f_check_book := f_check_book,
    e_check_book := PySem.W.fnOf "check_book" "check_book" (defArgs s_check_book) (defBody s_check_book) (defScope s_check_book) .none kV_check_book dc_check_book pm_check_book an_check_book cd_check_book ct_check_book,
    F_check_book := fun_mk (st := s_check_book) l_check_book c_check_book k_check_book,
    b_check_book := Fun.binds (ps := ["book"]) (fun_mk (st := s_check_book) l_check_book c_check_book k_check_book) fun _ _ _ _ _ _ us hl => match us, hl with | [_], _ => rfl,
    m_check_book := PySem.W.mg_of X G a_check_book,
    f_head_of := f_head_of,
    e_head_of := PySem.W.fnOf "head_of" "head_of" (defArgs s_head_of) (defBody s_head_of) (defScope s_head_of) .none kV_head_of dc_head_of pm_head_of an_head_of cd_head_of ct_head_of,
    F_head_of := fun_mk (st := s_head_of) l_head_of c_head_of k_head_of,
    b_head_of := Fun.binds (ps := ["rules"]) (fun_mk (st := s_head_of) l_head_of c_head_of k_head_of) fun _ _ _ _ _ _ us hl => match us, hl with | [_], _ => rfl,
    m_head_of := PySem.W.mg_of X G a_head_of,
    f_rules_of := f_rules_of,
    e_rules_of := PySem.W.fnOf "rules_of" "rules_of" (defArgs s_rules_of) (defBody s_rules_of) (defScope s_rules_of) .none kV_rules_of dc_rules_of pm_rules_of an_rules_of cd_rules_of ct_rules_of,
    F_rules_of := fun_mk (st := s_rules_of) l_rules_of c_rules_of k_rules_of,
    b_rules_of := Fun.binds (ps := ["head", "many"]) (fun_mk (st := s_rules_of) l_rules_of c_rules_of k_rules_of) fun _ _ _ _ _ _ us hl => match us, hl with | [_, _], _ => rfl,
    m_rules_of := PySem.W.mg_of X G a_rules_of,
    f_sides := f_sides,
    e_sides := PySem.W.fnOf "sides" "sides" (defArgs s_sides) (defBody s_sides) (defScope s_sides) .none kV_sides dc_sides pm_sides an_sides cd_sides ct_sides,
    F_sides := fun_mk (st := s_sides) l_sides c_sides k_sides,
    b_sides := Fun.binds (ps := ["row"]) (fun_mk (st := s_sides) l_sides c_sides k_sides) fun _ _ _ _ _ _ us hl => match us, hl with | [_], _ => rfl,
    m_sides := PySem.W.mg_of X G a_sides,
    f_rules_behind := f_rules_behind,
    e_rules_behind := PySem.W.fnOf "rules_behind" "rules_behind" (defArgs s_rules_behind) (defBody s_rules_behind) (defScope s_rules_behind) .none kV_rules_behind dc_rules_behind pm_rules_behind an_rules_behind cd_rules_behind ct_rules_behind,
    F_rules_behind := fun_mk (st := s_rules_behind) l_rules_behind c_rules_behind k_rules_behind,
    b_rules_behind := Fun.binds (ps := ["head", "told", "many"]) (fun_mk (st := s_rules_behind) l_rules_behind c_rules_behind k_rules_behind) fun _ _ _ _ _ _ us hl => match us, hl with | [_, _, _], _ => rfl,
    m_rules_behind := PySem.W.mg_of X G a_rules_behind,
    f_steps := f_steps,
    e_steps := PySem.W.fnOf "steps" "steps" (defArgs s_steps) (defBody s_steps) (defScope s_steps) .none kV_steps dc_steps pm_steps an_steps cd_steps ct_steps,
    F_steps := fun_mk (st := s_steps) l_steps c_steps k_steps,
    b_steps := Fun.binds (ps := ["rows", "many"]) (fun_mk (st := s_steps) l_steps c_steps k_steps) fun _ _ _ _ _ _ us hl => match us, hl with | [_, _], _ => rfl,
    m_steps := PySem.W.mg_of X G a_steps,
    f_openings := f_openings,
    e_openings := PySem.W.fnOf "openings" "openings" (defArgs s_openings) (defBody s_openings) (defScope s_openings) .none kV_openings dc_openings pm_openings an_openings cd_openings ct_openings,
    F_openings := fun_mk (st := s_openings) l_openings c_openings k_openings,
    b_openings := Fun.binds (ps := ["behind"]) (fun_mk (st := s_openings) l_openings c_openings k_openings) fun _ _ _ _ _ _ us hl => match us, hl with | [_], _ => rfl,
    m_openings := PySem.W.mg_of X G a_openings,
    f_endings := f_endings,
    e_endings := PySem.W.fnOf "endings" "endings" (defArgs s_endings) (defBody s_endings) (defScope s_endings) .none kV_endings dc_endings pm_endings an_endings cd_endings ct_endings,
    F_endings := fun_mk (st := s_endings) l_endings c_endings k_endings,
    b_endings := Fun.binds (ps := ["behind"]) (fun_mk (st := s_endings) l_endings c_endings k_endings) fun _ _ _ _ _ _ us hl => match us, hl with | [_], _ => rfl,
    m_endings := PySem.W.mg_of X G a_endings,
    f_count_fitting := f_count_fitting,
    e_count_fitting := PySem.W.fnOf "count_fitting" "count_fitting" (defArgs s_count_fitting) (defBody s_count_fitting) (defScope s_count_fitting) .none kV_count_fitting dc_count_fitting pm_count_fitting an_count_fitting cd_count_fitting ct_count_fitting,
    F_count_fitting := fun_mk (st := s_count_fitting) l_count_fitting c_count_fitting k_count_fitting,
    b_count_fitting := Fun.binds (ps := ["rows", "many"]) (fun_mk (st := s_count_fitting) l_count_fitting c_count_fitting k_count_fitting) fun _ _ _ _ _ _ us hl => match us, hl with | [_, _], _ => rfl,
    m_count_fitting := PySem.W.mg_of X G a_count_fitting,
    f_heads_above := f_heads_above,
    e_heads_above := PySem.W.fnOf "heads_above" "heads_above" (defArgs s_heads_above) (defBody s_heads_above) (defScope s_heads_above) .none kV_heads_above dc_heads_above pm_heads_above an_heads_above cd_heads_above ct_heads_above,
    F_heads_above := fun_mk (st := s_heads_above) l_heads_above c_heads_above k_heads_above,
    b_heads_above := Fun.binds (ps := ["rows", "many"]) (fun_mk (st := s_heads_above) l_heads_above c_heads_above k_heads_above) fun _ _ _ _ _ _ us hl => match us, hl with | [_, _], _ => rfl,
    m_heads_above := PySem.W.mg_of X G a_heads_above,
    f_has_sign := f_has_sign,
    e_has_sign := PySem.W.fnOf "has_sign" "has_sign" (defArgs s_has_sign) (defBody s_has_sign) (defScope s_has_sign) .none kV_has_sign dc_has_sign pm_has_sign an_has_sign cd_has_sign ct_has_sign,
    F_has_sign := fun_mk (st := s_has_sign) l_has_sign c_has_sign k_has_sign,
    b_has_sign := Fun.binds (ps := ["row", "rules", "sign"]) (fun_mk (st := s_has_sign) l_has_sign c_has_sign k_has_sign) fun _ _ _ _ _ _ us hl => match us, hl with | [_, _, _], _ => rfl,
    m_has_sign := PySem.W.mg_of X G a_has_sign,
    f_split := f_split,
    e_split := PySem.W.fnOf "split" "split" (defArgs s_split) (defBody s_split) (defScope s_split) .none kV_split dc_split pm_split an_split cd_split ct_split,
    F_split := fun_mk (st := s_split) l_split c_split k_split,
    b_split := Fun.binds (ps := ["rows", "many"]) (fun_mk (st := s_split) l_split c_split k_split) fun _ _ _ _ _ _ us hl => match us, hl with | [_, _], _ => rfl,
    m_split := PySem.W.mg_of X G a_split,
    f_some_fits := f_some_fits,
    e_some_fits := PySem.W.fnOf "some_fits" "some_fits" (defArgs s_some_fits) (defBody s_some_fits) (defScope s_some_fits) .none kV_some_fits dc_some_fits pm_some_fits an_some_fits cd_some_fits ct_some_fits,
    F_some_fits := fun_mk (st := s_some_fits) l_some_fits c_some_fits k_some_fits,
    b_some_fits := Fun.binds (ps := ["rows", "many"]) (fun_mk (st := s_some_fits) l_some_fits c_some_fits k_some_fits) fun _ _ _ _ _ _ us hl => match us, hl with | [_, _], _ => rfl,
    m_some_fits := PySem.W.mg_of X G a_some_fits,
    f_Book_rows := f_Book_rows,
    e_Book_rows := PySem.W.fnOf "rows" "Book.rows" (defArgs s_Book_rows) (defBody s_Book_rows) (defScope s_Book_rows) .none kV_Book_rows dc_Book_rows pm_Book_rows an_Book_rows cd_Book_rows ct_Book_rows,
    F_Book_rows := fun_mk (st := s_Book_rows) l_Book_rows c_Book_rows k_Book_rows,
    b_Book_rows := Fun.binds (ps := ["self"]) (fun_mk (st := s_Book_rows) l_Book_rows c_Book_rows k_Book_rows) fun _ _ _ _ _ _ us hl => match us, hl with | [_], _ => rfl,
    q_Book_rows := q_Book_rows,
    p_Book_rows := ⟨a_Book_rows, g_Book_rows, t_Book_rows, ⟨_, r_Book_rows⟩⟩,
    f_Book_names := f_Book_names,
    e_Book_names := PySem.W.fnOf "names" "Book.names" (defArgs s_Book_names) (defBody s_Book_names) (defScope s_Book_names) .none kV_Book_names dc_Book_names pm_Book_names an_Book_names cd_Book_names ct_Book_names,
    F_Book_names := fun_mk (st := s_Book_names) l_Book_names c_Book_names k_Book_names,
    b_Book_names := Fun.binds (ps := ["self"]) (fun_mk (st := s_Book_names) l_Book_names c_Book_names k_Book_names) fun _ _ _ _ _ _ us hl => match us, hl with | [_], _ => rfl,
    q_Book_names := q_Book_names,
    p_Book_names := ⟨a_Book_names, g_Book_names, t_Book_names, ⟨_, r_Book_names⟩⟩,
    f_check_some_fits := f_check_some_fits,
    e_check_some_fits := PySem.W.fnOf "check_some_fits" "check_some_fits" (defArgs s_check_some_fits) (defBody s_check_some_fits) (defScope s_check_some_fits) .none kV_check_some_fits dc_check_some_fits pm_check_some_fits an_check_some_fits cd_check_some_fits ct_check_some_fits,
    F_check_some_fits := fun_mk (st := s_check_some_fits) l_check_some_fits c_check_some_fits k_check_some_fits,
    b_check_some_fits := Fun.binds (ps := ["book"]) (fun_mk (st := s_check_some_fits) l_check_some_fits c_check_some_fits k_check_some_fits) fun _ _ _ _ _ _ us hl => match us, hl with | [_], _ => rfl,
    m_check_some_fits := PySem.W.mg_of X G a_check_some_fits,
    f_layers := f_layers,
    e_layers := PySem.W.fnOf "layers" "layers" (defArgs s_layers) (defBody s_layers) (defScope s_layers) .none kV_layers dc_layers pm_layers an_layers cd_layers ct_layers,
    F_layers := fun_mk (st := s_layers) l_layers c_layers k_layers,
    b_layers := Fun.binds (ps := ["book"]) (fun_mk (st := s_layers) l_layers c_layers k_layers) fun _ _ _ _ _ _ us hl => match us, hl with | [_], _ => rfl,
    m_layers := PySem.W.mg_of X G a_layers,
    f_all_lots := f_all_lots,
    e_all_lots := PySem.W.fnOf "all_lots" "all_lots" (defArgs s_all_lots) (defBody s_all_lots) (defScope s_all_lots) .none kV_all_lots dc_all_lots pm_all_lots an_all_lots (.ref lc_all_lots) ct_all_lots,
    F_all_lots := fun_mk (st := s_all_lots) l_all_lots c_all_lots k_all_lots,
    b_all_lots := Fun.binds (ps := ["many"]) (fun_mk (st := s_all_lots) l_all_lots c_all_lots k_all_lots) fun _ _ _ _ _ _ us hl => match us, hl with | [_], _ => rfl,
    lc_all_lots := lc_all_lots,
    lt_all_lots := lt_all_lots,
    FC_all_lots := ⟨_, _, _, _, _, _, _, _, rfl, l_all_lots, c_all_lots⟩,
    m_all_lots := PySem.W.mg_of X G a_all_lots,
    f_has_part := f_has_part,
    e_has_part := PySem.W.fnOf "has_part" "has_part" (defArgs s_has_part) (defBody s_has_part) (defScope s_has_part) .none kV_has_part dc_has_part pm_has_part an_has_part cd_has_part ct_has_part,
    F_has_part := fun_mk (st := s_has_part) l_has_part c_has_part k_has_part,
    b_has_part := Fun.binds (ps := ["lot", "others"]) (fun_mk (st := s_has_part) l_has_part c_has_part k_has_part) fun _ _ _ _ _ _ us hl => match us, hl with | [_, _], _ => rfl,
    m_has_part := PySem.W.mg_of X G a_has_part,
    f_judge := f_judge,
    e_judge := PySem.W.fnOf "judge" "judge" (defArgs s_judge) (defBody s_judge) (defScope s_judge) .none kV_judge dc_judge pm_judge an_judge cd_judge ct_judge,
    F_judge := fun_mk (st := s_judge) l_judge c_judge k_judge,
    b_judge := Fun.binds (ps := ["book", "row"]) (fun_mk (st := s_judge) l_judge c_judge k_judge) fun _ _ _ _ _ _ us hl => match us, hl with | [_, _], _ => rfl,
    m_judge := PySem.W.mg_of X G a_judge,
    f_meets_all := f_meets_all,
    e_meets_all := PySem.W.fnOf "meets_all" "meets_all" (defArgs s_meets_all) (defBody s_meets_all) (defScope s_meets_all) .none kV_meets_all dc_meets_all pm_meets_all an_meets_all cd_meets_all ct_meets_all,
    F_meets_all := fun_mk (st := s_meets_all) l_meets_all c_meets_all k_meets_all,
    b_meets_all := Fun.binds (ps := ["lot", "heads"]) (fun_mk (st := s_meets_all) l_meets_all c_meets_all k_meets_all) fun _ _ _ _ _ _ us hl => match us, hl with | [_, _], _ => rfl,
    m_meets_all := PySem.W.mg_of X G a_meets_all,
    f_least_lots := f_least_lots,
    e_least_lots := PySem.W.fnOf "least_lots" "least_lots" (defArgs s_least_lots) (defBody s_least_lots) (defScope s_least_lots) .none kV_least_lots dc_least_lots pm_least_lots an_least_lots cd_least_lots ct_least_lots,
    F_least_lots := fun_mk (st := s_least_lots) l_least_lots c_least_lots k_least_lots,
    b_least_lots := Fun.binds (ps := ["heads", "many"]) (fun_mk (st := s_least_lots) l_least_lots c_least_lots k_least_lots) fun _ _ _ _ _ _ us hl => match us, hl with | [_, _], _ => rfl,
    m_least_lots := PySem.W.mg_of X G a_least_lots,
    f_reasons := f_reasons,
    e_reasons := PySem.W.fnOf "reasons" "reasons" (defArgs s_reasons) (defBody s_reasons) (defScope s_reasons) .none kV_reasons dc_reasons pm_reasons an_reasons cd_reasons ct_reasons,
    F_reasons := fun_mk (st := s_reasons) l_reasons c_reasons k_reasons,
    b_reasons := Fun.binds (ps := ["book", "rule"]) (fun_mk (st := s_reasons) l_reasons c_reasons k_reasons) fun _ _ _ _ _ _ us hl => match us, hl with | [_, _], _ => rfl,
    m_reasons := PySem.W.mg_of X G a_reasons,
    f_check_case := f_check_case,
    e_check_case := PySem.W.fnOf "check_case" "check_case" (defArgs s_check_case) (defBody s_check_case) (defScope s_check_case) .none kV_check_case dc_check_case pm_check_case an_check_case cd_check_case ct_check_case,
    F_check_case := fun_mk (st := s_check_case) l_check_case c_check_case k_check_case,
    b_check_case := Fun.binds (ps := ["case"]) (fun_mk (st := s_check_case) l_check_case c_check_case k_check_case) fun _ _ _ _ _ _ us hl => match us, hl with | [_], _ => rfl,
    m_check_case := PySem.W.mg_of X G a_check_case,
    f_Case_marks := f_Case_marks,
    e_Case_marks := PySem.W.fnOf "marks" "Case.marks" (defArgs s_Case_marks) (defBody s_Case_marks) (defScope s_Case_marks) .none kV_Case_marks dc_Case_marks pm_Case_marks an_Case_marks cd_Case_marks ct_Case_marks,
    F_Case_marks := fun_mk (st := s_Case_marks) l_Case_marks c_Case_marks k_Case_marks,
    b_Case_marks := Fun.binds (ps := ["self"]) (fun_mk (st := s_Case_marks) l_Case_marks c_Case_marks k_Case_marks) fun _ _ _ _ _ _ us hl => match us, hl with | [_], _ => rfl,
    q_Case_marks := q_Case_marks,
    p_Case_marks := ⟨a_Case_marks, g_Case_marks, t_Case_marks, ⟨_, r_Case_marks⟩⟩,
    f_case_fits := f_case_fits,
    e_case_fits := PySem.W.fnOf "case_fits" "case_fits" (defArgs s_case_fits) (defBody s_case_fits) (defScope s_case_fits) .none kV_case_fits dc_case_fits pm_case_fits an_case_fits cd_case_fits ct_case_fits,
    F_case_fits := fun_mk (st := s_case_fits) l_case_fits c_case_fits k_case_fits,
    b_case_fits := Fun.binds (ps := ["case", "book"]) (fun_mk (st := s_case_fits) l_case_fits c_case_fits k_case_fits) fun _ _ _ _ _ _ us hl => match us, hl with | [_, _], _ => rfl,
    m_case_fits := PySem.W.mg_of X G a_case_fits,
    f_check_case_beside := f_check_case_beside,
    e_check_case_beside := PySem.W.fnOf "check_case_beside" "check_case_beside" (defArgs s_check_case_beside) (defBody s_check_case_beside) (defScope s_check_case_beside) .none kV_check_case_beside dc_check_case_beside pm_check_case_beside an_check_case_beside cd_check_case_beside ct_check_case_beside,
    F_check_case_beside := fun_mk (st := s_check_case_beside) l_check_case_beside c_check_case_beside k_check_case_beside,
    b_check_case_beside := Fun.binds (ps := ["book", "case"]) (fun_mk (st := s_check_case_beside) l_check_case_beside c_check_case_beside k_check_case_beside) fun _ _ _ _ _ _ us hl => match us, hl with | [_, _], _ => rfl,
    m_check_case_beside := PySem.W.mg_of X G a_check_case_beside,
    f_Case_names := f_Case_names,
    e_Case_names := PySem.W.fnOf "names" "Case.names" (defArgs s_Case_names) (defBody s_Case_names) (defScope s_Case_names) .none kV_Case_names dc_Case_names pm_Case_names an_Case_names cd_Case_names ct_Case_names,
    F_Case_names := fun_mk (st := s_Case_names) l_Case_names c_Case_names k_Case_names,
    b_Case_names := Fun.binds (ps := ["self"]) (fun_mk (st := s_Case_names) l_Case_names c_Case_names k_Case_names) fun _ _ _ _ _ _ us hl => match us, hl with | [_], _ => rfl,
    q_Case_names := q_Case_names,
    p_Case_names := ⟨a_Case_names, g_Case_names, t_Case_names, ⟨_, r_Case_names⟩⟩,
    f_row_against := f_row_against,
    e_row_against := PySem.W.fnOf "row_against" "row_against" (defArgs s_row_against) (defBody s_row_against) (defScope s_row_against) .none kV_row_against dc_row_against pm_row_against an_row_against cd_row_against ct_row_against,
    F_row_against := fun_mk (st := s_row_against) l_row_against c_row_against k_row_against,
    b_row_against := Fun.binds (ps := ["case", "one", "other"]) (fun_mk (st := s_row_against) l_row_against c_row_against k_row_against) fun _ _ _ _ _ _ us hl => match us, hl with | [_, _, _], _ => rfl,
    m_row_against := PySem.W.mg_of X G a_row_against,
    f_rows_of := f_rows_of,
    e_rows_of := PySem.W.fnOf "rows_of" "rows_of" (defArgs s_rows_of) (defBody s_rows_of) (defScope s_rows_of) .none kV_rows_of dc_rows_of pm_rows_of an_rows_of cd_rows_of ct_rows_of,
    F_rows_of := fun_mk (st := s_rows_of) l_rows_of c_rows_of k_rows_of,
    b_rows_of := Fun.binds (ps := ["case", "one"]) (fun_mk (st := s_rows_of) l_rows_of c_rows_of k_rows_of) fun _ _ _ _ _ _ us hl => match us, hl with | [_, _], _ => rfl,
    m_rows_of := PySem.W.mg_of X G a_rows_of,
    f_told_by := f_told_by,
    e_told_by := PySem.W.fnOf "told_by" "told_by" (defArgs s_told_by) (defBody s_told_by) (defScope s_told_by) .none kV_told_by dc_told_by pm_told_by an_told_by cd_told_by ct_told_by,
    F_told_by := fun_mk (st := s_told_by) l_told_by c_told_by k_told_by,
    b_told_by := Fun.binds (ps := ["case", "one"]) (fun_mk (st := s_told_by) l_told_by c_told_by k_told_by) fun _ _ _ _ _ _ us hl => match us, hl with | [_, _], _ => rfl,
    m_told_by := PySem.W.mg_of X G a_told_by,
    f_barred := f_barred,
    e_barred := PySem.W.fnOf "barred" "barred" (defArgs s_barred) (defBody s_barred) (defScope s_barred) .none kV_barred dc_barred pm_barred an_barred cd_barred ct_barred,
    F_barred := fun_mk (st := s_barred) l_barred c_barred k_barred,
    b_barred := Fun.binds (ps := ["case"]) (fun_mk (st := s_barred) l_barred c_barred k_barred) fun _ _ _ _ _ _ us hl => match us, hl with | [_], _ => rfl,
    m_barred := PySem.W.mg_of X G a_barred,
    f_wins := f_wins,
    e_wins := PySem.W.fnOf "wins" "wins" (defArgs s_wins) (defBody s_wins) (defScope s_wins) .none kV_wins dc_wins pm_wins an_wins cd_wins ct_wins,
    F_wins := fun_mk (st := s_wins) l_wins c_wins k_wins,
    b_wins := Fun.binds (ps := ["book", "case", "name"]) (fun_mk (st := s_wins) l_wins c_wins k_wins) fun _ _ _ _ _ _ us hl => match us, hl with | [_, _, _], _ => rfl,
    m_wins := PySem.W.mg_of X G a_wins,
    f_possible := f_possible,
    e_possible := PySem.W.fnOf "possible" "possible" (defArgs s_possible) (defBody s_possible) (defScope s_possible) .none kV_possible dc_possible pm_possible an_possible cd_possible ct_possible,
    F_possible := fun_mk (st := s_possible) l_possible c_possible k_possible,
    b_possible := Fun.binds (ps := ["book", "case"]) (fun_mk (st := s_possible) l_possible c_possible k_possible) fun _ _ _ _ _ _ us hl => match us, hl with | [_, _], _ => rfl,
    m_possible := PySem.W.mg_of X G a_possible,
    f_sure := f_sure,
    e_sure := PySem.W.fnOf "sure" "sure" (defArgs s_sure) (defBody s_sure) (defScope s_sure) .none kV_sure dc_sure pm_sure an_sure cd_sure ct_sure,
    F_sure := fun_mk (st := s_sure) l_sure c_sure k_sure,
    b_sure := Fun.binds (ps := ["book", "case"]) (fun_mk (st := s_sure) l_sure c_sure k_sure) fun _ _ _ _ _ _ us hl => match us, hl with | [_, _], _ => rfl,
    m_sure := PySem.W.mg_of X G a_sure,
    f__law_cell := f__law_cell,
    e__law_cell := PySem.W.fnOf "_law_cell" "_law_cell" (defArgs s__law_cell) (defBody s__law_cell) (defScope s__law_cell) .none kV__law_cell dc__law_cell pm__law_cell an__law_cell cd__law_cell ct__law_cell,
    F__law_cell := fun_mk (st := s__law_cell) l__law_cell c__law_cell k__law_cell,
    b__law_cell := Fun.binds (ps := ["_law_cells", "_law_k"]) (fun_mk (st := s__law_cell) l__law_cell c__law_cell k__law_cell) fun _ _ _ _ _ _ us hl => match us, hl with | [_, _], _ => rfl,
    m__law_cell := PySem.W.mg_of X G a__law_cell,
    f__law_well := f__law_well,
    e__law_well := PySem.W.fnOf "_law_well" "_law_well" (defArgs s__law_well) (defBody s__law_well) (defScope s__law_well) .none kV__law_well dc__law_well pm__law_well an__law_well cd__law_well ct__law_well,
    F__law_well := fun_mk (st := s__law_well) l__law_well c__law_well k__law_well,
    b__law_well := Fun.binds (ps := ["_law_cell_here"]) (fun_mk (st := s__law_well) l__law_well c__law_well k__law_well) fun _ _ _ _ _ _ us hl => match us, hl with | [_], _ => rfl,
    m__law_well := PySem.W.mg_of X G a__law_well,
    f__law_dip := f__law_dip,
    e__law_dip := PySem.W.fnOf "_law_dip" "_law_dip" (defArgs s__law_dip) (defBody s__law_dip) (defScope s__law_dip) .none kV__law_dip dc__law_dip pm__law_dip an__law_dip cd__law_dip ct__law_dip,
    F__law_dip := fun_mk (st := s__law_dip) l__law_dip c__law_dip k__law_dip,
    b__law_dip := Fun.binds (ps := ["_law_jar", "_law_many"]) (fun_mk (st := s__law_dip) l__law_dip c__law_dip k__law_dip) fun _ _ _ _ _ _ us hl => match us, hl with | [_, _], _ => rfl,
    m__law_dip := PySem.W.mg_of X G a__law_dip,
    f__law_pick := f__law_pick,
    e__law_pick := PySem.W.fnOf "_law_pick" "_law_pick" (defArgs s__law_pick) (defBody s__law_pick) (defScope s__law_pick) .none kV__law_pick dc__law_pick pm__law_pick an__law_pick cd__law_pick ct__law_pick,
    F__law_pick := fun_mk (st := s__law_pick) l__law_pick c__law_pick k__law_pick,
    b__law_pick := Fun.binds (ps := ["_law_jar", "_law_things"]) (fun_mk (st := s__law_pick) l__law_pick c__law_pick k__law_pick) fun _ _ _ _ _ _ us hl => match us, hl with | [_, _], _ => rfl,
    m__law_pick := PySem.W.mg_of X G a__law_pick,
    f__law_tags := f__law_tags,
    e__law_tags := PySem.W.fnOf "_law_tags" "_law_tags" (defArgs s__law_tags) (defBody s__law_tags) (defScope s__law_tags) .none kV__law_tags dc__law_tags pm__law_tags an__law_tags cd__law_tags ct__law_tags,
    F__law_tags := fun_mk (st := s__law_tags) l__law_tags c__law_tags k__law_tags,
    b__law_tags := Fun.binds (ps := ["_law_jar", "_law_many"]) (fun_mk (st := s__law_tags) l__law_tags c__law_tags k__law_tags) fun _ _ _ _ _ _ us hl => match us, hl with | [_, _], _ => rfl,
    m__law_tags := PySem.W.mg_of X G a__law_tags,
    f__law_orders := f__law_orders,
    e__law_orders := PySem.W.fnOf "_law_orders" "_law_orders" (defArgs s__law_orders) (defBody s__law_orders) (defScope s__law_orders) .none kV__law_orders dc__law_orders pm__law_orders an__law_orders cd__law_orders ct__law_orders,
    F__law_orders := fun_mk (st := s__law_orders) l__law_orders c__law_orders k__law_orders,
    b__law_orders := Fun.binds (ps := ["_law_many"]) (fun_mk (st := s__law_orders) l__law_orders c__law_orders k__law_orders) fun _ _ _ _ _ _ us hl => match us, hl with | [_], _ => rfl,
    m__law_orders := PySem.W.mg_of X G a__law_orders,
    f__law_holds := f__law_holds,
    e__law_holds := PySem.W.fnOf "_law_holds" "_law_holds" (defArgs s__law_holds) (defBody s__law_holds) (defScope s__law_holds) .none kV__law_holds dc__law_holds pm__law_holds an__law_holds cd__law_holds ct__law_holds,
    F__law_holds := fun_mk (st := s__law_holds) l__law_holds c__law_holds k__law_holds,
    b__law_holds := Fun.binds (ps := ["_law_row_here", "_law_order"]) (fun_mk (st := s__law_holds) l__law_holds c__law_holds k__law_holds) fun _ _ _ _ _ _ us hl => match us, hl with | [_, _], _ => rfl,
    m__law_holds := PySem.W.mg_of X G a__law_holds,
    f__law_turned := f__law_turned,
    e__law_turned := PySem.W.fnOf "_law_turned" "_law_turned" (defArgs s__law_turned) (defBody s__law_turned) (defScope s__law_turned) .none kV__law_turned dc__law_turned pm__law_turned an__law_turned cd__law_turned ct__law_turned,
    F__law_turned := fun_mk (st := s__law_turned) l__law_turned c__law_turned k__law_turned,
    b__law_turned := Fun.binds (ps := ["_law_row_here"]) (fun_mk (st := s__law_turned) l__law_turned c__law_turned k__law_turned) fun _ _ _ _ _ _ us hl => match us, hl with | [_], _ => rfl,
    m__law_turned := PySem.W.mg_of X G a__law_turned,
    f__law_row := f__law_row,
    e__law_row := PySem.W.fnOf "_law_row" "_law_row" (defArgs s__law_row) (defBody s__law_row) (defScope s__law_row) .none kV__law_row dc__law_row pm__law_row an__law_row cd__law_row ct__law_row,
    F__law_row := fun_mk (st := s__law_row) l__law_row c__law_row k__law_row,
    b__law_row := Fun.binds (ps := ["_law_jar", "_law_many"]) (fun_mk (st := s__law_row) l__law_row c__law_row k__law_row) fun _ _ _ _ _ _ us hl => match us, hl with | [_, _], _ => rfl,
    m__law_row := PySem.W.mg_of X G a__law_row,
    f__law_rows := f__law_rows,
    e__law_rows := PySem.W.fnOf "_law_rows" "_law_rows" (defArgs s__law_rows) (defBody s__law_rows) (defScope s__law_rows) .none kV__law_rows dc__law_rows pm__law_rows an__law_rows cd__law_rows ct__law_rows,
    F__law_rows := fun_mk (st := s__law_rows) l__law_rows c__law_rows k__law_rows,
    b__law_rows := Fun.binds (ps := ["_law_jar", "_law_many", "_law_most"]) (fun_mk (st := s__law_rows) l__law_rows c__law_rows k__law_rows) fun _ _ _ _ _ _ us hl => match us, hl with | [_, _, _], _ => rfl,
    m__law_rows := PySem.W.mg_of X G a__law_rows,
    f__law_fits := f__law_fits,
    e__law_fits := PySem.W.fnOf "_law_fits" "_law_fits" (defArgs s__law_fits) (defBody s__law_fits) (defScope s__law_fits) .none kV__law_fits dc__law_fits pm__law_fits an__law_fits cd__law_fits ct__law_fits,
    F__law_fits := fun_mk (st := s__law_fits) l__law_fits c__law_fits k__law_fits,
    b__law_fits := Fun.binds (ps := ["_law_rows_here", "_law_many"]) (fun_mk (st := s__law_fits) l__law_fits c__law_fits k__law_fits) fun _ _ _ _ _ _ us hl => match us, hl with | [_, _], _ => rfl,
    m__law_fits := PySem.W.mg_of X G a__law_fits,
    f__law_book_page := f__law_book_page,
    e__law_book_page := PySem.W.fnOf "_law_book_page" "_law_book_page" (defArgs s__law_book_page) (defBody s__law_book_page) (defScope s__law_book_page) .none kV__law_book_page dc__law_book_page pm__law_book_page an__law_book_page cd__law_book_page ct__law_book_page,
    F__law_book_page := fun_mk (st := s__law_book_page) l__law_book_page c__law_book_page k__law_book_page,
    b__law_book_page := Fun.binds (ps := ["_law_tags_here", "_law_rows_here"]) (fun_mk (st := s__law_book_page) l__law_book_page c__law_book_page k__law_book_page) fun _ _ _ _ _ _ us hl => match us, hl with | [_, _], _ => rfl,
    m__law_book_page := PySem.W.mg_of X G a__law_book_page,
    f__law_folk := f__law_folk,
    e__law_folk := PySem.W.fnOf "_law_folk" "_law_folk" (defArgs s__law_folk) (defBody s__law_folk) (defScope s__law_folk) .none kV__law_folk dc__law_folk pm__law_folk an__law_folk cd__law_folk ct__law_folk,
    F__law_folk := fun_mk (st := s__law_folk) l__law_folk c__law_folk k__law_folk,
    b__law_folk := Fun.binds (ps := ["_law_jar", "_law_many", "_law_least", "_law_most"]) (fun_mk (st := s__law_folk) l__law_folk c__law_folk k__law_folk) fun _ _ _ _ _ _ us hl => match us, hl with | [_, _, _, _], _ => rfl,
    m__law_folk := PySem.W.mg_of X G a__law_folk,
    f__law_case_page := f__law_case_page,
    e__law_case_page := PySem.W.fnOf "_law_case_page" "_law_case_page" (defArgs s__law_case_page) (defBody s__law_case_page) (defScope s__law_case_page) .none kV__law_case_page dc__law_case_page pm__law_case_page an__law_case_page cd__law_case_page ct__law_case_page,
    F__law_case_page := fun_mk (st := s__law_case_page) l__law_case_page c__law_case_page k__law_case_page,
    b__law_case_page := Fun.binds (ps := ["_law_folk_here"]) (fun_mk (st := s__law_case_page) l__law_case_page c__law_case_page k__law_case_page) fun _ _ _ _ _ _ us hl => match us, hl with | [_], _ => rfl,
    m__law_case_page := PySem.W.mg_of X G a__law_case_page,
    f__law_lots := f__law_lots,
    e__law_lots := PySem.W.fnOf "_law_lots" "_law_lots" (defArgs s__law_lots) (defBody s__law_lots) (defScope s__law_lots) .none kV__law_lots dc__law_lots pm__law_lots an__law_lots cd__law_lots ct__law_lots,
    F__law_lots := fun_mk (st := s__law_lots) l__law_lots c__law_lots k__law_lots,
    b__law_lots := Fun.binds (ps := ["_law_others"]) (fun_mk (st := s__law_lots) l__law_lots c__law_lots k__law_lots) fun _ _ _ _ _ _ us hl => match us, hl with | [_], _ => rfl,
    m__law_lots := PySem.W.mg_of X G a__law_lots,
    f_Case___init__ := f_Case___init__,
    e_Case___init__ := PySem.W.fnOf "__init__" "Case.__init__" (defArgs s_Case___init__) (defBody s_Case___init__) (defScope s_Case___init__) .none kV_Case___init__ dc_Case___init__ pm_Case___init__ an_Case___init__ cd_Case___init__ ct_Case___init__,
    F_Case___init__ := fun_mk (st := s_Case___init__) l_Case___init__ c_Case___init__ k_Case___init__,
    b_Case___init__ := Fun.binds (ps := ["self", "text"]) (fun_mk (st := s_Case___init__) l_Case___init__ c_Case___init__ k_Case___init__) fun _ _ _ _ _ _ us hl => match us, hl with | [_, _], _ => rfl,
    mk_Case := ⟨cmk_Case, a_Case___init__, i_Case___init__, ckc_Case⟩,
    f__law_two := f__law_two,
    e__law_two := PySem.W.fnOf "_law_two" "_law_two" (defArgs s__law_two) (defBody s__law_two) (defScope s__law_two) .none kV__law_two dc__law_two pm__law_two an__law_two cd__law_two ct__law_two,
    F__law_two := fun_mk (st := s__law_two) l__law_two c__law_two k__law_two,
    b__law_two := Fun.binds (ps := ["_law_lot", "_law_rule", "_law_many"]) (fun_mk (st := s__law_two) l__law_two c__law_two k__law_two) fun _ _ _ _ _ _ us hl => match us, hl with | [_, _, _], _ => rfl,
    m__law_two := PySem.W.mg_of X G a__law_two,
    f__law_reasons_right := f__law_reasons_right,
    e__law_reasons_right := PySem.W.fnOf "_law_reasons_right" "_law_reasons_right" (defArgs s__law_reasons_right) (defBody s__law_reasons_right) (defScope s__law_reasons_right) .none kV__law_reasons_right dc__law_reasons_right pm__law_reasons_right an__law_reasons_right cd__law_reasons_right ct__law_reasons_right,
    F__law_reasons_right := fun_mk (st := s__law_reasons_right) l__law_reasons_right c__law_reasons_right k__law_reasons_right,
    b__law_reasons_right := Fun.binds (ps := ["_law_base", "_law_many"]) (fun_mk (st := s__law_reasons_right) l__law_reasons_right c__law_reasons_right k__law_reasons_right) fun _ _ _ _ _ _ us hl => match us, hl with | [_, _], _ => rfl,
    m__law_reasons_right := PySem.W.mg_of X G a__law_reasons_right,
    f_Book___init__ := f_Book___init__,
    e_Book___init__ := PySem.W.fnOf "__init__" "Book.__init__" (defArgs s_Book___init__) (defBody s_Book___init__) (defScope s_Book___init__) .none kV_Book___init__ dc_Book___init__ pm_Book___init__ an_Book___init__ cd_Book___init__ ct_Book___init__,
    F_Book___init__ := fun_mk (st := s_Book___init__) l_Book___init__ c_Book___init__ k_Book___init__,
    b_Book___init__ := Fun.binds (ps := ["self", "text"]) (fun_mk (st := s_Book___init__) l_Book___init__ c_Book___init__ k_Book___init__) fun _ _ _ _ _ _ us hl => match us, hl with | [_, _], _ => rfl,
    mk_Book := ⟨cmk_Book, a_Book___init__, i_Book___init__, ckc_Book⟩,
    f__law_right := f__law_right,
    e__law_right := PySem.W.fnOf "_law_right" "_law_right" (defArgs s__law_right) (defBody s__law_right) (defScope s__law_right) .none kV__law_right dc__law_right pm__law_right an__law_right cd__law_right ct__law_right,
    F__law_right := fun_mk (st := s__law_right) l__law_right c__law_right k__law_right,
    b__law_right := Fun.binds (ps := ["_law_jar"]) (fun_mk (st := s__law_right) l__law_right c__law_right k__law_right) fun _ _ _ _ _ _ us hl => match us, hl with | [_], _ => rfl,
    m__law_right := PySem.W.mg_of X G a__law_right,
    f_law := fa,
    e_law := PySem.W.fnOf "law" "law" (defArgs s_law) (defBody s_law) (defScope s_law) .none kV_law dc_law pm_law an_law cd_law ct_law,
    F_law := fun_mk (st := s_law) l_law c_law k_law,
    b_law := Fun.binds (ps := ["_law_cells"]) (fun_mk (st := s_law) l_law c_law k_law) fun _ _ _ _ _ _ us hl => match us, hl with | [_], _ => rfl,
    m_law := PySem.W.mg_of X G a_law,
    n_abs := PySem.W.mg_none_of X G z_abs,
    n_all := PySem.W.mg_none_of X G z_all,
    n_any := PySem.W.mg_none_of X G z_any,
    n_bool := PySem.W.mg_none_of X G z_bool,
    n_divmod := PySem.W.mg_none_of X G z_divmod,
    n_enumerate := PySem.W.mg_none_of X G z_enumerate,
    n_int := PySem.W.mg_none_of X G z_int,
    n_isinstance := PySem.W.mg_none_of X G z_isinstance,
    n_len := PySem.W.mg_none_of X G z_len,
    n_list := PySem.W.mg_none_of X G z_list,
    n_max := PySem.W.mg_none_of X G z_max,
    n_min := PySem.W.mg_none_of X G z_min,
    n_range := PySem.W.mg_none_of X G z_range,
    n_repr := PySem.W.mg_none_of X G z_repr,
    n_reversed := PySem.W.mg_none_of X G z_reversed,
    n_sorted := PySem.W.mg_none_of X G z_sorted,
    n_str := PySem.W.mg_none_of X G z_str,
    n_sum := PySem.W.mg_none_of X G z_sum,
    n_tuple := PySem.W.mg_none_of X G z_tuple,
    n_zip := PySem.W.mg_none_of X G z_zip,
    t_DIGITS := t_DIGITS,
    c_DIGITS := PySem.W.mg_of X G v_DIGITS,
    t_LEAST_CANDIDATES := t_LEAST_CANDIDATES,
    c_LEAST_CANDIDATES := PySem.W.mg_of X G v_LEAST_CANDIDATES,
    t_LETTERS := t_LETTERS,
    c_LETTERS := PySem.W.mg_of X G v_LETTERS,
    t_MOST_CANDIDATES := t_MOST_CANDIDATES,
    c_MOST_CANDIDATES := PySem.W.mg_of X G v_MOST_CANDIDATES,
    t_MOST_LETTERS := t_MOST_LETTERS,
    c_MOST_LETTERS := PySem.W.mg_of X G v_MOST_LETTERS,
    t_MOST_MARKS := t_MOST_MARKS,
    c_MOST_MARKS := PySem.W.mg_of X G v_MOST_MARKS,
    t_MOST_ROWS := t_MOST_ROWS,
    c_MOST_ROWS := PySem.W.mg_of X G v_MOST_ROWS,
    t_MOST_RULES := t_MOST_RULES,
    c_MOST_RULES := PySem.W.mg_of X G v_MOST_RULES,
    t_SIGNS := t_SIGNS,
    c_SIGNS := PySem.W.mg_of X G v_SIGNS,
    no_text := no1,
    no_names := no2,
    no_rows := no3,
    ins_Book := ⟨⟨cpg_Book, chd_Book, cpo_Book, csa_Book⟩, cia_Book, ihn, iht, cim_Book⟩,
    cno_text := nq1,
    cno_names := nq2,
    cno_marks := nq3,
    ins_Case := ⟨⟨cpg_Case, chd_Case, cpo_Case, csa_Case⟩, cia_Case, ihn, iht, cim_Case⟩,
    tts := [(lt_all_lots, qn_all_lots f_all_lots lc_all_lots)], tabs := ok, hm_all_lots := List.mem_cons_self }
  exact ⟨T.e_law, I, [(lc_all_lots, lt_all_lots, qn_all_lots f_all_lots lc_all_lots)], fun s v => .of_eq rfl, ok, (f_cons o_all_lots.1 f_nil), (f_cons ln_all_lots f_nil), (f_cons o_all_lots.2 f_nil), fun base hb => d_law T (hb _ List.mem_cons_self)⟩
end K34

open PySem PySem.W PyProof.Rows in
set_option maxRecDepth 100000 in
set_option maxHeartbeats 0 in
theorem PySem.Challenge.cw_rankedrules_k34_whole_cases_beside_reaso_holds : PySem.Challenge.rw_rankedrules_k34_whole_cases_beside_reaso.Holds := by
  w_on; o_law; k_head; (case hw => w_witness2)
  k_fill
  refine Dw.walk_GT (l := PySem.Challenge.rw_rankedrules_k34_whole_cases_beside_reaso) (k := 10) (x := "_law_cells") (sp := K34.spLaw) rfl rfl ⟨rfl, by decide, by decide⟩ (fun w h Y => PySem.W.km_in_of Y) (fun K ns h hb => ⟨ns, rfl, ⟨h, hb⟩, fun d h => h⟩) ?F
  case F =>
    intro w mg fa h KX G hmg tb
    refine' K34.all_mk KX G hmg tb ?cm_Book ?cpg_Book ?chd_Book ?cpo_Book ?csa_Book ?cmk_Book ?ckc_Book ?cia_Book ?cim_Book ?cm_Case ?cpg_Case ?chd_Case ?cpo_Case ?csa_Case ?cmk_Case ?ckc_Case ?cia_Case ?cim_Case ?ihn ?iht ?a_is_name ?l_is_name ?c_is_name ?k_is_name ?a_are_names ?l_are_names ?c_are_names ?k_are_names ?a_is_number ?l_is_number ?c_is_number ?k_is_number ?a_is_any_row ?l_is_any_row ?c_is_any_row ?k_is_any_row ?a_is_row ?l_is_row ?c_is_row ?k_is_row ?a_is_whole ?l_is_whole ?c_is_whole ?k_is_whole ?a_is_index ?l_is_index ?c_is_index ?k_is_index ?a_check_row ?l_check_row ?c_check_row ?k_check_row ?a_check_rule ?l_check_rule ?c_check_rule ?k_check_rule ?a_check_known ?l_check_known ?c_check_known ?k_check_known ?a_read_book ?l_read_book ?c_read_book ?k_read_book ?a_read_mark ?l_read_mark ?c_read_mark ?k_read_mark ?a_read_candidates ?l_read_candidates ?c_read_candidates ?k_read_candidates ?a_read_case ?l_read_case ?c_read_case ?k_read_case ?a_sign_of ?l_sign_of ?c_sign_of ?k_sign_of ?a_row_between ?l_row_between ?c_row_between ?k_row_between ?a_check_book ?l_check_book ?c_check_book ?k_check_book ?a_head_of ?l_head_of ?c_head_of ?k_head_of ?a_rules_of ?l_rules_of ?c_rules_of ?k_rules_of ?a_sides ?l_sides ?c_sides ?k_sides ?a_rules_behind ?l_rules_behind ?c_rules_behind ?k_rules_behind ?a_steps ?l_steps ?c_steps ?k_steps ?a_openings ?l_openings ?c_openings ?k_openings ?a_endings ?l_endings ?c_endings ?k_endings ?a_count_fitting ?l_count_fitting ?c_count_fitting ?k_count_fitting ?a_heads_above ?l_heads_above ?c_heads_above ?k_heads_above ?a_has_sign ?l_has_sign ?c_has_sign ?k_has_sign ?a_split ?l_split ?c_split ?k_split ?a_some_fits ?l_some_fits ?c_some_fits ?k_some_fits ?a_Book_rows ?g_Book_rows ?t_Book_rows ?r_Book_rows ?l_Book_rows ?c_Book_rows ?k_Book_rows ?a_Book_names ?g_Book_names ?t_Book_names ?r_Book_names ?l_Book_names ?c_Book_names ?k_Book_names ?a_check_some_fits ?l_check_some_fits ?c_check_some_fits ?k_check_some_fits ?a_layers ?l_layers ?c_layers ?k_layers ?a_all_lots ?l_all_lots ?c_all_lots ?k_all_lots ?lk_all_lots ?lp_all_lots ?ln_all_lots ?lr_all_lots ?a_has_part ?l_has_part ?c_has_part ?k_has_part ?a_judge ?l_judge ?c_judge ?k_judge ?a_meets_all ?l_meets_all ?c_meets_all ?k_meets_all ?a_least_lots ?l_least_lots ?c_least_lots ?k_least_lots ?a_reasons ?l_reasons ?c_reasons ?k_reasons ?a_check_case ?l_check_case ?c_check_case ?k_check_case ?a_Case_marks ?g_Case_marks ?t_Case_marks ?r_Case_marks ?l_Case_marks ?c_Case_marks ?k_Case_marks ?a_case_fits ?l_case_fits ?c_case_fits ?k_case_fits ?a_check_case_beside ?l_check_case_beside ?c_check_case_beside ?k_check_case_beside ?a_Case_names ?g_Case_names ?t_Case_names ?r_Case_names ?l_Case_names ?c_Case_names ?k_Case_names ?a_row_against ?l_row_against ?c_row_against ?k_row_against ?a_rows_of ?l_rows_of ?c_rows_of ?k_rows_of ?a_told_by ?l_told_by ?c_told_by ?k_told_by ?a_barred ?l_barred ?c_barred ?k_barred ?a_wins ?l_wins ?c_wins ?k_wins ?a_possible ?l_possible ?c_possible ?k_possible ?a_sure ?l_sure ?c_sure ?k_sure ?a__law_cell ?l__law_cell ?c__law_cell ?k__law_cell ?a__law_well ?l__law_well ?c__law_well ?k__law_well ?a__law_dip ?l__law_dip ?c__law_dip ?k__law_dip ?a__law_pick ?l__law_pick ?c__law_pick ?k__law_pick ?a__law_tags ?l__law_tags ?c__law_tags ?k__law_tags ?a__law_orders ?l__law_orders ?c__law_orders ?k__law_orders ?a__law_holds ?l__law_holds ?c__law_holds ?k__law_holds ?a__law_turned ?l__law_turned ?c__law_turned ?k__law_turned ?a__law_row ?l__law_row ?c__law_row ?k__law_row ?a__law_rows ?l__law_rows ?c__law_rows ?k__law_rows ?a__law_fits ?l__law_fits ?c__law_fits ?k__law_fits ?a__law_book_page ?l__law_book_page ?c__law_book_page ?k__law_book_page ?a__law_folk ?l__law_folk ?c__law_folk ?k__law_folk ?a__law_case_page ?l__law_case_page ?c__law_case_page ?k__law_case_page ?a__law_lots ?l__law_lots ?c__law_lots ?k__law_lots ?a_Case___init__ ?i_Case___init__ ?l_Case___init__ ?c_Case___init__ ?k_Case___init__ ?a__law_two ?l__law_two ?c__law_two ?k__law_two ?a__law_reasons_right ?l__law_reasons_right ?c__law_reasons_right ?k__law_reasons_right ?a_Book___init__ ?i_Book___init__ ?l_Book___init__ ?c_Book___init__ ?k_Book___init__ ?a__law_right ?l__law_right ?c__law_right ?k__law_right ?a_law ?l_law ?c_law ?k_law ?z_abs ?z_all ?z_any ?z_bool ?z_divmod ?z_enumerate ?z_int ?z_isinstance ?z_len ?z_list ?z_max ?z_min ?z_range ?z_repr ?z_reversed ?z_sorted ?z_str ?z_sum ?z_tuple ?z_zip ?v_DIGITS ?v_LEAST_CANDIDATES ?v_LETTERS ?v_MOST_CANDIDATES ?v_MOST_LETTERS ?v_MOST_MARKS ?v_MOST_ROWS ?v_MOST_RULES ?v_SIGNS ?no1 ?no2 ?no3 ?nq1 ?nq2 ?nq3
    (case cm_Book => k_is)
    (case cpg_Book => k_is)
    (case chd_Book => k_is)
    (case cpo_Book => k_is)
    (case csa_Book => k_is)
    (case cmk_Book => k_is)
    (case ckc_Book => k_is)
    (case cia_Book => k_is)
    (case cim_Book => k_is)
    (case cm_Case => k_is)
    (case cpg_Case => k_is)
    (case chd_Case => k_is)
    (case cpo_Case => k_is)
    (case csa_Case => k_is)
    (case cmk_Case => k_is)
    (case ckc_Case => k_is)
    (case cia_Case => k_is)
    (case cim_Case => k_is)
    (case ihn => k_is)
    (case iht => k_is)
    (case a_is_name => k_is)
    (case l_is_name => k_is)
    (case c_is_name => k_is)
    (case k_is_name => k_is)
    (case a_are_names => k_is)
    (case l_are_names => k_is)
    (case c_are_names => k_is)
    (case k_are_names => k_is)
    (case a_is_number => k_is)
    (case l_is_number => k_is)
    (case c_is_number => k_is)
    (case k_is_number => k_is)
    (case a_is_any_row => k_is)
    (case l_is_any_row => k_is)
    (case c_is_any_row => k_is)
    (case k_is_any_row => k_is)
    (case a_is_row => k_is)
    (case l_is_row => k_is)
    (case c_is_row => k_is)
    (case k_is_row => k_is)
    (case a_is_whole => k_is)
    (case l_is_whole => k_is)
    (case c_is_whole => k_is)
    (case k_is_whole => k_is)
    (case a_is_index => k_is)
    (case l_is_index => k_is)
    (case c_is_index => k_is)
    (case k_is_index => k_is)
    (case a_check_row => k_is)
    (case l_check_row => k_is)
    (case c_check_row => k_is)
    (case k_check_row => k_is)
    (case a_check_rule => k_is)
    (case l_check_rule => k_is)
    (case c_check_rule => k_is)
    (case k_check_rule => k_is)
    (case a_check_known => k_is)
    (case l_check_known => k_is)
    (case c_check_known => k_is)
    (case k_check_known => k_is)
    (case a_read_book => k_is)
    (case l_read_book => k_is)
    (case c_read_book => k_is)
    (case k_read_book => k_is)
    (case a_read_mark => k_is)
    (case l_read_mark => k_is)
    (case c_read_mark => k_is)
    (case k_read_mark => k_is)
    (case a_read_candidates => k_is)
    (case l_read_candidates => k_is)
    (case c_read_candidates => k_is)
    (case k_read_candidates => k_is)
    (case a_read_case => k_is)
    (case l_read_case => k_is)
    (case c_read_case => k_is)
    (case k_read_case => k_is)
    (case a_sign_of => k_is)
    (case l_sign_of => k_is)
    (case c_sign_of => k_is)
    (case k_sign_of => k_is)
    (case a_row_between => k_is)
    (case l_row_between => k_is)
    (case c_row_between => k_is)
    (case k_row_between => k_is)
    (case a_check_book => k_is)
    (case l_check_book => k_is)
    (case c_check_book => k_is)
    (case k_check_book => k_is)
    (case a_head_of => k_is)
    (case l_head_of => k_is)
    (case c_head_of => k_is)
    (case k_head_of => k_is)
    (case a_rules_of => k_is)
    (case l_rules_of => k_is)
    (case c_rules_of => k_is)
    (case k_rules_of => k_is)
    (case a_sides => k_is)
    (case l_sides => k_is)
    (case c_sides => k_is)
    (case k_sides => k_is)
    (case a_rules_behind => k_is)
    (case l_rules_behind => k_is)
    (case c_rules_behind => k_is)
    (case k_rules_behind => k_is)
    (case a_steps => k_is)
    (case l_steps => k_is)
    (case c_steps => k_is)
    (case k_steps => k_is)
    (case a_openings => k_is)
    (case l_openings => k_is)
    (case c_openings => k_is)
    (case k_openings => k_is)
    (case a_endings => k_is)
    (case l_endings => k_is)
    (case c_endings => k_is)
    (case k_endings => k_is)
    (case a_count_fitting => k_is)
    (case l_count_fitting => k_is)
    (case c_count_fitting => k_is)
    (case k_count_fitting => k_is)
    (case a_heads_above => k_is)
    (case l_heads_above => k_is)
    (case c_heads_above => k_is)
    (case k_heads_above => k_is)
    (case a_has_sign => k_is)
    (case l_has_sign => k_is)
    (case c_has_sign => k_is)
    (case k_has_sign => k_is)
    (case a_split => k_is)
    (case l_split => k_is)
    (case c_split => k_is)
    (case k_split => k_is)
    (case a_some_fits => k_is)
    (case l_some_fits => k_is)
    (case c_some_fits => k_is)
    (case k_some_fits => k_is)
    (case a_Book_rows => k_is)
    (case g_Book_rows => k_is)
    (case t_Book_rows => k_is)
    (case r_Book_rows => k_is)
    (case l_Book_rows => k_is)
    (case c_Book_rows => k_is)
    (case k_Book_rows => k_is)
    (case a_Book_names => k_is)
    (case g_Book_names => k_is)
    (case t_Book_names => k_is)
    (case r_Book_names => k_is)
    (case l_Book_names => k_is)
    (case c_Book_names => k_is)
    (case k_Book_names => k_is)
    (case a_check_some_fits => k_is)
    (case l_check_some_fits => k_is)
    (case c_check_some_fits => k_is)
    (case k_check_some_fits => k_is)
    (case a_layers => k_is)
    (case l_layers => k_is)
    (case c_layers => k_is)
    (case k_layers => k_is)
    (case a_all_lots => k_is)
    (case l_all_lots => k_is)
    (case c_all_lots => k_is)
    (case k_all_lots => k_is)
    (case lk_all_lots => k_is)
    (case lp_all_lots => rfl)
    (case ln_all_lots => first | rfl | kernel_rfl)
    (case lr_all_lots => first | rfl | decide +kernel)
    (case a_has_part => k_is)
    (case l_has_part => k_is)
    (case c_has_part => k_is)
    (case k_has_part => k_is)
    (case a_judge => k_is)
    (case l_judge => k_is)
    (case c_judge => k_is)
    (case k_judge => k_is)
    (case a_meets_all => k_is)
    (case l_meets_all => k_is)
    (case c_meets_all => k_is)
    (case k_meets_all => k_is)
    (case a_least_lots => k_is)
    (case l_least_lots => k_is)
    (case c_least_lots => k_is)
    (case k_least_lots => k_is)
    (case a_reasons => k_is)
    (case l_reasons => k_is)
    (case c_reasons => k_is)
    (case k_reasons => k_is)
    (case a_check_case => k_is)
    (case l_check_case => k_is)
    (case c_check_case => k_is)
    (case k_check_case => k_is)
    (case a_Case_marks => k_is)
    (case g_Case_marks => k_is)
    (case t_Case_marks => k_is)
    (case r_Case_marks => k_is)
    (case l_Case_marks => k_is)
    (case c_Case_marks => k_is)
    (case k_Case_marks => k_is)
    (case a_case_fits => k_is)
    (case l_case_fits => k_is)
    (case c_case_fits => k_is)
    (case k_case_fits => k_is)
    (case a_check_case_beside => k_is)
    (case l_check_case_beside => k_is)
    (case c_check_case_beside => k_is)
    (case k_check_case_beside => k_is)
    (case a_Case_names => k_is)
    (case g_Case_names => k_is)
    (case t_Case_names => k_is)
    (case r_Case_names => k_is)
    (case l_Case_names => k_is)
    (case c_Case_names => k_is)
    (case k_Case_names => k_is)
    (case a_row_against => k_is)
    (case l_row_against => k_is)
    (case c_row_against => k_is)
    (case k_row_against => k_is)
    (case a_rows_of => k_is)
    (case l_rows_of => k_is)
    (case c_rows_of => k_is)
    (case k_rows_of => k_is)
    (case a_told_by => k_is)
    (case l_told_by => k_is)
    (case c_told_by => k_is)
    (case k_told_by => k_is)
    (case a_barred => k_is)
    (case l_barred => k_is)
    (case c_barred => k_is)
    (case k_barred => k_is)
    (case a_wins => k_is)
    (case l_wins => k_is)
    (case c_wins => k_is)
    (case k_wins => k_is)
    (case a_possible => k_is)
    (case l_possible => k_is)
    (case c_possible => k_is)
    (case k_possible => k_is)
    (case a_sure => k_is)
    (case l_sure => k_is)
    (case c_sure => k_is)
    (case k_sure => k_is)
    (case a__law_cell => k_is)
    (case l__law_cell => k_is)
    (case c__law_cell => k_is)
    (case k__law_cell => k_is)
    (case a__law_well => k_is)
    (case l__law_well => k_is)
    (case c__law_well => k_is)
    (case k__law_well => k_is)
    (case a__law_dip => k_is)
    (case l__law_dip => k_is)
    (case c__law_dip => k_is)
    (case k__law_dip => k_is)
    (case a__law_pick => k_is)
    (case l__law_pick => k_is)
    (case c__law_pick => k_is)
    (case k__law_pick => k_is)
    (case a__law_tags => k_is)
    (case l__law_tags => k_is)
    (case c__law_tags => k_is)
    (case k__law_tags => k_is)
    (case a__law_orders => k_is)
    (case l__law_orders => k_is)
    (case c__law_orders => k_is)
    (case k__law_orders => k_is)
    (case a__law_holds => k_is)
    (case l__law_holds => k_is)
    (case c__law_holds => k_is)
    (case k__law_holds => k_is)
    (case a__law_turned => k_is)
    (case l__law_turned => k_is)
    (case c__law_turned => k_is)
    (case k__law_turned => k_is)
    (case a__law_row => k_is)
    (case l__law_row => k_is)
    (case c__law_row => k_is)
    (case k__law_row => k_is)
    (case a__law_rows => k_is)
    (case l__law_rows => k_is)
    (case c__law_rows => k_is)
    (case k__law_rows => k_is)
    (case a__law_fits => k_is)
    (case l__law_fits => k_is)
    (case c__law_fits => k_is)
    (case k__law_fits => k_is)
    (case a__law_book_page => k_is)
    (case l__law_book_page => k_is)
    (case c__law_book_page => k_is)
    (case k__law_book_page => k_is)
    (case a__law_folk => k_is)
    (case l__law_folk => k_is)
    (case c__law_folk => k_is)
    (case k__law_folk => k_is)
    (case a__law_case_page => k_is)
    (case l__law_case_page => k_is)
    (case c__law_case_page => k_is)
    (case k__law_case_page => k_is)
    (case a__law_lots => k_is)
    (case l__law_lots => k_is)
    (case c__law_lots => k_is)
    (case k__law_lots => k_is)
    (case a_Case___init__ => k_is)
    (case i_Case___init__ => k_is)
    (case l_Case___init__ => k_is)
    (case c_Case___init__ => k_is)
    (case k_Case___init__ => k_is)
    (case a__law_two => k_is)
    (case l__law_two => k_is)
    (case c__law_two => k_is)
    (case k__law_two => k_is)
    (case a__law_reasons_right => k_is)
    (case l__law_reasons_right => k_is)
    (case c__law_reasons_right => k_is)
    (case k__law_reasons_right => k_is)
    (case a_Book___init__ => k_is)
    (case i_Book___init__ => k_is)
    (case l_Book___init__ => k_is)
    (case c_Book___init__ => k_is)
    (case k_Book___init__ => k_is)
    (case a__law_right => k_is)
    (case l__law_right => k_is)
    (case c__law_right => k_is)
    (case k__law_right => k_is)
    (case a_law => k_is)
    (case l_law => k_is)
    (case c_law => k_is)
    (case k_law => k_is)
    (case z_abs => k_is)
    (case z_all => k_is)
    (case z_any => k_is)
    (case z_bool => k_is)
    (case z_divmod => k_is)
    (case z_enumerate => k_is)
    (case z_int => k_is)
    (case z_isinstance => k_is)
    (case z_len => k_is)
    (case z_list => k_is)
    (case z_max => k_is)
    (case z_min => k_is)
    (case z_range => k_is)
    (case z_repr => k_is)
    (case z_reversed => k_is)
    (case z_sorted => k_is)
    (case z_str => k_is)
    (case z_sum => k_is)
    (case z_tuple => k_is)
    (case z_zip => k_is)
    (case v_DIGITS => k_is)
    (case v_LEAST_CANDIDATES => k_is)
    (case v_LETTERS => k_is)
    (case v_MOST_CANDIDATES => k_is)
    (case v_MOST_LETTERS => k_is)
    (case v_MOST_MARKS => k_is)
    (case v_MOST_ROWS => k_is)
    (case v_MOST_RULES => k_is)
    (case v_SIGNS => k_is)
    (case no1 => k_is)
    (case no2 => k_is)
    (case no3 => k_is)
    (case nq1 => k_is)
    (case nq2 => k_is)
    (case nq3 => k_is)
#print axioms PySem.Challenge.cw_rankedrules_k34_whole_cases_beside_reaso_holds



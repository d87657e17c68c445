import PyProof.Rows.All
import Wide.All
import OpenK.AllK
import Wide.FinOn
import HandS.Base
import HandS.Call
import HandS.List
import HandS.Comp
import HandS.Ends
import HandS.Iter
import HandS.Text
import HandS.Words
import HandS.Lambda
import HandS.IsInst
import HandS.Conv
import HandS.Zip
import HandS.Property
import HandS.Star
import HandS.Sort
import HandS.Dict
import HandS.Flow
import HandS.WrittenGet
import KE.KUnpackStar
import KE.GoesNew
import HandS.Codes
import PyProof.P3Eq
import HandS.SetFor
import HandS.Strs
import PyProof.ReprReads
import HandS.RevRange
import PyProof.EnumMake
import KE.GoesMore
import HandS.Style
import HandS.TupAny
import HandS.EndBits
import HandS.WideBits
import HandS.More
import PyProof.Rows.EqBoolInt
import HandS.TryOnly
import HandS.Deep
import HandS.Small
import KE.KDictDisplayH
import HandS.DictComp
import HandS.CallLocal
import HandS.ListItems
import PyProof.FString5
import PyProof.TupleOfStr
import HandS.Exc
import HandS.SuiteRaise
import KE.KTryMore
import HandS.ExcIs
import HandS.ExcField
import HandS.HotCalls
import HandS.ExcOwn
import PyProof.ExcBaseAll.ArithmeticError
import HandS.EndTab
import HandS.EndOwn
import KE.KExcIs
import HandS.ExcInit
import PyProof.CallFns
import KE.DatumIndex
import HandS.TupSets
import KE.SortData
import KE.SortKeyHeap
import KE.KLam
import HandS.OwnEq
import KE.KCallOwn
import KE.KFmtOwn
import PyProof.InstEq
import PyProof.InstNe
import HandS.FStr
import HandS.MakeKwOnly
import HandS.RaiseMore
import HandS.MakeKw
import HandS.HeadHook3
import HandS.ForMost
import PySem.Challenge.RW_rankedrules_k31_whole_texts_of_veils
set_option Elab.async false
set_option linter.all false
set_option maxRecDepth 100000
set_option maxHeartbeats 4000000
set_option autoImplicit false
/-! A data layer over HandS's readings: what a slot holds is said as plain data (D), never as addresses. -/
namespace Dw
open PySem PySem.Spec PyProof.Rows L2

/-- a list of the written part -/
def SqK (K : PySem.W.Frag) (a : Addr) (xs : List V) : Prop :=
  ∃ (o : Obj) (its : Array Value) (n : Nat), K.lookup a = some o ∧ o.cls = .type "list" ∧ o.dict = none ∧ o.data = .seq its n ∧ its.size ≤ sizeLine ∧ Vals xs its.toList
/-- which addresses hold a table of code objects, and of what name these are -/
class Tabs0 where
  nm : Addr → Option Str
variable [Tabs0]
/-- plain data -/
inductive D where
  | non | bl (b : Bool) | int (i : Int) | str (x : Str)
  | tup (ds : List D) | lst (ds : List D)
  | obj (C : Addr) (ns : List Str) (ds : List D)
  | raw (v : V)
  | purse
  | rng (lo hi : Int)
  | dct (ks : List Key) (ds : List D)
  | scr (K : PySem.W.Frag) (vs : List V)
  | tupN (ds : List D)
  | tag (d : D)

/-- a world: the abstract heap, the addresses that may change (U), the purses among them (P) -/
structure Wd where
  H : Hp
  U : Addr → Prop
  P : Addr → Prop

/-- a tuple to be read, as it is -/
def TupAt (H : Hp) (a : Addr) (vs : List V) : Prop := Rd H a (.tup vs)
/-- .. one that is known to have no dict of its own -/
def TupN (H : Hp) (a : Addr) (vs : List V) : Prop := ∃ o : Obj, H a = some (.frz o (.tup vs)) ∧ o.cls = .type "tuple" ∧ o.dict = none
theorem TupAt.mk {H : Hp} {a : Addr} {vs : List V} (h : H a = some (.tup vs)) : TupAt H a vs := .inl h
theorem TupAt.sq {K : PySem.W.Frag} {H : Hp} {a : Addr} {vs : List V} (h : TupAt H a vs) : SqT K H a vs := .inl h
theorem TupN.at {H : Hp} {a : Addr} {vs : List V} (h : TupN H a vs) : TupAt H a vs := let ⟨o, e, _⟩ := h; .inr ⟨o, e⟩
theorem TupAt.imp {H H' : Hp} {a : Addr} {vs : List V} (s : ∀ u, H a = some u → H' a = some u) (h : TupAt H a vs) : TupAt H' a vs := h.elim (fun h => .inl (s _ h)) fun ⟨o, h⟩ => .inr ⟨o, s _ h⟩
theorem TupN.imp {H H' : Hp} {a : Addr} {vs : List V} (s : ∀ u, H a = some u → H' a = some u) (h : TupN H a vs) : TupN H' a vs := let ⟨o, e, c⟩ := h; ⟨o, s _ e, c⟩
theorem TupAt.same {H H' : Hp} {a : Addr} {vs : List V} (h : TupAt H a vs) (s : Same H H') : TupAt H' a vs := h.imp (s a)
theorem TupN.same {H H' : Hp} {a : Addr} {vs : List V} (h : TupN H a vs) (s : Same H H') : TupN H' a vs := h.imp (s a)
theorem TupAt.some {H : Hp} {a : Addr} {vs : List V} (h : TupAt H a vs) : ∃ u, H a = some u := h.elim (fun h => ⟨_, h⟩) fun ⟨_, h⟩ => ⟨_, h⟩
theorem TupAt.keep {H H' : Hp} {U U' : Addr → Prop} {a : Addr} {vs : List V} (h : TupAt H a vs) (n : ¬ U a) (k : ∀ u, H a = Option.some u → ¬ U a → H' a = Option.some u ∧ ¬ U' a) : TupAt H' a vs ∧ ¬ U' a := let ⟨u, e⟩ := h.some; ⟨h.imp fun u e => (k u e n).1, (k u e n).2⟩
mutual
def Rep (W : Wd) : D → V → Prop
  | .non, v => v = .non
  | .bl b, v => v = .bl b
  | .int i, v => v = .int i
  | .str x, v => v = .str x
  | .raw u, v => v = u
  | .tup ds, v => ∃ a vs, v = .ref a ∧ TupAt W.H a vs ∧ ¬ W.U a ∧ RepL W ds vs
  | .tupN ds, v => ∃ a vs, v = .ref a ∧ TupN W.H a vs ∧ ¬ W.U a ∧ RepL W ds vs
  | .lst ds, v => ∃ a vs, v = .ref a ∧ W.H a = some (.lst vs) ∧ ¬ W.U a ∧ RepL W ds vs
  | .obj C ns ds, v => ∃ a dx vs, v = .ref a ∧ W.H a = some (.ins C dx (ns.zip vs)) ∧ ¬ W.U a ∧ ns.length = vs.length ∧ RepL W ds vs
  | .purse, v => ∃ a, v = .ref a ∧ W.P a ∧ Tabs0.nm a = none ∧ ∀ p q, Tabs0.nm p = some q → W.P p
  | .rng lo hi, v => ∃ a, v = .ref a ∧ W.H a = some (.rng lo hi) ∧ ¬ W.U a
  | .dct ks ds, v => ∃ a vs, v = .ref a ∧ W.H a = some (.dK (ks.zip vs)) ∧ ¬ W.U a ∧ ks.length = vs.length ∧ RepL W ds vs
  | .scr K vs, v => ∃ a, v = .ref a ∧ ((∃ u, W.H a = some u ∧ ¬ W.U a ∧ (u = .lst vs ∨ ∃ o, u = .frz o (.lst vs))) ∨ SqK K a vs) ∧ ∀ p q, Tabs0.nm p = some q → W.P p
  | .tag d, v => Rep W d v ∧ ∀ p q, Tabs0.nm p = some q → W.P p
def RepL (W : Wd) : List D → List V → Prop
  | [], vs => vs = []
  | d :: ds, vs => ∃ v r, vs = v :: r ∧ Rep W d v ∧ RepL W ds r
end

def PurseAt (H : Hp) (a : Addr) : Prop := ∃ (x : Int × Int) (y : Int), 0 ≤ x.1 ∧ 0 ≤ y ∧ y < 2147483647 ∧ H a = some (.lst [.int x.1, .int y, .int x.2])

/-- what stands at an address that may change: a purse, or a table -/
def OwnAt (H : Hp) (a : Addr) : Prop := match Tabs0.nm a with | none => PurseAt H a | some q => LamX.TabS H a q
theorem OwnAt.purse {H : Hp} {a : Addr} (h : OwnAt H a) (n : Tabs0.nm a = none) : PurseAt H a := by
  unfold OwnAt at h
  rw [n] at h
  exact h
theorem OwnAt.of {H : Hp} {a : Addr} (h : PurseAt H a) (n : Tabs0.nm a = none) : OwnAt H a := by
  unfold OwnAt
  rw [n]
  exact h
theorem OwnAt.tab {H : Hp} {a : Addr} {q : Str} (h : OwnAt H a) (n : Tabs0.nm a = some q) : LamX.TabS H a q := by
  unfold OwnAt at h
  rw [n] at h
  exact h
theorem OwnAt.same {H H' : Hp} {a : Addr} (s : Same H H') (h : OwnAt H a) : OwnAt H' a := by
  unfold OwnAt at h ⊢
  cases n : Tabs0.nm a with
  | none =>
    rw [n] at h
    obtain ⟨x, y, h1, h2, h3, e⟩ := h
    exact ⟨x, y, h1, h2, h3, s _ _ e⟩
  | some q =>
    rw [n] at h
    exact LamX.TabS.ext h s
theorem OwnAt.upd {H : Hp} {a b : Addr} {u : HO} (ha : ∀ h, H a ≠ some (.ext h)) (hb : b ≠ a) (h : OwnAt H b) : OwnAt (L2.upd H a u) b := by
  unfold OwnAt at h ⊢
  cases n : Tabs0.nm b with
  | none =>
    rw [n] at h
    obtain ⟨x, y, h1, h2, h3, e⟩ := h
    exact ⟨x, y, h1, h2, h3, by rw [upd_ne hb]; exact e⟩
  | some q =>
    rw [n] at h
    obtain ⟨ps, h1, h2, h3⟩ := h
    refine ⟨ps, by rw [upd_ne hb]; exact h1, h2, fun pos cv hc => ?_⟩
    obtain ⟨c, e1, e2⟩ := h3 pos cv hc
    refine ⟨c, e1, ?_⟩
    rw [upd_ne fun z : c = a => ?_]
    · exact e2
    · rw [z] at e2
      exact ha _ e2
theorem no_ext {H : Hp} {a : Addr} {vs : List V} (h : H a = some (.lst vs)) : ∀ f, H a ≠ some (.ext f) := fun f z => by rw [h] at z; cases z
theorem no_extI {H : Hp} {a C dx : Addr} {fs : List (Str × V)} (h : H a = some (.ins C dx fs)) : ∀ f, H a ≠ some (.ext f) := fun f z => by rw [h] at z; cases z
theorem OwnAt.some {H : Hp} {a : Addr} (h : OwnAt H a) : H a ≠ none := by
  unfold OwnAt at h
  cases n : Tabs0.nm a with
  | none =>
    rw [n] at h
    obtain ⟨x, y, h1, h2, h3, e⟩ := h
    rw [e]; exact fun z => nomatch z
  | some q =>
    rw [n] at h
    obtain ⟨ps, h1, _⟩ := h
    rw [h1]; exact fun z => nomatch z
/-- F: what this def may not touch -/
structure WOk (F : Addr → Prop) (W : Wd) : Prop where
  dom : ∀ a, W.U a → W.H a ≠ none
  fu : ∀ a, F a → W.U a
  pu : ∀ a, W.P a → W.U a ∧ ¬ F a ∧ OwnAt W.H a

structure Stp (F : Addr → Prop) (W W' : Wd) : Prop where
  keep : ∀ a u, W.H a = some u → ¬ W.U a → W'.H a = some u ∧ ¬ W'.U a
  pur : W'.P = W.P
  fr : ∀ a, F a → W'.H a = W.H a

theorem Stp.refl {F : Addr → Prop} (W : Wd) : Stp F W W := ⟨fun _ _ h n => ⟨h, n⟩, rfl, fun _ _ => rfl⟩
theorem Stp.trans {F : Addr → Prop} {W W1 W2 : Wd} (a : Stp F W W1) (b : Stp F W1 W2) : Stp F W W2 :=
  ⟨fun c u h n => let ⟨h1, n1⟩ := a.keep c u h n; b.keep c u h1 n1, b.pur.trans a.pur, fun c h => (b.fr c h).trans (a.fr c h)⟩

mutual
theorem Rep.mono {W W' : Wd} (k : ∀ a u, W.H a = some u → ¬ W.U a → W'.H a = some u ∧ ¬ W'.U a) (p : ∀ a, W.P a → W'.P a) : ∀ (d : D) (v : V), Rep W d v → Rep W' d v
  | .non, _, h => h
  | .bl _, _, h => h
  | .int _, _, h => h
  | .str _, _, h => h
  | .raw _, _, h => h
  | .tup ds, _, ⟨a, vs, e, h, n, r⟩ => let ⟨h', n'⟩ := h.keep n (k a); ⟨a, vs, e, h', n', RepL.mono k p ds vs r⟩
  | .tupN ds, _, ⟨a, vs, e, h, n, r⟩ => let ⟨_, n'⟩ := h.at.keep n (k a); ⟨a, vs, e, h.imp fun u e => (k a u e n).1, n', RepL.mono k p ds vs r⟩
  | .lst ds, _, ⟨a, vs, e, h, n, r⟩ => let ⟨h', n'⟩ := k _ _ h n; ⟨a, vs, e, h', n', RepL.mono k p ds vs r⟩
  | .obj C ns ds, _, ⟨a, dx, vs, e, h, n, l, r⟩ => let ⟨h', n'⟩ := k _ _ h n; ⟨a, dx, vs, e, h', n', l, RepL.mono k p ds vs r⟩
  | .purse, _, ⟨a, e, h, n, t⟩ => ⟨a, e, p a h, n, fun x q z => p x (t x q z)⟩
  | .rng lo hi, _, ⟨a, e, h, n⟩ => let ⟨h', n'⟩ := k _ _ h n; ⟨a, e, h', n'⟩
  | .dct ks ds, _, ⟨a, vs, e, h, n, l, r⟩ => let ⟨h', n'⟩ := k _ _ h n; ⟨a, vs, e, h', n', l, RepL.mono k p ds vs r⟩
  | .scr K vs, _, ⟨a, e, .inl ⟨u, h, n, q⟩, t⟩ => let ⟨h', n'⟩ := k _ _ h n; ⟨a, e, .inl ⟨u, h', n', q⟩, fun x q z => p x (t x q z)⟩
  | .scr K vs, _, ⟨a, e, .inr q, t⟩ => ⟨a, e, .inr q, fun x q z => p x (t x q z)⟩
  | .tag d, v, ⟨h, t⟩ => ⟨Rep.mono k p d v h, fun x q z => p x (t x q z)⟩
theorem RepL.mono {W W' : Wd} (k : ∀ a u, W.H a = some u → ¬ W.U a → W'.H a = some u ∧ ¬ W'.U a) (p : ∀ a, W.P a → W'.P a) : ∀ (ds : List D) (vs : List V), RepL W ds vs → RepL W' ds vs
  | [], _, h => h
  | d :: ds, _, ⟨v, r, e, h1, h2⟩ => ⟨v, r, e, Rep.mono k p d v h1, RepL.mono k p ds r h2⟩
end
theorem Rep.stp {F : Addr → Prop} {W W' : Wd} {d : D} {v : V} (s : Stp F W W') (h : Rep W d v) : Rep W' d v := Rep.mono s.keep (fun a h => by rw [s.pur]; exact h) d v h
theorem RepL.stp {F : Addr → Prop} {W W' : Wd} {d : List D} {v : List V} (s : Stp F W W') (h : RepL W d v) : RepL W' d v := RepL.mono s.keep (fun a h => by rw [s.pur]; exact h) d v h
/-- the world with another heap -/
abbrev Wd.at (W : Wd) (H : Hp) : Wd := ⟨H, W.U, W.P⟩
theorem Rep.same {W : Wd} {H : Hp} {d : D} {v : V} (s : Same W.H H) (h : Rep W d v) : Rep (W.at H) d v := Rep.mono (W' := W.at H) (fun a u e n => ⟨s a u e, n⟩) (fun _ h => h) d v h
theorem RepL.same {W : Wd} {H : Hp} {d : List D} {v : List V} (s : Same W.H H) (h : RepL W d v) : RepL (W.at H) d v := RepL.mono (W' := W.at H) (fun a u e n => ⟨s a u e, n⟩) (fun _ h => h) d v h
theorem Stp.of_same {F : Addr → Prop} {W : Wd} {H : Hp} (ok : WOk F W) (s : Same W.H H) : Stp F W (W.at H) :=
  ⟨fun a u e n => ⟨s a u e, n⟩, rfl, fun a h => by
    cases q : W.H a with
    | none => exact absurd q (ok.dom a (ok.fu a h))
    | some u => exact s a u q⟩
theorem WOk.same {F : Addr → Prop} {W : Wd} {H : Hp} (ok : WOk F W) (s : Same W.H H) : WOk F (W.at H) :=
  ⟨fun a h z => ok.dom a h (s.free z), ok.fu, fun a h => let ⟨u, f, o⟩ := ok.pu a h; ⟨u, f, o.same s⟩⟩
theorem WOk.new {F : Addr → Prop} {W : Wd} (ok : WOk F W) {a : Addr} (h : W.H a = none) : ¬ W.U a := fun u => ok.dom a u h

theorem RepL.length {W : Wd} : ∀ {ds : List D} {vs : List V}, RepL W ds vs → ds.length = vs.length
  | [], _, h => by rw [show _ = [] from h]; rfl
  | _ :: ds, _, ⟨_, r, e, _, h⟩ => by rw [e, List.length_cons, List.length_cons, RepL.length (ds := ds) h]
theorem RepL.get {W : Wd} : ∀ {ds : List D} {vs : List V} {i : Nat} {d : D}, RepL W ds vs → ds[i]? = some d → ∃ v, vs[i]? = some v ∧ Rep W d v
  | [], _, _, _, _, e => by simp at e
  | d :: ds, _, 0, d', ⟨v, r, e, h1, h2⟩, q => by
    have : d = d' := by simpa using q
    subst this
    exact ⟨v, by rw [e]; rfl, h1⟩
  | d :: ds, _, i + 1, d', ⟨v, r, e, h1, h2⟩, q => by
    obtain ⟨v', a, b⟩ := RepL.get (i := i) (d := d') h2 (by simpa using q)
    exact ⟨v', by rw [e]; simpa using a, b⟩
theorem RepL.append {W : Wd} : ∀ {ds es : List D} {vs us : List V}, RepL W ds vs → RepL W es us → RepL W (ds ++ es) (vs ++ us)
  | [], _, _, _, h, h' => by rw [show _ = [] from h]; exact h'
  | d :: ds, es, _, us, ⟨v, r, e, h1, h2⟩, h' => ⟨v, r ++ us, by rw [e]; rfl, h1, RepL.append h2 h'⟩
theorem RepL.take {W : Wd} : ∀ {ds : List D} {vs : List V} (n : Nat), RepL W ds vs → RepL W (ds.take n) (vs.take n)
  | _, _, 0, _ => by rw [List.take_zero, List.take_zero]; rfl
  | [], _, n + 1, h => by rw [show _ = [] from h]; rfl
  | d :: ds, _, n + 1, ⟨v, r, e, h1, h2⟩ => ⟨v, r.take n, by rw [e]; rfl, h1, RepL.take n h2⟩
theorem RepL.drop {W : Wd} : ∀ {ds : List D} {vs : List V} (n : Nat), RepL W ds vs → RepL W (ds.drop n) (vs.drop n)
  | _, _, 0, h => h
  | [], _, n + 1, h => by rw [show _ = [] from h]; rfl
  | d :: ds, _, n + 1, ⟨v, r, e, h1, h2⟩ => by rw [e]; exact RepL.drop n h2
theorem RepL.set {W : Wd} {d : D} {v : V} (h : Rep W d v) : ∀ {ds : List D} {vs : List V} (n : Nat), RepL W ds vs → RepL W (ds.set n d) (vs.set n v)
  | [], _, n, h' => by rw [show _ = [] from h']; rfl
  | _ :: ds, _, 0, ⟨u, r, e, h1, h2⟩ => by rw [e]; exact ⟨v, r, rfl, h, h2⟩
  | c :: ds, _, n + 1, ⟨u, r, e, h1, h2⟩ => by rw [e]; exact ⟨u, r.set n v, rfl, h1, RepL.set h n h2⟩
theorem RepL.one {W : Wd} {d : D} {v : V} (h : Rep W d v) : RepL W [d] [v] := ⟨v, [], rfl, h, rfl⟩
theorem RepL.ints {W : Wd} : ∀ {ns : List Int} {vs : List V}, RepL W (ns.map D.int) vs ↔ vs = ns.map V.int
  | [], vs => Iff.rfl
  | n :: ns, vs => by
    constructor
    · rintro ⟨v, r, e, h1, h2⟩
      rw [e, show v = .int n from h1, RepL.ints.mp h2]; rfl
    · intro e
      exact ⟨.int n, ns.map V.int, e, rfl, RepL.ints.mpr rfl⟩
theorem RepL.strs {W : Wd} : ∀ {ns : List Str} {vs : List V}, RepL W (ns.map D.str) vs ↔ vs = ns.map V.str
  | [], vs => Iff.rfl
  | n :: ns, vs => by
    constructor
    · rintro ⟨v, r, e, h1, h2⟩
      rw [e, show v = .str n from h1, RepL.strs.mp h2]; rfl
    · intro e
      exact ⟨.str n, ns.map V.str, e, rfl, RepL.strs.mpr rfl⟩
theorem RepL.bls {W : Wd} : ∀ {ns : List Bool} {vs : List V}, RepL W (ns.map D.bl) vs ↔ vs = ns.map V.bl
  | [], vs => Iff.rfl
  | n :: ns, vs => by
    constructor
    · rintro ⟨v, r, e, h1, h2⟩
      rw [e, show v = .bl n from h1, RepL.bls.mp h2]; rfl
    · intro e
      exact ⟨.bl n, ns.map V.bl, e, rfl, RepL.bls.mpr rfl⟩

mutual
/-- what is known less of -/
def weakD : D → D
  | .tupN ds => .tup (weakDs ds) | .tup ds => .tup (weakDs ds) | .lst ds => .lst (weakDs ds)
  | d => d
def weakDs : List D → List D
  | [] => []
  | d :: ds => weakD d :: weakDs ds
end
mutual
theorem Rep.weak {W : Wd} : ∀ (d : D) (v : V), Rep W d v → Rep W (weakD d) v
  | .tupN ds, _, ⟨a, vs, e, h, n, r⟩ => ⟨a, vs, e, h.at, n, RepL.weak ds vs r⟩
  | .tup ds, _, ⟨a, vs, e, h, n, r⟩ => ⟨a, vs, e, h, n, RepL.weak ds vs r⟩
  | .lst ds, _, ⟨a, vs, e, h, n, r⟩ => ⟨a, vs, e, h, n, RepL.weak ds vs r⟩
  | .non, _, h => h
  | .bl _, _, h => h
  | .int _, _, h => h
  | .str _, _, h => h
  | .raw _, _, h => h
  | .obj _ _ _, _, h => h
  | .purse, _, h => h
  | .rng _ _, _, h => h
  | .dct _ _, _, h => h
  | .scr _ _, _, h => h
  | .tag _, _, h => h
theorem RepL.weak {W : Wd} : ∀ (ds : List D) (vs : List V), RepL W ds vs → RepL W (weakDs ds) vs
  | [], _, h => h
  | d :: ds, _, ⟨v, r, e, h1, h2⟩ => ⟨v, r, e, Rep.weak d v h1, RepL.weak ds r h2⟩
end
/-! ### the slots -/
/-- an own thing: a list, or a dict by its keys -/
structure Ow where
  ks : Option (List Key)
  ds : List D
@[reducible] def Ow.cell (o : Ow) (vs : List V) : HO := match o.ks with | none => .lst vs | some ks => .dK (ks.zip vs)
inductive Sl where
  | unset | val (d : D) | ownX (o : Ow)
@[reducible] def Sl.own (ds : List D) : Sl := .ownX ⟨none, ds⟩
@[reducible] def Sl.owd (ks : List Key) (ds : List D) : Sl := .ownX ⟨some ks, ds⟩
theorem Ow.ext (o : Ow) (vs : List V) : ∀ f, o.cell vs ≠ .ext f := fun f z => by
  obtain ⟨ks, ds⟩ := o
  cases ks <;> cases z
theorem no_extX {H : Hp} {a : Addr} {o : Ow} {vs : List V} (h : H a = some (o.cell vs)) : ∀ f, H a ≠ some (.ext f) := fun f z => by
  rw [h] at z
  exact o.ext vs f (Option.some.inj z)
abbrev Gam := List Sl

structure SR (F : Addr → Prop) (Γ : Gam) (σ : L2.St) (W : Wd) : Prop where
  ok : WOk F W
  len : Γ.length = σ.length
  val : ∀ (i : Nat) (d : D), Γ[i]? = some (Sl.val d) → ∃ v, σ[i]? = some (some v) ∧ Rep W d v
  ownX : ∀ (i : Nat) (ds : Ow), Γ[i]? = some (Sl.ownX ds) → ∃ a vs, σ[i]? = some (some (V.ref a)) ∧ W.U a ∧ ¬ F a ∧ ¬ W.P a ∧ W.H a = some (ds.cell vs) ∧ RepL W ds.ds vs
  apartX : ∀ (i j : Nat) (a : Addr) (ds es : Ow), Γ[i]? = some (Sl.ownX ds) → Γ[j]? = some (Sl.ownX es) → σ[i]? = some (some (V.ref a)) → σ[j]? = some (some (V.ref a)) → i = j
theorem SR.own {F : Addr → Prop} {Γ : Gam} {σ : L2.St} {W : Wd} (h : SR F Γ σ W) (i : Nat) (ds : List D) (e : Γ[i]? = some (Sl.own ds)) : ∃ a vs, σ[i]? = some (some (V.ref a)) ∧ W.U a ∧ ¬ F a ∧ ¬ W.P a ∧ W.H a = some (.lst vs) ∧ RepL W ds vs := h.ownX i ⟨none, ds⟩ e
theorem SR.owd {F : Addr → Prop} {Γ : Gam} {σ : L2.St} {W : Wd} (h : SR F Γ σ W) (i : Nat) (ks : List Key) (ds : List D) (e : Γ[i]? = some (Sl.owd ks ds)) : ∃ a vs, σ[i]? = some (some (V.ref a)) ∧ W.U a ∧ ¬ F a ∧ ¬ W.P a ∧ W.H a = some (.dK (ks.zip vs)) ∧ RepL W ds vs := h.ownX i ⟨some ks, ds⟩ e

theorem SR.same {F : Addr → Prop} {Γ : Gam} {σ : L2.St} {W : Wd} {H : Hp} (s : Same W.H H) (h : SR F Γ σ W) : SR F Γ σ (W.at H) :=
  ⟨h.ok.same s, h.len, fun i d e => let ⟨v, a, b⟩ := h.val i d e; ⟨v, a, b.same s⟩,
   fun i ds e => let ⟨a, vs, e1, u, f, p, q, r⟩ := h.ownX i ds e; ⟨a, vs, e1, u, f, p, s _ _ q, r.same s⟩, h.apartX⟩
/-- forgetting -/
theorem SR.weak {F : Addr → Prop} {Γ Γ' : Gam} {σ σ' : L2.St} {W : Wd} (h : SR F Γ σ W) (l : Γ'.length = σ'.length) (k : ∀ (i : Nat) (s : Sl), Γ'[i]? = some s → s = Sl.unset ∨ (Γ[i]? = some s ∧ σ'[i]? = σ[i]?)) : SR F Γ' σ' W := by
  have kv : ∀ (i : Nat) (d : D), Γ'[i]? = some (Sl.val d) → Γ[i]? = some (Sl.val d) ∧ σ'[i]? = σ[i]? := fun i d e => by
    rcases k i _ e with z | z
    · cases z
    · exact z
  have ko : ∀ (i : Nat) (d : Ow), Γ'[i]? = some (Sl.ownX d) → Γ[i]? = some (Sl.ownX d) ∧ σ'[i]? = σ[i]? := fun i d e => by
    rcases k i _ e with z | z
    · cases z
    · exact z
  refine ⟨h.ok, l, fun i d e => ?_, fun i ds e => ?_, fun i j a ds es e1 e2 e3 e4 => ?_⟩
  · obtain ⟨z, q⟩ := kv i d e
    rw [q]; exact h.val i d z
  · obtain ⟨z, q⟩ := ko i ds e
    rw [q]; exact h.ownX i ds z
  · obtain ⟨z1, q1⟩ := ko i ds e1
    obtain ⟨z2, q2⟩ := ko j es e2
    rw [q1] at e3; rw [q2] at e4
    exact h.apartX i j a ds es z1 z2 e3 e4
/-- a value is stored -/
theorem SR.set {F : Addr → Prop} {Γ : Gam} {σ : L2.St} {W : Wd} {i : Nat} {d : D} {v : V} (h : SR F Γ σ W) (r : Rep W d v) : SR F (Γ.set i (.val d)) (σ.set i (some v)) W := by
  refine ⟨h.ok, by simp [h.len], fun j e q => ?_, fun j ds q => ?_, fun j k a ds es q1 q2 q3 q4 => ?_⟩
  · by_cases hj : i = j
    · subst hj
      have hl : i < Γ.length := by
        have := (List.getElem?_eq_some_iff.mp q).1
        simpa using this
      rw [List.getElem?_set_self hl] at q
      cases q
      exact ⟨v, by rw [List.getElem?_set_self (by rw [← h.len]; exact hl)], r⟩
    · rw [List.getElem?_set_ne hj] at q ⊢
      exact h.val j e q
  · by_cases hj : i = j
    · subst hj
      have hl : i < Γ.length := by
        have := (List.getElem?_eq_some_iff.mp q).1
        simpa using this
      rw [List.getElem?_set_self hl] at q
      cases q
    · rw [List.getElem?_set_ne hj] at q ⊢
      exact h.ownX j ds q
  · have n : ∀ (j : Nat) (ds : Ow), (Γ.set i (.val d))[j]? = some (Sl.ownX ds) → i ≠ j := fun j ds q e => by
      subst e
      have hl : i < Γ.length := by
        have := (List.getElem?_eq_some_iff.mp q).1
        simpa using this
      rw [List.getElem?_set_self hl] at q
      cases q
    have n1 := n j ds q1
    have n2 := n k es q2
    rw [List.getElem?_set_ne n1] at q1 q3
    rw [List.getElem?_set_ne n2] at q2 q4
    exact h.apartX j k a ds es q1 q2 q3 q4
/-- what the callee may not touch: the frame and the own lists -/
def ownA (Γ : Gam) (σ : L2.St) (a : Addr) : Prop := ∃ (i : Nat) (ds : Ow), Γ[i]? = some (Sl.ownX ds) ∧ σ[i]? = some (some (V.ref a))
/-- behind a call -/
theorem SR.call {F : Addr → Prop} {Γ : Gam} {σ : L2.St} {W W' : Wd} (h : SR F Γ σ W) (s : Stp (fun a => F a ∨ ownA Γ σ a) W W') (ok : WOk (fun a => F a ∨ ownA Γ σ a) W') : SR F Γ σ W' := by
  refine ⟨⟨ok.dom, fun a z => ok.fu a (.inl z), fun a z => let ⟨u, f, p⟩ := ok.pu a z; ⟨u, fun w => f (.inl w), p⟩⟩, h.len, fun i d e => ?_, fun i ds e => ?_, h.apartX⟩
  · obtain ⟨v, a, b⟩ := h.val i d e
    exact ⟨v, a, b.stp s⟩
  · obtain ⟨a, vs, e1, u, f, p, q, r⟩ := h.ownX i ds e
    have o : ownA Γ σ a := ⟨i, ds, e, e1⟩
    exact ⟨a, vs, e1, ok.fu a (.inr o), f, fun z => (ok.pu a z).2.1 (.inr o), (s.fr a (.inr o)).trans q, r.stp s⟩
theorem SR.callOk {F : Addr → Prop} {Γ : Gam} {σ : L2.St} {W : Wd} (h : SR F Γ σ W) : WOk (fun a => F a ∨ ownA Γ σ a) W := by
  refine ⟨h.ok.dom, fun a z => ?_, fun a z => ?_⟩
  · rcases z with z | ⟨i, ds, e, q⟩
    · exact h.ok.fu a z
    · obtain ⟨b, vs, e1, u, _⟩ := h.ownX i ds e
      rw [q] at e1; cases e1
      exact u
  · obtain ⟨u, f, p⟩ := h.ok.pu a z
    refine ⟨u, fun w => ?_, p⟩
    rcases w with w | ⟨i, ds, e, q⟩
    · exact f w
    · obtain ⟨b, vs, e1, _, _, np, _⟩ := h.ownX i ds e
      rw [q] at e1; cases e1
      exact np z
theorem Stp.sub {F G : Addr → Prop} {W W' : Wd} (s : Stp G W W') (k : ∀ a, F a → G a) : Stp F W W' := ⟨s.keep, s.pur, fun a h => s.fr a (k a h)⟩
end Dw

/-! The judgements over data: Ev (pure), EvB (a list that is read), EvN (a new list), Dl (with draws), Ds (statements). -/
namespace Dw
open PySem PySem.Spec PyProof.Rows L2
variable [Tabs0]

def Ev (t : TE) (Γ : Gam) (d : D) : Prop := ∀ (F : Addr → Prop) (σ : L2.St) (W : Wd) (Q : VK), SR F Γ σ W → (∀ v H, Same W.H H → Rep (W.at H) d v → Q v H) → t σ W.H Q
def EvB (t : TE) (Γ : Gam) (ds : List D) : Prop := ∀ (F : Addr → Prop) (σ : L2.St) (W : Wd) (Q : VK), SR F Γ σ W → (∀ a vs H, Same W.H H → H a = some (.lst vs) → RepL (W.at H) ds vs → Q (.ref a) H) → t σ W.H Q
/-- the world where a is one's own, too -/
abbrev Wd.plus (W : Wd) (H : Hp) (a : Addr) : Wd := ⟨H, fun b => W.U b ∨ b = a, W.P⟩
theorem RepL.minus {W : Wd} {H : Hp} {a : Addr} {ds : List D} {vs : List V} (h : RepL (W.plus H a) ds vs) : RepL (W.at H) ds vs := RepL.mono (W := W.plus H a) (W' := W.at H) (fun b u e n => ⟨e, fun z => n (Or.inl z)⟩) (fun _ h => h) ds vs h
theorem RepL.plus {W : Wd} {H : Hp} {a : Addr} {ds : List D} {vs : List V} (n : W.H a = none) (s : Same W.H H) (h : RepL W ds vs) : RepL (W.plus H a) ds vs := RepL.mono (W := W) (W' := W.plus H a) (fun b u e nu => ⟨s b u e, fun z => z.elim nu fun z => by rw [z, n] at e; cases e⟩) (fun _ h => h) ds vs h
def EvN (t : TE) (Γ : Gam) (ds : List D) : Prop := ∀ (F : Addr → Prop) (σ : L2.St) (W : Wd) (Q : VK), SR F Γ σ W → (∀ a vs H, Same W.H H → W.H a = none → H a = some (.lst vs) → RepL (W.plus H a) ds vs → Q (.ref a) H) → t σ W.H Q
def EvT (t : TT) (Γ : Gam) (b : Bool) : Prop := ∀ (F : Addr → Prop) (σ : L2.St) (W : Wd) (Q : Bool → Hp → Prop), SR F Γ σ W → (∀ H, Same W.H H → Q b H) → t σ W.H Q
def EvA (t : TA) (Γ : Gam) (ds : List D) : Prop := ∀ (F : Addr → Prop) (σ : L2.St) (W : Wd) (Q : List V → Hp → Prop), SR F Γ σ W → (∀ vs H, Same W.H H → RepL (W.at H) ds vs → Q vs H) → t σ W.H Q

def Dl (t : TE) (Γ : Gam) (Q : D → Gam → Prop) : Prop := ∀ (F : Addr → Prop) (σ : L2.St) (W : Wd) (R : VK), SR F Γ σ W → (∀ v W' d Γ', Stp F W W' → SR F Γ' σ W' → Rep W' d v → Q d Γ' → R v W'.H) → t σ W.H R
def DlT (t : TT) (Γ : Gam) (Q : Bool → Gam → Prop) : Prop := ∀ (F : Addr → Prop) (σ : L2.St) (W : Wd) (R : Bool → Hp → Prop), SR F Γ σ W → (∀ b W' Γ', Stp F W W' → SR F Γ' σ W' → Q b Γ' → R b W'.H) → t σ W.H R
def DlA (t : TA) (Γ : Gam) (Q : List D → Gam → Prop) : Prop := ∀ (F : Addr → Prop) (σ : L2.St) (W : Wd) (R : List V → Hp → Prop), SR F Γ σ W → (∀ vs W' ds Γ', Stp F W W' → SR F Γ' σ W' → RepL W' ds vs → Q ds Γ' → R vs W'.H) → t σ W.H R

structure DE where
  nx : Gam → Prop
  rt : D → Prop
  bk : Gam → Prop := fun _ => False
  ct : Gam → Prop := fun _ => False
structure Lift (F : Addr → Prop) (W0 : Wd) (De : DE) (Dr : Ends) : Prop where
  nx : ∀ σ W Γ, Stp F W0 W → SR F Γ σ W → De.nx Γ → Dr.nx σ W.H
  rt : ∀ v W d, Stp F W0 W → WOk F W → Rep W d v → De.rt d → Dr.rt v W.H
  bk : ∀ σ W Γ, Stp F W0 W → SR F Γ σ W → De.bk Γ → Dr.bk σ W.H
  ct : ∀ σ W Γ, Stp F W0 W → SR F Γ σ W → De.ct Γ → Dr.ct σ W.H
theorem Lift.after {F : Addr → Prop} {W0 W1 : Wd} {De : DE} {Dr : Ends} (l : Lift F W0 De Dr) (s : Stp F W0 W1) : Lift F W1 De Dr :=
  ⟨fun σ W Γ a => l.nx σ W Γ (s.trans a), fun v W d a => l.rt v W d (s.trans a), fun σ W Γ a => l.bk σ W Γ (s.trans a), fun σ W Γ a => l.ct σ W Γ (s.trans a)⟩
def Ds (t : TS) (Γ : Gam) (De : DE) : Prop := ∀ (F : Addr → Prop) (σ : L2.St) (W : Wd) (Dr : Ends), SR F Γ σ W → Lift F W De Dr → t Dr σ W.H

/-! ### from the pure to the others -/
section
variable {t : TE} {Γ : Gam} {d : D} {ds : List D}
theorem Same.up {W : Wd} {H H' : Hp} (a : Same W.H H) (b : Same (W.at H).H H') : Same W.H H' := Same.trans a b
theorem EvN.b (h : EvN t Γ ds) : EvB t Γ ds := fun F σ W Q r k => h F σ W Q r fun a vs H s _ e l => k a vs H s e l.minus
theorem EvN.ev (h : EvN t Γ ds) : Ev t Γ (.lst ds) := fun F σ W Q r k => h F σ W Q r fun a vs H s n e l => k _ H s ⟨a, vs, rfl, e, r.ok.new n, l.minus⟩
theorem Ev.b (h : Ev t Γ (.lst ds)) : EvB t Γ ds := fun F σ W Q r k => h F σ W Q r fun v H s ⟨a, vs, e, q, _, l⟩ => by subst e; exact k a vs H s q l
theorem Ev.dl {Q : D → Gam → Prop} (h : Ev t Γ d) (q : Q d Γ) : Dl t Γ Q := fun F σ W R r k => h F σ W R r fun v H s l => k v (W.at H) d Γ (Stp.of_same r.ok s) (r.same s) l q
theorem Dl.imp {Q Q' : D → Gam → Prop} (h : Dl t Γ Q) (k : ∀ d Γ', Q d Γ' → Q' d Γ') : Dl t Γ Q' := fun F σ W R r z => h F σ W R r fun v W' d Γ' s r' l q => z v W' d Γ' s r' l (k d Γ' q)
theorem EvT.dl {t : TT} {b : Bool} {Q : Bool → Gam → Prop} (h : EvT t Γ b) (q : Q b Γ) : DlT t Γ Q := fun F σ W R r k => h F σ W R r fun H s => k b (W.at H) Γ (Stp.of_same r.ok s) (r.same s) q
theorem EvA.dl {t : TA} {Q : List D → Gam → Prop} (h : EvA t Γ ds) (q : Q ds Γ) : DlA t Γ Q := fun F σ W R r k => h F σ W R r fun vs H s l => k vs (W.at H) ds Γ (Stp.of_same r.ok s) (r.same s) l q
end

/-! ### names, constants -/
section
variable {Γ : Gam} {i : Nat} {d : D} {ds : List D}
theorem ev_var (h : Γ[i]? = some (.val d)) : Ev (tVar i) Γ d := fun F σ W Q r k => let ⟨v, e, l⟩ := r.val i d h; ⟨v, e, k v W.H (Same.refl _) l⟩
theorem evb_own (h : Γ[i]? = some (.own ds)) : EvB (tVar i) Γ ds := fun F σ W Q r k => let ⟨a, vs, e, _, _, _, q, l⟩ := r.own i ds h; ⟨.ref a, e, k a vs W.H (Same.refl _) q l⟩
theorem ev_int {z : Int} : Ev (tC (.int z)) Γ (.int z) := fun F σ W Q r k => k _ W.H (Same.refl _) rfl
theorem ev_bl {z : Bool} : Ev (tC (.bl z)) Γ (.bl z) := fun F σ W Q r k => k _ W.H (Same.refl _) rfl
theorem ev_str {z : Str} : Ev (tC (.str z)) Γ (.str z) := fun F σ W Q r k => k _ W.H (Same.refl _) rfl
theorem ev_non : Ev (tC .non) Γ .non := fun F σ W Q r k => k _ W.H (Same.refl _) rfl
theorem ev_raw {z : V} : Ev (tC z) Γ (.raw z) := fun F σ W Q r k => k _ W.H (Same.refl _) rfl
end

/-! ### arguments -/
section
variable {Γ : Gam} {t : TE} {tr : TA} {d : D} {ds : List D}
theorem eva_nil : EvA tNil Γ [] := fun F σ W Q r k => k [] W.H (Same.refl _) rfl
theorem eva_cons (h : Ev t Γ d) (hr : EvA tr Γ ds) : EvA (tCons t tr) Γ (d :: ds) := fun F σ W Q r k =>
  h F σ W _ r fun v H s l => hr F σ (W.at H) _ (r.same s) fun vs H' s' l' => k (v :: vs) H' (Same.trans s s') ⟨v, vs, rfl, Rep.same (W := W.at H) s' l, l'⟩
theorem dla_nil {Q : List D → Gam → Prop} (q : Q [] Γ) : DlA tNil Γ Q := eva_nil.dl q
theorem dla_cons {Q : List D → Gam → Prop} (h : Dl t Γ fun d Γ1 => DlA tr Γ1 fun ds Γ2 => Q (d :: ds) Γ2) : DlA (tCons t tr) Γ Q := fun F σ W R r k =>
  h F σ W _ r fun v W1 d Γ1 s1 r1 l1 h1 => h1 F σ W1 _ r1 fun vs W2 ds Γ2 s2 r2 l2 q => k (v :: vs) W2 (d :: ds) Γ2 (s1.trans s2) r2 ⟨v, vs, rfl, l1.stp s2, l2⟩ q
end

/-! ### operators -/
/-- what a two-place operator gives on data -/
def DR2 (r : R2) (x y d : D) : Prop := ∀ (W : Wd) (u v : V) (Q : VK), (∀ a, W.U a → W.H a ≠ none) → Rep W x u → Rep W y v → (∀ z H, Same W.H H → Rep (W.at H) d z → Q z H) → r u v W.H Q
def DR1 (r : V → Hp → VK → Prop) (x d : D) : Prop := ∀ (W : Wd) (u : V) (Q : VK), (∀ a, W.U a → W.H a ≠ none) → Rep W x u → (∀ z H, Same W.H H → Rep (W.at H) d z → Q z H) → r u W.H Q
def DRL (r : List V → Hp → VK → Prop) (xs : List D) (d : D) : Prop := ∀ (W : Wd) (us : List V) (Q : VK), (∀ a, W.U a → W.H a ≠ none) → RepL W xs us → (∀ z H, Same W.H H → Rep (W.at H) d z → Q z H) → r us W.H Q
section
variable {Γ : Gam} {ta tb : TE} {r : R2} {x y d : D}
theorem ev_op (ha : Ev ta Γ x) (hb : Ev tb Γ y) (hr : DR2 r x y d) : Ev (tOp r ta tb) Γ d := fun F σ W Q g k =>
  ha F σ W _ g fun u H s l => hb F σ (W.at H) _ (g.same s) fun v H' s' l' => hr (W.at H') u v Q ((g.same s).same s').ok.dom (Rep.same (W := W.at H) s' l) l' fun z H'' s'' q => k z H'' (Same.trans s (Same.trans s' s'')) q
theorem dl_op {Q : D → Gam → Prop} (h : Dl ta Γ fun x Γ1 => Dl tb Γ1 fun y Γ2 => ∃ d, DR2 r x y d ∧ Q d Γ2) : Dl (tOp r ta tb) Γ Q := fun F σ W R g k =>
  h F σ W _ g fun u W1 x Γ1 s1 g1 l1 h1 => h1 F σ W1 _ g1 fun v W2 y Γ2 s2 g2 l2 ⟨d, hr, q⟩ => hr W2 u v R g2.ok.dom (l1.stp s2) l2 fun z H s3 l3 =>
    k z (W2.at H) d Γ2 ((s1.trans s2).trans (Stp.of_same g2.ok s3)) (g2.same s3) l3 q
theorem ev_un {r : V → Hp → VK → Prop} (ha : Ev ta Γ x) (hr : DR1 r x d) : Ev (tUn r ta) Γ d := fun F σ W Q g k =>
  ha F σ W _ g fun u H s l => hr (W.at H) u Q (g.same s).ok.dom l fun z H' s' q => k z H' (Same.trans s s') q
theorem ev_cb {r : List V → Hp → VK → Prop} {t : TA} {xs : List D} (ha : EvA t Γ xs) (hr : DRL r xs d) : Ev (tCB r t) Γ d := fun F σ W Q g k =>
  ha F σ W _ g fun us H s l => hr (W.at H) us Q (g.same s).ok.dom l fun z H' s' q => k z H' (Same.trans s s') q
theorem dl_cb {r : List V → Hp → VK → Prop} {t : TA} {Q : D → Gam → Prop} (h : DlA t Γ fun xs Γ1 => ∃ d, DRL r xs d ∧ Q d Γ1) : Dl (tCB r t) Γ Q := fun F σ W R g k =>
  h F σ W _ g fun us W1 xs Γ1 s1 g1 l1 ⟨d, hr, q⟩ => hr W1 us R g1.ok.dom l1 fun z H s3 l3 => k z (W1.at H) d Γ1 (s1.trans (Stp.of_same g1.ok s3)) (g1.same s3) l3 q
end
/-- no new object -/
theorem dr2_flat {r : R2} {x y d : D} (h : ∀ (W : Wd) (u v : V) (Q : VK), Rep W x u → Rep W y v → (∀ z, Rep W d z → Q z W.H) → r u v W.H Q) : DR2 r x y d :=
  fun W u v Q _ a b k => h W u v Q a b fun z q => k z W.H (Same.refl _) q
theorem same_upd {H : Hp} {p : Addr} {o : HO} (h : H p = none) : Same H (upd H p o) := fun b x e => by
  rw [upd_ne (ne_of_none e h)]
  exact e
theorem rep_new_lst {W : Wd} {p : Addr} {ds : List D} {vs : List V} (dom : ∀ a, W.U a → W.H a ≠ none) (h : W.H p = none) (l : RepL W ds vs) : Rep (W.at (upd W.H p (.lst vs))) (.lst ds) (.ref p) :=
  ⟨p, vs, rfl, upd_same, fun u => dom p u h, l.same (same_upd h)⟩
theorem rep_new_tup {W : Wd} {p : Addr} {ds : List D} {vs : List V} (dom : ∀ a, W.U a → W.H a ≠ none) (h : W.H p = none) (l : RepL W ds vs) : Rep (W.at (upd W.H p (.tup vs))) (.tup ds) (.ref p) :=
  ⟨p, vs, rfl, .mk upd_same, fun u => dom p u h, l.same (same_upd h)⟩

section
variable {i j : Int} {x y : Str} {ds es : List D} {K : PySem.W.Frag}
theorem dr2_rI0 {g : Int → Int → V} {d : D} (h : ∀ W, Rep W d (g i j)) : DR2 (rI0 g) (.int i) (.int j) d := dr2_flat fun W u v Q a b k => ⟨i, j, a, b, k _ (h W)⟩
theorem dr2_rI {C : Int → Int → Prop} {g : Int → Int → V} {d : D} (hc : C i j) (h : ∀ W, Rep W d (g i j)) : DR2 (rI C g) (.int i) (.int j) d := dr2_flat fun W u v Q a b k => ⟨i, j, a, b, hc, k _ (h W)⟩
theorem dr2_add : DR2 (rI0 fun i j => .int (i + j)) (.int i) (.int j) (.int (i + j)) := dr2_rI0 fun _ => rfl
theorem dr2_sub : DR2 (rI0 fun i j => .int (i - j)) (.int i) (.int j) (.int (i - j)) := dr2_rI0 fun _ => rfl
theorem dr2_mul (h : CMul i j) : DR2 (rI CMul fun i j => .int (i * j)) (.int i) (.int j) (.int (i * j)) := dr2_rI h fun _ => rfl
theorem dr2_mod (h : 0 < j) : DR2 (rI (fun _ j => 0 < j) fun i j => .int (i % j)) (.int i) (.int j) (.int (i % j)) := dr2_rI h fun _ => rfl
theorem dr2_lt : DR2 (rI0 fun i j => .bl (decide (i < j))) (.int i) (.int j) (.bl (decide (i < j))) := dr2_rI0 fun _ => rfl
theorem dr2_le : DR2 (rI0 fun i j => .bl (decide (i ≤ j))) (.int i) (.int j) (.bl (decide (i ≤ j))) := dr2_rI0 fun _ => rfl
theorem dr2_gt : DR2 (rI0 fun i j => .bl (decide (j < i))) (.int i) (.int j) (.bl (decide (j < i))) := dr2_rI0 fun _ => rfl
theorem dr2_ge : DR2 (rI0 fun i j => .bl (decide (j ≤ i))) (.int i) (.int j) (.bl (decide (j ≤ i))) := dr2_rI0 fun _ => rfl
abbrev rAddStr : R2 := fun x y H Q => ∃ i j, x = .str i ∧ y = .str j ∧ i.length + j.length ≤ sizeLine ∧ Q (.str (i ++ j)) H
theorem dr2_add_str (h : x.length + y.length ≤ sizeLine) : DR2 rAddStr (.str x) (.str y) (.str (x ++ y)) := dr2_flat fun W u v Q a b k => ⟨x, y, a, b, h, k _ rfl⟩
theorem dr2_cat (h : ds.length + es.length ≤ sizeLine) : DR2 rCat (.lst ds) (.lst es) (.lst (ds ++ es)) := fun W u v Q dom ⟨a, vs, e1, h1, n1, l1⟩ ⟨b, ws, e2, h2, n2, l2⟩ k =>
  ⟨a, b, vs, ws, e1, e2, h1, h2, by rw [← l1.length, ← l2.length]; exact h, fun p hp => k _ _ (same_upd hp) (rep_new_lst dom hp (l1.append l2))⟩
theorem dr2_eq_int : DR2 rEq (.int i) (.int j) (.bl (decide (i = j))) := dr2_flat fun W u v Q a b k => by
  rw [show u = .int i from a, show v = .int j from b]
  exact ⟨rfl, k _ (congrArg V.bl (by simp))⟩
theorem dr2_eq_str : DR2 rEq (.str x) (.str y) (.bl (decide (x = y))) := dr2_flat fun W u v Q a b k => by
  rw [show u = .str x from a, show v = .str y from b]
  exact ⟨rfl, k _ (congrArg V.bl (by simp))⟩
theorem dr2_ne_int : DR2 rNe (.int i) (.int j) (.bl (!decide (i = j))) := dr2_flat fun W u v Q a b k => by
  rw [show u = .int i from a, show v = .int j from b]
  exact ⟨rfl, k _ (congrArg V.bl (by simp))⟩
theorem dr2_ne_str : DR2 rNe (.str x) (.str y) (.bl (!decide (x = y))) := dr2_flat fun W u v Q a b k => by
  rw [show u = .str x from a, show v = .str y from b]
  exact ⟨rfl, k _ (congrArg V.bl (by simp))⟩
end

/-! ### deep equality -/
mutual
def py : D → PyData
  | .non => .none | .bl b => .bool b | .int i => .int i | .str x => .str x
  | .tup ds => .tuple (pys ds) | .lst ds => .list (pys ds)
  | .tupN ds => .tuple (pys ds)
  | .obj _ _ _ => .none | .raw _ => .none | .purse => .none | .rng _ _ => .none | .dct _ _ => .none | .scr _ _ => .none | .tag _ => .none
def pys : List D → List PyData
  | [] => []
  | d :: ds => py d :: pys ds
end
mutual
def isPy : D → Bool
  | .obj _ _ _ => false | .raw _ => false | .purse => false | .rng _ _ => false | .dct _ _ => false | .scr _ _ => false | .tag _ => false
  | .tup ds => isPys ds | .lst ds => isPys ds | .tupN ds => isPys ds
  | _ => true
def isPys : List D → Bool
  | [] => true
  | d :: ds => isPy d && isPys ds
end
mutual
theorem dp_of {K : PySem.W.Frag} {W : Wd} : ∀ (d : D) (v : V), isPy d = true → Rep W d v → Dp K W.H v (py d)
  | .non, _, _, h => by rw [show _ = V.non from h]; exact .non
  | .bl b, _, _, h => by rw [show _ = V.bl b from h]; exact .bl b
  | .int b, _, _, h => by rw [show _ = V.int b from h]; exact .int b
  | .str b, _, _, h => by rw [show _ = V.str b from h]; exact .str b
  | .tup ds, _, p, ⟨a, vs, e, h, _, l⟩ => by rw [e]; exact .tup h.sq (dps_of ds vs p l)
  | .tupN ds, _, p, ⟨a, vs, e, h, _, l⟩ => by rw [e]; exact .tup h.at.sq (dps_of ds vs p l)
  | .lst ds, _, p, ⟨a, vs, e, h, _, l⟩ => by rw [e]; exact .lst (.of h) (dps_of ds vs p l)
  | .obj _ _ _, _, p, _ => nomatch p
  | .raw _, _, p, _ => nomatch p
  | .purse, _, p, _ => nomatch p
  | .rng _ _, _, p, _ => nomatch p
  | .dct _ _, _, p, _ => nomatch p
  | .scr _ _, _, p, _ => nomatch p
  | .tag _, _, p, _ => nomatch p
theorem dps_of {K : PySem.W.Frag} {W : Wd} : ∀ (ds : List D) (vs : List V), isPys ds = true → RepL W ds vs → DpAll K W.H vs (pys ds)
  | [], _, _, h => by rw [show _ = [] from h]; exact .nil
  | d :: ds, _, p, ⟨v, r, e, h1, h2⟩ => by
    have p' : isPy d = true ∧ isPys ds = true := by simpa [isPys] using p
    rw [e]
    exact .cons (dp_of d v p'.1 h1) (dps_of ds r p'.2 h2)
end
section
variable {K : PySem.W.Frag} {x y : D} {ta tb : TE} {Γ : Gam} {ds es : List D}
theorem dr2_eqD (px : isPy x = true) (py' : isPy y = true) (sx : SeqAt.shaped (py x) = true) (sy : SeqAt.shaped (py y) = true) : DR2 (rEqD K) x y (.bl (PyData.eqv (py x) (py y))) :=
  dr2_flat fun W u v Q a b k => ⟨_, _, dp_of x u px a, dp_of y v py' b, sx, sy, k _ rfl⟩
theorem dr2_neD (px : isPy x = true) (py' : isPy y = true) (sx : SeqAt.shaped (py x) = true) (sy : SeqAt.shaped (py y) = true) : DR2 (rNeD K) x y (.bl (!PyData.eqv (py x) (py y))) :=
  dr2_flat fun W u v Q a b k => ⟨_, _, dp_of x u px a, dp_of y v py' b, sx, sy, k _ rfl⟩
end
end Dw

/-! Rules over data: tests, statements, calls, lists that are one's own. -/
namespace Dw
open PySem PySem.Spec PyProof.Rows L2
variable [Tabs0]

/-! ### tests -/
section
variable {Γ : Gam} {t ta tb : TE} {c ct' : TT} {a b : Bool} {d d1 d2 : D} {ds : List D} {K : PySem.W.Frag}
abbrev tTru (K : PySem.W.Frag) (ta : TE) : TT := fun σ H Q => ta σ H fun x H' => ∃ k, TruV K x H' k ∧ Q k H'
theorem evt_test (h : Ev t Γ (.bl b)) : EvT (tTest t) Γ b := fun F σ W Q g k => h F σ W _ g fun v H s l => ⟨b, l, k H s⟩
theorem evt_tru_bl (h : Ev t Γ (.bl b)) : EvT (tTru K t) Γ b := fun F σ W Q g k => h F σ W _ g fun v H s l => ⟨b, by rw [show v = .bl b from l]; rfl, k H s⟩
theorem evt_and (h : EvT c Γ a) (h' : a = true → EvT ct' Γ b) : EvT (tAnd c ct') Γ (a && b) := fun F σ W Q g k => h F σ W _ g fun H s => by
  cases a with
  | true => exact h' rfl F σ (W.at H) Q (g.same s) fun H' s' => k H' (Same.trans s s')
  | false => exact k H s
theorem evt_or (h : EvT c Γ a) (h' : a = false → EvT ct' Γ b) : EvT (tOr c ct') Γ (a || b) := fun F σ W Q g k => h F σ W _ g fun H s => by
  cases a with
  | false => exact h' rfl F σ (W.at H) Q (g.same s) fun H' s' => k H' (Same.trans s s')
  | true => exact k H s
theorem evt_not (h : EvT c Γ a) : EvT (tNot c) Γ (!a) := fun F σ W Q g k => h F σ W _ g fun H s => k H s
theorem evt_yes : EvT tYes Γ true := fun F σ W Q g k => k W.H (Same.refl _)
theorem dlt_test {Q : Bool → Gam → Prop} (h : Dl t Γ fun d Γ1 => ∃ b, d = .bl b ∧ Q b Γ1) : DlT (tTest t) Γ Q := fun F σ W R g k => h F σ W _ g fun v W1 d Γ1 s g1 l ⟨b, e, q⟩ => ⟨b, by rw [e] at l; exact l, k b W1 Γ1 s g1 q⟩
theorem dlt_tru_bl {Q : Bool → Gam → Prop} (h : Dl t Γ fun d Γ1 => ∃ b, d = .bl b ∧ Q b Γ1) : DlT (tTru K t) Γ Q := fun F σ W R g k => h F σ W _ g fun v W1 d Γ1 s g1 l ⟨b, e, q⟩ => ⟨b, by rw [e] at l; rw [show v = .bl b from l]; rfl, k b W1 Γ1 s g1 q⟩
theorem dlt_not {Q : Bool → Gam → Prop} (h : DlT c Γ fun b Γ1 => Q (!b) Γ1) : DlT (tNot c) Γ Q := fun F σ W R g k => h F σ W _ g fun b W1 Γ1 s g1 q => k (!b) W1 Γ1 s g1 q
theorem dlt_and {Q : Bool → Gam → Prop} (h : DlT c Γ fun b Γ1 => (b = true → DlT ct' Γ1 Q) ∧ (b = false → Q false Γ1)) : DlT (tAnd c ct') Γ Q := fun F σ W R g k => h F σ W _ g fun b W1 Γ1 s g1 q => by
  cases b with
  | true => exact q.1 rfl F σ W1 R g1 fun b' W2 Γ2 s2 g2 q2 => k b' W2 Γ2 (s.trans s2) g2 q2
  | false => exact k false W1 Γ1 s g1 (q.2 rfl)
theorem dlt_or {Q : Bool → Gam → Prop} (h : DlT c Γ fun b Γ1 => (b = false → DlT ct' Γ1 Q) ∧ (b = true → Q true Γ1)) : DlT (tOr c ct') Γ Q := fun F σ W R g k => h F σ W _ g fun b W1 Γ1 s g1 q => by
  cases b with
  | false => exact q.1 rfl F σ W1 R g1 fun b' W2 Γ2 s2 g2 q2 => k b' W2 Γ2 (s.trans s2) g2 q2
  | true => exact k true W1 Γ1 s g1 (q.2 rfl)
theorem dlt_yes {Q : Bool → Gam → Prop} (h : Q true Γ) : DlT tYes Γ Q := evt_yes.dl h
/-! ### choice, and, or as values -/
theorem ev_if (h : EvT c Γ a) (h1 : a = true → Ev ta Γ d1) (h2 : a = false → Ev tb Γ d2) : Ev (tIf c ta tb) Γ (if a = true then d1 else d2) := fun F σ W Q g k => h F σ W _ g fun H s => by
  cases a with
  | true => exact h1 rfl F σ (W.at H) Q (g.same s) fun v H' s' l => k v H' (Same.trans s s') l
  | false => exact h2 rfl F σ (W.at H) Q (g.same s) fun v H' s' l => k v H' (Same.trans s s') l
theorem dl_if {Q : D → Gam → Prop} (h : DlT c Γ fun b Γ1 => (b = true → Dl ta Γ1 Q) ∧ (b = false → Dl tb Γ1 Q)) : Dl (tIf c ta tb) Γ Q := fun F σ W R g k => h F σ W _ g fun b W1 Γ1 s g1 q => by
  cases b with
  | true => exact q.1 rfl F σ W1 R g1 fun v W2 d Γ2 s2 g2 l q2 => k v W2 d Γ2 (s.trans s2) g2 l q2
  | false => exact q.2 rfl F σ W1 R g1 fun v W2 d Γ2 s2 g2 l q2 => k v W2 d Γ2 (s.trans s2) g2 l q2
theorem ev_andV (h : Ev ta Γ (.bl a)) (h' : a = true → Ev tb Γ (.bl b)) : Ev (tAndV ta tb) Γ (.bl (a && b)) := fun F σ W Q g k => h F σ W _ g fun v H s l => ⟨a, l, by
  cases a with
  | true => exact h' rfl F σ (W.at H) Q (g.same s) fun v H' s' l => k v H' (Same.trans s s') l
  | false => exact k _ H s rfl⟩
theorem ev_orV (h : Ev ta Γ (.bl a)) (h' : a = false → Ev tb Γ (.bl b)) : Ev (tOrV ta tb) Γ (.bl (a || b)) := fun F σ W Q g k => h F σ W _ g fun v H s l => ⟨a, l, by
  cases a with
  | false => exact h' rfl F σ (W.at H) Q (g.same s) fun v H' s' l => k v H' (Same.trans s s') l
  | true => exact k _ H s rfl⟩
end

/-! ### displays -/
section
variable {Γ : Gam} {t : TA} {ds : List D}
theorem evn_lst (h : EvA t Γ ds) (hz : ds.length ≤ sizeLine) : EvN (tLst t) Γ ds := fun F σ W Q g k => h F σ W _ g fun vs H s l => ⟨by rw [← l.length]; exact hz, fun p hp =>
  k p vs _ (Same.trans s (same_upd hp)) (s.free hp) upd_same (RepL.plus (W := W.at H) hp (same_upd hp) l)⟩
theorem ev_tup (h : EvA t Γ ds) (hz : ds.length ≤ sizeLine) : Ev (tTup t) Γ (.tup ds) := fun F σ W Q g k => h F σ W _ g fun vs H s l => ⟨by rw [← l.length]; exact hz, fun p hp =>
  k _ _ (Same.trans s (same_upd hp)) (rep_new_tup (W := W.at H) (g.same s).ok.dom hp l)⟩
theorem dl_lst {Q : D → Gam → Prop} (h : DlA t Γ fun ds Γ1 => ds.length ≤ sizeLine ∧ Q (.lst ds) Γ1) : Dl (tLst t) Γ Q := fun F σ W R g k => h F σ W _ g fun vs W1 ds Γ1 s g1 l ⟨hz, q⟩ => ⟨by rw [← l.length]; exact hz, fun p hp =>
  k _ (W1.at _) (.lst ds) Γ1 (s.trans (Stp.of_same g1.ok (same_upd hp))) (g1.same (same_upd hp)) (rep_new_lst g1.ok.dom hp l) q⟩
theorem dl_tup {Q : D → Gam → Prop} (h : DlA t Γ fun ds Γ1 => ds.length ≤ sizeLine ∧ Q (.tup ds) Γ1) : Dl (tTup t) Γ Q := fun F σ W R g k => h F σ W _ g fun vs W1 ds Γ1 s g1 l ⟨hz, q⟩ => ⟨by rw [← l.length]; exact hz, fun p hp =>
  k _ (W1.at _) (.tup ds) Γ1 (s.trans (Stp.of_same g1.ok (same_upd hp))) (g1.same (same_upd hp)) (rep_new_tup g1.ok.dom hp l) q⟩
end

/-! ### a list of one's own -/
theorem SR.plus {F : Addr → Prop} {Γ : Gam} {σ : L2.St} {W : Wd} {a : Addr} {H : Hp} (g : SR F Γ σ W) (s : Same W.H H) (n : W.H a = none) (ne : H a ≠ none) :
    Stp F W (W.plus H a) ∧ SR F Γ σ (W.plus H a) ∧ ¬ ownA Γ σ a ∧ ¬ F a ∧ ¬ W.P a := by
  have nu : ¬ W.U a := g.ok.new n
  have kp : ∀ b u, W.H b = some u → ¬ W.U b → H b = some u ∧ ¬ (W.U b ∨ b = a) := fun b u q nb => ⟨s b u q, fun z => z.elim nb fun z => by rw [z, n] at q; cases q⟩
  have st : Stp F W (W.plus H a) := ⟨kp, rfl, fun b h => by
    cases q : W.H b with
    | none => exact absurd q (g.ok.dom b (g.ok.fu b h))
    | some u => exact s b u q⟩
  refine ⟨st, ⟨⟨fun b h z => ?_, fun b h => Or.inl (g.ok.fu b h), fun b h => ?_⟩, g.len, fun j d q => ?_, fun j es q => ?_, g.apartX⟩, fun ⟨i, ds, e, q⟩ => ?_, fun z => nu (g.ok.fu a z), fun z => nu (g.ok.pu a z).1⟩
  · have z : H b = none := z
    rcases h with h | h
    · exact g.ok.dom b h (s.free z)
    · rw [h] at z; exact ne z
  · obtain ⟨u, f, o⟩ := g.ok.pu b h
    exact ⟨Or.inl u, f, o.same s⟩
  · obtain ⟨v, e1, r⟩ := g.val j d q
    exact ⟨v, e1, r.stp st⟩
  · obtain ⟨c, ws, e1, u, f, p, q1, r⟩ := g.ownX j es q
    exact ⟨c, ws, e1, Or.inl u, f, p, s _ _ q1, r.stp st⟩
  · obtain ⟨c, ws, e1, u, f, p, q1, r⟩ := g.ownX i ds e
    rw [q] at e1; cases e1
    exact nu u
theorem SR.adoptX {F : Addr → Prop} {Γ : Gam} {σ : L2.St} {W : Wd} {i : Nat} {a : Addr} {vs : List V} {ds : Ow} (g : SR F Γ σ W) (u : W.U a) (f : ¬ F a) (p : ¬ W.P a) (e : W.H a = some (ds.cell vs)) (l : RepL W ds.ds vs) (no : ¬ ownA Γ σ a) :
    SR F (Γ.set i (.ownX ds)) (σ.set i (some (.ref a))) W := by
  have lt : ∀ (k : Nat) (s : Sl), k = i → (Γ.set i (.ownX ds))[k]? = some s → i < Γ.length := fun k s hk q => by
    rw [hk] at q
    have := (List.getElem?_eq_some_iff.mp q).1
    simpa using this
  refine ⟨g.ok, by simp [g.len], fun j d q => ?_, fun j es q => ?_, fun j k c es fs q1 q2 q3 q4 => ?_⟩
  · by_cases hj : j = i
    · have hl := lt j _ hj q
      rw [hj, List.getElem?_set_self hl] at q; cases q
    · rw [List.getElem?_set_ne (Ne.symm hj)] at q ⊢
      exact g.val j d q
  · by_cases hj : j = i
    · have hl := lt j _ hj q
      rw [hj, List.getElem?_set_self hl] at q; cases q
      exact ⟨a, vs, by rw [hj, List.getElem?_set_self (by rw [← g.len]; exact hl)], u, f, p, e, l⟩
    · rw [List.getElem?_set_ne (Ne.symm hj)] at q ⊢
      exact g.ownX j es q
  · by_cases hj : j = i
    · have hl := lt j _ hj q1
      rw [hj, List.getElem?_set_self (by rw [← g.len]; exact hl)] at q3
      by_cases hk : k = i
      · rw [hj, hk]
      · rw [List.getElem?_set_ne (Ne.symm hk)] at q2 q4
        cases q3
        exact absurd ⟨k, fs, q2, q4⟩ no
    · rw [List.getElem?_set_ne (Ne.symm hj)] at q1 q3
      by_cases hk : k = i
      · have hl := lt k _ hk q2
        rw [hk, List.getElem?_set_self (by rw [← g.len]; exact hl)] at q4
        cases q4
        exact absurd ⟨j, es, q1, q3⟩ no
      · rw [List.getElem?_set_ne (Ne.symm hk)] at q2 q4
        exact g.apartX j k c es fs q1 q2 q3 q4
theorem SR.adopt {F : Addr → Prop} {Γ : Gam} {σ : L2.St} {W : Wd} {i : Nat} {a : Addr} {vs : List V} {ds : List D} (g : SR F Γ σ W) (u : W.U a) (f : ¬ F a) (p : ¬ W.P a) (e : W.H a = some (.lst vs)) (l : RepL W ds vs) (no : ¬ ownA Γ σ a) :
    SR F (Γ.set i (.own ds)) (σ.set i (some (.ref a))) W := g.adoptX (ds := ⟨none, ds⟩) u f p e l no
theorem SR.setOwn {F : Addr → Prop} {Γ : Gam} {σ : L2.St} {W : Wd} {i : Nat} {a : Addr} {vs : List V} {ds : List D} {H : Hp} (g : SR F Γ σ W) (s : Same W.H H) (n : W.H a = none) (e : H a = some (.lst vs)) (l : RepL (W.plus H a) ds vs) :
    Stp F W (W.plus H a) ∧ SR F (Γ.set i (.own ds)) (σ.set i (some (.ref a))) (W.plus H a) := by
  obtain ⟨st, g2, no, f, p⟩ := g.plus s n (by rw [e]; exact fun z => nomatch z)
  exact ⟨st, g2.adopt (Or.inr rfl) f p e l no⟩
end Dw

/-! Rules over data: own lists changed, statements, defs and their calls. -/
namespace Dw
open PySem PySem.Spec PyProof.Rows L2
variable [Tabs0]

/-! ### an own list is changed -/
theorem SR.writeX {F : Addr → Prop} {Γ : Gam} {σ : L2.St} {W : Wd} {i : Nat} {a : Addr} {vs : List V} {ds es : Ow} (g : SR F Γ σ W) (hi : Γ[i]? = some (.ownX ds)) (hs : σ[i]? = some (some (.ref a))) (l : RepL W es.ds vs) :
    Stp F W (W.at (upd W.H a (es.cell vs))) ∧ SR F (Γ.set i (.ownX es)) σ (W.at (upd W.H a (es.cell vs))) := by
  obtain ⟨a', us, e1, u, f, p, q, r⟩ := g.ownX i ds hi
  rw [hs] at e1; cases e1
  have kp : ∀ b o, W.H b = some o → ¬ W.U b → (upd W.H a (es.cell vs)) b = some o ∧ ¬ W.U b := fun b o e n => ⟨by rw [upd_ne (fun z : b = a => n (by rw [z]; exact u))]; exact e, n⟩
  have st : Stp F W (W.at (upd W.H a (es.cell vs))) := ⟨kp, rfl, fun b h => upd_ne (fun z : b = a => f (by rw [← z]; exact h))⟩
  refine ⟨st, ⟨⟨fun b h z => ?_, g.ok.fu, fun b h => ?_⟩, by simp [g.len], fun j d q' => ?_, fun j fs q' => ?_, fun j k c es' fs q1 q2 q3 q4 => ?_⟩⟩
  · have z : (upd W.H a (es.cell vs)) b = none := z
    by_cases hb : b = a
    · rw [hb, upd_same] at z; cases z
    · rw [upd_ne hb] at z; exact g.ok.dom b h z
  · obtain ⟨u', f', o⟩ := g.ok.pu b h
    exact ⟨u', f', o.upd (no_extX q) fun z : b = a => p (by rw [← z]; exact h)⟩
  · have hj : i ≠ j := fun z => by
      subst z
      have hl : i < Γ.length := (List.getElem?_eq_some_iff.mp hi).1
      rw [List.getElem?_set_self hl] at q'; cases q'
    rw [List.getElem?_set_ne hj] at q'
    obtain ⟨v, e1, r'⟩ := g.val j d q'
    exact ⟨v, e1, r'.stp st⟩
  · by_cases hj : i = j
    · subst hj
      have hl : i < Γ.length := (List.getElem?_eq_some_iff.mp hi).1
      rw [List.getElem?_set_self hl] at q'; cases q'
      exact ⟨a, vs, hs, u, f, p, upd_same, l.stp st⟩
    · rw [List.getElem?_set_ne hj] at q'
      obtain ⟨c, ws, e1, u', f', p', q1, r'⟩ := g.ownX j fs q'
      have nc : c ≠ a := fun z => hj (g.apartX i j a ds fs hi q' hs (z ▸ e1))
      exact ⟨c, ws, e1, u', f', p', (upd_ne nc).trans q1, r'.stp st⟩
  · have get : ∀ (j : Nat) (es' : Ow), (Γ.set i (.ownX es))[j]? = some (Sl.ownX es') → ∃ fs, Γ[j]? = some (Sl.ownX fs) := fun j es' q => by
      by_cases hj : i = j
      · subst hj; exact ⟨ds, hi⟩
      · rw [List.getElem?_set_ne hj] at q; exact ⟨es', q⟩
    obtain ⟨x, e1⟩ := get j es' q1
    obtain ⟨y, e2⟩ := get k fs q2
    exact g.apartX j k c x y e1 e2 q3 q4
theorem SR.write {F : Addr → Prop} {Γ : Gam} {σ : L2.St} {W : Wd} {i : Nat} {a : Addr} {vs : List V} {ds es : List D} (g : SR F Γ σ W) (hi : Γ[i]? = some (.own ds)) (hs : σ[i]? = some (some (.ref a))) (l : RepL W es vs) :
    Stp F W (W.at (upd W.H a (.lst vs))) ∧ SR F (Γ.set i (.own es)) σ (W.at (upd W.H a (.lst vs))) := g.writeX (ds := ⟨none, ds⟩) (es := ⟨none, es⟩) hi hs l
section
variable {K : PySem.W.Frag} {Γ : Gam} {i : Nat} {t : TA} {Q : D → Gam → Prop} {ds : List D}
/-- i's list is at the same place behind a step -/
theorem tyV_lst {K : PySem.W.Frag} {H : Hp} {a : Addr} {vs : List V} (h : H a = some (.lst vs)) : tyV K "list" (.ref a) H := .inl ⟨rfl, _, .inl (.inl h)⟩
theorem dl_append (h0 : ∃ ds, Γ[i]? = some (.own ds)) (h : DlA t Γ fun es Γ1 => ∃ e ds, es = [e] ∧ Γ1[i]? = some (.own ds) ∧ ds.length < sizeLine ∧ Q .non (Γ1.set i (.own (ds ++ [e])))) : Dl (tBM K "list" rAppend (tVar i) t) Γ Q := fun F σ W R g k => by
  obtain ⟨ds0, e0⟩ := h0
  obtain ⟨a, vs0, hs, _, _, _, q0, _⟩ := g.own i ds0 e0
  refine ⟨.ref a, hs, tyV_lst q0, h F σ W _ g fun us W1 es Γ1 s1 g1 l1 ⟨e, ds, e1, e2, hz, q⟩ => ?_⟩
  obtain ⟨a', vs, hs', u, f, p, q1, r1⟩ := g1.own i ds e2
  rw [hs] at hs'; cases hs'
  subst e1
  obtain ⟨v, _, rfl, l1, rfl⟩ := l1
  obtain ⟨st, g2⟩ := g1.write e2 hs (r1.append (RepL.one l1))
  exact ⟨a, vs, v, rfl, rfl, q1, by rw [← r1.length]; exact hz, k .non _ .non _ (s1.trans st) g2 rfl q⟩
end

/-! ### statements -/
section
variable {K : PySem.W.Frag} {Γ : Gam} {i j : Nat} {t u : TS} {te : TE} {De : DE} {ds es : List D}
theorem ds_next (h : De.nx Γ) : Ds tNext Γ De := fun F σ W Dr g l => l.nx σ W Γ (Stp.refl W) g h
theorem ds_seq (h : Ds t Γ { De with nx := fun Γ' => Ds u Γ' De }) : Ds (tSeq t u) Γ De := fun F σ W Dr g l => h F σ W { Dr with nx := u Dr } g
  ⟨fun σ1 W1 Γ1 s g1 q => q F σ1 W1 Dr g1 (l.after s), l.rt, l.bk, l.ct⟩
theorem ds_asg (h : Dl te Γ fun d Γ1 => De.nx (Γ1.set i (.val d))) : Ds (tAsg te (gName i)) Γ De := fun F σ W Dr g l => h F σ W _ g fun v W1 d Γ1 s g1 r q => l.nx _ W1 _ s (g1.set r) q
theorem ds_asg_own (h : EvN te Γ ds) (q : De.nx (Γ.set i (.own ds))) : Ds (tAsg te (gName i)) Γ De := fun F σ W Dr g l => h F σ W _ g fun a vs H s n e r =>
  let ⟨st, g2⟩ := g.setOwn (i := i) s n e r
  l.nx _ (W.plus H a) _ st g2 q
theorem ds_if {c : TT} (h : DlT c Γ fun b Γ1 => (b = true → Ds t Γ1 De) ∧ (b = false → Ds u Γ1 De)) : Ds (tIfS c t u) Γ De := fun F σ W Dr g l => h F σ W _ g fun b W1 Γ1 s g1 q => by
  cases b with
  | true => exact q.1 rfl F σ W1 Dr g1 (l.after s)
  | false => exact q.2 rfl F σ W1 Dr g1 (l.after s)
theorem ds_ret (h : Dl te Γ fun d _ => De.rt d) : Ds (tRet te) Γ De := fun F σ W Dr g l => h F σ W _ g fun v W1 d Γ1 s g1 r q => l.rt v W1 d s g1.ok r q
theorem ds_drop (h : Dl te Γ fun _ Γ1 => De.nx Γ1) : Ds (tDrop te) Γ De := fun F σ W Dr g l => h F σ W _ g fun v W1 d Γ1 s g1 r q => l.nx _ W1 _ s g1 q
/-- an own list is no longer changed -/
theorem SR.freeze {F : Addr → Prop} {σ : L2.St} {W : Wd} {a : Addr} (g : SR F Γ σ W) (hi : Γ[i]? = some (.own ds)) (hs : σ[i]? = some (some (.ref a))) :
    Stp F W ⟨W.H, fun b => W.U b ∧ b ≠ a, W.P⟩ ∧ SR F (Γ.set i (.val (.lst ds))) σ ⟨W.H, fun b => W.U b ∧ b ≠ a, W.P⟩ := by
  obtain ⟨a', us, e1, u, f, p, q, r⟩ := g.own i ds hi
  rw [hs] at e1; cases e1
  have st : Stp F W ⟨W.H, fun b => W.U b ∧ b ≠ a, W.P⟩ := ⟨fun b o e n => ⟨e, fun z => n z.1⟩, rfl, fun _ _ => rfl⟩
  have hl : i < Γ.length := (List.getElem?_eq_some_iff.mp hi).1
  refine ⟨st, ⟨⟨fun b h => g.ok.dom b h.1, fun b h => ⟨g.ok.fu b h, fun z => f (z ▸ h)⟩, fun b h => let ⟨u', f', pp⟩ := g.ok.pu b h; ⟨⟨u', fun z => p (z ▸ h)⟩, f', pp⟩⟩, by simp [g.len], fun j d q' => ?_, fun j fs q' => ?_, fun j k c es' fs q1 q2 q3 q4 => ?_⟩⟩
  · by_cases hj : i = j
    · subst hj
      rw [List.getElem?_set_self hl] at q'; cases q'
      exact ⟨.ref a, hs, a, us, rfl, q, fun z => z.2 rfl, r.stp st⟩
    · rw [List.getElem?_set_ne hj] at q'
      obtain ⟨v, e1, r'⟩ := g.val j d q'
      exact ⟨v, e1, r'.stp st⟩
  · have hj : i ≠ j := fun z => by
      subst z
      rw [List.getElem?_set_self hl] at q'; cases q'
    rw [List.getElem?_set_ne hj] at q'
    obtain ⟨c, ws, e1, u', f', p', q1, r'⟩ := g.ownX j fs q'
    exact ⟨c, ws, e1, ⟨u', fun z => hj (g.apartX i j a ⟨none, ds⟩ fs hi q' hs (z ▸ e1))⟩, f', p', q1, r'.stp st⟩
  · have get : ∀ (j : Nat) (es' : Ow), (Γ.set i (.val (.lst ds)))[j]? = some (Sl.ownX es') → Γ[j]? = some (Sl.ownX es') := fun j es' q => by
      by_cases hj : i = j
      · subst hj; rw [List.getElem?_set_self hl] at q; cases q
      · rw [List.getElem?_set_ne hj] at q; exact q
    exact g.apartX j k c es' fs (get j es' q1) (get k fs q2) q3 q4
theorem ds_freeze (i : Nat) (hi : Γ[i]? = some (.own ds)) (h : Ds t (Γ.set i (.val (.lst ds))) De) : Ds t Γ De := fun F σ W Dr g l => by
  obtain ⟨a, vs, hs, _⟩ := g.own i ds hi
  obtain ⟨st, g2⟩ := g.freeze hi hs
  exact h F σ ⟨W.H, fun b => W.U b ∧ b ≠ a, W.P⟩ Dr g2 (l.after st)
theorem ds_ret_own (hi : Γ[i]? = some (.own ds)) (h : De.rt (.lst ds)) : Ds (tRet (tVar i)) Γ De := by
  have hl : i < Γ.length := (List.getElem?_eq_some_iff.mp hi).1
  exact ds_freeze i hi (ds_ret ((ev_var (d := .lst ds) (by rw [List.getElem?_set_self hl])).dl h))
theorem ds_par {ta : TA} (h : DlA ta Γ fun ds Γ1 => ∃ x y, ds = [x, y] ∧ De.nx ((Γ1.set i (.val x)).set j (.val y))) : Ds (tPar i j ta) Γ De := fun F σ W Dr g l => h F σ W _ g fun vs W1 ds Γ1 s g1 r ⟨x, y, e, q⟩ => by
  subst e
  obtain ⟨v, _, rfl, r1, u, _, rfl, r2, rfl⟩ := r
  exact ⟨v, u, rfl, l.nx _ W1 _ s ((g1.set r1).set r2) q⟩
theorem ds_par_oo {t1 t2 : TE} (h1 : EvN t1 Γ ds) (h2 : EvN t2 Γ es) (q : De.nx ((Γ.set i (.own ds)).set j (.own es))) : Ds (tPar i j (tCons t1 (tCons t2 tNil))) Γ De := fun F σ W Dr g l =>
  h1 F σ W _ g fun a vs H s n e r => by
    obtain ⟨st1, g1, no1, f1, p1⟩ := g.plus s n (by rw [e]; exact fun z => nomatch z)
    refine h2 F σ (W.plus H a) _ g1 fun b ws H' s' n' e' r' => ?_
    obtain ⟨st2, g2, no2, f2, p2⟩ := g1.plus s' n' (by rw [e']; exact fun z => nomatch z)
    have nab : b ≠ a := fun z => by
      have n' : H b = none := n'
      rw [z, e] at n'; cases n'
    have ea : H' a = some (.lst vs) := s' a _ e
    have ra : RepL ((W.plus H a).plus H' b) ds vs := r.stp st2
    have g3 := g2.adopt (i := i) (Or.inl (Or.inr rfl)) f1 p1 ea ra no1
    have no3 : ¬ ownA (Γ.set i (.own ds)) (σ.set i (some (.ref a))) b := fun ⟨k, fs, e1, e2⟩ => by
      by_cases hk : k = i
      · rw [hk] at e1 e2
        have hl : i < (Γ.set i (Sl.own ds)).length := (List.getElem?_eq_some_iff.mp e1).1
        rw [List.length_set] at hl
        rw [List.getElem?_set_self (by rw [← g.len]; exact hl)] at e2
        cases e2
        exact nab rfl
      · rw [List.getElem?_set_ne (Ne.symm hk)] at e1 e2
        exact no2 ⟨k, fs, e1, e2⟩
    have g4 := g3.adopt (i := j) (Or.inr rfl) f2 p2 e' r' no3
    exact ⟨.ref a, .ref b, rfl, l.nx _ ((W.plus H a).plus H' b) _ (st1.trans st2) g4 q⟩
end

/-! ### a def's promise over data -/
/-- for each x : α that is ok, called with args x, it returns some d with rel x d -/
structure Spc where
  ty : Type
  args : ty → List D
  ok : ty → Prop
  rel : ty → D → Prop
def toSp (s : Spc) : Sp := fun vs H Q _ => ∃ (x : s.ty) (F : Addr → Prop) (W : Wd), W.H = H ∧ WOk F W ∧ RepL W (s.args x) vs ∧ s.ok x ∧ ∀ d v W', s.rel x d → Stp F W W' → WOk F W' → Rep W' d v → Q v W'.H
/-- the slots at a def's start -/
def Gz0 (n : Nat) (ds : List D) : Gam := ds.map Sl.val ++ List.replicate (n - ds.length) Sl.unset
theorem sr_start {F : Addr → Prop} {W : Wd} {N : List Str} {ds : List D} {vs : List V} (ok : WOk F W) (r : RepL W ds vs) : SR F (Gz0 N.length ds) (L2.start N vs) W := by
  have hl := r.length
  refine ⟨ok, by simp [Gz0, L2.start, hl], fun i d e => ?_, fun i d e => ?_, fun i j a ds' es e => ?_⟩
  · unfold Gz0 at e
    by_cases hi : i < ds.length
    · rw [List.getElem?_append_left (by simpa using hi), List.getElem?_map] at e
      cases q : ds[i]? with
      | none => rw [q] at e; cases e
      | some d' =>
        rw [q] at e; cases e
        obtain ⟨v, e1, r1⟩ := r.get q
        refine ⟨v, ?_, r1⟩
        unfold L2.start
        rw [List.getElem?_append_left (by simp [← hl, hi]), List.getElem?_map, e1]
        rfl
    · rw [List.getElem?_append_right (by simpa using hi)] at e
      have := List.mem_of_getElem? e
      rw [List.mem_replicate] at this
      cases this.2
  all_goals
    exfalso
    unfold Gz0 at e
    by_cases hi : i < ds.length
    · rw [List.getElem?_append_left (by simpa using hi), List.getElem?_map] at e
      cases q : ds[i]? with
      | none => rw [q] at e; cases e
      | some d' => rw [q] at e; cases e
    · rw [List.getElem?_append_right (by simpa using hi)] at e
      have := List.mem_of_getElem? e
      rw [List.mem_replicate] at this
      cases this.2
theorem body_of {s : Spc} {N : List Str} {t : TS} {vs : List V} {H : Hp} {Q : VK} {E : XK} (hs : toSp s vs H Q E) (hb : ∀ x, s.ok x → Ds t (Gz0 N.length (s.args x)) ⟨fun _ => s.rel x .non, s.rel x, fun _ => False, fun _ => False⟩) :
    t { nx := fun _ H' => Q .non H', rt := Q } (L2.start N vs) H := by
  obtain ⟨x, F, W, rfl, ok, r, hx, q⟩ := hs
  exact hb x hx F _ W _ (sr_start ok r) ⟨fun σ W' Γ st g h => q .non .non W' h st g.ok rfl, fun v W' d st ok' r' h => q d v W' h st ok' r', fun _ _ _ _ _ h => h.elim, fun _ _ _ _ _ h => h.elim⟩
theorem spc_len {s : Spc} {n : Nat} (h : ∀ x, (s.args x).length = n) : ∀ vs H Q E, toSp s vs H Q E → vs.length = n := fun vs H Q E ⟨x, F, W, _, _, r, _⟩ => by rw [← r.length]; exact h x
section
variable {P : Program} {w : World} {K : PySem.W.Frag} {mg : Str → Option Value} {base : Heap}
/-- THE RULE for a def that raises nothing -/
theorem fn_ok {x qual : Str} {st : Stmt} {f : Addr} {fd : FuncData} {N ps : List Str} {k : Nat} {s : Spc} (F : Fun K x qual st f fd) (S : FnScope N ps (defScope st)) (len : ∀ x, (s.args x).length = ps.length)
    (hbody : ∀ (cdv : Value) (A : Around) (outer : List Env) (s' : Shared) (H : Hp) (E : XK), Room k (A.deeper (envOfC qual (defScope st) s'.heap.objs.size f cdv)) →
      ∃ t, PSs (cxOf CX0 P w K mg base N qual (defScope st) f cdv A outer s' H E).nox (defBody st) t ∧ ∀ x, s.ok x → Ds t (Gz0 N.length (s.args x)) ⟨fun _ => s.rel x .non, s.rel x, fun _ => False, fun _ => False⟩) :
    FnOk P w K mg base CX0 (k + 1) f fd ps (toSp s) :=
  F.ok S (spc_len len) fun cdv A outer s' H vs Q E hr h => by
    obtain ⟨t, p, hb⟩ := hbody cdv A outer s' H E hr
    exact ⟨t, p, body_of h hb⟩
end
section
variable {Γ : Gam} {s : Spc} {t tk : TA} {E : XK} {Q : D → Gam → Prop} {ds es : List D} {d : D}
theorem dl_call (h : DlA t Γ fun ds Γ1 => ∃ x, ds = s.args x ∧ s.ok x ∧ ∀ d, s.rel x d → Q d Γ1) : Dl (tCall (toSp s) [] E t) Γ Q := fun F σ W R g k => h F σ W _ g fun vs W1 ds Γ1 st g1 r ⟨x, e, ok, q⟩ => by
  subst e
  rw [List.append_nil]
  exact ⟨x, _, W1, rfl, g1.callOk, r, ok, fun d v W' hd st' ok' r' => k v W' d Γ1 (st.trans (st'.sub fun _ z => .inl z)) (g1.call st' ok') r' (q d hd)⟩
theorem pure_call {F : Addr → Prop} {σ : L2.St} {W : Wd} {vs : List V} {x : s.ty} {R : VK} {U : Addr → Prop} (g : SR F Γ σ W) (ul : ∀ a, U a → W.U a) (hU : RepL ⟨W.H, U, fun _ => False⟩ (s.args x) vs) (ok : s.ok x) (k : ∀ d v H, s.rel x d → Same W.H H → Rep ⟨H, U, fun _ => False⟩ d v → R v H) : toSp s vs W.H R E := by
  refine ⟨x, U, ⟨W.H, U, fun _ => False⟩, rfl, ⟨fun a h => g.ok.dom a (ul a h), fun a h => h, fun a h => h.elim⟩, hU, ok, fun d v W' hd st ok' r => ?_⟩
  refine k d v W'.H hd (fun b o e => ?_) (Rep.mono (W := W') (W' := ⟨W'.H, U, fun _ => False⟩) (fun a u e n => ⟨e, fun z => n (ok'.fu a z)⟩) (fun a z => by rw [st.pur] at z; exact z) d v r)
  by_cases hb : U b
  · exact (st.fr b hb).trans e
  · exact (st.keep b o e hb).1
/-- purse-free data, as seen by a def that draws nothing -/
theorem Rep.addP {W : Wd} {H : Hp} {U P : Addr → Prop} {d : D} {v : V} (h : Rep ⟨H, U, fun _ => False⟩ d v) : Rep ⟨H, U, P⟩ d v := Rep.mono (W := ⟨H, U, fun _ => False⟩) (W' := ⟨H, U, P⟩) (fun _ _ e n => ⟨e, n⟩) (fun _ z => z.elim) d v h
mutual
/-- no purse within -/
def noP : D → Bool
  | .purse => false | .scr _ _ => false | .tag _ => false
  | .tup ds => noPs ds | .lst ds => noPs ds | .obj _ _ ds => noPs ds | .dct _ ds => noPs ds | .tupN ds => noPs ds
  | _ => true
def noPs : List D → Bool
  | [] => true
  | d :: ds => noP d && noPs ds
end
mutual
theorem Rep.delP {W : Wd} : ∀ (d : D) (v : V), noP d = true → Rep W d v → Rep ⟨W.H, W.U, fun _ => False⟩ d v
  | .non, _, _, h => h
  | .bl _, _, _, h => h
  | .int _, _, _, h => h
  | .str _, _, _, h => h
  | .raw _, _, _, h => h
  | .tup ds, _, n, ⟨a, vs, e, h, u, r⟩ => ⟨a, vs, e, h, u, RepL.delP ds vs n r⟩
  | .tupN ds, _, n, ⟨a, vs, e, h, u, r⟩ => ⟨a, vs, e, h, u, RepL.delP ds vs n r⟩
  | .lst ds, _, n, ⟨a, vs, e, h, u, r⟩ => ⟨a, vs, e, h, u, RepL.delP ds vs n r⟩
  | .obj C ns ds, _, n, ⟨a, dx, vs, e, h, u, l, r⟩ => ⟨a, dx, vs, e, h, u, l, RepL.delP ds vs n r⟩
  | .purse, _, n, _ => nomatch n
  | .rng _ _, _, _, h => h
  | .dct ks ds, _, n, ⟨a, vs, e, h, u, l, r⟩ => ⟨a, vs, e, h, u, l, RepL.delP ds vs n r⟩
  | .scr _ _, _, n, _ => nomatch n
  | .tag _, _, n, _ => nomatch n
theorem RepL.delP {W : Wd} : ∀ (ds : List D) (vs : List V), noPs ds = true → RepL W ds vs → RepL ⟨W.H, W.U, fun _ => False⟩ ds vs
  | [], _, _, h => h
  | d :: ds, _, n, ⟨v, r, e, h1, h2⟩ => by
    have n' : noP d = true ∧ noPs ds = true := by simpa [noPs] using n
    exact ⟨v, r, e, Rep.delP d v n'.1 h1, RepL.delP ds r n'.2 h2⟩
end
theorem noPs_map {α : Type} {f : α → D} (h : ∀ x, noP (f x) = true) : ∀ xs : List α, noPs (xs.map f) = true
  | [] => rfl
  | x :: xs => by
    show (noP (f x) && noPs (xs.map f)) = true
    rw [h, noPs_map h xs]; rfl
/-- a call that draws nothing -/
theorem ev_call {x : s.ty} (h : EvA t Γ (s.args x)) (np : noPs (s.args x) = true) (ok : s.ok x) (hd : ∀ d', s.rel x d' → d' = d) : Ev (tCall (toSp s) [] E t) Γ d := fun F σ W R g k => h F σ W _ g fun vs H st r => by
  rw [List.append_nil]
  exact pure_call (W := W.at H) (g.same st) (fun _ z => z) (RepL.delP _ _ np r) ok fun d' v H' hd' s' r' => by
    rw [hd d' hd'] at r'
    exact k v H' (Same.trans st s') (Rep.addP (W := W) r')
end
end Dw

/-! Rules over data: targets, iterators, for, comprehensions. -/
namespace Dw
open PySem PySem.Spec PyProof.Rows L2
variable [Tabs0]

/-! ### wiped slots -/
theorem wipe_get (σ : L2.St) (j : Nat) : ∀ vs : List Nat, (wipe σ vs)[j]? = if j ∈ vs then (if j < σ.length then some none else none) else σ[j]?
  | [] => by simp [wipe]
  | v :: vs => by
    unfold wipe
    by_cases hv : v = j
    · subst hv
      rw [if_pos List.mem_cons_self]
      by_cases hl : v < σ.length
      · rw [List.getElem?_set_self (by rw [wipe_length]; exact hl), if_pos hl]
      · rw [if_neg hl]
        exact List.getElem?_eq_none (by rw [List.length_set, wipe_length]; omega)
    · rw [List.getElem?_set_ne hv, wipe_get σ j vs]
      by_cases hm : j ∈ vs
      · rw [if_pos hm, if_pos (List.mem_cons_of_mem _ hm)]
      · rw [if_neg hm, if_neg (by simp only [List.mem_cons, not_or]; exact ⟨fun z => hv z.symm, hm⟩)]
theorem wipe_set {σ : L2.St} {i : Nat} {o : Option V} {vs : List Nat} (h : i ∈ vs) : wipe (σ.set i o) vs = wipe σ vs := by
  refine List.ext_getElem? fun j => ?_
  rw [wipe_get, wipe_get, List.length_set]
  by_cases hm : j ∈ vs
  · rw [if_pos hm, if_pos hm]
  · rw [if_neg hm, if_neg hm, List.getElem?_set_ne (fun z : i = j => hm (by rw [← z]; exact h))]
theorem wipe_wipe {σ : L2.St} {vs : List Nat} : wipe (wipe σ vs) vs = wipe σ vs := by
  refine List.ext_getElem? fun j => ?_
  rw [wipe_get (wipe σ vs), wipe_get σ, wipe_length]
  by_cases hm : j ∈ vs
  · rw [if_pos hm, if_pos hm]
  · rw [if_neg hm, if_neg hm]
def wipeG (Γ : Gam) : List Nat → Gam
  | [] => Γ
  | v :: vs => (wipeG Γ vs).set v .unset
theorem wipeG_length (Γ : Gam) : ∀ vs : List Nat, (wipeG Γ vs).length = Γ.length
  | [] => rfl
  | v :: vs => by unfold wipeG; rw [List.length_set, wipeG_length Γ vs]
theorem wipeG_get {Γ : Gam} {j : Nat} {s : Sl} : ∀ {vs : List Nat}, (wipeG Γ vs)[j]? = some s → s = .unset ∨ (Γ[j]? = some s ∧ j ∉ vs)
  | [], h => .inr ⟨h, by simp⟩
  | v :: vs, h => by
    unfold wipeG at h
    by_cases hv : v = j
    · subst hv
      have hl : v < (wipeG Γ vs).length := by
        have := (List.getElem?_eq_some_iff.mp h).1
        simpa using this
      rw [List.getElem?_set_self hl] at h
      cases h; exact .inl rfl
    · rw [List.getElem?_set_ne hv] at h
      rcases wipeG_get h with h | ⟨h1, h2⟩
      · exact .inl h
      · exact .inr ⟨h1, by simp only [List.mem_cons, not_or]; exact ⟨fun z => hv z.symm, h2⟩⟩
theorem SR.wipe {F : Addr → Prop} {Γ : Gam} {σ : L2.St} {W : Wd} (g : SR F Γ σ W) (vs : List Nat) : SR F (wipeG Γ vs) (wipe σ vs) W :=
  g.weak (by rw [wipeG_length, wipe_length, g.len]) fun i s e => by
    rcases wipeG_get e with h | ⟨h1, h2⟩
    · exact .inl h
    · exact .inr ⟨h1, by rw [wipe_get, if_neg h2]⟩
theorem SR.unwipe {F : Addr → Prop} {Γ : Gam} {σ : L2.St} {W : Wd} {vs : List Nat} (g : SR F Γ (L2.wipe σ vs) W) : SR F Γ σ W :=
  ⟨g.ok, by rw [g.len, wipe_length], fun i d e => let ⟨v, e1, r⟩ := g.val i d e; ⟨v, (wipe_some e1).1, r⟩,
   fun i ds e => let ⟨a, vs', e1, r⟩ := g.ownX i ds e; ⟨a, vs', (wipe_some e1).1, r⟩, fun i j a ds es e1 e2 e3 e4 => by
    obtain ⟨b, _, q1, _⟩ := g.ownX i ds e1
    obtain ⟨c, _, q2, _⟩ := g.ownX j es e2
    have z1 := (wipe_some q1).1
    have z2 := (wipe_some q2).1
    rw [e3] at z1; cases z1
    rw [e4] at z2; cases z2
    exact g.apartX i j _ ds es e1 e2 q1 q2⟩

/-! ### targets -/
/-- storing x changes the slots is alone -/
def DG (g : TG) (is : List Nat) (x : D) (Γ Γ' : Gam) : Prop := ∀ (F : Addr → Prop) (σ : L2.St) (W : Wd) (v : V) (R : L2.St → Hp → Prop), SR F Γ σ W → Rep W x v →
  (∀ σ', SR F Γ' σ' W → (∀ vs : List Nat, (∀ i ∈ is, i ∈ vs) → wipe σ' vs = wipe σ vs) → R σ' W.H) → g v σ W.H R
theorem dg_name {i : Nat} {x : D} {Γ : Gam} : DG (gName i) [i] x Γ (Γ.set i (.val x)) := fun F σ W v R g r k => k _ (g.set r) fun vs h => wipe_set (h i List.mem_cons_self)
theorem dg_tup2 {K : PySem.W.Frag} {g1 g2 : TG} {is js : List Nat} {x y : D} {Γ Γ1 Γ2 : Gam} (h1 : DG g1 is x Γ Γ1) (h2 : DG g2 js y Γ1 Γ2) : DG (gTup K 2 (gCons g1 (gCons g2 gNil))) (is ++ js) (.tup [x, y]) Γ Γ2 := fun F σ W v R g r k => by
  obtain ⟨a, vs, e, ha, nu, v1, _, rfl, r1, v2, _, rfl, r2, rfl⟩ := r
  refine ⟨a, [v1, v2], e, ha.sq, rfl, v1, [v2], rfl, h1 F σ W v1 _ g r1 fun σ1 g1 w1 => ⟨v2, [], rfl, h2 F σ1 W v2 _ g1 r2 fun σ2 g2 w2 => ⟨rfl, k σ2 g2 fun vs h => ?_⟩⟩⟩
  rw [w2 vs fun i hi => h i (List.mem_append_right _ hi), w1 vs fun i hi => h i (List.mem_append_left _ hi)]
theorem dg_tup3 {K : PySem.W.Frag} {g1 g2 g3 : TG} {is js ks : List Nat} {x y z : D} {Γ Γ1 Γ2 Γ3 : Gam} (h1 : DG g1 is x Γ Γ1) (h2 : DG g2 js y Γ1 Γ2) (h3 : DG g3 ks z Γ2 Γ3) : DG (gTup K 3 (gCons g1 (gCons g2 (gCons g3 gNil)))) (is ++ (js ++ ks)) (.tup [x, y, z]) Γ Γ3 := fun F σ W v R g r k => by
  obtain ⟨a, vs, e, ha, nu, v1, _, rfl, r1, v2, _, rfl, r2, v3, _, rfl, r3, rfl⟩ := r
  refine ⟨a, [v1, v2, v3], e, ha.sq, rfl, v1, [v2, v3], rfl, h1 F σ W v1 _ g r1 fun σ1 g1 w1 => ⟨v2, [v3], rfl, h2 F σ1 W v2 _ g1 r2 fun σ2 g2 w2 => ⟨v3, [], rfl, h3 F σ2 W v3 _ g2 r3 fun σ3 g3 w3 => ⟨rfl, k σ3 g3 fun vs h => ?_⟩⟩⟩⟩
  rw [w3 vs fun i hi => h i (List.mem_append_right _ (List.mem_append_right _ hi)), w2 vs fun i hi => h i (List.mem_append_right _ (List.mem_append_left _ hi)), w1 vs fun i hi => h i (List.mem_append_left _ hi)]
theorem ds_asg_g {te : TE} {g : TG} {Γ : Gam} {De : DE} (h : Dl te Γ fun d Γ1 => ∃ is Γ2, DG g is d Γ1 Γ2 ∧ De.nx Γ2) : Ds (tAsg te g) Γ De := fun F σ W Dr s l => h F σ W _ s fun v W1 d Γ1 st g1 r ⟨is, Γ2, hg, q⟩ =>
  hg F σ W1 v _ g1 r fun σ' g' _ => l.nx σ' W1 Γ2 st g' q

/-! ### iterators -/
structure ItOk (F : Addr → Prop) (W : Wd) (J : It) (xs : List D) : Prop where
  go : ∀ (W1 : Wd) (i : Nat) (x : D), Stp F W W1 → WOk F W1 → xs[i]? = some x → J.go i W1.H ∧ ∀ v H', J.yld i W1.H v H' → Same W1.H H' ∧ Rep (W1.at H') x v
  stop : ∀ (W1 : Wd), Stp F W W1 → WOk F W1 → J.stop xs.length W1.H
structure ItS (W : Wd) (J : It) (xs : List D) : Prop where
  go : ∀ (W1 : Wd) (i : Nat) (x : D), (∀ a, W1.U a → W1.H a ≠ none) → Same W.H W1.H → (∀ a u, W.H a = some u → ¬ W.U a → ¬ W1.U a) → W1.P = W.P → xs[i]? = some x → J.go i W1.H ∧ ∀ v H', J.yld i W1.H v H' → Same W1.H H' ∧ Rep (W1.at H') x v
  stop : ∀ (H : Hp), Same W.H H → J.stop xs.length H
def Di (wi : TI) (Γ : Gam) (Q : List D → Gam → Prop) : Prop := ∀ (F : Addr → Prop) (σ : L2.St) (W : Wd) (R : It → Hp → Prop), SR F Γ σ W → (∀ J W' xs Γ', Stp F W W' → SR F Γ' σ W' → ItOk F W' J xs → Q xs Γ' → R J W'.H) → wi σ W.H R
def Ei (wi : TI) (Γ : Gam) (xs : List D) : Prop := ∀ (F : Addr → Prop) (σ : L2.St) (W : Wd) (R : It → Hp → Prop), SR F Γ σ W → (∀ J H, Same W.H H → ItS (W.at H) J xs → R J H) → wi σ W.H R
section
variable {K : PySem.W.Frag} {Γ : Gam} {t : TE} {ta : TA} {xs : List D} {Q : List D → Gam → Prop}
theorem di_list (h : Dl t Γ fun d Γ1 => ∃ xs, d = .lst xs ∧ Q xs Γ1) : Di (iList K t) Γ Q := fun F σ W R g k => h F σ W _ g fun v W1 d Γ1 st g1 r ⟨xs, e, q⟩ => by
  subst e
  obtain ⟨a, vs, rfl, ha, nu, l⟩ := r
  refine ⟨a, rfl, ⟨vs, .of ha⟩, k (Itl K a) W1 xs Γ1 st g1 ⟨fun W2 i x s2 ok2 hx => ?_, fun W2 s2 ok2 => ⟨vs, .of (s2.keep a _ ha nu).1, by rw [l.length]; exact Nat.le_refl _⟩⟩ q⟩
  obtain ⟨v, hv, rv⟩ := l.get hx
  exact ⟨⟨vs, v, .of (s2.keep a _ ha nu).1, hv⟩, fun u H' ⟨e, hy⟩ => by
    subst e
    have := hy vs (.of (s2.keep a _ ha nu).1)
    rw [hv] at this; cases this
    exact ⟨Same.refl _, rv.stp s2⟩⟩
theorem ei_list (h : EvB t Γ xs) : Ei (iList K t) Γ xs := fun F σ W R g k => h F σ W _ g fun a vs H st ha l => by
  refine ⟨a, rfl, ⟨vs, .of ha⟩, k (Itl K a) H st ⟨fun W2 i x dm s2 ku pu hx => ?_, fun H2 s2 => ⟨vs, .of (s2 a _ ha), by rw [l.length]; exact Nat.le_refl _⟩⟩⟩
  obtain ⟨v, hv, rv⟩ := l.get hx
  exact ⟨⟨vs, v, .of (s2 a _ ha), hv⟩, fun u H' ⟨e, hy⟩ => by
    subst e
    have := hy vs (.of (s2 a _ ha))
    rw [hv] at this; cases this
    exact ⟨Same.refl _, Rep.mono (W := W.at H) (W' := W2) (fun b u e n => ⟨s2 b u e, ku b u e n⟩) (fun b z => by rw [pu]; exact z) _ _ rv⟩⟩
theorem ei_tup (h : Ev t Γ (.tup xs)) : Ei (iTup K t) Γ xs := fun F σ W R g k => h F σ W _ g fun v H st ⟨a, vs, e, ha, nu, l⟩ => by
  subst e
  refine ⟨a, rfl, ⟨vs, ha.sq⟩, k (Itt K a) H st ⟨fun W2 i x dm s2 ku pu hx => ?_, fun H2 s2 => ⟨vs, (ha.same s2).sq, by rw [l.length]; exact Nat.le_refl _⟩⟩⟩
  obtain ⟨v, hv, rv⟩ := l.get hx
  exact ⟨⟨vs, v, (ha.same s2).sq, hv⟩, fun u H' ⟨e, hy⟩ => by
    subst e
    have := hy vs ((ha.same s2).sq)
    rw [hv] at this; cases this
    exact ⟨Same.refl _, Rep.mono (W := W.at H) (W' := W2) (fun b u e n => ⟨s2 b u e, ku b u e n⟩) (fun b z => by rw [pu]; exact z) _ _ rv⟩⟩
theorem di_tup (h : Dl t Γ fun d Γ1 => ∃ xs, d = .tup xs ∧ Q xs Γ1) : Di (iTup K t) Γ Q := fun F σ W R g k => h F σ W _ g fun v W1 d Γ1 st g1 r ⟨xs, e, q⟩ => by
  subst e
  obtain ⟨a, vs, rfl, ha, nu, l⟩ := r
  refine ⟨a, rfl, ⟨vs, ha.sq⟩, k (Itt K a) W1 xs Γ1 st g1 ⟨fun W2 i x s2 ok2 hx => ?_, fun W2 s2 ok2 => ⟨vs, (ha.keep nu (s2.keep a)).1.sq, by rw [l.length]; exact Nat.le_refl _⟩⟩ q⟩
  obtain ⟨v, hv, rv⟩ := l.get hx
  exact ⟨⟨vs, v, (ha.keep nu (s2.keep a)).1.sq, hv⟩, fun u H' ⟨e, hy⟩ => by
    subst e
    have := hy vs ((ha.keep nu (s2.keep a)).1.sq)
    rw [hv] at this; cases this
    exact ⟨Same.refl _, rv.stp s2⟩⟩
/-- 0, 1, .., n - 1 -/
def rng (n : Nat) : List D := (List.range n).map fun (i : Nat) => D.int i
theorem rng_get {n i : Nat} {x : D} (h : (rng n)[i]? = some x) : i < n ∧ x = .int i := by
  unfold rng at h
  rw [List.getElem?_map] at h
  by_cases hi : i < n
  · rw [List.getElem?_range hi] at h
    cases h; exact ⟨hi, rfl⟩
  · rw [List.getElem?_eq_none (by simpa using hi)] at h; cases h
theorem rng_length (n : Nat) : (rng n).length = n := by simp [rng]
theorem di_range {Q : List D → Gam → Prop} (h : DlA ta Γ fun ds Γ1 => ∃ n : Nat, ds = [.int n] ∧ n < 2 ^ 62 ∧ Q (rng n) Γ1) : Di (iRng1 ta) Γ Q := fun F σ W R g k => h F σ W _ g fun vs W1 ds Γ1 st g1 r ⟨n, e, hn, q⟩ => by
  subst e
  obtain ⟨v, _, rfl, rv, rfl⟩ := r
  refine ⟨n, by rw [show v = V.int n from rv], by omega, by omega, k (Itr 0 (n : Int).toNat) W1 (rng n) Γ1 st g1 ⟨fun W2 i x s2 ok2 hx => ?_, fun W2 s2 ok2 => ?_⟩ q⟩
  · obtain ⟨hi, rfl⟩ := rng_get hx
    refine ⟨by show i < (n : Int).toNat; omega, fun u H' ⟨e, hy⟩ => ?_⟩
    subst e hy
    exact ⟨Same.refl _, by show V.int (0 + (i : Int)) = V.int i; rw [Int.zero_add]⟩
  · show (n : Int).toNat ≤ _
    rw [rng_length]; omega
theorem ei_range {n : Nat} (h : EvA ta Γ [.int n]) (hn : n < 2 ^ 62) : Ei (iRng1 ta) Γ (rng n) := fun F σ W R g k => h F σ W _ g fun vs H st r => by
  obtain ⟨v, _, rfl, rv, rfl⟩ := r
  refine ⟨n, by rw [show v = V.int n from rv], by omega, by omega, k (Itr 0 (n : Int).toNat) H st ⟨fun W2 i x dm s2 ku pu hx => ?_, fun H2 s2 => ?_⟩⟩
  · obtain ⟨hi, rfl⟩ := rng_get hx
    refine ⟨by show i < (n : Int).toNat; omega, fun u H' ⟨e, hy⟩ => ?_⟩
    subst e hy
    exact ⟨Same.refl _, by show V.int (0 + (i : Int)) = V.int i; rw [Int.zero_add]⟩
  · show (n : Int).toNat ≤ _
    rw [rng_length]; omega
/-- the signs of a text -/
def signs (x : Str) : List D := x.cps.toList.map fun c => D.str ⟨#[c]⟩
end

/-! ### for -/
section
variable {Γ : Gam} {wi : TI} {g : TG} {tb : TS} {De : DE}
theorem ds_for (J : List D → Nat → Gam → Prop) (h : Di wi Γ fun xs Γ1 => J xs 0 Γ1 ∧ (∀ i x Γ', xs[i]? = some x → J xs i Γ' → ∃ is Γ2, DG g is x Γ' Γ2 ∧ Ds tb Γ2 ⟨J xs (i + 1), De.rt, De.nx, J xs (i + 1)⟩) ∧ ∀ Γ', J xs xs.length Γ' → De.nx Γ') : Ds (tFor wi g tb) Γ De :=
  fun F σ W Dr s l => h F σ W _ s fun I W1 xs Γ1 st g1 it ⟨h0, hs, hd⟩ => by
    refine ⟨fun i m σ' H' => m = xs.length - i ∧ i ≤ xs.length ∧ ∃ W' Γ', W'.H = H' ∧ Stp F W1 W' ∧ SR F Γ' σ' W' ∧ J xs i Γ', ⟨_, rfl, Nat.zero_le _, W1, Γ1, rfl, .refl _, g1, h0⟩, ?_⟩
    rintro i m σ' H' ⟨rfl, hi, W', Γ', rfl, s', g', j⟩
    by_cases hlt : i < xs.length
    · obtain ⟨x, hx⟩ : ∃ x, xs[i]? = some x := ⟨_, List.getElem?_eq_getElem hlt⟩
      obtain ⟨is, Γ2, hg, hb⟩ := hs i x Γ' hx j
      obtain ⟨go, yl⟩ := it.go W' i x s' g'.ok hx
      refine .inr ⟨go, fun σ2 H2 => ∃ W2 Γ2, W2.H = H2 ∧ Stp F W1 W2 ∧ SR F Γ2 σ2 W2 ∧ J xs (i + 1) Γ2, fun σ2 H2 q => ⟨xs.length - (i + 1), by omega, rfl, hlt, q⟩, fun v H2 y => ?_⟩
      obtain ⟨sm, rv⟩ := yl v H2 y
      have s2 := s'.trans (Stp.of_same g'.ok sm)
      refine hg F σ' (W'.at H2) v _ (g'.same sm) rv fun σ3 g3 _ => hb F σ3 (W'.at H2) _ g3 ⟨fun σ4 W4 Γ4 s4 g4 q => ⟨W4, Γ4, rfl, s2.trans s4, g4, q⟩, fun v W4 d s4 ok4 r4 q => l.rt v W4 d (st.trans (s2.trans s4)) ok4 r4 q, fun σ4 W4 Γ4 s4 g4 q => l.nx σ4 W4 Γ4 (st.trans (s2.trans s4)) g4 q, fun σ4 W4 Γ4 s4 g4 q => ⟨W4, Γ4, rfl, s2.trans s4, g4, q⟩⟩
    · have e : i = xs.length := by omega
      subst e
      exact .inl ⟨it.stop W' s' g'.ok, l.nx σ' W' Γ' (st.trans s') g' (hd Γ' j)⟩
end

/-! ### list comprehensions -/
section
variable {Γ : Gam} {wi : TI} {g : TG} {tt : TT} {te : TE} {vs : List Nat}
/-- pure: over xs.map c, kept where p, f of each -/
theorem evn_lc {α : Type} {xs : List α} {c : α → D} {p : α → Bool} {f : α → D} (h : Ei wi Γ (xs.map c)) (hz : xs.length ≤ 1000000)
    (he : ∀ x ∈ xs, ∃ is Γ2, DG g is (c x) (wipeG Γ vs) Γ2 ∧ (∀ i ∈ is, i ∈ vs) ∧ EvT tt Γ2 (p x) ∧ (p x = true → Ev te Γ2 (f x))) : EvN (tLc wi g tt te vs) Γ ((xs.filter p).map f) := fun F σ W R s k =>
  h F σ W _ s fun I H1 st it => fun Dn hD => by
    have wd : W.H Dn = none := st.free hD
    refine ⟨fun i m H' => m = xs.length - i ∧ i ≤ xs.length ∧ Same H1 H' ∧ ∃ us, H' Dn = some (.lst us) ∧ RepL (W.plus H' Dn) (((xs.take i).filter p).map f) us, ⟨_, rfl, Nat.zero_le _, same_upd hD, [], upd_same, rfl⟩, ?_⟩
    rintro i m H' ⟨rfl, hi, sm, us, hus, rus⟩
    by_cases hlt : i < xs.length
    · have hx : xs[i]? = some xs[i] := List.getElem?_eq_getElem hlt
      have hx' : (xs.map c)[i]? = some (c xs[i]) := by rw [List.getElem?_map, hx]; rfl
      obtain ⟨is, Γ2, hg, his, ht, hel⟩ := he xs[i] (List.getElem_mem hlt)
      obtain ⟨go, yl⟩ := it.go (W.plus H' Dn) i (c xs[i]) (fun b hb z => hb.elim (fun u => s.ok.dom b u ((Same.trans st sm).free z)) (fun e => by rw [e] at z; exact absurd (hus.symm.trans z) (fun q => nomatch q))) sm (fun b u e n z => z.elim n fun z => by rw [z] at e; exact absurd (e.symm.trans hD) (fun q => nomatch q)) rfl hx'
      refine .inr ⟨go, fun H2 => Same H1 H2 ∧ ∃ us, H2 Dn = some (.lst us) ∧ RepL (W.plus H2 Dn) (((xs.take (i + 1)).filter p).map f) us, fun H2 q => ⟨xs.length - (i + 1), by omega, rfl, hlt, q⟩, fun v H2 y => ?_⟩
      obtain ⟨sm2, rv⟩ := yl v H2 y
      have sW : Same W.H H2 := Same.trans st (Same.trans sm sm2)
      -- the world where the list in the making is one's own
      obtain ⟨_, gp, _, _, _⟩ := s.plus sW wd (by rw [sm2 _ _ hus]; exact fun z => nomatch z)
      have gp := gp.wipe vs
      refine hg F _ (W.plus H2 Dn) v _ gp rv fun σ2 g2 w2 => ⟨by rw [w2 vs his, wipe_wipe], ?_⟩
      refine ht F σ2 (W.plus H2 Dn) _ g2 fun H3 s3 => ?_
      have e1 : (xs.take (i + 1)).filter p = (xs.take i).filter p ++ (if p xs[i] = true then [xs[i]] else []) := by
        rw [List.take_add_one, hx, List.filter_append]
        congr 1
        cases hp : p xs[i] <;> simp [hp]
      have mv : ∀ {H3 H4 : Hp} {ds us}, Same H3 H4 → RepL (W.plus H3 Dn) ds us → RepL (W.plus H4 Dn) ds us := fun {H3 H4 ds us} s34 r => RepL.mono (W := W.plus H3 Dn) (W' := W.plus H4 Dn) (fun b u e n => ⟨s34 b u e, n⟩) (fun _ h => h) ds us r
      cases hp : p xs[i] with
      | false =>
        rw [if_neg Bool.false_ne_true]
        refine ⟨Same.trans (Same.trans sm sm2) s3, us, s3 _ _ (sm2 _ _ hus), ?_⟩
        rw [e1, hp, if_neg Bool.false_ne_true, List.append_nil]
        exact mv s3 (mv sm2 rus)
      | true =>
        rw [if_pos rfl]
        refine hel hp F σ2 ((W.plus H2 Dn).at H3) _ (g2.same s3) fun z H4 s4 rz => ?_
        have h4 : H4 Dn = some (.lst us) := s4 _ _ (s3 _ _ (sm2 _ _ hus))
        have un : ∀ {ds us}, RepL (W.plus H4 Dn) ds us → ∀ o, RepL (W.plus (upd H4 Dn o) Dn) ds us := fun {ds us} r o => RepL.mono (W := W.plus H4 Dn) (W' := W.plus (upd H4 Dn o) Dn) (fun b u e n => ⟨by
          show (upd H4 Dn o) b = some u
          rw [upd_ne (fun z : b = Dn => n (Or.inr z))]; exact e, n⟩) (fun _ h => h) ds us r
        refine ⟨us, h4, ?_, fun b u e => ?_, us ++ [z], upd_same, ?_⟩
        · rw [← rus.length, List.length_map]
          refine Nat.lt_of_le_of_lt (Nat.le_trans (List.length_filter_le _ _) (Nat.le_trans (List.length_take_le _ _) ?_)) (show 1000000 < sizeLine by decide)
          omega
        · have nb : b ≠ Dn := fun z => by rw [z, hD] at e; cases e
          rw [upd_ne nb]
          exact s4 _ _ (s3 _ _ (sm2 _ _ (sm _ _ e)))
        · rw [e1, hp, if_pos rfl, List.map_append]
          exact un ((mv s4 (mv s3 (mv sm2 rus))).append (RepL.one rz)) _
    · have e : i = xs.length := by omega
      subst e
      rw [List.take_length] at rus
      exact .inl ⟨by have := it.stop H' sm; rw [List.length_map] at this; exact this, k Dn us H' (Same.trans st sm) wd hus rus⟩
end
end Dw

/-! Rules over data: comprehensions that draw. -/
namespace Dw
open PySem PySem.Spec PyProof.Rows L2
variable [Tabs0]

abbrev Fp (F : Addr → Prop) (a : Addr) : Addr → Prop := fun b => F b ∨ b = a
theorem SR.frame {F : Addr → Prop} {Γ : Gam} {σ : L2.St} {W : Wd} {a : Addr} (g : SR F Γ σ W) (u : W.U a) (p : ¬ W.P a) (no : ¬ ownA Γ σ a) : SR (Fp F a) Γ σ W :=
  ⟨⟨g.ok.dom, fun b h => h.elim (g.ok.fu b) fun h => by rw [h]; exact u, fun b h => let ⟨u', f, pp⟩ := g.ok.pu b h; ⟨u', fun z => z.elim f fun z => p (by rw [← z]; exact h), pp⟩⟩, g.len, g.val,
   fun i ds e => let ⟨b, vs, e1, u', f, pp, q, r⟩ := g.ownX i ds e; ⟨b, vs, e1, u', fun z => z.elim f fun z => no ⟨i, ds, e, by rw [← z]; exact e1⟩, pp, q, r⟩, g.apartX⟩
/-- a cell of the frame is changed -/
theorem SR.poke {F : Addr → Prop} {Γ : Gam} {σ : L2.St} {W : Wd} {a : Addr} {o : HO} (g : SR (Fp F a) Γ σ W) (nf : ¬ F a) (ne : ∀ h, W.H a ≠ some (.ext h)) :
    Stp F W (W.at (upd W.H a o)) ∧ SR (Fp F a) Γ σ (W.at (upd W.H a o)) := by
  have u : W.U a := g.ok.fu a (Or.inr rfl)
  have st : Stp F W (W.at (upd W.H a o)) := ⟨fun b x e n => ⟨by
    show (upd W.H a o) b = some x
    rw [upd_ne (fun z : b = a => n (by rw [z]; exact u))]; exact e, n⟩, rfl, fun b h => upd_ne (fun z : b = a => nf (by rw [← z]; exact h))⟩
  refine ⟨st, ⟨⟨fun b h z => ?_, g.ok.fu, fun b h => ?_⟩, g.len, fun i d e => ?_, fun i ds e => ?_, g.apartX⟩⟩
  · have z : (upd W.H a o) b = none := z
    by_cases hb : b = a
    · rw [hb, upd_same] at z; cases z
    · rw [upd_ne hb] at z; exact g.ok.dom b h z
  · obtain ⟨u', f, oo⟩ := g.ok.pu b h
    exact ⟨u', f, oo.upd ne fun z : b = a => f (Or.inr z)⟩
  · obtain ⟨v, e1, r⟩ := g.val i d e
    exact ⟨v, e1, r.stp st⟩
  · obtain ⟨b, vs, e1, u', f, pp, q, r⟩ := g.ownX i ds e
    exact ⟨b, vs, e1, u', f, pp, (upd_ne (fun z : b = a => f (Or.inr z))).trans q, r.stp st⟩
/-- .. and becomes a value -/
theorem SR.land {F : Addr → Prop} {Γ : Gam} {σ : L2.St} {W : Wd} {a : Addr} (g : SR (Fp F a) Γ σ W) (nf : ¬ F a) :
    Stp F W ⟨W.H, fun b => W.U b ∧ b ≠ a, W.P⟩ ∧ SR F Γ σ ⟨W.H, fun b => W.U b ∧ b ≠ a, W.P⟩ := by
  have st : Stp F W ⟨W.H, fun b => W.U b ∧ b ≠ a, W.P⟩ := ⟨fun b x e n => ⟨e, fun z => n z.1⟩, rfl, fun _ _ => rfl⟩
  refine ⟨st, ⟨⟨fun b h => g.ok.dom b h.1, fun b h => ⟨g.ok.fu b (Or.inl h), fun z => nf (by rw [← z]; exact h)⟩, fun b h => ?_⟩, g.len, fun i d e => ?_, fun i ds e => ?_, g.apartX⟩⟩
  · obtain ⟨u', f, pp⟩ := g.ok.pu b h
    exact ⟨⟨u', fun z => f (Or.inr z)⟩, fun z => f (Or.inl z), pp⟩
  · obtain ⟨v, e1, r⟩ := g.val i d e
    exact ⟨v, e1, r.stp st⟩
  · obtain ⟨b, vs, e1, u', f, pp, q, r⟩ := g.ownX i ds e
    exact ⟨b, vs, e1, ⟨u', fun z => f (Or.inr z)⟩, fun z => f (Or.inl z), pp, q, r.stp st⟩
section
variable {Γ : Gam} {wi : TI} {g : TG} {tt : TT} {te : TE} {vs : List Nat} {Q : D → Gam → Prop}
theorem dl_lc (h : Di wi Γ fun xs Γ1 => xs.length ≤ 1000000 ∧ ∃ J : Nat → List D → Gam → Prop, J 0 [] (wipeG Γ1 vs) ∧
      (∀ i x acc Γ', xs[i]? = some x → J i acc Γ' → ∃ is Γ2, DG g is x Γ' Γ2 ∧ (∀ i ∈ is, i ∈ vs) ∧ DlT tt Γ2 fun b Γ3 => (b = true → Dl te Γ3 fun d Γ4 => J (i + 1) (acc ++ [d]) (wipeG Γ4 vs)) ∧ (b = false → J (i + 1) acc (wipeG Γ3 vs))) ∧
      ∀ acc Γ', J xs.length acc Γ' → Q (.lst acc) Γ') : Dl (tLc wi g tt te vs) Γ Q := fun F σ W R s k =>
  h F σ W _ s fun I W1 xs Γ1 st1 g1 it ⟨hz, J, h0, hs, hd⟩ => fun Dn hD => by
    obtain ⟨stp, gp, no, nf, np⟩ := g1.plus (H := upd W1.H Dn (.lst [])) (a := Dn) (same_upd hD) hD (by rw [upd_same]; exact fun z => nomatch z)
    have gf := (gp.frame (Or.inr rfl) np no).wipe vs
    refine ⟨fun i m H' => m = xs.length - i ∧ i ≤ xs.length ∧ ∃ W' Γ' acc us, W'.H = H' ∧ Stp F W1 W' ∧ SR (Fp F Dn) Γ' (wipe σ vs) W' ∧ H' Dn = some (.lst us) ∧ RepL W' acc us ∧ acc.length ≤ i ∧ J i acc Γ',
      ⟨_, rfl, Nat.zero_le _, W1.plus (upd W1.H Dn (.lst [])) Dn, _, [], [], rfl, stp, gf, upd_same, rfl, Nat.le_refl _, h0⟩, ?_⟩
    rintro i m H' ⟨rfl, hi, W', Γ', acc, us, rfl, s', g', hus, rus, hl, j⟩
    by_cases hlt : i < xs.length
    · have hx : xs[i]? = some xs[i] := List.getElem?_eq_getElem hlt
      obtain ⟨is, Γ2, hg, his, ht⟩ := hs i xs[i] acc Γ' hx j
      have ok1 : WOk F W' := ⟨g'.ok.dom, fun b z => g'.ok.fu b (Or.inl z), fun b z => let ⟨u, f, p⟩ := g'.ok.pu b z; ⟨u, fun q => f (Or.inl q), p⟩⟩
      obtain ⟨go, yl⟩ := it.go W' i xs[i] s' ok1 hx
      refine .inr ⟨go, fun H2 => ∃ W2 Γ2 acc us, W2.H = H2 ∧ Stp F W1 W2 ∧ SR (Fp F Dn) Γ2 (wipe σ vs) W2 ∧ H2 Dn = some (.lst us) ∧ RepL W2 acc us ∧ acc.length ≤ i + 1 ∧ J (i + 1) acc Γ2, fun H2 q => ⟨xs.length - (i + 1), by omega, rfl, hlt, q⟩, fun v H2 y => ?_⟩
      obtain ⟨sm, rv⟩ := yl v H2 y
      have g2 := g'.same sm
      have s2 : Stp F W1 (W'.at H2) := s'.trans (Stp.of_same ok1 sm)
      refine hg (Fp F Dn) _ (W'.at H2) v _ g2 rv fun σ2 g3 w2 => ?_
      have ew : wipe σ2 vs = wipe σ vs := by rw [w2 vs his, wipe_wipe]
      refine ⟨ew, ht (Fp F Dn) σ2 (W'.at H2) _ g3 fun b W3 Γ3 s3 g4 q => ?_⟩
      have h3 : W3.H Dn = some (.lst us) := (s3.fr Dn (Or.inr rfl)).trans (sm _ _ hus)
      have r3 : RepL W3 acc us := (RepL.same (W := W') sm rus).stp s3
      cases b with
      | false =>
        rw [if_neg Bool.false_ne_true]
        have g5 := g4.wipe vs
        rw [ew] at g5
        exact ⟨W3, _, acc, us, rfl, s2.trans (s3.sub fun _ z => Or.inl z), g5, h3, r3, by omega, q.2 rfl⟩
      | true =>
        rw [if_pos rfl]
        refine q.1 rfl (Fp F Dn) σ2 W3 _ g4 fun z W4 d Γ4 s4 g5 rz qj => ?_
        have h4 : W4.H Dn = some (.lst us) := (s4.fr Dn (Or.inr rfl)).trans h3
        have r4 : RepL W4 acc us := r3.stp s4
        have g6 := g5.wipe vs
        rw [ew] at g6
        obtain ⟨s5, g7⟩ := g6.poke (o := .lst (us ++ [z])) nf (no_ext (by assumption))
        refine ⟨us, h4, ?_, W4.at (upd W4.H Dn (.lst (us ++ [z]))), _, acc ++ [d], us ++ [z], rfl, ((s2.trans (s3.sub fun _ z => Or.inl z)).trans (s4.sub fun _ z => Or.inl z)).trans s5, g7, upd_same, (r4.append (RepL.one rz)).stp s5, by rw [List.length_append, List.length_singleton]; omega, qj⟩
        rw [← r4.length]
        exact Nat.lt_of_le_of_lt (show acc.length ≤ 1000000 by omega) (by decide)
    · have e : i = xs.length := by omega
      subst e
      have ok1 : WOk F W' := ⟨g'.ok.dom, fun b z => g'.ok.fu b (Or.inl z), fun b z => let ⟨u, f, p⟩ := g'.ok.pu b z; ⟨u, fun q => f (Or.inl q), p⟩⟩
      obtain ⟨s8, g8⟩ := (SR.unwipe g').land nf
      refine .inl ⟨it.stop W' s' ok1, k (.ref Dn) ⟨W'.H, fun b => W'.U b ∧ b ≠ Dn, W'.P⟩ (.lst acc) Γ' (st1.trans (s'.trans s8)) g8 ⟨Dn, us, rfl, hus, fun z => z.2 rfl, rus.stp s8⟩ (hd acc Γ' j)⟩
end
end Dw

/-! Operators that serve several kinds at once, and what they give on data. -/
namespace Dw
open PySem PySem.Spec PyProof.Rows L2
variable [Tabs0]
section
variable {X : Cx} {a b c e : Expr} {ta tb te : TE} {pos : Pos} {i j : Int} {x y : Str} {ds es : List D} {K : PySem.W.Frag} {Γ : Gam} {d : D}
abbrev rOr (r r' : R2) : R2 := fun x y H Q => r x y H Q ∨ r' x y H Q
theorem dr2_l {r r' : R2} {x y d : D} (h : DR2 r x y d) : DR2 (rOr r r') x y d := fun W u v Q dom a b k => .inl (h W u v Q dom a b k)
theorem dr2_r {r r' : R2} {x y d : D} (h : DR2 r' x y d) : DR2 (rOr r r') x y d := fun W u v Q dom a b k => .inr (h W u v Q dom a b k)
/-! ### + and * -/
abbrev rPlus (K : PySem.W.Frag) : R2 := rOr (rI0 fun i j => .int (i + j)) (rOr rAddStr (rOr rCat (rCatT K)))
theorem opPlus : OpR X (binaryOp .Add) (rPlus X.K) := op_add.or (op_add_str.or (op_cat.or op_catT))
theorem plus_int : DR2 (rPlus K) (.int i) (.int j) (.int (i + j)) := dr2_l dr2_add
theorem plus_str (h : x.length + y.length ≤ sizeLine) : DR2 (rPlus K) (.str x) (.str y) (.str (x ++ y)) := dr2_r (dr2_l (dr2_add_str h))
theorem plus_lst (h : ds.length + es.length ≤ sizeLine) : DR2 (rPlus K) (.lst ds) (.lst es) (.lst (ds ++ es)) := dr2_r (dr2_r (dr2_l (dr2_cat h)))
abbrev rTimes : R2 := rOr (rI CMul fun i j => .int (i * j)) rRep
theorem opTimes : OpR X (binaryOp .Mult) rTimes := op_mul.or op_rep
theorem times_int (h : CMul i j) : DR2 rTimes (.int i) (.int j) (.int (i * j)) := dr2_l (dr2_mul h)
/-! ### comparisons -/
abbrev rEqX (K : PySem.W.Frag) : R2 := rOr rEq (rEqD K)
abbrev rNeX (K : PySem.W.Frag) : R2 := rOr rNe (rNeD K)
theorem opEq (hu : X.A.units + 64 < cLine) : OpR X (compareOp .Eq) (rEqX X.K) := op_eq.or (op_eqD hu)
theorem opNe (hu : X.A.units + 64 < cLine) : OpR X (compareOp .NotEq) (rNeX X.K) := op_ne.or (op_neD hu)
theorem eq_int' : DR2 (rEqX K) (.int i) (.int j) (.bl (decide (i = j))) := dr2_l dr2_eq_int
theorem eq_str' : DR2 (rEqX K) (.str x) (.str y) (.bl (decide (x = y))) := dr2_l dr2_eq_str
theorem ne_int' : DR2 (rNeX K) (.int i) (.int j) (.bl (!decide (i = j))) := dr2_l dr2_ne_int
theorem ne_str' : DR2 (rNeX K) (.str x) (.str y) (.bl (!decide (x = y))) := dr2_l dr2_ne_str
theorem eq_deep {p q : D} (h1 : isPy p = true) (h2 : isPy q = true) (h3 : SeqAt.shaped (py p) = true) (h4 : SeqAt.shaped (py q) = true) : DR2 (rEqX K) p q (.bl (PyData.eqv (py p) (py q))) := dr2_r (dr2_eqD h1 h2 h3 h4)
theorem ne_deep {p q : D} (h1 : isPy p = true) (h2 : isPy q = true) (h3 : SeqAt.shaped (py p) = true) (h4 : SeqAt.shaped (py q) = true) : DR2 (rNeX K) p q (.bl (!PyData.eqv (py p) (py q))) := dr2_r (dr2_neD h1 h2 h3 h4)
abbrev rLtS : R2 := fun x y H Q => ∃ i j, x = .str i ∧ y = .str j ∧ Q (.bl (decide (i.cps.toList < j.cps.toList))) H
theorem opLt : OpR X (compareOp .Lt) (rOr (rI0 fun i j => .bl (decide (i < j))) rLtS) := op_lt.or op_lt_str
theorem lt_int' : DR2 (rOr (rI0 fun i j => .bl (decide (i < j))) rLtS) (.int i) (.int j) (.bl (decide (i < j))) := dr2_l dr2_lt
theorem lt_str' : DR2 (rOr (rI0 fun i j => .bl (decide (i < j))) rLtS) (.str x) (.str y) (.bl (decide (x.cps.toList < y.cps.toList))) := dr2_r (dr2_flat fun W u v Q a b k => ⟨x, y, a, b, k _ rfl⟩)
theorem opLe : OpR X (compareOp .LtE) (rI0 fun i j => .bl (decide (i ≤ j))) := op_le
theorem opGt : OpR X (compareOp .Gt) (rI0 fun i j => .bl (decide (j < i))) := op_gt
theorem opGe : OpR X (compareOp .GtE) (rI0 fun i j => .bl (decide (j ≤ i))) := op_ge
abbrev rInS : R2 := fun x y H Q => ∃ i j, x = .str i ∧ y = .str j ∧ Q (.bl (!(Builtin.Str.occurrences j i 0 j.length 1).isEmpty)) H
abbrev rNinS : R2 := fun x y H Q => ∃ i j, x = .str i ∧ y = .str j ∧ Q (.bl (!(!(Builtin.Str.occurrences j i 0 j.length 1).isEmpty))) H
theorem opIn : OpR X (compareOp .In) (rOr (rIn X.K false) rInS) := op_in_seq.or op_in_str
theorem opNotIn : OpR X (compareOp .NotIn) (rOr (rIn X.K true) rNinS) := op_notIn_seq.or op_notin_str
theorem in_str' : DR2 (rOr (rIn K false) rInS) (.str x) (.str y) (.bl (!(Builtin.Str.occurrences y x 0 y.length 1).isEmpty)) := dr2_r (dr2_flat fun W u v Q a b k => ⟨x, y, a, b, k _ rfl⟩)
/-- scalars -/
def isSc : D → Bool
  | .non => true | .bl _ => true | .int _ => true | .str _ => true | _ => false
def scV : D → V
  | .non => .non | .bl b => .bl b | .int i => .int i | .str x => .str x | _ => .non
theorem rep_sc {W : Wd} {d : D} {v : V} (h : isSc d = true) (r : Rep W d v) : v = scV d := by
  cases d <;> first | exact r | exact absurd (show false = true from h) Bool.false_ne_true
theorem repL_sc {W : Wd} : ∀ {ds : List D} {vs : List V}, ds.all isSc = true → RepL W ds vs → vs = ds.map scV
  | [], _, _, h => h
  | d :: ds, _, p, ⟨v, r, e, h1, h2⟩ => by
    have p' : isSc d = true ∧ ds.all isSc = true := by simpa using p
    rw [e, rep_sc p'.1 h1, repL_sc p'.2 h2]; rfl
theorem flat_sc {d : D} (h : isSc d = true) : flatV (scV d) = true := by
  cases d <;> first | rfl | exact absurd (show false = true from h) Bool.false_ne_true
theorem flats_sc : ∀ {ds : List D}, ds.all isSc = true → (ds.map scV).all flatV = true
  | [], _ => rfl
  | d :: ds, p => by
    have p' : isSc d = true ∧ ds.all isSc = true := by simpa using p
    rw [List.map_cons, List.all_cons, flat_sc p'.1, flats_sc p'.2]; rfl
theorem ev_in {neg : Bool} {r' : R2} (ha : Ev ta Γ d) (hb : EvB tb Γ ds) (s1 : isSc d = true) (s2 : ds.all isSc = true) : Ev (tOp (rOr (rIn K neg) r') ta tb) Γ (.bl (if neg then !inV (scV d) (ds.map scV) else inV (scV d) (ds.map scV))) := fun F σ W Q g k =>
  ha F σ W _ g fun v H s r => hb F σ (W.at H) _ (g.same s) fun p vs H' s' e l => .inl ⟨p, vs, rfl, .inl (.of e), by rw [rep_sc s1 r]; exact flat_sc s1, by rw [repL_sc s2 l]; exact flats_sc s2, by
    rw [rep_sc s1 r, repL_sc s2 l]
    exact k _ H' (Same.trans s s') rfl⟩
/-! ### len, items, slices -/
abbrev rLen (K : PySem.W.Frag) : List V → Hp → VK → Prop := fun xs H Q => (∃ p ys, xs = [.ref p] ∧ (SqL K H p ys ∨ SqT K H p ys) ∧ Q (.int ys.length) H) ∨ ∃ z, xs = [.str z] ∧ z.length ≤ sizeLine ∧ Q (.int z.length) H
theorem opLen : CallR X (.builtin "len") (rLen X.K) := call_len_seq.or call_len_str
theorem ev_len (h : EvB ta Γ ds) : Ev (tCB (rLen K) (tCons ta tNil)) Γ (.int ds.length) := fun F σ W Q g k => h F σ W _ g fun p vs H s e l => .inl ⟨p, vs, rfl, .inl (.of e), k _ H s (by rw [l.length]; rfl)⟩
theorem ev_lenT (h : Ev ta Γ (.tup ds)) : Ev (tCB (rLen K) (tCons ta tNil)) Γ (.int ds.length) := fun F σ W Q g k => h F σ W _ g fun u H s ⟨p, vs, eu, e, nu, l⟩ => .inl ⟨p, vs, by rw [eu], .inr e.sq, k _ H s (by rw [l.length]; rfl)⟩
theorem ev_lenS (h : Ev ta Γ (.str x)) (hz : x.length ≤ sizeLine) : Ev (tCB (rLen K) (tCons ta tNil)) Γ (.int x.length) := fun F σ W Q g k => h F σ W _ g fun u H s r => .inr ⟨x, by rw [show u = V.str x from r], hz, k _ H s rfl⟩
theorem atI_rep {W : Wd} {vs : List V} (l : RepL W ds vs) (h : atI ds i = some d) : ∃ v, atI vs i = some v ∧ Rep W d v := by
  unfold atI at h ⊢
  rw [← l.length]
  cases q : ixN ds.length i with
  | none => rw [q] at h; cases h
  | some k =>
    rw [q] at h
    obtain ⟨v, e, r⟩ := l.get (i := k) h
    exact ⟨v, e, r⟩
theorem ev_ix (ha : EvB ta Γ ds) (hb : Ev tb Γ (.int i)) (h : atI ds i = some d) : Ev (tOp (rIx K) ta tb) Γ d := fun F σ W Q g k => ha F σ W _ g fun p vs H s e l => hb F σ (W.at H) _ (g.same s) fun u H' s' r => by
  obtain ⟨v, ev, rv⟩ := atI_rep (RepL.same (W := W.at H) s' l) h
  exact .inl ⟨p, vs, i, v, rfl, r, .of (s' _ _ e), ev, k v H' (Same.trans s s') rv⟩
theorem ev_ixT (ha : Ev ta Γ (.tup ds)) (hb : Ev tb Γ (.int i)) (h : atI ds i = some d) : Ev (tOp (rIx K) ta tb) Γ d := fun F σ W Q g k => ha F σ W _ g fun u H s ⟨p, vs, eu, e, nu, l⟩ => hb F σ (W.at H) _ (g.same s) fun u H' s' r => by
  obtain ⟨v, ev, rv⟩ := atI_rep (RepL.same (W := W.at H) s' l) h
  exact .inr (.inl ⟨p, vs, i, v, eu, r, (e.same s').sq, ev, k v H' (Same.trans s s') rv⟩)
theorem dr2_ixS {z : Nat} (hl : x.length ≤ sizeLine) (h : atI x.cps.toList i = some z) : DR2 (rIx K) (.str x) (.int i) (.str ⟨#[z]⟩) := dr2_flat fun W u v Q a b k => .inr (.inr ⟨x, i, z, a, b, hl, h, k _ rfl⟩)
theorem dr2_ixL (h : atI ds i = some d) : DR2 (rIx K) (.lst ds) (.int i) d := dr2_flat fun W u v Q ⟨p, vs, eu, e, nu, l⟩ b k => by
  obtain ⟨w, ev, rw'⟩ := atI_rep l h
  exact .inl ⟨p, vs, i, w, eu, b, .of e, ev, k w rw'⟩
theorem dr2_ixT (h : atI ds i = some d) : DR2 (rIx K) (.tup ds) (.int i) d := dr2_flat fun W u v Q ⟨p, vs, eu, e, nu, l⟩ b k => by
  obtain ⟨w, ev, rw'⟩ := atI_rep l h
  exact .inr (.inl ⟨p, vs, i, w, eu, b, e.sq, ev, k w rw'⟩)
/-! ### iterators -/
theorem pi_or {tg iter : Expr} {w1 w2 : TI} (h1 : PI X tg iter w1) (h2 : PI X tg iter w2) : PI X tg iter (fun σ H R => w1 σ H R ∨ w2 σ H R) :=
  ⟨fun pins s σ H R I h => h.elim (h1.run pins s σ H R I) (h2.run pins s σ H R I)⟩
abbrev iAny (K : PySem.W.Frag) (t : TE) : TI := fun σ H R => iList K t σ H R ∨ (fun σ H R => iTup K t σ H R ∨ iStr t σ H R) σ H R
theorem pi_any {tg : Expr} (h : PE X e te) : PI X tg e (iAny X.K te) := pi_or (pi_list h) (pi_or (pi_tup h) (pi_str h))
theorem ei_l {w1 w2 : TI} {xs : List D} (h : Ei w1 Γ xs) : Ei (fun σ H R => w1 σ H R ∨ w2 σ H R) Γ xs := fun F σ W R g k => .inl (h F σ W R g k)
theorem ei_r {w1 w2 : TI} {xs : List D} (h : Ei w2 Γ xs) : Ei (fun σ H R => w1 σ H R ∨ w2 σ H R) Γ xs := fun F σ W R g k => .inr (h F σ W R g k)
theorem di_l {w1 w2 : TI} {Q : List D → Gam → Prop} (h : Di w1 Γ Q) : Di (fun σ H R => w1 σ H R ∨ w2 σ H R) Γ Q := fun F σ W R g k => .inl (h F σ W R g k)
theorem di_r {w1 w2 : TI} {Q : List D → Gam → Prop} (h : Di w2 Γ Q) : Di (fun σ H R => w1 σ H R ∨ w2 σ H R) Γ Q := fun F σ W R g k => .inr (h F σ W R g k)
theorem eia_list {xs : List D} (h : EvB te Γ xs) : Ei (iAny K te) Γ xs := ei_l (ei_list h)
theorem eia_tup {xs : List D} (h : Ev te Γ (.tup xs)) : Ei (iAny K te) Γ xs := ei_r (ei_l (ei_tup h))
theorem dia_list {Q : List D → Gam → Prop} (h : Dl te Γ fun d Γ1 => ∃ xs, d = .lst xs ∧ Q xs Γ1) : Di (iAny K te) Γ Q := di_l (di_list h)
theorem dia_tup {Q : List D → Gam → Prop} (h : Dl te Γ fun d Γ1 => ∃ xs, d = .tup xs ∧ Q xs Γ1) : Di (iAny K te) Γ Q := di_r (di_l (di_tup h))
theorem signs_get {x : Str} {i : Nat} {d : D} (h : (signs x)[i]? = some d) : i < x.cps.size ∧ ∃ c, x.cps[i]? = some c ∧ d = .str ⟨#[c]⟩ := by
  unfold signs at h
  rw [List.getElem?_map, Array.getElem?_toList] at h
  cases q : x.cps[i]? with
  | none => rw [q] at h; cases h
  | some c =>
    rw [q] at h
    have hl := (Array.getElem?_eq_some_iff.mp q).1
    exact ⟨hl, c, rfl, (Option.some.inj h).symm⟩
theorem signs_length (x : Str) : (signs x).length = x.cps.size := by simp [signs]
theorem ei_str (h : Ev te Γ (.str x)) : Ei (iStr te) Γ (signs x) := fun F σ W R g k => h F σ W _ g fun v H s r => ⟨x, r, k (Its x) H s ⟨fun W1 i d dm sm ku pu hx => by
  obtain ⟨hi, c, hc, rfl⟩ := signs_get hx
  refine ⟨hi, fun v H' ⟨e, c', hc', ev⟩ => ?_⟩
  rw [hc] at hc'; cases hc'
  subst e ev
  exact ⟨Same.refl _, rfl⟩, fun H2 s2 => by rw [signs_length]; exact Nat.le_refl _⟩⟩
theorem eia_str (h : Ev te Γ (.str x)) : Ei (iAny K te) Γ (signs x) := ei_r (ei_r (ei_str h))
/-! ### builtins over lists -/
theorem ev_all {bs : List Bool} (h : EvB ta Γ (bs.map D.bl)) : Ev (tCB (rAll K) (tCons ta tNil)) Γ (.bl (bs.all id)) := fun F σ W Q g k => h F σ W _ g fun p vs H s e l => ⟨p, bs, rfl, .of (by rw [e, RepL.bls.mp l]), k _ H s rfl⟩
/-- sep.join(xs) -/
abbrev rJoin (K : PySem.W.Frag) : V → List V → Hp → VK → Prop := fun x xs H Q => ∃ a p, ∃ ys : List Str, x = .str a ∧ xs = [.ref p] ∧ (SqL K H p (ys.map V.str) ∨ SqT K H p (ys.map V.str)) ∧
      (ys.map (·.length)).sum + ys.length * a.length ≤ 16777216 ∧ Q (.str (Txt.join a ys)) H
theorem ev_join {ys : List Str} (ha : Ev ta Γ (.str x)) (hb : EvB tb Γ (ys.map D.str)) (hz : (ys.map (·.length)).sum + ys.length * x.length ≤ 16777216) : Ev (tM1 (rJoin K) ta tb) Γ (.str (Txt.join x ys)) := fun F σ W Q g k =>
  ha F σ W _ g fun v H s r => ⟨⟨x, r⟩, hb F σ (W.at H) _ (g.same s) fun p vs H' s' e l => ⟨x, p, ys, r, rfl, .inl (.of (by rw [e, RepL.strs.mp l])), hz, k _ H' (Same.trans s s') rfl⟩⟩
theorem dl_join {Q : D → Gam → Prop} (ha : Ev ta Γ (.str x)) (hb : Dl tb Γ fun d Γ1 => ∃ ys : List Str, d = .lst (ys.map D.str) ∧ (ys.map (·.length)).sum + ys.length * x.length ≤ 16777216 ∧ Q (.str (Txt.join x ys)) Γ1) : Dl (tM1 (rJoin K) ta tb) Γ Q := fun F σ W R g k =>
  ha F σ W _ g fun v H s r => ⟨⟨x, r⟩, hb F σ (W.at H) _ (g.same s) fun u W2 d Γ1 st g1 rd ⟨ys, e, hz, q⟩ => by
    subst e
    obtain ⟨p, vs, rfl, e, nu, l⟩ := rd
    exact ⟨x, p, ys, r, rfl, .inl (.of (e.trans (by rw [RepL.strs.mp l]))), hz, k _ W2 (.str (Txt.join x ys)) Γ1 ((Stp.of_same g.ok s).trans st) g1 rfl q⟩⟩
abbrev rTupleOf (K : PySem.W.Frag) : List V → Hp → VK → Prop := fun xs H Q => ∃ p ys, xs = [.ref p] ∧ ((SqL K H p ys ∧ ∀ l, H l = none → Q (.ref l) (upd H l (.tup ys))) ∨ (SqT K H p ys ∧ Q (.ref p) H))
theorem ev_tuple (h : EvB ta Γ ds) : Ev (tCB (rTupleOf K) (tCons ta tNil)) Γ (.tup ds) := fun F σ W Q g k => h F σ W _ g fun p vs H s e l => ⟨p, vs, rfl, .inl ⟨.of e, fun n hn => k _ _ (Same.trans s (same_upd hn)) (rep_new_tup (W := W.at H) (g.same s).ok.dom hn l)⟩⟩
/-- sorted(texts) -/
theorem dl_sortedS {Q : D → Gam → Prop} {r' : List V → Hp → VK → Prop} (h : Dl ta Γ fun d Γ1 => ∃ ys : List Str, d = .lst (ys.map D.str) ∧ ys.length < 64 ∧ ∀ zs : List Str, zs.Perm ys → sortedS zs = true → Q (.lst (zs.map D.str)) Γ1) :
    Dl (tCB (fun xs H Q => r' xs H Q ∨ rSortedS K xs H Q) (tCons ta tNil)) Γ Q := fun F σ W R g k => h F σ W _ g fun v W1 d Γ1 st g1 r ⟨ys, e, hz, q⟩ => by
  subst e
  obtain ⟨p, vs, rfl, e, nu, l⟩ := r
  refine .inr ⟨p, ys, rfl, .of (by rw [e, RepL.strs.mp l]), hz, fun zs n hp hs hn => ?_⟩
  exact k _ (W1.at _) (.lst (zs.map D.str)) Γ1 (st.trans (Stp.of_same g1.ok (same_upd hn))) (g1.same (same_upd hn)) (rep_new_lst g1.ok.dom hn (RepL.strs.mpr rfl)) (q zs hp hs)
theorem opSorted {X : Cx} : CallR X (.builtin "sorted") (fun xs H Q => rSorted X.K xs H Q ∨ rSortedS X.K xs H Q) := cr_sorted.or cr_sortedS
end
end Dw

/-! Rules of the machine that the hand layer lacks: f(k = v) by keywords alone, an attribute as a target within a tuple, count of flat things. -/
namespace Dw
open PySem PySem.Spec PyProof.Rows L2
variable [Tabs0]
section
variable {X : Cx} {CX : CXT} {k : Nat} {f C : Addr} {fd : FuncData} {ps ks : List Str} {sp : Sp} {E : XK} {x m : Str} {p pos apos kpos : Pos} {e o : Expr} {es : List Expr} {kws : List Keyword} {te ta : TE} {t tk : TA} {nm : Option Str}
variable {g : List Value → List Value → List Value} {gV : List V → List V → List V}
end
section
variable {X : Cx} {o : Expr} {f : Str} {pos : Pos} {ta : TE}
/-- x.f as a target -/
def gFld (K : PySem.W.Frag) (ta : TE) (f : Str) : TG := fun y σ H Q => ta σ H fun x H2 => ∃ a C dx fs, x = .ref a ∧ H2 a = some (.ins C dx fs) ∧ Cls K C ∧ NoAttr K C f ∧ fs.length < 1000 ∧ Q σ (upd H2 a (.ins C dx (putF f y fs)))
theorem pg_fld (ha : PE X o ta)
    (hs : ∀ v, assign (.Attribute o f pos) X.env v = (do
      let ov ← holding [v] (eval o X.env)
      standAt pos
      holding [v, ov] (setAttr ov f v)
      release [v, ov] []) := by intro _; rfl) : PG X (.Attribute o f pos) (gFld X.K ta f) := by
  refine ⟨fun pins s σ H v u Q I r h => ?_⟩
  rw [hs]
  refine wpAny_bind (wpAny_holding (thn (ha.run pins s σ H _ I h) fun ov s1 ⟨x, H2, I2, rx, a, C, dx, fs, ex, ea, c, n, l, q2⟩ => ?_))
  subst ex
  obtain rfl : ov = Value.ref a := rx
  refine wpAny_bind (wpAny_standAt (wpAny_bind (wpAny_holding ?_)))
  exact setattr_ok I2 ea c n l r fun s3 I3 => wpAny_release ⟨σ, _, I3, q2⟩
end
end Dw

/-! The same rules with the written part K named (within a comprehension's block it is the def's). -/
namespace Dw
open PySem PySem.Spec PyProof.Rows L2
variable [Tabs0]
section
variable {X : Cx} {K : PySem.W.Frag} {e : Expr} {te ta tb : TE} {pos apos : Pos} {tg o i a : Expr} {t : TA}
theorem ixA (K : PySem.W.Frag) (hK : X.K = K := by rfl) : IxR X (rIx K) := hK ▸ ix_seq
theorem eqA (K : PySem.W.Frag) (hu : X.A.units + 64 < cLine) (hK : X.K = K := by rfl) : OpR X (compareOp .Eq) (rEqX K) := hK ▸ opEq hu
theorem neA (K : PySem.W.Frag) (hu : X.A.units + 64 < cLine) (hK : X.K = K := by rfl) : OpR X (compareOp .NotEq) (rNeX K) := hK ▸ opNe hu
theorem inA (K : PySem.W.Frag) (hK : X.K = K := by rfl) : OpR X (compareOp .In) (rOr (rIn K false) rInS) := hK ▸ opIn
theorem ninA (K : PySem.W.Frag) (hK : X.K = K := by rfl) : OpR X (compareOp .NotIn) (rOr (rIn K true) rNinS) := hK ▸ opNotIn
theorem lenA (K : PySem.W.Frag) (hK : X.K = K := by rfl) : CallR X (.builtin "len") (rLen K) := hK ▸ opLen
theorem allA (K : PySem.W.Frag) (hc : X.calm = true := by rfl) (hK : X.K = K := by rfl) : CallR X (.builtin "all") (rAll K) := hK ▸ cr_all hc
abbrev rSortedX (K : PySem.W.Frag) : List V → Hp → VK → Prop := fun xs H Q => rSorted K xs H Q ∨ rSortedS K xs H Q
theorem sortedA (K : PySem.W.Frag) (hK : X.K = K := by rfl) : CallR X (.builtin "sorted") (rSortedX K) := hK ▸ opSorted
theorem isiA (K : PySem.W.Frag) (hK : X.K = K := by rfl) : CallR X (.builtin "isinstance") (rIsi K) := hK ▸ call_isi
theorem tupleA (K : PySem.W.Frag) (hK : X.K = K := by rfl) : CallR X (.type "tuple") (rTupleOf K) := hK ▸ call_tuple_of
theorem joinA (K : PySem.W.Frag) (ho : PE X o ta) (he : PE X e te) (hK : X.K = K := by rfl) (hs : starEach [e] X.env = [(false, eval e X.env)] := by rfl) (hbase : attributeBase o "join" X.env (eval o X.env) = eval o X.env := by rfl) (hline : (apos.endLine == pos.line) = true := by rfl) :
    PE X (.Call (.Attribute o "join" apos) [e] [] pos) (tM1 (rJoin K) ta te) := hK ▸ pe_join ho he hs hbase hline
theorem fldA (K : PySem.W.Frag) {f : Str} (he : PE X e ta) (hK : X.K = K := by rfl) (hb : attributeBase e f X.env (eval e X.env) = eval e X.env := by rfl) : PE X (.Attribute e f pos) (tFld K ta f) := hK ▸ pe_fld he hb
theorem truA (K : PySem.W.Frag) (ha : PE X a ta) (hK : X.K = K := by rfl) (he : ∀ whole, isTrue a X.env whole = (do let v ← whole; standAt a.pos; holding [v] (truthy v)) := by intro _; rfl) : PT X a (tTru K ta) := by
  subst hK; exact pt_truth ha he
end
end Dw

/-! Lists of texts as data: their shape, their equality. -/
namespace Dw
open PySem PySem.Spec PyProof.Rows L2
variable [Tabs0]
def okS (x : Str) : Prop := PyData.strOk x = true
section
variable {K : PySem.W.Frag} {xs ys : List Str} {ta tb : TE} {Γ : Gam}
end
/-- a text of one sign -/
def ch (c : Nat) : Str := ⟨#[c]⟩
theorem ch_eq {a b : Nat} : ch a = ch b ↔ a = b := by
  constructor
  · intro h
    have : (#[a] : Array Nat) = #[b] := congrArg Str.cps h
    simpa using this
  · rintro rfl; rfl
/-- a text of its codes -/
def tx (l : List Nat) : Str := ⟨l.toArray⟩
theorem tx_len (l : List Nat) : (tx l).length = l.length := by show l.toArray.size = _; simp
theorem tx_cps (l : List Nat) : (tx l).cps.toList = l := by show l.toArray.toList = l; simp
theorem tx_eq {a b : List Nat} : tx a = tx b ↔ a = b := by
  constructor
  · intro h
    have := congrArg (fun x : Str => x.cps.toList) h
    simpa [tx_cps] using this
  · rintro rfl; rfl
theorem okS_tx {l : List Nat} (h : ∀ c ∈ l, c < 1114112) : okS (tx l) := by
  show l.toArray.all (fun x => decide (x < 0x110000)) = true
  simp
  exact h
theorem of_tx (x : Str) : x = tx x.cps.toList := by
  obtain ⟨⟨l⟩⟩ := x
  rfl
theorem tx_append (a b : List Nat) : tx a ++ tx b = tx (a ++ b) := by
  show (⟨a.toArray ++ b.toArray⟩ : Str) = ⟨(a ++ b).toArray⟩
  simp
theorem signs_tx (l : List Nat) : signs (tx l) = (l.map ch).map D.str := by
  unfold signs
  rw [tx_cps, List.map_map]
  rfl
end Dw

/-! More rules of the machine: () + t, a range that is kept, enumerate of a tuple, first, *rest = a list. -/
namespace Dw
open PySem PySem.Spec PyProof.Rows L2
variable [Tabs0]
section
variable {X : Cx}
/-! ### () + t -/
abbrev rCatE (K : PySem.W.Frag) : R2 := fun x y H Q => ∃ a b ys, x = .ref a ∧ y = .ref b ∧ SqT K H a [] ∧ SqT K H b ys ∧ Q (.ref b) H
theorem op_catE : OpR X (binaryOp .Add) (rCatE X.K) := by
  intro pins s σ H x y v u Q I rx ry ⟨a, b, ys, ex, ey, ha, hb, q⟩
  subst ex; subst ey
  cases rx; cases ry
  obtain ⟨i1, v1, t1, _⟩ := I.tuple ha
  obtain ⟨i2, v2, t2, _⟩ := I.tuple hb
  cases v1
  obtain ⟨o1, g1, c1, n1, d1⟩ := t1
  obtain ⟨o2, g2, c2, n2, d2⟩ := t2
  obtain ⟨oc1, od1, da1, sl1⟩ := o1
  obtain ⟨oc2, od2, da2, sl2⟩ := o2
  simp only at c1 d1 c2 d2
  subst c1; subst d1; subst c2; subst d2
  exact concat_meets ⟨_, g1, rfl⟩ ⟨_, g2, rfl⟩ noFill_tuple_add seq_tuple_add PySem.F.slot_tuple_add PySem.F.entry_tuple_add
    (PySem.F.args_tuple_add_2 _ _) (tuple_addW0 a b _ _ n1 n2 od1 od2 sl1 sl2 rfl) ⟨g1, g2, ⟨.ref b, H, I, rfl, q⟩⟩
abbrev rPlusE (K : PySem.W.Frag) : R2 := rOr (rPlus K) (rCatE K)
theorem plusE (K : PySem.W.Frag) (hK : X.K = K := by rfl) : OpR X (binaryOp .Add) (rPlusE K) := hK ▸ opPlus.or op_catE
variable {K : PySem.W.Frag} {ds es : List D} {i j : Int} {x y : Str} {ta tb : TE} {Γ : Gam}
theorem pl_int : DR2 (rPlusE K) (.int i) (.int j) (.int (i + j)) := dr2_l plus_int
theorem pl_str (h : x.length + y.length ≤ sizeLine) : DR2 (rPlusE K) (.str x) (.str y) (.str (x ++ y)) := dr2_l (plus_str h)
theorem pl_lst (h : ds.length + es.length ≤ sizeLine) : DR2 (rPlusE K) (.lst ds) (.lst es) (.lst (ds ++ es)) := dr2_l (plus_lst h)
theorem pl_evn (ha : EvB ta Γ ds) (hb : EvB tb Γ es) (h : ds.length + es.length ≤ sizeLine) : EvN (tOp (rPlusE K) ta tb) Γ (ds ++ es) := fun F σ W Q g k => ha F σ W _ g fun p vs H s e l => hb F σ (W.at H) _ (g.same s) fun q ws H' s' e' l' =>
  .inl (.inr (.inr (.inl ⟨p, q, vs, ws, rfl, rfl, s' _ _ e, e', by rw [← l.length, ← l'.length]; exact h, fun n hn =>
    k n (vs ++ ws) _ (Same.trans s (Same.trans s' (same_upd hn))) (s.free (s'.free hn)) upd_same (RepL.plus (W := W.at H') hn (same_upd hn) ((RepL.same (W := W.at H) s' l).append l'))⟩)))

/-! ### range(n), kept -/
def iRgO (te : TE) : TI := fun σ H R => te σ H fun x H1 => ∃ p lo hi, x = .ref p ∧ H1 p = some (.rng lo hi) ∧ (-(2 ^ 62) ≤ lo ∧ lo < 2 ^ 62 ∧ -(2 ^ 62) ≤ hi ∧ hi < 2 ^ 62) ∧ R (Itr lo (hi - lo).toNat) H1
theorem pi_rgO {tg l : Expr} {te : TE} (hl : PE X l te) : PI X tg l (iRgO te) := by
  refine ⟨fun pins s σ H R I h => thn (hl.run pins s σ H _ I h) fun v s1 ⟨x, H1, I1, r1, q1⟩ => ?_⟩
  obtain ⟨p, lo, hi, ex, hp, ⟨b1, b2, b3, b4⟩, q⟩ := q1
  subst ex
  cases r1
  obtain ⟨t, u, w, hr⟩ := I1.hok p _ hp
  have hr' : IsRange s1.heap p lo hi 1 t u w := hr
  refine wpAny_pyIter_range hr' (small_one b1 b2 b3 b4) ?_
  refine ⟨s1.heap.objs.size, [s1.heap.objs.size], _, _, H1, rfl, I1.kept (t' := s1.toks) fun b o e => Heap.get?_push_of_some _ e, turn_range _ lo (hi - lo).toNat, ?_, fun b hb => ?_, q⟩
  · have e1 : lo + ((0 : Nat) : Int) * 1 = lo := by simp
    have e2 : (((hi - lo).toNat : Nat) : Int) - ((0 : Nat) : Int) = Builtin.Range.rangeSize lo hi 1 := by rw [rangeSize_one]; split <;> omega
    show IsRangeIter _ _ (lo + ((0 : Nat) : Int) * 1) (_ - _) 1
    rw [e1, e2]
    exact Heap.get?_push_size _ rfl
  · obtain rfl : b = s1.heap.objs.size := by simpa using hb
    exact I1.fpOk (Nat.le_refl _) (I1.hok.fresh (Nat.le_refl _))
abbrev iAnyR (K : PySem.W.Frag) (t : TE) : TI := fun σ H R => iAny K t σ H R ∨ iRgO t σ H R
theorem piR (K : PySem.W.Frag) {tg e : Expr} {te : TE} (h : PE X e te) (hK : X.K = K := by rfl) : PI X tg e (iAnyR K te) := hK ▸ pi_or (pi_any h) (pi_rgO h)
theorem ej_list {xs : List D} (h : EvB ta Γ xs) : Ei (iAnyR K ta) Γ xs := ei_l (eia_list h)
theorem ej_tup {xs : List D} (h : Ev ta Γ (.tup xs)) : Ei (iAnyR K ta) Γ xs := ei_l (eia_tup h)
theorem ej_str (h : Ev ta Γ (.str x)) : Ei (iAnyR K ta) Γ (signs x) := ei_l (eia_str h)
theorem dj_list {Q : List D → Gam → Prop} (h : Dl ta Γ fun d Γ1 => ∃ xs, d = .lst xs ∧ Q xs Γ1) : Di (iAnyR K ta) Γ Q := di_l (dia_list h)
theorem dj_tup {Q : List D → Gam → Prop} (h : Dl ta Γ fun d Γ1 => ∃ xs, d = .tup xs ∧ Q xs Γ1) : Di (iAnyR K ta) Γ Q := di_l (dia_tup h)
/-! ### first, *rest = xs -/
end
end Dw

/-! enumerate of a tuple. -/
namespace Dw
open PySem PySem.Spec PyProof.Rows L2
variable [Tabs0]
end Dw

/-! for i, x in enumerate(a tuple). -/
namespace Dw
open PySem PySem.Spec PyProof.Rows L2
variable [Tabs0]
theorem zipA (K : PySem.W.Frag) {X : Cx} {e e2 : Expr} {ta : TA} {p pos tpos : Pos} {elts : List Expr} {kk : Nat} (hg : Gl X "zip") (hm : X.mg "zip" = none) (ha : PA X [e, e2] ta) (hK : X.K = K := by rfl)
    (hs : starEach [e, e2] X.env = (false, eval e X.env) :: starEach [e2] X.env := by rfl) (hpl : (backTo pos (starEach [e2] X.env)).any (·.1) = false := by rfl) :
    PI X (.Tuple elts kk tpos) (.Call (.Name "zip" p) [e, e2] [] pos) (RZ.iZipA K ta) := hK ▸ RZ.pi_zipA hg hm ha hs hpl
/-! ### over data -/
section
variable {K : PySem.W.Frag} {Γ : Gam} {ta : TE} {xs ys : List D}
end
end Dw

/-! zip, slices, fields, isinstance, over data. -/
namespace Dw
open PySem PySem.Spec PyProof.Rows L2
variable [Tabs0]
def zipD (xs ys : List D) : List D := (xs.zip ys).map fun p => .tup [p.1, p.2]
theorem zipD_get {xs ys : List D} {i : Nat} {d : D} (h : (zipD xs ys)[i]? = some d) : ∃ x y, xs[i]? = some x ∧ ys[i]? = some y ∧ d = .tup [x, y] := by
  unfold zipD at h
  rw [List.getElem?_map] at h
  cases q : (xs.zip ys)[i]? with
  | none => rw [q] at h; cases h
  | some p =>
    rw [q] at h
    rw [List.getElem?_zip_eq_some] at q
    exact ⟨p.1, p.2, q.1, q.2, (Option.some.inj h).symm⟩
theorem zipD_length (xs ys : List D) : (zipD xs ys).length = min xs.length ys.length := by simp [zipD]
section
variable {K : PySem.W.Frag} {Γ : Gam} {ta tb te : TE} {xs ys ds : List D} {d : D}
theorem ei_zipT (h1 : Ev ta Γ (.tup xs)) (h2 : Ev tb Γ (.tup ys)) : Ei (RZ.iZipA K (tCons ta (tCons tb tNil))) Γ (zipD xs ys) := fun F σ W R g k => h1 F σ W _ g fun v H s ⟨a, vs, ev, ha, nu, l⟩ => h2 F σ (W.at H) _ (g.same s) fun u H' s' ⟨b, ws, eu, hb, nu', l'⟩ => by
  subst ev; subst eu
  have ha' := ha.same s'
  refine ⟨a, b, vs, ws, rfl, .inr ⟨ha'.sq, hb.sq, k (RZ.ItzT K a b) H' (Same.trans s s') ⟨fun W2 i x dm s2 ku pu hx => ?_, fun H2 s2 => ?_⟩⟩⟩
  · obtain ⟨x, y, hx1, hy, rfl⟩ := zipD_get hx
    obtain ⟨v, hv, rv⟩ := (RepL.same (W := W.at H) s' l).get hx1
    obtain ⟨u, hu, ru⟩ := l'.get hy
    have a2 := ha'.same s2
    have b2 := hb.same s2
    refine ⟨⟨vs, ws, v, u, a2.sq, b2.sq, hv, hu⟩, fun z H3 ⟨T, p, q, ez, hT, eH, hp, hq⟩ => ?_⟩
    subst ez; subst eH
    have e1 := hp vs a2.sq
    have e2 := hq ws b2.sq
    rw [hv] at e1; cases e1
    rw [hu] at e2; cases e2
    have mv : ∀ {d v}, Rep (W.at H') d v → Rep W2 d v := fun {d v} r => Rep.mono (W := W.at H') (W' := W2) (fun b u e n => ⟨s2 b u e, ku b u e n⟩) (fun b z => by rw [pu]; exact z) d v r
    exact ⟨same_upd hT, rep_new_tup dm hT ⟨_, _, rfl, mv rv, _, _, rfl, mv ru, rfl⟩⟩
  · refine ⟨vs, ws, (ha'.same s2).sq, (hb.same s2).sq, ?_⟩
    rw [zipD_length, ← l.length, ← l'.length]
    omega
/-! ### slices -/
def Eo (t : TO) (Γ : Gam) (o : Option Int) : Prop := ∀ (F : Addr → Prop) (σ : L2.St) (W : Wd) (Q : Option Int → Hp → Prop), SR F Γ σ W → (∀ H, Same W.H H → Q o H) → t σ W.H Q
theorem eo_none : Eo tNoPart Γ none := fun F σ W Q g k => k W.H (Same.refl _)
theorem eo_some {i : Int} (h : Ev te Γ (.int i)) : Eo (tPart te) Γ (some i) := fun F σ W Q g k => h F σ W _ g fun v H s r => ⟨i, r, k H s⟩
/-- xs[lo:hi] -/
def cutD (xs : List D) (lo hi : Option Int) : List D := (xs.drop (HT.sIx xs.length 0 lo)).take (HT.sIx xs.length xs.length hi - HT.sIx xs.length 0 lo)
theorem repL_cut {W : Wd} {vs : List V} {lo hi : Option Int} (l : RepL W ds vs) : RepL W (cutD ds lo hi) (cutV vs lo hi) := by
  unfold cutD cutV
  rw [l.length]
  exact (l.drop _).take _
/-! ### fields -/
theorem ev_fld {C : Addr} {ns : List Str} {f : Str} (cl : Cls K C) (na : NoAttr K C f) (h : Ev ta Γ (.obj C ns ds)) (hl : (ns.zip ds).lookup f = some d) : Ev (tFld K ta f) Γ d := fun F σ W Q g k => h F σ W _ g fun v H s ⟨a, dx, vs, ev, e, nu, l, r⟩ => by
  subst ev
  have key : ∀ (ns : List Str) (ds : List D) (vs : List V), RepL (W.at H) ds vs → (ns.zip ds).lookup f = some d → ∃ v, (ns.zip vs).lookup f = some v ∧ Rep (W.at H) d v := by
    intro ns
    induction ns with
    | nil => intro ds vs _ q; simp at q
    | cons n ns ih =>
      intro ds vs r q
      cases ds with
      | nil => simp at q
      | cons e ds =>
        obtain ⟨v, rr, rfl, r1, r2⟩ := r
        rw [List.zip_cons_cons, List.lookup_cons] at q ⊢
        cases hb : f == n with
        | true =>
          rw [hb] at q
          exact ⟨v, rfl, by rw [← Option.some.inj q]; exact r1⟩
        | false =>
          rw [hb] at q
          exact ih ds rr r2 q
  obtain ⟨v, hv, rv⟩ := key ns ds vs r hl
  exact ⟨a, C, dx, _, v, rfl, e, cl, na, hv, k v H s rv⟩
/-! ### isinstance with one class -/
/-- a value's type, as the fragment's deciders take it -/
def tyD : D → Value
  | .non => .type "NoneType" | .bl _ => .type "bool" | .int _ => .type "int" | .str _ => .type "str" | .tup _ => .type "tuple" | .tupN _ => .type "tuple" | .lst _ => .type "list" | .dct _ _ => .type "dict" | .obj C _ _ => .ref C | _ => .none
structure InsOk (K : PySem.W.Frag) (C : Addr) : Prop where
  cl : Cls K C
  ha : PySem.W.findIn K (.ref C) "__class__" = some (some (.builtin "object.__class__"))
  hn : PySem.W.specialIn K (.builtin "object.__class__") "__get__" = some (some (.builtin "getset_descriptor.__get__"))
  ht : PySem.W.takesIn K (.builtin "object.__class__") = some true
  hm : PySem.W.mroIn K C (.type "object") = some true
def hasTy : D → Bool
  | .raw _ => false | .purse => false | .rng _ _ => false | .obj _ _ _ => false | .scr _ _ => false | .tag _ => false | .tupN _ => false | _ => true
theorem ty_of {W : Wd} {v : V} (r : Rep W d v) (h : hasTy d = true ∨ ∃ C ns ds, d = .obj C ns ds ∧ InsOk K C) : TyX K W.H v (tyD d) := by
  cases d with
  | non => rw [show v = V.non from r]; exact .base .non
  | bl b => rw [show v = V.bl b from r]; exact .base (.bl b)
  | int b => rw [show v = V.int b from r]; exact .base (.int b)
  | str b => rw [show v = V.str b from r]; exact .base (.str b)
  | tup ds =>
    obtain ⟨a, vs, ev, e, _⟩ := r
    rw [ev]
    exact e.elim (fun e => .base (.tup e)) fun ⟨o, e⟩ => .fTuple e
  | tupN ds => obtain ⟨a, vs, ev, ⟨o, e, _⟩, _⟩ := r; rw [ev]; exact .fTuple e
  | lst ds => obtain ⟨a, vs, ev, e, _⟩ := r; rw [ev]; exact .base (.lst e)
  | dct ks ds => obtain ⟨a, vs, ev, e, _⟩ := r; rw [ev]; exact .base (.dK e)
  | obj C ns ds =>
    obtain ⟨a, dx, vs, ev, e, _⟩ := r
    rcases h with h | ⟨C', ns', ds', q, o⟩
    · cases h
    · cases q; rw [ev]; exact .base (.ins e o.cl o.ha o.hn o.ht o.hm)
  | raw _ => rcases h with h | ⟨_, _, _, q, _⟩ <;> first | cases h | cases q
  | scr _ _ => rcases h with h | ⟨_, _, _, q, _⟩ <;> first | cases h | cases q
  | tag _ => rcases h with h | ⟨_, _, _, q, _⟩ <;> first | cases h | cases q
  | purse => rcases h with h | ⟨_, _, _, q, _⟩ <;> first | cases h | cases q
  | rng _ _ => rcases h with h | ⟨_, _, _, q, _⟩ <;> first | cases h | cases q
theorem ev_isi {c : V} {u : Value} {b : Bool} (h : Ev ta Γ d) (hc : Ev tb Γ (.raw c)) (hd : hasTy d = true ∨ ∃ C ns ds, d = .obj C ns ds ∧ InsOk K C) (hv : ClsV c u) (hk : PySem.W.kitOne K (tyD d) u = some b) : Ev (tCB (rIsi K) (tCons ta (tCons tb tNil))) Γ (.bl b) := fun F σ W Q g k =>
  h F σ W _ g fun v H s r => hc F σ (W.at H) _ (g.same s) fun w H' s' rc => ⟨v, c, tyD d, u, b, by rw [show w = c from rc], hv, ty_of (Rep.same (W := W.at H) s' r) hd, hk, k _ H' (Same.trans s s') rfl⟩
end
end Dw
namespace Dw
open PySem PySem.Spec PyProof.Rows L2
variable [Tabs0]
theorem tupA (K : PySem.W.Frag) (n : Nat) {X : Cx} {pos : Pos} {es : List Expr} {k : Nat} {t : TGs} (hc : X.calm = true) (h : PGs X es t) (hK : X.K = K := by rfl)
    (hn : (assignEach es X.env).length = n := by rfl) (hst : (assignEach es X.env).findIdx? (·.1) = none := by rfl) : PG X (.Tuple es k pos) (gTup K n t) := hK ▸ pg_tup hc h hn hst
/-- a purse is drawn from -/
theorem purse_step {F : Addr → Prop} {W : Wd} {a : Addr} {x y c : Int} (ok : WOk F W) (hp : W.P a) (nn : Tabs0.nm a = none) (hx : 0 ≤ x) (hy : 0 ≤ y) (hy2 : y < 2147483647) :
    Stp F W (W.at (upd W.H a (.lst [.int x, .int y, .int c]))) ∧ WOk F (W.at (upd W.H a (.lst [.int x, .int y, .int c]))) := by
  obtain ⟨u, f, oa⟩ := ok.pu a hp
  obtain ⟨_, _, _, _, _, ha⟩ := oa.purse nn
  have up : ∀ b, b ≠ a → (upd W.H a (.lst [.int x, .int y, .int c])) b = W.H b := fun b hb => upd_ne hb
  refine ⟨⟨fun b o e n => ⟨?_, n⟩, rfl, fun b h => up b fun z => f (by rw [← z]; exact h)⟩, ⟨fun b h z => ?_, ok.fu, fun b h => ?_⟩⟩
  · show (upd W.H a _) b = _
    rw [up b fun z => n (by rw [z]; exact u)]
    exact e
  · have z : (upd W.H a (.lst [.int x, .int y, .int c])) b = none := z
    by_cases hb : b = a
    · rw [hb, upd_same] at z; cases z
    · rw [up b hb] at z; exact ok.dom b h z
  · obtain ⟨u', f', o⟩ := ok.pu b h
    refine ⟨u', f', ?_⟩
    by_cases hb : b = a
    · rw [hb]; exact .of ⟨(x, c), y, hx, hy, hy2, upd_same⟩ nn
    · exact o.upd (no_ext ha) hb
end Dw

/-! Joined texts as codes; a written dict that is asked at once. -/
namespace Dw
open PySem PySem.Spec PyProof.Rows L2
variable [Tabs0]
theorem join_tx (a : List Nat) (ys : List (List Nat)) : Txt.join (tx a) (ys.map tx) = tx (TL.joinL a ys) := SX.join_S a ys
section
variable {Γ : Gam} {K : PySem.W.Frag} {ty : TE} {x y : Str}
end
end Dw

/-! Chains of comparisons, dicts of the module, properties, texts cut, objects made. -/
namespace Dw
open PySem PySem.Spec PyProof.Rows L2
variable [Tabs0]
section
variable {Γ : Gam} {K : PySem.W.Frag} {w : World} {ta tb tc te tv : TE} {t : TA} {x y z d : D} {ds : List D} {a b : Str} {C ad : Addr} {E : XK} {s : Spc}
theorem ev_chain {r r' : R2} {p q : Bool} (ha : Ev ta Γ x) (hb : Ev tb Γ y) (hc : p = true → Ev tc Γ z) (h1 : DR2 r x y (.bl p)) (h2 : p = true → DR2 r' y z (.bl q)) : Ev (tChain r r' ta tb tc) Γ (.bl (p && q)) := fun F σ W Q g k =>
  ha F σ W _ g fun u H s ru => hb F σ (W.at H) _ (g.same s) fun v H1 s1 rv => by
    refine h1 (W.at H1) u v _ ((g.same s).same s1).ok.dom (ru.same (W := W.at H) s1) rv fun o H2 s2 ro => ⟨p, ro, ?_⟩
    have s02 : Same W.H H2 := Same.trans s (Same.trans s1 s2)
    cases p with
    | false => exact ite2 (fun h => nomatch h) fun _ => k _ H2 s02 rfl
    | true =>
      refine ite2 (fun _ => ?_) fun h => absurd rfl h
      refine hc rfl F σ (W.at H2) _ (g.same s02) fun e H3 s3 re => ?_
      exact h2 rfl (W.at H3) v e _ ((g.same s02).same (W := W.at H2) s3).ok.dom ((rv.same (W := W.at H1) s2).same (W := W.at H2) s3) re fun o' H4 s4 ro' => k _ H4 (Same.trans s02 (Same.trans s3 s4)) ro'
theorem evt_chain {r r' : R2} {p q : Bool} (ha : Ev ta Γ x) (hb : Ev tb Γ y) (hc : p = true → Ev tc Γ z) (h1 : DR2 r x y (.bl p)) (h2 : p = true → DR2 r' y z (.bl q)) : EvT (tTest (tChain r r' ta tb tc)) Γ (p && q) := evt_test (ev_chain ha hb hc h1 h2)
/-- a property of an object -/
theorem ev_prop {x : s.ty} {ns : List Str} (h : Ev ta Γ (.obj C ns ds)) (ha : s.args x = [.obj C ns ds]) (np : noPs (s.args x) = true) (ok : s.ok x) (hd : ∀ d', s.rel x d' → d' = d) : Ev (tProp C (toSp s) [] E ta) Γ d := fun F σ W R g k => h F σ W _ g fun v H st r => by
  obtain ⟨a, dx, vs, ev, e, nu, l, rl⟩ := r
  refine ⟨a, dx, _, ev, e, ?_⟩
  have rr : RepL (W.at H) (s.args x) [v] := by rw [ha]; exact RepL.one ⟨a, dx, vs, ev, e, nu, l, rl⟩
  rw [← ev]
  exact pure_call (W := W.at H) (g.same st) (fun _ z => z) (RepL.delP _ _ np rr) ok fun d' v H' hd' s' r' => by
    rw [hd d' hd'] at r'
    exact k v H' (Same.trans st s') (Rep.addP (W := W) r')
theorem evn_split (ha : Ev ta Γ (.str a)) (hb : Ev tb Γ (.str b)) (hn : (b.length == 0) = false) (hz : a.length + 2 ≤ sizeLine) :
    EvN (tM1 (fun x xs H Q => ∃ a b, x = .str a ∧ xs = [.str b] ∧ (b.length == 0) = false ∧ a.length + 2 ≤ sizeLine ∧ rNewStrs (Txt.split a b) H Q) ta tb) Γ ((Txt.split a b).map D.str) := fun F σ W Q g k =>
  ha F σ W _ g fun v H s r => ⟨⟨a, r⟩, hb F σ (W.at H) _ (g.same s) fun u H1 s1 r1 => ⟨a, b, r, by rw [show u = V.str b from r1], hn, hz, fun p hp =>
    k p _ _ (Same.trans (Same.trans s s1) (same_upd hp)) ((Same.trans s s1).free hp) upd_same (RepL.strs.mpr rfl)⟩⟩
theorem ev_partition (ha : Ev ta Γ (.str a)) (hb : Ev tb Γ (.str b)) (hn : (b.length == 0) = false) (hz : a.length ≤ sizeLine) :
    Ev (tM1 (fun x xs H Q => ∃ a b, x = .str a ∧ xs = [.str b] ∧ (b.length == 0) = false ∧ a.length ≤ sizeLine ∧
      ∀ p, H p = none → Q (.ref p) (upd H p (.tup [.str (Txt.partition a b).1, .str (Txt.partition a b).2.1, .str (Txt.partition a b).2.2]))) ta tb) Γ (.tup [.str (Txt.partition a b).1, .str (Txt.partition a b).2.1, .str (Txt.partition a b).2.2]) := fun F σ W Q g k =>
  ha F σ W _ g fun v H s r => ⟨⟨a, r⟩, hb F σ (W.at H) _ (g.same s) fun u H1 s1 r1 => ⟨a, b, r, by rw [show u = V.str b from r1], hn, hz, fun p hp =>
    k _ _ (Same.trans (Same.trans s s1) (same_upd hp)) (rep_new_tup (W := W.at H1) ((g.same s).same (W := W.at H) s1).ok.dom hp ⟨_, _, rfl, rfl, _, _, rfl, rfl, _, _, rfl, rfl, rfl⟩)⟩⟩
end
end Dw

/-! Objects made: the promise of an __init__, its rules, the call of the class. -/
namespace Dw
open PySem PySem.Spec PyProof.Rows L2
variable [Tabs0]
abbrev rIsNone : R2 := fun x y H Q => y = .non ∧ Q (.bl (decide (x = .non))) H
theorem dr2_isN {d : D} {b : Bool} (h : ∀ (W : Wd) v, Rep W d v → decide (v = V.non) = b) : DR2 rIsNone d .non (.bl b) := dr2_flat fun W u v Q r1 r2 k => ⟨r2, by rw [h W u r1]; exact k _ rfl⟩
/-- an __init__'s promise: the object gets ns and ds, where rel x (.tup ds) -/
def toIn (C : Addr) (ns : List Str) (s : Spc) : Sp := fun vs H Q _ => ∃ (x : s.ty) (F : Addr → Prop) (W : Wd) (a dx : Addr) (us : List V), vs = .ref a :: us ∧ W.H = H ∧ WOk F W ∧ W.U a ∧ ¬ F a ∧ ¬ W.P a ∧ W.H a = some (.ins C dx []) ∧ RepL W (s.args x) us ∧ s.ok x ∧
  ∀ ds zs W', s.rel x (.tup ds) → Stp F W W' → WOk F W' → W'.U a → W'.H a = some (.ins C dx (ns.zip zs)) → ns.length = zs.length → RepL W' ds zs → Q .non W'.H
section
variable {Γ : Gam} {K : PySem.W.Frag} {te tv ta : TE} {t u : TS} {x y d : D} {C : Addr} {s : Spc}
/-- a statement of an __init__ whose object stands at a, with the fields ns so far -/
def DI (C a : Addr) (t : TS) (Γ : Gam) (ns : List Str) (ds : List D) (R : Gam → List Str → List D → Prop) : Prop := ∀ (F : Addr → Prop) (σ : L2.St) (W : Wd) (Dr : Ends) (dx : Addr) (us : List V), SR (Fp F a) Γ σ W → ¬ F a → W.H a = some (.ins C dx (ns.zip us)) → ns.length = us.length → RepL W ds us →
  (∀ σ' Γ' ns' ds' us' W', Stp F W W' → SR (Fp F a) Γ' σ' W' → W'.H a = some (.ins C dx (ns'.zip us')) → ns'.length = us'.length → RepL W' ds' us' → R Γ' ns' ds' → Dr.nx σ' W'.H) → t Dr σ W.H
theorem di_seq {a : Addr} {ns : List Str} {ds : List D} {R : Gam → List Str → List D → Prop} (h : DI C a t Γ ns ds fun Γ' ns' ds' => DI C a u Γ' ns' ds' R) : DI C a (tSeq t u) Γ ns ds R := fun F σ W Dr dx us g nf e l r k =>
  h F σ W { Dr with nx := u Dr } dx us g nf e l r fun σ' Γ' ns' ds' us' W' st g' e' l' r' hR => hR F σ' W' Dr dx us' g' nf e' l' r' fun σ2 Γ2 ns2 ds2 us2 W2 st2 => k σ2 Γ2 ns2 ds2 us2 W2 (st.trans st2)
theorem di_of {a : Addr} {ns : List Str} {ds : List D} {R : Gam → List Str → List D → Prop} (h : Ds t Γ ⟨fun Γ' => R Γ' ns ds, fun _ => False, fun _ => False, fun _ => False⟩) : DI C a t Γ ns ds R := fun F σ W Dr dx us g nf e l r k =>
  h (Fp F a) σ W Dr g ⟨fun σ' W' Γ' st g' hR => k σ' Γ' ns ds us W' (st.sub fun _ z => .inl z) g' ((st.fr a (.inr rfl)).trans e) l (r.stp st) hR, fun _ _ _ _ _ _ h => h.elim, fun _ _ _ _ _ h => h.elim, fun _ _ _ _ _ h => h.elim⟩
theorem putF_new {f : Str} {v : V} : ∀ {ns : List Str} {us : List V}, f ∉ ns → ns.length = us.length → putF f v (ns.zip us) = (ns ++ [f]).zip (us ++ [v])
  | [], [], _, _ => rfl
  | n :: ns, u :: us, h, l => by
    show (if n = f then _ else (n, u) :: putF f v (ns.zip us)) = _
    rw [if_neg (fun z => h (by rw [z]; exact List.mem_cons_self)), putF_new (fun z => h (List.mem_cons_of_mem _ z)) (Nat.succ.inj l)]
    rfl
theorem zip_len {ns : List Str} {us : List V} (l : ns.length = us.length) : (ns.zip us).length = ns.length := by rw [List.length_zip, ← l]; omega
theorem di_fld {a : Addr} {ns : List Str} {ds : List D} {f : Str} {R : Gam → List Str → List D → Prop} (cl : Cls K C) (na : NoAttr K C f) (hn : f ∉ ns) (hz : ns.length < 1000) (ha : Ev ta Γ (.raw (.ref a))) (hv : Ev tv Γ d) (h : R Γ (ns ++ [f]) (ds ++ [d])) :
    DI C a (sFld K ta tv f) Γ ns ds R := fun F σ W Dr dx us g nf e l r k => hv _ σ W _ g fun v H s rv => ha _ σ (W.at H) _ (g.same s) fun z H1 s1 rz => by
  have g1 := (g.same s).same (W := W.at H) s1
  have s01 := Same.trans s s1
  refine ⟨a, C, dx, ns.zip us, rz, s01 _ _ e, cl, na, by rw [zip_len l]; exact hz, ?_⟩
  rw [putF_new hn l]
  obtain ⟨st, g2⟩ := g1.poke (o := .ins C dx ((ns ++ [f]).zip (us ++ [v]))) nf (no_extI (s01 _ _ e))
  have st1 : Stp F W (W.at H1) := (Stp.of_same g.ok s01).sub fun _ z => .inl z
  exact k σ Γ (ns ++ [f]) (ds ++ [d]) (us ++ [v]) _ (st1.trans st) g2 upd_same (by rw [List.length_append, List.length_append, l]; rfl) (((r.same s01).append (RepL.one (rv.same (W := W.at H) s1))).stp st) h
theorem di_fld2 {a : Addr} {ns : List Str} {ds : List D} {f f2 : Str} {R : Gam → List Str → List D → Prop} (cl : Cls K C) (na : NoAttr K C f) (na2 : NoAttr K C f2) (hn : f ∉ ns) (hn2 : f2 ∉ ns ++ [f]) (hz : ns.length < 900) (ha : Ev ta Γ (.raw (.ref a))) (hv : Ev tv Γ (.tup [x, y]))
    (h : R Γ ((ns ++ [f]) ++ [f2]) ((ds ++ [x]) ++ [y])) :
    DI C a (tAsg tv (gTup K 2 (gCons (gFld K ta f) (gCons (gFld K ta f2) gNil)))) Γ ns ds R := fun F σ W Dr dx us g nf e l r k => hv _ σ W _ g fun v H s rv => by
  obtain ⟨p, vs, ev, hp, nu, v1, _, rfl, r1, v2, _, rfl, r2, rfl⟩ := rv
  refine ⟨p, [v1, v2], ev, hp.sq, rfl, v1, [v2], rfl, ha _ σ (W.at H) _ (g.same s) fun z H1 s1 rz => ?_⟩
  have g1 := (g.same s).same (W := W.at H) s1
  have s01 := Same.trans s s1
  refine ⟨a, C, dx, ns.zip us, rz, s01 _ _ e, cl, na, by rw [zip_len l]; omega, ?_⟩
  rw [putF_new hn l]
  obtain ⟨st, g2⟩ := g1.poke (o := .ins C dx ((ns ++ [f]).zip (us ++ [v1]))) nf (no_extI (s01 _ _ e))
  have st1 : Stp F W (W.at H1) := (Stp.of_same g.ok s01).sub fun _ z => .inl z
  have l1 : (ns ++ [f]).length = (us ++ [v1]).length := by rw [List.length_append, List.length_append, l]; rfl
  have rr1 := ((r.same s01).append (RepL.one (r1.same (W := W.at H) s1))).stp st
  have r2' := (r2.same (W := W.at H) s1).stp st
  refine ⟨v2, [], rfl, ha _ σ _ _ g2 fun z' H2 s2 rz' => ?_⟩
  refine ⟨a, C, dx, (ns ++ [f]).zip (us ++ [v1]), rz', s2 _ _ upd_same, cl, na2, by rw [zip_len l1, List.length_append]; show ns.length + 1 < 1000; omega, rfl, ?_⟩
  rw [putF_new hn2 l1]
  obtain ⟨st2, g3⟩ := (g2.same s2).poke (o := .ins C dx (((ns ++ [f]) ++ [f2]).zip ((us ++ [v1]) ++ [v2]))) nf (no_extI (s2 _ _ upd_same))
  have sto : Stp F (W.at (upd H1 a (.ins C dx ((ns ++ [f]).zip (us ++ [v1]))))) (W.at H2) := (Stp.of_same g2.ok s2).sub fun _ z => .inl z
  exact k σ Γ _ ((ds ++ [x]) ++ [y]) ((us ++ [v1]) ++ [v2]) _ (st1.trans (st.trans (sto.trans st2))) g3 upd_same (by simp [l]) (((rr1.stp sto).append (RepL.one (r2'.stp sto))).stp st2) h
section
variable {P : Program} {w : World} {mg : Str → Option Value} {base : Heap}
end
end
end Dw

/-! all() over a pure comprehension; one sign within a text; comparisons with their answers. -/
namespace Dw
open PySem PySem.Spec PyProof.Rows L2
variable [Tabs0]
section
variable {Γ : Gam} {K : PySem.W.Frag} {wi : TI} {g : TG} {tt : TT} {te : TE} {vs : List Nat}
theorem ev_all_lc {α : Type} {xs : List α} {c : α → D} {b : α → Bool} (h : Ei wi Γ (xs.map c)) (hz : xs.length ≤ 1000000)
    (he : ∀ x ∈ xs, ∃ is Γ2, DG g is (c x) (wipeG Γ vs) Γ2 ∧ (∀ i ∈ is, i ∈ vs) ∧ EvT tt Γ2 true ∧ Ev te Γ2 (.bl (b x))) : Ev (tCB (rAll K) (tCons (tLc wi g tt te vs) tNil)) Γ (.bl (xs.all b)) := by
  have e := evn_lc (p := fun _ => true) (f := fun x => D.bl (b x)) h hz fun x hx => by
    obtain ⟨is, Γ2, h1, h2, h3, h4⟩ := he x hx
    exact ⟨is, Γ2, h1, h2, h3, fun _ => h4⟩
  rw [List.filter_eq_self.mpr (fun _ _ => rfl)] at e
  have e2 : xs.map (fun x => D.bl (b x)) = (xs.map b).map D.bl := by rw [List.map_map]; rfl
  rw [e2] at e
  have r := ev_all (K := K) e.b
  rw [List.all_map] at r
  exact r
/-- a pure comprehension without a test -/
theorem evn_lc1 {α : Type} {xs : List α} {c f : α → D} (h : Ei wi Γ (xs.map c)) (hz : xs.length ≤ 1000000)
    (he : ∀ x ∈ xs, ∃ is Γ2, DG g is (c x) (wipeG Γ vs) Γ2 ∧ (∀ i ∈ is, i ∈ vs) ∧ EvT tt Γ2 true ∧ Ev te Γ2 (f x)) : EvN (tLc wi g tt te vs) Γ (xs.map f) := by
  have e := evn_lc (p := fun _ => true) (f := f) h hz fun x hx => by
    obtain ⟨is, Γ2, h1, h2, h3, h4⟩ := he x hx
    exact ⟨is, Γ2, h1, h2, h3, fun _ => h4⟩
  rw [List.filter_eq_self.mpr (fun _ _ => rfl)] at e
  exact e
end
theorem in_code {K : PySem.W.Frag} {l : List Nat} {c : Nat} : DR2 (rOr (rIn K false) rInS) (.str (ch c)) (.str (tx l)) (.bl (decide (c ∈ l))) := by
  have e := in_str' (K := K) (x := ch c) (y := tx l)
  rw [show (Builtin.Str.occurrences (tx l) (ch c) 0 (tx l).length 1).isEmpty = !decide (c ∈ l) from by rw [← Bool.not_not (Builtin.Str.occurrences (tx l) (ch c) 0 (tx l).length 1).isEmpty]; exact congrArg _ (SX.in_one l c), Bool.not_not] at e
  exact e
theorem nin_code {K : PySem.W.Frag} {l : List Nat} {c : Nat} : DR2 (rOr (rIn K true) rNinS) (.str (ch c)) (.str (tx l)) (.bl (!decide (c ∈ l))) := by
  refine dr2_r (dr2_flat fun W u v Q a b k => ⟨ch c, tx l, a, b, ?_⟩)
  rw [show (Builtin.Str.occurrences (tx l) (ch c) 0 (tx l).length 1).isEmpty = !decide (c ∈ l) from by rw [← Bool.not_not (Builtin.Str.occurrences (tx l) (ch c) 0 (tx l).length 1).isEmpty]; exact congrArg _ (SX.in_one l c), Bool.not_not]
  exact k _ rfl
section
variable {K : PySem.W.Frag} {i j : Int} {b : Bool} {x y : Str}
theorem le_b (h : decide (i ≤ j) = b) : DR2 (rI0 fun i j => .bl (decide (i ≤ j))) (.int i) (.int j) (.bl b) := h ▸ dr2_le
theorem ge_b (h : decide (j ≤ i) = b) : DR2 (rI0 fun i j => .bl (decide (j ≤ i))) (.int i) (.int j) (.bl b) := h ▸ dr2_ge
theorem gt_b (h : decide (j < i) = b) : DR2 (rI0 fun i j => .bl (decide (j < i))) (.int i) (.int j) (.bl b) := h ▸ dr2_gt
theorem lt_b (h : decide (i < j) = b) : DR2 (rOr (rI0 fun i j => .bl (decide (i < j))) rLtS) (.int i) (.int j) (.bl b) := h ▸ lt_int'
theorem lt_tx {l m : List Nat} : DR2 (rOr (rI0 fun i j => .bl (decide (i < j))) rLtS) (.str (tx l)) (.str (tx m)) (.bl (decide (l < m))) := by
  have e := lt_str' (x := tx l) (y := tx m)
  rw [tx_cps, tx_cps] at e
  exact e
theorem eq_ib (h : decide (i = j) = b) : DR2 (rEqX K) (.int i) (.int j) (.bl b) := h ▸ eq_int'
theorem eq_sb (h : decide (x = y) = b) : DR2 (rEqX K) (.str x) (.str y) (.bl b) := h ▸ eq_str'
theorem ne_sb (h : (!decide (x = y)) = b) : DR2 (rNeX K) (.str x) (.str y) (.bl b) := h ▸ ne_str'
end
/-- a and b, both true -/
theorem small {n : Nat} (h : n ≤ 100000) : n ≤ sizeLine := Nat.le_trans h (by decide)
end Dw

/-! Methods of lists with K named: within blocks X.K speaks of the block. -/
namespace Dw
open PySem PySem.Spec PyProof.Rows L2
variable [Tabs0]
variable {X : Cx} {o e : Expr} {es : List Expr} {to : TE} {t : TA} {name : Str} {apos cpos : Pos} {T id : String} {r : V → List V → Hp → VK → Prop}
theorem bmA (K : PySem.W.Frag) (pa : PlainAttrs T) (slot : Slot T name id) (hty : typeOf (.builtin id) = pure (.type "method_descriptor")) (hm : MtR X id r) (ho : PE X o to) (ha : PA X (e :: es) t) (hK : X.K = K := by rfl)
    (hbase : attributeBase o name X.env (eval o X.env) = eval o X.env := by rfl)
    (hfew : ((backTo cpos (starEach (e :: es) X.env)).all (fun x => !x.1) && (backToKw cpos (keywordEach [] X.env)).all (fun x => x.1.isSome)
      && decide ((e :: es).length + ([] : List Keyword).length + (if ([] : List Keyword).isEmpty then 0 else 1) < 30)) = true := by rfl)
    (hline : (apos.endLine == cpos.line) = true := by rfl) (hs : starEach (e :: es) X.env = (false, eval e X.env) :: starEach es X.env := by rfl) (hplain : (backTo cpos (starEach es X.env)).any (·.1) = false := by rfl) :
    PE X (.Call (.Attribute o name apos) (e :: es) [] cpos) (tBM K T r to t) := hK ▸ pe_bm pa slot hty hm ho ha hbase hfew hline hs hplain
end Dw

/-! The script (a list that the head gives), and a purse that is made and at once given on. -/
namespace Dw
open PySem PySem.Spec PyProof.Rows L2
variable [Tabs0]
section
variable {Γ : Gam} {K : PySem.W.Frag} {ta tb : TE} {vs : List V} {d : D} {i : Int}
theorem scr_sq {W : Wd} {v : V} (r : Rep W (.scr K vs) v) : ∃ a, v = .ref a ∧ SqL K W.H a vs := by
  obtain ⟨a, e, q, _⟩ := r
  refine ⟨a, e, ?_⟩
  rcases q with ⟨u, h, n, q⟩ | q
  · rcases q with rfl | ⟨o, rfl⟩
    · exact .inl (.inl h)
    · exact .inl (.inr ⟨o, h⟩)
  · exact .inr q
theorem ev_lenX (h : Ev ta Γ (.scr K vs)) : Ev (tCB (rLen K) (tCons ta tNil)) Γ (.int vs.length) := fun F σ W Q g k => h F σ W _ g fun v H s r => by
  obtain ⟨a, e, q⟩ := scr_sq r
  exact .inl ⟨a, vs, by rw [e], .inl q, k _ H s rfl⟩
theorem ev_ixX {z : Int} (h : Ev ta Γ (.scr K vs)) (hb : Ev tb Γ (.int i)) (hz : atI vs i = some (.int z)) : Ev (tOp (rIx K) ta tb) Γ (.int z) := fun F σ W Q g k => h F σ W _ g fun v H s r => hb F σ (W.at H) _ (g.same s) fun u H' s' r' => by
  obtain ⟨a, e, q⟩ := scr_sq (r.same (W := W.at H) s')
  exact .inl ⟨a, vs, i, .int z, e, r', q, hz, k _ H' (Same.trans s s') rfl⟩
end
end Dw
namespace Dw
open PySem PySem.Spec PyProof.Rows L2
variable [Tabs0]
section
variable {Γ : Gam} {K : PySem.W.Frag} {ta tb te : TE} {ns : List Int} {d : D} {i : Int} {s : Spc} {E : XK}
def intD (ns : List Int) : List D := ns.map D.int
def cutI (ns : List Int) (lo hi : Option Int) : List Int := (ns.drop (HT.sIx ns.length 0 lo)).take (HT.sIx ns.length ns.length hi - HT.sIx ns.length 0 lo)
theorem ev_int1 (h : Ev ta Γ (.int i)) : Ev (tCB (fun xs H Q => (∃ i, xs = [.int i] ∧ Q (.int i) H) ∨ ∃ k, xs = [.bl k] ∧ Q (.int (if k then 1 else 0)) H) (tCons ta tNil)) Γ (.int i) :=
  ev_cb (eva_cons h eva_nil) fun W us Q dom r k => by
    obtain ⟨v, _, rfl, rv, rfl⟩ := r
    exact .inl ⟨i, by rw [show v = V.int i from rv], k _ _ (Same.refl _) rfl⟩
theorem ev_abs (h : Ev ta Γ (.int i)) : Ev (tCB (fun xs H Q => ∃ i, xs = [.int i] ∧ Q (.int (if i < 0 then -i else i)) H) (tCons ta tNil)) Γ (.int (if i < 0 then -i else i)) :=
  ev_cb (eva_cons h eva_nil) fun W us Q dom r k => by
    obtain ⟨v, _, rfl, rv, rfl⟩ := r
    exact ⟨i, by rw [show v = V.int i from rv], k _ _ (Same.refl _) rfl⟩
theorem ev_max2 {j : Int} (h : Ev ta Γ (.int i)) (h' : Ev tb Γ (.int j)) : Ev (tCB (fun xs H Q => ∃ i j, xs = [.int i, .int j] ∧ Q (.int (if j > i then j else i)) H) (tCons ta (tCons tb tNil))) Γ (.int (if j > i then j else i)) :=
  ev_cb (eva_cons h (eva_cons h' eva_nil)) fun W us Q dom r k => by
    obtain ⟨v, _, rfl, rv, v', _, rfl, rv', rfl⟩ := r
    exact ⟨i, j, by rw [show v = V.int i from rv, show v' = V.int j from rv'], k _ _ (Same.refl _) rfl⟩
theorem ev_min2 {j : Int} (h : Ev ta Γ (.int i)) (h' : Ev tb Γ (.int j)) : Ev (tCB (fun xs H Q => ∃ i j, xs = [.int i, .int j] ∧ Q (.int (if j < i then j else i)) H) (tCons ta (tCons tb tNil))) Γ (.int (if j < i then j else i)) :=
  ev_cb (eva_cons h (eva_cons h' eva_nil)) fun W us Q dom r k => by
    obtain ⟨v, _, rfl, rv, v', _, rfl, rv', rfl⟩ := r
    exact ⟨i, j, by rw [show v = V.int i from rv, show v' = V.int j from rv'], k _ _ (Same.refl _) rfl⟩
end
end Dw

/-! sorted(a tuple of ints), xs[::k]. -/
namespace Dw
open PySem PySem.Spec PyProof.Rows L2
section
variable {prog : Program} {w : World} {A : Around} {E : Value → Shared → Prop} {s : Shared}
end
/-! ### xs[::k] -/
/-! ### text * int -/
end Dw

/-! while, xs[::k], sorted of a tuple, equality of nested data. -/
namespace Dw
open PySem PySem.Spec PyProof.Rows L2
variable [Tabs0]
section
variable {K : PySem.W.Frag} {Γ : Gam} {ta tb te tk : TE} {De : DE} {ds es : List D} {d : D}
end
/-! ### nested data: what may be compared -/
mutual
def dOk : Nat → D → Bool
  | _, .non => true | _, .bl _ => true | _, .int _ => true | _, .str x => PyData.strOk x
  | 0, _ => false
  | k + 1, .tup ds => dOks k ds | k + 1, .lst ds => dOks k ds | k + 1, .tupN ds => dOks k ds
  | _ + 1, .obj _ _ _ => false | _ + 1, .raw _ => false | _ + 1, .purse => false | _ + 1, .rng _ _ => false | _ + 1, .dct _ _ => false | _ + 1, .scr _ _ => false | _ + 1, .tag _ => false
def dOks : Nat → List D → Bool
  | _, [] => true
  | k, d :: ds => dOk k d && dOks k ds
end
mutual
theorem dOk_py : ∀ (k : Nat) (d : D), dOk k d = true → isPy d = true ∧ PyData.canLay0 (py d) = true ∧ PyData.depth (py d) ≤ k
  | k, .non, _ => ⟨rfl, rfl, Nat.zero_le _⟩
  | k, .bl _, _ => ⟨rfl, rfl, Nat.zero_le _⟩
  | k, .int _, _ => ⟨rfl, rfl, Nat.zero_le _⟩
  | k, .str x, h => ⟨rfl, by cases k <;> exact h, Nat.zero_le _⟩
  | k + 1, .tup ds, h => by
    obtain ⟨h1, h2, h3⟩ := dOks_py k ds h
    exact ⟨h1, h2, Nat.succ_le_succ h3⟩
  | k + 1, .lst ds, h => by
    obtain ⟨h1, h2, h3⟩ := dOks_py k ds h
    exact ⟨h1, h2, Nat.succ_le_succ h3⟩
  | k + 1, .tupN ds, h => by
    obtain ⟨h1, h2, h3⟩ := dOks_py k ds h
    exact ⟨h1, h2, Nat.succ_le_succ h3⟩
  | 0, .tupN _, h => nomatch h
  | 0, .tup _, h => nomatch h
  | 0, .lst _, h => nomatch h
  | 0, .obj _ _ _, h => nomatch h
  | 0, .raw _, h => nomatch h
  | 0, .purse, h => nomatch h
  | 0, .rng _ _, h => nomatch h
  | 0, .dct _ _, h => nomatch h
  | 0, .scr _ _, h => nomatch h
  | 0, .tag _, h => nomatch h
  | _ + 1, .obj _ _ _, h => nomatch h
  | _ + 1, .raw _, h => nomatch h
  | _ + 1, .purse, h => nomatch h
  | _ + 1, .rng _ _, h => nomatch h
  | _ + 1, .dct _ _, h => nomatch h
  | _ + 1, .scr _ _, h => nomatch h
  | _ + 1, .tag _, h => nomatch h
theorem dOks_py : ∀ (k : Nat) (ds : List D), dOks k ds = true → isPys ds = true ∧ PyData.canLayAll0 (pys ds) = true ∧ PyData.depthAll (pys ds) ≤ k
  | k, [], _ => ⟨rfl, rfl, Nat.zero_le _⟩
  | k, d :: ds, h => by
    have h : (dOk k d && dOks k ds) = true := by cases k <;> exact h
    rw [Bool.and_eq_true] at h
    obtain ⟨a1, a2, a3⟩ := dOk_py k d h.1
    obtain ⟨b1, b2, b3⟩ := dOks_py k ds h.2
    exact ⟨by show (isPy d && isPys ds) = true; rw [a1, b1]; rfl, by show (PyData.canLay0 (py d) && PyData.canLayAll0 (pys ds)) = true; rw [a2, b2]; rfl, Nat.max_le.mpr ⟨a3, b3⟩⟩
end
theorem dOk_shaped {k : Nat} {d : D} (h : dOk k d = true) (hk : k ≤ 64) : isPy d = true ∧ SeqAt.shaped (py d) = true := by
  obtain ⟨h1, h2, h3⟩ := dOk_py k d h
  refine ⟨h1, ?_⟩
  show (PyData.canLay0 (py d) && decide (PyData.depth (py d) ≤ 64)) = true
  rw [h2, decide_eq_true (Nat.le_trans h3 hk)]; rfl
theorem dOks_map {α : Type} {k : Nat} {f : α → D} : ∀ {l : List α}, (∀ x ∈ l, dOk k (f x) = true) → dOks k (l.map f) = true
  | [], _ => by cases k <;> rfl
  | x :: l, h => by
    have e : dOks k ((x :: l).map f) = (dOk k (f x) && dOks k (l.map f)) := by cases k <;> rfl
    rw [e, h x List.mem_cons_self, dOks_map fun y hy => h y (List.mem_cons_of_mem _ hy)]; rfl
section
variable {K : PySem.W.Frag} {d : D} {ds es : List D} {k : Nat}
theorem eqv_nil : ∀ ds : List D, PyData.eqvAll (pys ds) (pys []) = ds.isEmpty
  | [] => rfl
  | _ :: _ => rfl
theorem eq_nil (h : dOk k (.lst ds) = true) (hk : k ≤ 64) : DR2 (rEqX K) (.lst ds) (.lst []) (.bl ds.isEmpty) := by
  obtain ⟨h1, h2⟩ := dOk_shaped h hk
  have := eq_deep (K := K) (q := .lst []) h1 rfl h2 rfl
  rw [show PyData.eqv (py (.lst ds)) (py (.lst [])) = PyData.eqvAll (pys ds) (pys []) from rfl, eqv_nil] at this
  exact this
theorem ne_nil (h : dOk k (.lst ds) = true) (hk : k ≤ 64) : DR2 (rNeX K) (.lst ds) (.lst []) (.bl (!ds.isEmpty)) := by
  obtain ⟨h1, h2⟩ := dOk_shaped h hk
  have := ne_deep (K := K) (q := .lst []) h1 rfl h2 rfl
  rw [show PyData.eqv (py (.lst ds)) (py (.lst [])) = PyData.eqvAll (pys ds) (pys []) from rfl, eqv_nil] at this
  exact this
end
section
variable {K : PySem.W.Frag} {Γ : Gam} {ta tb : TE}
theorem ev_neg {i : Int} (h : Ev ta Γ (.int i)) : Ev (tUn (rU fun i => .int (-i)) ta) Γ (.int (-i)) := ev_un h fun W u Q dom r k => ⟨i, r, k _ _ (Same.refl _) rfl⟩
/-- whole numbers in a list -/
def ordN (o : List Nat) : List D := o.map fun (k : Nat) => D.int k
end
end Dw

/-! sorted(set(t)), t a tuple of ints. -/
namespace Dw
open PySem PySem.Spec PyProof.Rows L2
variable [Tabs0]
section
variable {K : PySem.W.Frag} {w : World} {Γ : Gam} {ta : TE}
end
section
variable {K : PySem.W.Frag} {Γ : Gam} {ta : TE} {xs : List D}
end
end Dw

/-! repr of data: it asks that no other repr is under way (guards), so the defs that call it have a promise of their own. -/
namespace Dw
open PySem PySem.Spec PyProof.Rows L2
variable [Tabs0]
/-- as FnOk, but only where no repr is under way -/
def FnG (P : Program) (w : World) (K : PySem.W.Frag) (mg : Str → Option Value) (base : Heap) (k : Nat) (f : Addr) (fd : FuncData) (ps : List Str) (s : Spc) : Prop :=
  (∀ x, (s.args x).length = ps.length) ∧ ∀ (A : Around) (outer : List Env) (sh : Shared) (H : Hp) (args : Args) (us : List Value) (vs : List V) (Q : VK) (E : XK), Room k A → A.guards = some [] → Env0 P w K mg base A outer sh H → BindsTo sh fd args (ps.zip us) → Vals vs us → toSp s vs H Q E → codeAny (model P w) A (.call (.ref f) args) (CR CX0 outer P w H sh Q E) sh
section
variable {P : Program} {w : World} {K : PySem.W.Frag} {mg : Str → Option Value} {base : Heap}
theorem cells_in {N ps : List Str} {sc : Scope} {n : Nat} (S : FnScope N ps sc) (us : List Value) : ∀ y ∈ ps.zip us, sc.names.lookup y.1 = some .local ∨ (sc.names.lookup y.1 = some .cell ∧ ((cellsFrom n sc.names []).lookup y.1).isSome = true) := by
  rintro ⟨a, b⟩ hy
  exact (S.par a (List.of_mem_zip hy).1).imp id fun q => ⟨q, PySem.W.cellsFrom_some _ _ _ (.inl q)⟩
theorem fnG_ok {x qual : Str} {st : Stmt} {f : Addr} {fd : FuncData} {N ps : List Str} {k : Nat} {s : Spc} (F : Fun K x qual st f fd) (S : FnScope N ps (defScope st)) (len : ∀ x, (s.args x).length = ps.length)
    (hbody : ∀ (cdv : Value) (A : Around) (outer : List Env) (s' : Shared) (H : Hp) (E : XK), Room k (A.deeper (envOfC qual (defScope st) s'.heap.objs.size f cdv)) → (A.deeper (envOfC qual (defScope st) s'.heap.objs.size f cdv)).guards = some [] →
      ∃ t, PSs (cxOf CX0 P w K mg base N qual (defScope st) f cdv A outer s' H E).nox (defBody st) t ∧ ∀ x, s.ok x → Ds t (Gz0 N.length (s.args x)) ⟨fun _ => s.rel x .non, s.rel x, fun _ => False, fun _ => False⟩) : FnG P w K mg base (k + 1) f fd ps s := by
  obtain ⟨oc, od, kV, doc, pm, an, cdv, ct, osl, rfl, lk, hcd⟩ := F.ex
  refine ⟨len, fun A outer sh H args us vs Q E hr hg e0 hb r hsp => ?_⟩
  obtain ⟨t, p, hd⟩ := hbody cdv A outer sh H E (hr.deeper _) hg
  have old : ∀ b o, base.get? b = some o → sh.heap.get? b = some o := fun b o e => (e0.bs b o e).1
  have KX := e0.mod.kin.keeps old
  refine codeAny_call_function hr.depth (KX _ _ lk) rfl S.co S.gen rfl (PySem.W.codeRec_of KX hcd) (hb _ _ _ _ (wpAny_newFunctionEnv_cells S.kind (cells_in S us) ?_))
  rintro env rfl s1 x1
  refine ⟨(e0.mod.nolimit.keeps old).keeps x1.toInCall.keep, codeAny_func (wpAny_mono (p.nox.run [] s1 _ H _ (inv_start S hr.hd e0 (spc_len len _ _ _ _ hsp) r x1) (body_of hsp hd)) (fun fl s' hs => ?_) fun _ _ z => z)⟩
  have done : ∀ {σ' : L2.St} {H' : Hp} {v : V} {u : Value}, Inv (cxOf CX0 P w K mg base N qual (defScope st) f cdv A outer sh H E) [] σ' H' s' → RelV v u → Q v H' → CE outer P w H sh Q u s' := fun {_ H' v _} J rv q => ⟨v, H', J.os, J.bare, J.base, J.hok, rv, q⟩
  match fl, hs with
  | .ret _, ⟨_, _, _, J, rv, q⟩ => exact done J rv q
  | .next, ⟨_, _, J, q⟩ => exact done (v := .non) (u := .none) J rfl q
  | .brk, ⟨_, _, _, q⟩ => exact q.elim
  | .cont, ⟨_, _, _, q⟩ => exact q.elim
section
variable {X : Cx} {k : Nat} {f : Addr} {fd : FuncData} {ps : List Str} {s : Spc} {E : XK} {x : Str} {p pos : Pos} {e : Expr} {es : List Expr} {t : TA}
theorem pe_callG (F : FnG X.prog X.w X.K X.mg X.base k f fd ps s) (hr : Room k X.A) (hG : X.A.guards = some []) (hg : Gl X x) (hm : X.mg x = some (.ref f)) (hk : PySem.W.keepIn X.K (.ref f) = true) (hb : Binds X.K fd ps []) (ha : PA X (e :: es) t)
    (hdb : (x == ("__debug__" : Str)) = false := by decide) (he : starEach (e :: es) X.env = (false, eval e X.env) :: starEach es X.env := by rfl) (hpl : (backTo pos (starEach es X.env)).any (·.1) = false := by rfl) : PE X (.Call (.Name x p) (e :: es) [] pos) (tCall (toSp s) [] E t) := by
  refine ⟨fun pins s1 σ H Q I h => wpAny_Call_Name_kw (ld_glob I hg hm (PySem.W.callWith_K (h₀ := X.base) I.ok.mod.kin hk (thn (ha.run pos pins s1 σ H _ I h) fun us s2 ⟨vs, H1, I1, r, q⟩ => ⟨I1.kIn, ?_⟩) he hpl) hdb)⟩
  have q : toSp s vs H1 Q E := by rw [← List.append_nil vs]; exact q
  have hb := hb s2 us I1.kIn (by rw [List.append_nil, ← r.length]; exact spc_len F.1 _ _ _ _ q)
  rw [List.append_nil] at hb
  refine wpAny_call (codeAny_mono (F.2 X.A X.stack s2 H1 ⟨us, []⟩ us vs Q E hr hG I1.env0 hb r q) fun res s3 hq => ?_)
  match res, hq with
  | .error _, hq => exact (show False from hq).elim
  | .ok (.ret _), hq => exact I1.after hq
  | .ok .next, hq => exact (show False from hq).elim
  | .ok .brk, hq => exact (show False from hq).elim
  | .ok .cont, hq => exact (show False from hq).elim
end
end
/-! ### repr -/
mutual
/-- what can be shown -/
def shOk : D → Bool
  | .non => true | .bl _ => true | .int i => PyData.showable (.int i) | .str x => PyData.showable (.str x)
  | .tup ds => shOks ds | .lst ds => shOks ds | .tupN ds => shOks ds | _ => false
def shOks : List D → Bool
  | [] => true
  | d :: ds => shOk d && shOks ds
end
mutual
theorem shOk_py : ∀ d : D, shOk d = true → PyData.showable (py d) = true ∧ PyData.hasDict (py d) = false
  | .non, _ => ⟨rfl, rfl⟩
  | .bl _, _ => ⟨rfl, rfl⟩
  | .int _, h => ⟨h, rfl⟩
  | .str _, h => ⟨h, rfl⟩
  | .tup ds, h => shOks_py ds h
  | .lst ds, h => shOks_py ds h
  | .tupN ds, h => shOks_py ds h
  | .obj _ _ _, h => nomatch h
  | .raw _, h => nomatch h
  | .purse, h => nomatch h
  | .rng _ _, h => nomatch h
  | .dct _ _, h => nomatch h
  | .scr _ _, h => nomatch h
  | .tag _, h => nomatch h
theorem shOks_py : ∀ ds : List D, shOks ds = true → PyData.showableAll (pys ds) = true ∧ PyData.hasDictAll (pys ds) = false
  | [], _ => ⟨rfl, rfl⟩
  | d :: ds, h => by
    have h : (shOk d && shOks ds) = true := h
    rw [Bool.and_eq_true] at h
    obtain ⟨a1, a2⟩ := shOk_py d h.1
    obtain ⟨b1, b2⟩ := shOks_py ds h.2
    exact ⟨by show (PyData.showable (py d) && PyData.showableAll (pys ds)) = true; rw [a1, b1]; rfl, by show (PyData.hasDict (py d) || PyData.hasDictAll (pys ds)) = false; rw [a2, b2]; rfl⟩
end
section
variable {K : PySem.W.Frag} {Γ : Gam} {ta : TE} {ds : List D} {k : Nat}
end
/-! ### the head, where the law's def has such a promise -/
section
variable {P : Program} {w : World} {K : PySem.W.Frag} {mg mb : Str → Option Value} {k : Nat} {fa a : Addr} {fd : FuncData} {x : Str} {s1 : Shared} {vs : List Value} {ns : List Int} {sp : Spc}
/-- what is tracked at the head: the script, unless the module has it -/
def headH (K : PySem.W.Frag) (a : Addr) (vs : List Value) (ns : List Int) : Hp := fun b => if b = a ∧ K.lookup a = none then some (.frz { cls := .type "list", data := .seq vs.toArray } (.lst (ns.map V.int))) else none
theorem headH_none {b : Addr} (h : b ≠ a) : headH K a vs ns b = none := if_neg fun z => h z.1
end
end Dw

/-! Bits, sums, xs[k] = v, x |= y, reversed(range(n)). -/
namespace Dw
open PySem PySem.Spec PyProof.Rows L2
variable [Tabs0]
section
variable {K : PySem.W.Frag} {Γ : Gam} {ta tb te tk : TE} {De : DE} {ds : List D} {d : D}
end
end Dw

/-! for i, c in enumerate(a text). -/
namespace Dw
open PySem PySem.Spec PyProof.Rows L2
variable [Tabs0]
section
variable {K : PySem.W.Frag} {Γ : Gam} {ta : TE}
end
end Dw

/-! *xs in a display, o.m(..). -/
namespace Dw
open PySem PySem.Spec PyProof.Rows L2
variable [Tabs0]
section
variable {K : PySem.W.Frag} {Γ : Gam} {ta te : TE} {t : TA} {ds es : List D} {d : D} {C : Addr} {s : Spc} {E : XK}
end
end Dw

/-! a, b, c = x, y, z. -/
namespace Dw
open PySem PySem.Spec PyProof.Rows L2
variable [Tabs0]
end Dw

/-! enumerate of a list that draws go on beside, not, sign * n. -/
namespace Dw
open PySem PySem.Spec PyProof.Rows L2
variable [Tabs0]
section
variable {K : PySem.W.Frag} {Γ : Gam} {ta t : TE}
/-! equality of lists of whole numbers, deep -/
theorem eqv_ints : ∀ a b : List Nat, PyData.eqvAll (pys (ordN a)) (pys (ordN b)) = decide (a = b)
  | [], [] => rfl
  | [], y :: ys => by
    show false = _
    simp
  | x :: xs, [] => by
    show false = _
    simp
  | x :: xs, y :: ys => by
    show ((((x : Nat) : Int) == ((y : Nat) : Int)) && PyData.eqvAll (pys (ordN xs)) (pys (ordN ys))) = _
    rw [eqv_ints xs ys, Bool.eq_iff_iff]
    simp
    intro _
    omega
end
end Dw

/-! first, *rest = a tuple; t[::-1]; t[a:b] of any bounds; x in a dict of the module; the head with the bits of the script. -/
namespace Dw
open PySem PySem.Spec PyProof.Rows L2
variable [Tabs0]
/-! ### first, *rest = t -/
section
variable {K : PySem.W.Frag} {Γ : Gam}
end
/-! ### t[a:b] -/
abbrev rSlX (K : PySem.W.Frag) : V → Option Int → Option Int → Hp → VK → Prop := fun x lo hi H Q => rSlL K x lo hi H Q ∨ rSlA K x lo hi H Q
theorem slXA {X : Cx} (K : PySem.W.Frag) (hK : X.K = K := by rfl) : SlR X (rSlX K) := hK ▸ sl_list.or sl_tupA
section
variable {K : PySem.W.Frag} {Γ : Gam} {te : TE} {ds : List D}
theorem evn_sliceY {tl th : TO} {lo hi : Option Int} (h : EvB te Γ ds) (h1 : Eo tl Γ lo) (h2 : Eo th Γ hi) : EvN (tSl (rSlX K) te tl th) Γ (cutD ds lo hi) := fun F σ W Q g k => h F σ W _ g fun a vs H s e l => h1 F σ (W.at H) _ (g.same s) fun H1 s1 => h2 F σ ((W.at H).at H1) _ ((g.same s).same s1) fun H2 s2 => by
  have sm : Same H H2 := Same.trans s1 s2
  exact .inl ⟨a, vs, rfl, .of (sm _ _ e), fun p hp => k p _ _ (Same.trans s (Same.trans sm (same_upd hp))) (s.free (sm.free hp)) upd_same (RepL.plus (W := W.at H2) hp (same_upd hp) (repL_cut (RepL.same (W := W.at H) sm l)))⟩
theorem cut_whole {α : Type} (xs : List α) (n : Nat) (lo hi : Option Int) (hn : n = xs.length) (h : HT.sIx n 0 lo = 0 ∧ HT.sIx n n hi = n) : (xs.drop (HT.sIx n 0 lo)).take (HT.sIx n n hi - HT.sIx n 0 lo) = xs := by
  rw [h.1, h.2, List.drop_zero, Nat.sub_zero, hn, List.take_length]
theorem ev_sliceTY {tl th : TO} {lo hi : Option Int} (h : Ev te Γ (.tup ds)) (h1 : Eo tl Γ lo) (h2 : Eo th Γ hi) : Ev (tSl (rSlX K) te tl th) Γ (.tup (cutD ds lo hi)) := fun F σ W Q g k => h F σ W _ g fun v H s ⟨a, vs, ev, e, nu, l⟩ => h1 F σ (W.at H) _ (g.same s) fun H1 s1 => h2 F σ ((W.at H).at H1) _ ((g.same s).same s1) fun H2 s2 => by
  have sm : Same H H2 := Same.trans s1 s2
  subst ev
  refine .inr ⟨a, vs, rfl, (e.same sm).sq, fun hw => ?_, fun hw p hp => k _ _ (Same.trans s (Same.trans sm (same_upd hp))) (rep_new_tup (W := W.at H2) (((g.same s).same s1).same s2).ok.dom hp (repL_cut (RepL.same (W := W.at H) sm l)))⟩
  have e1 : cutD ds lo hi = ds := cut_whole ds ds.length lo hi rfl (by rw [l.length]; exact hw)
  rw [e1] at k
  exact k _ H2 (Same.trans s sm) ⟨a, vs, rfl, e.same sm, nu, RepL.same (W := W.at H) sm l⟩
end
/-! ### x in a written dict -/
section
variable {K : PySem.W.Frag} {w : World} {Γ : Gam} {ta tb : TE} {x : Str}
end
/-! ### the head, with the script's bits -/
end Dw

/-! xs[::-1] of lists and tuples, *xs in a list, written dicts as values. -/
namespace Dw
open PySem PySem.Spec PyProof.Rows L2 HT
variable [Tabs0]
section
variable {prog : Program} {w : World} {A : Around} {E : Value → Shared → Prop} {s : Shared}
end
section
variable {K : PySem.W.Frag} {Γ : Gam} {ta tk te : TE} {ds es : List D} {t : TA}
/-! ### {}, {'a': 1} -/
theorem ev_dnew : Ev tDNewK Γ (.dct [] []) := fun F σ W Q g k => fun p hp => k _ _ (same_upd hp) ⟨p, [], rfl, upd_same, fun u => g.ok.dom p u hp, rfl, rfl⟩
end
end Dw

/-! t != (), a, b, c = [], x, y, tuple(xs) with draws, cuts of the script. -/
namespace Dw
open PySem PySem.Spec PyProof.Rows L2 HT
variable [Tabs0]
section
variable {K : PySem.W.Frag} {Γ : Gam} {ta te : TE}
theorem dl_tuple {Q : D → Gam → Prop} (h : Dl ta Γ fun d Γ1 => ∃ ds, d = .lst ds ∧ Q (.tup ds) Γ1) : Dl (tCB (rTupleOf K) (tCons ta tNil)) Γ Q := fun F σ W R g k => h F σ W _ g fun v W1 d Γ1 st g1 r ⟨ds, e, q⟩ => by
  subst e
  obtain ⟨p, vs, rfl, e, nu, l⟩ := r
  exact ⟨p, vs, rfl, .inl ⟨.of e, fun n hn => k _ (W1.at _) (.tup ds) Γ1 (st.trans (Stp.of_same g1.ok (same_upd hn))) (g1.same (same_upd hn)) (rep_new_tup g1.ok.dom hn l) q⟩⟩
theorem evn_sliceXY {tl th : TO} {ns : List Int} {lo hi : Option Int} (h : Ev te Γ (.scr K (ns.map V.int))) (h1 : Eo tl Γ lo) (h2 : Eo th Γ hi) : EvN (tSl (rSlX K) te tl th) Γ (intD (cutI ns lo hi)) := fun F σ W Q g k => h F σ W _ g fun v H s r => h1 F σ (W.at H) _ (g.same s) fun H1 s1 => h2 F σ ((W.at H).at H1) _ ((g.same s).same s1) fun H2 s2 => by
  have sm : Same H H2 := Same.trans s1 s2
  obtain ⟨a, e, q⟩ := scr_sq (r.same (W := W.at H) sm)
  refine .inl ⟨a, _, e, q, fun p hp => k p _ _ (Same.trans s (Same.trans sm (same_upd hp))) (s.free (sm.free hp)) upd_same (RepL.ints.mpr ?_)⟩
  unfold cutI L2.cutV
  simp [List.map_take, List.map_drop]
end
theorem cut_take (ds : List D) (j : Nat) : Dw.cutD ds none (some (j : Int)) = ds.take j := by
  unfold Dw.cutD
  rw [sIx_none, sIx_nat, List.drop_zero, Nat.sub_zero]
  by_cases h : j ≤ ds.length
  · rw [Nat.min_eq_left h]
  · rw [Nat.min_eq_right (by omega), List.take_length, List.take_of_length_le (by omega)]
theorem cut_drop (ds : List D) (j : Nat) : Dw.cutD ds (some (j : Int)) none = ds.drop j := by
  unfold Dw.cutD
  rw [sIx_none, sIx_nat]
  by_cases h : j ≤ ds.length
  · rw [Nat.min_eq_left h, List.take_of_length_le (by rw [List.length_drop]; exact Nat.le_refl _)]
  · rw [Nat.min_eq_right (by omega), Nat.sub_self, List.take_zero, List.drop_eq_nil_of_le (by omega)]
end Dw

/-! tuple(range(n)), x not in a list of signs. -/
namespace Dw
open PySem PySem.Spec PyProof.Rows L2
variable [Tabs0]
section
variable {K : PySem.W.Frag} {Γ : Gam} {ta : TE}
end
end Dw

/-! cuts of texts, x is not False, t == (). -/
namespace Dw
open PySem PySem.Spec PyProof.Rows L2 HT
variable [Tabs0]
section
variable {K : PySem.W.Frag} {Γ : Gam} {ta te : TE} {x : Str}
theorem ev_sliceS {tl th : TO} {lo hi : Option Int} (h : Ev te Γ (.str x)) (hz : x.length ≤ sizeLine) (h1 : Eo tl Γ lo) (h2 : Eo th Γ hi) : Ev (tSl rSlS te tl th) Γ (.str (cutS x lo hi)) := fun F σ W Q g k => h F σ W _ g fun v H s r => h1 F σ (W.at H) _ (g.same s) fun H1 s1 => h2 F σ ((W.at H).at H1) _ ((g.same s).same s1) fun H2 s2 =>
  ⟨x, r, hz, k _ H2 (Same.trans s (Same.trans s1 s2)) rfl⟩
theorem cutS_take (l : List Nat) (j : Nat) : cutS (tx l) none (some (j : Int)) = tx (l.take j) := by
  unfold cutS
  rw [sIx_none, sIx_nat, List.drop_zero, Nat.sub_zero, tx_cps, tx_len]
  by_cases h : j ≤ l.length
  · rw [Nat.min_eq_left h]; rfl
  · rw [Nat.min_eq_right (by omega), List.take_length, List.take_of_length_le (by omega)]; rfl
theorem cutS_drop (l : List Nat) (j : Nat) : cutS (tx l) (some (j : Int)) none = tx (l.drop j) := by
  unfold cutS
  rw [sIx_none, sIx_nat, tx_cps, tx_len]
  by_cases h : j ≤ l.length
  · rw [Nat.min_eq_left h, List.take_of_length_le (by rw [List.length_drop]; exact Nat.le_refl _)]; rfl
  · rw [Nat.min_eq_right (by omega), Nat.sub_self, List.take_zero, List.drop_eq_nil_of_le (by omega)]; rfl
end
end Dw

/-! xs != [] of any list. -/
namespace Dw
open PySem PySem.Spec PyProof.Rows L2 HT
variable [Tabs0]
abbrev rNeL0 (K : PySem.W.Frag) : R2 := fun x y H Q => ∃ a b xs, x = .ref a ∧ y = .ref b ∧ SqL K H a xs ∧ SqL K H b [] ∧ Q (.bl (!xs.isEmpty)) H
theorem op_neL0 {X : Cx} (hu : X.A.units + 64 < cLine) : OpR X (compareOp .NotEq) (rNeL0 X.K) := by
  intro pins s σ H x y v u Q I rx ry h
  obtain ⟨a, b, xs, rfl, rfl, ha, hb, q⟩ := h
  cases rx
  cases ry
  obtain ⟨its, r1, p1, _⟩ := I.list ha
  obtain ⟨its2, r2, p2, _⟩ := I.list hb
  cases r2
  cases xs with
  | nil =>
    cases r1
    refine PySem.EqBoolInt.of_rcne (SeqAt.RcNeAt.lists (e := fun _ => true) p1.isList p2.isList rfl (by omega) (fun j h1 h2 => absurd h2 (by simp))) ?_
    exact ⟨.bl _, H, I, rfl, q⟩
  | cons x xs =>
    cases r1
    refine PySem.EqBoolInt.of_rcne (SeqAt.RcNeAt.lists_lengths p1.isList p2.isList (by simp) (by omega)) ?_
    exact ⟨.bl _, H, I, rfl, q⟩
theorem neL0A {X : Cx} (K : PySem.W.Frag) (hu : X.A.units + 64 < cLine) (hK : X.K = K := by rfl) : OpR X (compareOp .NotEq) (rNeL0 K) := hK ▸ op_neL0 hu
theorem ne_L0 {K : PySem.W.Frag} {ds : List D} : DR2 (rNeL0 K) (.lst ds) (.lst []) (.bl (!ds.isEmpty)) := dr2_flat fun W u v Q ⟨a, vs, eu, e, nu, l⟩ ⟨b, ws, ev, e2, nu2, l2⟩ k => ⟨a, b, vs, eu, ev, .of e, by rw [show ws = [] from l2] at e2; exact .of e2, k _ (by
  have := l.length
  cases ds <;> cases vs <;> first | rfl | (simp at this))⟩
end Dw

/-! a, b = a list; {i: x, j: y}.get(k, z). -/
namespace Dw
open PySem PySem.Spec PyProof.Rows L2 HT
variable [Tabs0]
section
variable {Γ : Gam} {td ty : TE}
end
end Dw

/-! [b for a in xs for b in a]; a value not in a list; repr of a tuple. -/
namespace Dw
open PySem PySem.Spec PyProof.Rows L2 HT
variable [Tabs0]
theorem repL_ord {W : Wd} : ∀ {o : List Nat} {vs : List V}, RepL W (o.map fun k : Nat => D.int k) vs → vs = o.map fun k : Nat => V.int k
  | [], vs, h => h
  | a :: o, vs, h => by
    obtain ⟨v, r, rfl, rv, rr⟩ := h
    rw [show v = V.int a from rv, repL_ord rr]; rfl
theorem ord_repL {W : Wd} : ∀ (o : List Nat), RepL W (o.map fun k : Nat => D.int k) (o.map fun k : Nat => V.int k)
  | [] => rfl
  | a :: o => ⟨_, _, rfl, rfl, ord_repL o⟩
/-! a tuple of whole numbers, not in a list of such -/
end Dw

/-! dicts whose keys are tuples of whole numbers, made and walked by one def. -/
namespace Dw
open PySem PySem.Spec PyProof.Rows L2 HT
variable [Tabs0]
/-! worlds without a frame and without a purse: U holds the dicts -/
def PW (H : Hp) (U : Addr → Prop) : Wd := ⟨H, U, fun _ => False⟩
def NO (Γ : Gam) : Prop := ∀ (i : Nat) (ds : Ow), Γ[i]? ≠ some (.ownX ds)
theorem NO.set {Γ : Gam} (h : NO Γ) (i : Nat) (d : D) : NO (Γ.set i (.val d)) := fun j ds e => by
  by_cases hij : i = j
  · subst hij
    by_cases hl : i < Γ.length
    · rw [List.getElem?_set_self hl] at e; cases e
    · rw [List.getElem?_eq_none (by rw [List.length_set]; omega)] at e; cases e
  · rw [List.getElem?_set_ne hij] at e; exact h j ds e
/-! for over a range; for over a dict with tuple keys -/
end Dw

/-! How long a repr may be. -/
namespace Dw
open PySem PySem.Spec PyProof.Rows L2 HT
variable [Tabs0]
/-! ### the length of a repr -/
mutual
def shB : D → Nat
  | .int i => (PyData.shown (.int i)).length | .str x => 10 * x.length + 2
  | .tup ds => shBs ds + 4 | .lst ds => shBs ds + 4 | .tupN ds => shBs ds + 4
  | _ => 5
def shBs : List D → Nat
  | [] => 0
  | d :: ds => shB d + 2 + shBs ds
end
theorem listText_le (ts : List Str) : (listText ts).length ≤ piled ts + 4 := by
  cases ts with
  | nil => decide
  | cons t r =>
    have h := textFrom_length_pos r 1 (("[" : Str) ++ (if (0 : Nat) > 0 then ", " else "" : String) ++ t) (Nat.succ_pos 0)
    have e : ((("[" : Str) ++ (if (0 : Nat) > 0 then ", " else "" : String) ++ t)).length = 1 + t.length := by
      rw [strLen_append, strLen_append]; rfl
    have hX : (listText (t :: r)).length = (textFrom 1 (("[" : Str) ++ (if (0 : Nat) > 0 then ", " else "" : String) ++ t) r).length + 1 := by
      unfold listText
      rw [strLen_append]; rfl
    rw [hX, h, e, piled_cons]
    omega
theorem tupleText_le (ts : List Str) : (tupleText ts).length ≤ piled ts + 4 := by
  unfold tupleText
  rw [strLen_append, strLen_append]
  have e1 : ((("(" : String) : Str)).length = 1 := rfl
  have e3 : (((if ts.length == 1 then ",)" else ")" : String) : Str)).length ≤ 2 := by split <;> decide
  rw [e1]
  by_cases h : ts = []
  · subst h
    have : (Str.join ", " []).length = 0 := rfl
    omega
  · have := join_length_add ts h
    omega
mutual
theorem shB_le : ∀ (k : Nat) (d : D), dOk k d = true → (PyData.shown (py d)).length ≤ shB d
  | _, .non, _ => by show (("None" : String) : Str).length ≤ 5; decide
  | _, .bl b, _ => by cases b <;> (show (PyData.shown (.bool _)).length ≤ 5) <;> decide
  | _, .int i, _ => Nat.le_refl _
  | k, .str x, h => by
    have e : dOk k (.str x) = PyData.strOk x := by cases k <;> rfl
    rw [e] at h
    have a' : x.cps.all (fun c => decide (c < 1114112)) = true := h
    rw [← Array.all_toList, List.all_eq_true] at a'
    exact PySem.StrLaws.reprText_len x fun c hc => Nat.lt_of_lt_of_le (of_decide_eq_true (a' c hc)) (by decide)
  | k + 1, .tup ds, h => by
    have ih := shBs_le k ds h
    show (tupleText (PyData.shownAll (pys ds))).length ≤ shBs ds + 4
    have := tupleText_le (PyData.shownAll (pys ds))
    omega
  | k + 1, .lst ds, h => by
    have ih := shBs_le k ds h
    show (listText (PyData.shownAll (pys ds))).length ≤ shBs ds + 4
    have := listText_le (PyData.shownAll (pys ds))
    omega
  | k + 1, .tupN ds, h => by
    have ih := shBs_le k ds h
    show (tupleText (PyData.shownAll (pys ds))).length ≤ shBs ds + 4
    have := tupleText_le (PyData.shownAll (pys ds))
    omega
  | 0, .tup _, h => nomatch h
  | 0, .lst _, h => nomatch h
  | 0, .tupN _, h => nomatch h
  | k, .obj _ _ _, h => by cases k <;> exact nomatch h
  | k, .raw _, h => by cases k <;> exact nomatch h
  | k, .purse, h => by cases k <;> exact nomatch h
  | k, .rng _ _, h => by cases k <;> exact nomatch h
  | k, .dct _ _, h => by cases k <;> exact nomatch h
  | k, .scr _ _, h => by cases k <;> exact nomatch h
  | k, .tag _, h => by cases k <;> exact nomatch h
theorem shBs_le : ∀ (k : Nat) (ds : List D), dOks k ds = true → piled (PyData.shownAll (pys ds)) ≤ shBs ds
  | _, [], _ => Nat.zero_le _
  | k, d :: ds, h => by
    have e : dOks k (d :: ds) = (dOk k d && dOks k ds) := by cases k <;> rfl
    rw [e, Bool.and_eq_true] at h
    have h1 := shB_le k d h.1
    have h2 := shBs_le k ds h.2
    show piled (PyData.shown (py d) :: PyData.shownAll (pys ds)) ≤ shB d + 2 + shBs ds
    rw [piled_cons]
    omega
end
end Dw
namespace Dw
open PySem PySem.Spec PyProof.Rows L2 HT
variable [Tabs0]
end Dw

/-! Tuples that are known to have no dict of their own: displays, sums, tuple(xs); t.index(x). -/
namespace Dw
open PySem PySem.Spec PyProof.Rows L2 HT
variable [Tabs0]
theorem Rep.dn {W : Wd} {ds : List D} {v : V} (h : Rep W (.tupN ds) v) : Rep W (.tup ds) v := let ⟨a, vs, e, h, r⟩ := h; ⟨a, vs, e, h.at, r⟩
theorem ev_dn {t : TE} {Γ : Gam} {ds : List D} (h : Ev t Γ (.tupN ds)) : Ev t Γ (.tup ds) := fun F σ W Q g k => h F σ W Q g fun v H s r => k v H s r.dn
theorem Dl.weak {t : TE} {Γ : Gam} {Q : D → Gam → Prop} (h : Dl t Γ fun d Γ1 => Q (weakD d) Γ1) : Dl t Γ Q := fun F σ W R g k => h F σ W R g fun v W' d Γ' s r' l q => k v W' (weakD d) Γ' s r' (Rep.weak d v l) q
theorem rep_new_tupN {W : Wd} {p : Addr} {ds : List D} {vs : List V} {ob : Obj} (dom : ∀ a, W.U a → W.H a ≠ none) (h : W.H p = none) (c : ob.cls = .type "tuple") (d : ob.dict = none) (l : RepL W ds vs) : Rep (W.at (upd W.H p (.frz ob (.tup vs)))) (.tupN ds) (.ref p) :=
  ⟨p, vs, rfl, ⟨ob, upd_same, c, d⟩, fun u => dom p u h, l.same (same_upd h)⟩
/-- a new tuple: its cell is known -/
abbrev NewT (H : Hp) (xs : List V) (Q : VK) : Prop := ∀ (p : Addr) (ob : Obj), ob.cls = .type "tuple" → ob.dict = none → H p = none → Q (.ref p) (upd H p (.frz ob (.tup xs)))
section
variable {X : Cx} {pins : List (Addr × Obj)} {σ : L2.St} {H : Hp} {s : Shared}
theorem new_tup {xs : List V} {us : List Value} {Q : VK} (I : Inv X pins σ H s) (r : Vals xs us) (z : xs.length ≤ sizeLine) (q : NewT H xs Q) : EP X pins σ Q (.ref s.heap.objs.size) { s with heap := s.heap.push { cls := .type "tuple", data := .seq us.toArray } } := by
  have st : (s.heap.push { cls := .type "tuple", data := .seq us.toArray }).get? s.heap.objs.size = some { cls := .type "tuple", data := .seq us.toArray } := Heap.get?_push_size _ rfl
  have J := I.laid (t' := s.toks) (o := .frz { cls := .type "tuple", data := .seq us.toArray } (.tup xs)) (fun b u e => Heap.get?_push_of_some _ e) (Nat.le_refl _) ⟨st, z, us, r, _, st, rfl, _, rfl⟩
  exact ⟨.ref s.heap.objs.size, _, J, rfl, q _ _ rfl rfl (I.hok.fresh (Nat.le_refl _))⟩
end
/-! ### (x, y) -/
def tTupF (t : TA) : TE := fun σ H Q => t σ H fun xs H1 => xs.length ≤ sizeLine ∧ NewT H1 xs Q
theorem pe_tupF {X : Cx} {es : List Expr} {t : TA} {pos : Pos} {x1} (h : PA X es t) : PE X (.Tuple es x1 pos) (tTupF t) :=
  ⟨fun pins s σ H Q I q0 => wpAny_Tuple_spliced (thn (h.run pos pins s σ H _ I q0) fun us s1 ⟨xs, H1, I1, r, z, q⟩ => ⟨r.length ▸ z, new_tup I1 r z q⟩)⟩
section
variable {Γ : Gam} {t : TA} {ds : List D}
theorem ev_tupN (h : EvA t Γ ds) (hz : ds.length ≤ sizeLine) : Ev (tTupF t) Γ (.tupN ds) := fun F σ W Q g k => h F σ W _ g fun vs H s l => ⟨by rw [← l.length]; exact hz, fun p ob c d hp =>
  k _ _ (Same.trans s (same_upd hp)) (rep_new_tupN (W := W.at H) (g.same s).ok.dom hp c d l)⟩
theorem ev_tupF (h : EvA t Γ ds) (hz : ds.length ≤ sizeLine) : Ev (tTupF t) Γ (.tup ds) := ev_dn (ev_tupN h hz)
end
/-! ### t + (x,) -/
abbrev rCatTF (K : PySem.W.Frag) : R2 := fun x y H Q => ∃ a b xs ys, x = .ref a ∧ y = .ref b ∧ SqT K H a xs ∧ SqT K H b ys ∧ xs ≠ [] ∧ ys ≠ [] ∧ xs.length + ys.length ≤ sizeLine ∧ NewT H (xs ++ ys) Q
theorem op_catTF {X : Cx} : OpR X (binaryOp .Add) (rCatTF X.K) := by
  intro pins s σ H x y v u Q I rx ry ⟨a, b, xs, ys, ex, ey, ha, hb, hx, hy, hz, q⟩
  subst ex; subst ey
  cases rx; cases ry
  obtain ⟨i1, r1, p1, _⟩ := I.tuple ha
  obtain ⟨i2, r2, p2, _⟩ := I.tuple hb
  have n1 : i1 ≠ [] := fun z => hx (r1.nil_iff.mp z)
  have n2 : i2 ≠ [] := fun z => hy (r2.nil_iff.mp z)
  exact HT.cat_tup p1 p2 n1 (fun z => absurd z n2) (fun _ => new_tup I (r1.append r2) (by rw [List.length_append]; exact hz) q) (by rw [← r1.length, ← r2.length]; exact hz)
abbrev rPlusF (K : PySem.W.Frag) : R2 := rOr (rPlusE K) (rCatTF K)
theorem plusF {X : Cx} (K : PySem.W.Frag) (hK : X.K = K := by rfl) : OpR X (binaryOp .Add) (rPlusF K) := hK ▸ (plusE X.K).or op_catTF
theorem plF_of {K : PySem.W.Frag} {x y d : D} (h : DR2 (rPlusE K) x y d) : DR2 (rPlusF K) x y d := dr2_l h
/-! ### tuple(xs) -/
abbrev rTupleF (K : PySem.W.Frag) : List V → Hp → VK → Prop := fun xs H Q => ∃ p ys, xs = [.ref p] ∧ SqL K H p ys ∧ NewT H ys Q
theorem cr_tupleF {X : Cx} : CallR X (.type "tuple") (rTupleF X.K) := by
  intro pins s σ H xs us Q I r ⟨p, ys, ex, hq, q⟩
  subst ex
  obtain ⟨u, eu, rx⟩ := vals1 r
  subst eu; cases rx
  obtain ⟨its, r', pl, hz⟩ := I.list hq
  have hl := r'.length
  exact call_tuple_list pl.isList (fun h' kp => new_tup (I.kept (t' := s.toks) kp) r' hz q) (by simp only [List.size_toArray]; omega)
theorem tupleFA {X : Cx} (K : PySem.W.Frag) (hK : X.K = K := by rfl) : CallR X (.type "tuple") (rTupleF K) := hK ▸ cr_tupleF
theorem ev_tupleN {K : PySem.W.Frag} {Γ : Gam} {ta : TE} {ds : List D} (h : EvB ta Γ ds) : Ev (tCB (rTupleF K) (tCons ta tNil)) Γ (.tupN ds) := fun F σ W Q g k => h F σ W _ g fun p vs H s e l =>
  ⟨p, vs, rfl, .of e, fun n ob c d hn => k _ _ (Same.trans s (same_upd hn)) (rep_new_tupN (W := W.at H) (g.same s).ok.dom hn c d l)⟩
theorem ev_tupleF {K : PySem.W.Frag} {Γ : Gam} {ta : TE} {ds : List D} (h : EvB ta Γ ds) : Ev (tCB (rTupleF K) (tCons ta tNil)) Γ (.tup ds) := ev_dn (ev_tupleN h)
/-! ### t.m(x) of such a tuple -/
section
variable {X : Cx} {o e : Expr} {es : List Expr} {to : TE} {t : TA} {nm : Str} {p1 p2 : Pos} {id : String} {r : V → List V → Hp → VK → Prop}
end
section
variable {K : PySem.W.Frag} {Γ : Gam} {ta tb : TE}
end
end Dw
namespace Dw
open PySem PySem.Spec PyProof.Rows L2 HT
variable [Tabs0]
/-! ### a new tuple, by its cell -/
section
variable {K : PySem.W.Frag} {Γ : Gam} {t : TA} {ta : TE} {ds : List D}
end
end Dw
namespace Dw
open PySem PySem.Spec PyProof.Rows L2 HT
variable [Tabs0]
end Dw

/-! {k: v for x in xs if ..}, k in d, d[k]; a call of a local name that holds a def. -/
namespace Dw
open PySem PySem.Spec PyProof.Rows L2 HT
variable [Tabs0]
section
variable {K : PySem.W.Frag} {Γ : Gam} {wi : TI} {g : TG} {tt : TT} {tk tv ta td ty : TE} {vs : List Nat}
/-! ### a call of a local name that holds a def -/
theorem ev_callL {s : Spc} {i : Nat} {f : Addr} {E : XK} {t : TA} {x : s.ty} {d : D} (hf : Γ[i]? = some (.val (.raw (.ref f)))) (h : EvA t Γ (s.args x)) (np : noPs (s.args x) = true) (ok : s.ok x) (hd : ∀ d', s.rel x d' → d' = d) : Ev (tCallL i f (toSp s) [] E t) Γ d := fun F σ W R g k => by
  obtain ⟨v, e, r⟩ := g.val i _ hf
  obtain rfl : v = V.ref f := r
  exact ⟨e, ev_call (E := E) h np ok hd F σ W R g k⟩
end
end Dw

/-! xs, y = [], e with a cell among them; xs.index(x) of texts. -/
namespace Dw
open PySem PySem.Spec PyProof.Rows L2 HT
variable [Tabs0]
section
variable {K : PySem.W.Frag} {Γ : Gam} {ta tb : TE}
end
end Dw

/-! an own list, lent for the time of one expression whose answer is a tuple of numbers. -/
namespace Dw
open PySem PySem.Spec PyProof.Rows L2 HT
variable [Tabs0]
theorem dl_lend {Γ : Gam} {t : TE} {Q : D → Gam → Prop} (i : Nat) {ds : List D} (hi : Γ[i]? = some (.own ds)) (one : ∀ (j : Nat) (es : Ow), Γ[j]? = some (.ownX es) → j = i)
    (h : Dl t (Γ.set i (.val (.lst ds))) fun d Γ1 => Γ1 = Γ.set i (.val (.lst ds)) ∧ (∃ m : List Nat, d = .tup (m.map fun k : Nat => D.int k)) ∧ Q d Γ) : Dl t Γ Q := fun F σ W R g k => by
  obtain ⟨a, vs, hs, ua, fa, pa, ea, ra⟩ := g.own i ds hi
  obtain ⟨st0, g0⟩ := g.freeze hi hs
  refine h F σ ⟨W.H, fun b => W.U b ∧ b ≠ a, W.P⟩ R g0 fun v W1 d Γ1 st g1 r ⟨eΓ, ⟨m, ed⟩, q⟩ => ?_
  subst eΓ; subst ed
  have ea1 := st.keep a _ ea fun z => z.2 rfl
  have hp : W1.P = W.P := st.pur
  have stp : Stp F W ⟨W1.H, fun b => W1.U b ∨ b = a, W1.P⟩ := ⟨fun b u e n => by
    have hb := st.keep b u e fun z => n z.1
    exact ⟨hb.1, fun z => z.elim hb.2 fun z => n (z ▸ ua)⟩, hp, fun b z => st.fr b z⟩
  refine k v ⟨W1.H, fun b => W1.U b ∨ b = a, W1.P⟩ (.tup (m.map fun k : Nat => D.int k)) Γ stp ⟨⟨fun b z => z.elim (g1.ok.dom b) (fun z => by rw [z, ea1.1]; exact fun q => nomatch q), fun b z => .inl (g1.ok.fu b z), fun b z => let ⟨u, f, p⟩ := g1.ok.pu b z; ⟨.inl u, f, p⟩⟩, g.len, fun j d' e => ?_, fun j es e => ?_, g.apartX⟩ ?_ q
  · obtain ⟨v', e1, r'⟩ := g.val j d' e
    exact ⟨v', e1, r'.stp stp⟩
  · obtain rfl := one j es e
    rw [hi] at e; cases e
    exact ⟨a, vs, hs, .inr rfl, fa, by rw [hp]; exact pa, ea1.1, ra.stp stp⟩
  · obtain ⟨b, ws, e1, hb, nu, l⟩ := r
    have nb : b ≠ a := fun z => by
      rw [z] at hb
      rcases hb with hb | ⟨o, hb⟩
      · rw [ea1.1] at hb; cases hb
      · rw [ea1.1] at hb; cases hb
    refine ⟨b, ws, e1, hb, fun z => z.elim nu nb, ?_⟩
    obtain rfl := repL_ord l
    exact ord_repL m
end Dw

/-! list(d.values()). -/
namespace Dw
open PySem PySem.Spec PyProof.Rows L2 HT
variable [Tabs0]
section
variable {X : Cx} {e : Expr} {te : TE} {p apos cpos pos : Pos}
variable {Γ : Gam} {td : TE}
end
end Dw

/-! xs == [] of any list. -/
namespace Dw
open PySem PySem.Spec PyProof.Rows L2 HT
variable [Tabs0]
abbrev rEqL0 (K : PySem.W.Frag) : R2 := fun x y H Q => ∃ a b xs, x = .ref a ∧ y = .ref b ∧ SqL K H a xs ∧ SqL K H b [] ∧ Q (.bl xs.isEmpty) H
theorem op_eqL0 {X : Cx} (hu : X.A.units + 64 < cLine) : OpR X (compareOp .Eq) (rEqL0 X.K) := by
  intro pins s σ H x y v u Q I rx ry h
  obtain ⟨a, b, xs, rfl, rfl, ha, hb, q⟩ := h
  cases rx
  cases ry
  obtain ⟨its, r1, p1, _⟩ := I.list ha
  obtain ⟨its2, r2, p2, _⟩ := I.list hb
  cases r2
  cases xs with
  | nil =>
    cases r1
    refine PySem.EqBoolInt.of_rc (SeqAt.RcAt.lists (e := fun _ => true) p1.isList p2.isList rfl (by omega) (fun j h1 h2 => absurd h2 (by simp))) ?_
    exact ⟨.bl _, H, I, rfl, q⟩
  | cons x xs =>
    cases r1
    refine PySem.EqBoolInt.of_rc (SeqAt.RcAt.lists_lengths p1.isList p2.isList (by simp) (by omega)) ?_
    exact ⟨.bl _, H, I, rfl, q⟩
theorem eqL0A {X : Cx} (K : PySem.W.Frag) (hu : X.A.units + 64 < cLine) (hK : X.K = K := by rfl) : OpR X (compareOp .Eq) (rEqL0 K) := hK ▸ op_eqL0 hu
theorem eq_L0 {K : PySem.W.Frag} {ds : List D} : DR2 (rEqL0 K) (.lst ds) (.lst []) (.bl ds.isEmpty) := dr2_flat fun W u v Q ⟨a, vs, eu, e, nu, l⟩ ⟨b, ws, ev, e2, nu2, l2⟩ k => ⟨a, b, vs, eu, ev, .of e, by rw [show ws = [] from l2] at e2; exact .of e2, k _ (by
  have := l.length
  cases ds <;> cases vs <;> first | rfl | (simp at this))⟩
/-- the comprehension's answer against [] -/
theorem ev_eqL0 {K : PySem.W.Frag} {Γ : Gam} {ta tb : TE} {ds : List D} {b : Bool} (ha : EvN ta Γ ds) (hb : Ev tb Γ (.lst [])) (e : ds.isEmpty = b) : Ev (tOp (rEqL0 K) ta tb) Γ (.bl b) := ev_op ha.ev hb (e ▸ eq_L0)
theorem ev_neL0 {K : PySem.W.Frag} {Γ : Gam} {ta tb : TE} {ds : List D} {b : Bool} (ha : EvN ta Γ ds) (hb : Ev tb Γ (.lst [])) (e : (!ds.isEmpty) = b) : Ev (tOp (rNeL0 K) ta tb) Γ (.bl b) := ev_op ha.ev hb (e ▸ ne_L0)
theorem filter_no {α β : Type} (xs : List α) (p : α → Bool) (f : α → β) : ((xs.filter p).map f).isEmpty = xs.all fun x => !p x := by
  induction xs with
  | nil => rfl
  | cons x r ih =>
    cases h : p x with
    | true => simp [List.filter_cons, h]
    | false => simp only [List.filter_cons, h, List.all_cons, Bool.not_false, Bool.true_and]; exact ih
/-! ### texts, >= -/
theorem op_ge_str {X : Cx} : OpR X (compareOp .GtE) (fun x y H Q => ∃ i j, x = .str i ∧ y = .str j ∧ Q (.bl (!decide (i.cps.toList < j.cps.toList))) H) := by
  intro pins s σ H x y v u Q I rx ry h
  obtain ⟨i, j, rfl, rfl, q⟩ := h
  obtain ⟨t, rfl⟩ := rx
  obtain ⟨t', rfl⟩ := ry
  exact PySem.P.ge_str (fin_bl I q rfl)
abbrev rGeS : R2 := fun x y H Q => ∃ i j, x = .str i ∧ y = .str j ∧ Q (.bl (!decide (i.cps.toList < j.cps.toList))) H
theorem opGeS {X : Cx} : OpR X (compareOp .GtE) rGeS := op_ge_str
theorem ge_txS {a b : List Nat} : DR2 rGeS (.str (tx a)) (.str (tx b)) (.bl (!decide (a < b))) := dr2_flat fun W u v Q r1 r2 k => ⟨tx a, tx b, r1, r2, by rw [tx_cps, tx_cps]; exact k _ rfl⟩
/-! ### range(a, b) -/
end Dw

/-! {"a": 1, ..}, d.get(k, z); cuts and sums of tuples whose cells are known. -/
namespace Dw
open PySem PySem.Spec PyProof.Rows L2 HT
variable [Tabs0]
section
variable {Γ : Gam} {td ty : TE}
end
/-! ### t[a:b], its cell known -/
section
variable {K : PySem.W.Frag} {Γ : Gam} {te : TE} {ds : List D}
end
/-! ### t == () -/
/-! ### a text's count -/
end Dw

/-! min(xs); xs.extend(ys) of an own list; a purse that is made of a number. -/
namespace Dw
open PySem PySem.Spec PyProof.Rows L2 HT
variable [Tabs0]
section
variable {K : PySem.W.Frag} {Γ : Gam} {ta tb : TE}
end
/-- a def that makes a purse of a number -/
def toWell : Sp := fun vs H Q _ => ∃ (F : Addr → Prop) (W : Wd) (cell : Int), W.H = H ∧ WOk F W ∧ RepL W [.int cell] vs ∧
  ∀ (a : Addr) (x y c : Int) (W' : Wd) (H' : Hp), Stp F W W' → WOk F W' → Same W'.H H' → W'.H a = none → H' a = some (.lst [.int x, .int y, .int c]) → 0 ≤ x → 0 ≤ y → y < 2147483647 → Q (.ref a) H'
section
variable {s : Spc} {E : XK} {Γ : Gam} {ta : TE}
end
end Dw

/-! x, ys = e, [] with a cell among them. -/
namespace Dw
open PySem PySem.Spec PyProof.Rows L2 HT
variable [Tabs0]
theorem ds_asg_2o {K : PySem.W.Frag} {Γ : Gam} {De : DE} {i j : Nat} {t1 t2 : TE} (h : Dl t1 Γ fun d Γ1 => ∃ ds, EvN t2 Γ1 ds ∧ De.nx ((Γ1.set i (.val d)).set j (.own ds))) : Ds (tAsg (tTup (tCons t1 (tCons t2 tNil))) (gTup K 2 (gCons (gName i) (gCons (gName j) gNil)))) Γ De := fun F σ W Dr g k =>
  h F σ W _ g fun v W1 d Γ1 st1 g1 rd ⟨ds, h2, q⟩ => h2 F σ W1 _ g1 fun a vs H s n e r => by
    obtain ⟨st2, g2, no2, f2, p2⟩ := g1.plus s n (by rw [e]; exact fun z => nomatch z)
    have rd2 : Rep (W1.plus H a) d v := rd.stp st2
    have g3 := g2.set (i := i) rd2
    have no3 : ¬ ownA (Γ1.set i (.val d)) (σ.set i (some v)) a := fun ⟨k, es, e1, e2⟩ => by
      by_cases hk : i = k
      · subst hk
        by_cases hl : i < Γ1.length
        · rw [List.getElem?_set_self hl] at e1; cases e1
        · rw [List.getElem?_eq_none (by rw [List.length_set]; omega)] at e1; cases e1
      · rw [List.getElem?_set_ne hk] at e1 e2
        exact no2 ⟨k, es, e1, e2⟩
    have g4 := g3.adopt (i := j) (.inr rfl) f2 p2 e r no3
    refine ⟨Nat.le_trans (show 2 ≤ 100000 by decide) (by decide), fun p hp => ?_⟩
    exact ⟨p, [v, .ref a], rfl, TupAt.sq (.mk upd_same), rfl, v, [.ref a], rfl, .ref a, [], rfl, rfl, k.nx _ ((W1.plus H a).at _) _ ((st1.trans st2).trans (Stp.of_same g2.ok (same_upd hp))) (g4.same (same_upd hp)) q⟩
section
variable {s : Spc} {E : XK} {Γ : Gam} {ta : TE}
/-- right(well(number)) -/
theorem dl_wellT {K : PySem.W.Frag} {E2 : XK} {Q : D → Gam → Prop} {x : s.ty} (ha : s.args x = [.purse]) (ok : s.ok x) (hr : ∀ d, s.rel x d → d = .bl true) (h1 : Dl ta Γ fun d Γ1 => (∃ z : Int, d = .int z) ∧ (∃ (i : Nat) (vs : List V), Γ1[i]? = some (.val (.scr K vs))) ∧ Q (.bl true) Γ1) :
    Dl (tCall (toSp s) [] E (tCons (tCall toWell [] E2 (tCons ta tNil)) tNil)) Γ Q := fun F σ W R g k => by
  show tCons ta tNil σ W.H (fun vs H1 => toWell (vs ++ []) H1 (fun v H2 => toSp s ([v] ++ []) H2 R E) E2)
  refine h1 F σ W _ g fun v0 W1 d0 Γ1 s1 g1 r0 ⟨⟨z, ez⟩, ⟨ci, cvs, hcs⟩, q⟩ => ?_
  subst ez
  have r : RepL W1 [.int z] [v0] := RepL.one r0
  refine ⟨_, W1, z, rfl, g1.callOk, r, fun a x' y c' W' H' st ok' sm hn ha' h0 h0' h0y => ?_⟩
  have g2 := g1.call st ok'
  have okc := g2.callOk
  have nu : ¬ W'.U a := g2.ok.new hn
  have tb : ∀ p q, Tabs0.nm p = some q → W'.P p := fun p q z => by
    obtain ⟨v0, e0, hr0⟩ := g1.val ci _ hcs
    obtain ⟨_, _, _, t0⟩ := hr0
    have := t0 p q z
    rw [st.pur]
    exact this
  have nn : Tabs0.nm a = none := by
    cases z : Tabs0.nm a with
    | none => rfl
    | some q => exact absurd hn ((okc.pu a (tb a q z)).2.2.some)
  refine ⟨x, _, ⟨H', fun b => W'.U b ∨ b = a, fun b => W'.P b ∨ b = a⟩, rfl, ⟨fun b z => ?_, fun b z => .inl (okc.fu b z), fun b z => ?_⟩, ?_, ok, fun d v W2 hd st2 ok2 r2 => ?_⟩
  · rcases z with z | rfl
    · exact fun e => okc.dom b z (sm.free e)
    · show H' b ≠ none
      rw [ha']; exact fun e => nomatch e
  · rcases z with z | rfl
    · obtain ⟨u, f, o⟩ := okc.pu b z
      exact ⟨.inl u, f, o.same sm⟩
    · exact ⟨.inr rfl, fun z => nu (okc.fu b z), .of ⟨(x', c'), y, h0, h0', h0y, ha'⟩ nn⟩
  · rw [ha]
    exact RepL.one ⟨a, rfl, .inr rfl, nn, fun p q z => .inl (tb p q z)⟩
  · have hd' := hr d hd
    subst hd'
    have stc : Stp (fun b => F b ∨ ownA Γ1 σ b) W' ⟨W2.H, W2.U, W'.P⟩ := ⟨fun b u e n => by
        have nb : b ≠ a := fun z => by rw [z, hn] at e; cases e
        obtain ⟨e2, n2⟩ := st2.keep b u (sm _ _ e) fun z => z.elim n nb
        exact ⟨e2, n2⟩, rfl, fun b z => by
        refine (st2.fr b z).trans ?_
        show H' b = W'.H b
        cases q : W'.H b with
        | none => exact absurd q (okc.dom b (okc.fu b z))
        | some u => exact sm _ _ q⟩
    have okc2 : WOk (fun b => F b ∨ ownA Γ1 σ b) ⟨W2.H, W2.U, W'.P⟩ := ⟨ok2.dom, ok2.fu, fun b z => by
      have := ok2.pu b (by rw [st2.pur]; exact .inl z)
      exact this⟩
    have st0 : Stp F W ⟨W2.H, W2.U, W'.P⟩ := s1.trans (((st.trans stc)).sub fun _ z => .inl z)
    exact k v ⟨W2.H, W2.U, W'.P⟩ (.bl true) Γ1 st0 (g2.call stc okc2) r2 q
end
end Dw

/-! tuple("abc"); == of truth values. -/
namespace Dw
open PySem PySem.Spec PyProof.Rows L2 HT
variable [Tabs0]
section
variable {K : PySem.W.Frag} {Γ : Gam} {ta : TE}
end
end Dw

/-! ways[i] += e, of an own list of numbers. -/
namespace Dw
open PySem PySem.Spec PyProof.Rows L2
variable [Tabs0]
section
variable {K : PySem.W.Frag} {Γ : Gam} {De : DE} {te tk : TE}
end
end Dw

/-! A lambda made, with the very heap: all but its maker's table stays. -/
namespace Dw
open PySem PySem.Spec PyProof.Rows L2 LamX
/-- what a lambda's making may have done: nothing, or the maker's table at P is longer and a code object is new -/
def Chg (P : Addr) (q : Str) (H H1 : Hp) : Prop := H1 = H ∨ ∃ (c : Addr) (ps more : Array Value), H P = some (.tbl ps) ∧ H c = none ∧ H1 = upd (upd H P (.tbl (ps ++ more))) c (CodeO c q)
theorem Chg.ne {P : Addr} {q : Str} {H H1 : Hp} (h : Chg P q H H1) {b : Addr} {u : HO} (hb : b ≠ P) (e : H b = some u) : H1 b = some u := by
  rcases h with rfl | ⟨c, ps, more, _, hc, rfl⟩
  · exact e
  · rw [upd_ne (ne_of_none e hc), upd_ne hb]
    exact e
theorem Chg.ext {P : Addr} {q : Str} {H H1 : Hp} (h : Chg P q H H1) : ExtN H H1 := by
  rcases h with rfl | ⟨c, ps, more, hP, hc, rfl⟩
  · exact ExtN.refl _
  · intro b o e n
    rw [upd_ne (ne_of_none e hc), upd_ne (fun z => n ps (Option.some.inj (e.symm.trans (by rw [z]; exact hP))))]
    exact e
section
variable {X : Cx} {pins : List (Addr × Obj)} {σ : L2.St} {H : Hp} {s : Shared}
/-- the tables go on telling the truth -/
theorem tabs_grow {T : List (Addr × Str)} {P c' : Addr} {q : Str} {ps : Array Value} {pos : Pos} (hT : Tabs T H) (hu : ∀ p ∈ T, p.1 = P → p.2 = q) (hP : H P = some (.tbl ps)) (ht : TriplesOk ps.toList)
    (ha : ∀ (pos : Pos) (cv : Value), codeAmong pos ps.toList = some cv → ∃ c, cv = .ref c ∧ H c = some (CodeO c q)) (nC : H c' = none) :
    Tabs T (upd (upd H P (.tbl (ps ++ #[rawInt pos.line, rawInt pos.col, .ref c']))) c' (CodeO c' q)) := by
  have eE : ∀ b o, H b = some o → (∀ ps, o ≠ .tbl ps) → upd (upd H P (.tbl (ps ++ #[rawInt pos.line, rawInt pos.col, .ref c']))) c' (CodeO c' q) b = some o :=
    (Chg.ext (q := q) (.inr ⟨c', ps, _, hP, nC, rfl⟩))
  have eL : (ps ++ #[rawInt pos.line, rawInt pos.col, .ref c']).toList = ps.toList ++ [rawInt pos.line, rawInt pos.col, .ref c'] := by simp
  intro p hp
  by_cases hb : p.1 = P
  · rw [hu p hp hb, hb]
    refine ⟨_, by rw [upd_ne (ne_of_none hP nC), upd_same], by rw [eL]; exact PySem.TriplesOk_snoc _ _ _ _ ht, fun p' cv hcv => ?_⟩
    rw [eL] at hcv
    rcases among_app _ ht hcv with z | z
    · obtain ⟨c0, e1, e2⟩ := ha p' cv z
      exact ⟨c0, e1, eE _ _ e2 codeO_ne⟩
    · exact ⟨c', z, upd_same⟩
  · obtain ⟨ps', a1, a2, a3⟩ := hT p hp
    refine ⟨ps', by rw [upd_ne (ne_of_none a1 nC), upd_ne hb]; exact a1, a2, fun p' cv hcv => ?_⟩
    obtain ⟨c0, e1, e2⟩ := a3 p' cv hcv
    exact ⟨c0, e1, eE _ _ e2 codeO_ne⟩
end
/-! ### the lambda handed to a def -/
section
variable {X : Cx}
end
end Dw

/-! except (A, B) as e: one clause for two classes, that takes all that comes. -/
namespace Dw
open PySem PySem.Spec PyProof.Rows L2 HotX
section
variable {X : Cx} {x1 x2 n : Str} {c1 c2 : Value} {i kk : Nat} {body suite : List Stmt} {b₀ : Stmt} {p1 p2 tpos pos pos' : Pos} {tb : WX → TS} {ts : Addr → Value → Option Addr → TS}
end
end Dw

/-! The exception that is held, within a def that the suite calls. -/
namespace Dw
open PySem PySem.Spec PyProof.Rows L2
variable [Tabs0]
section
variable {X : Cx} {a D : Addr} {oe : Obj}
theorem inst_some {h : Heap} {dd : Addr} {od : Obj} (hz : Zc (.ref D) (some dd) oe) (hf : ∃ vs, oe.data = .fields vs) (hget : h.get? a = some oe) (ho : h.get? dd = some od) : PySem.W.InstAt h a oe D (some od) := by
  obtain ⟨vs, hv⟩ := hf
  exact ⟨hget, hz.1, by unfold PySem.W.notCls; rw [hv] <;> rfl, by rw [hz.2]; exact ho⟩
end
/-! ### promises of defs that may raise: the one that returns, and the one that raises, side by side -/
section
variable {P : Program} {w : World} {K : PySem.W.Frag} {mg : Str → Option Value} {base : Heap} {k : Nat} {f : Addr} {fd : FuncData} {ps : List Str} {sp sp' : Sp}
/-- one of two promises -/
def spOr (sp sp' : Sp) : Sp := fun vs H Q E => sp vs H Q E ∨ sp' vs H Q E
/-- a def that raises: the class, and no dict -/
structure SpcE where
  ty : Type
  args : ty → List D
  ok : ty → Prop
  cls : Addr
end
end Dw

/-! Defs that an except suite calls, and that neither raise nor loop: nothing is asked of the held exception's context. -/
namespace Dw
open PySem PySem.Spec PyProof.Rows L2
open L2H (RoomH PinOk cxH inv_startH)
variable [Tabs0]
section
variable {P : Program} {w : World} {K : PySem.W.Frag} {mg : Str → Option Value} {base : Heap} {k : Nat} {f : Addr} {fd : FuncData} {ps : List Str} {sp : Addr × Obj → Sp}
/-- the promise of a def f while p is held -/
structure FnS (P : Program) (w : World) (K : PySem.W.Frag) (mg : Str → Option Value) (base : Heap) (k : Nat) (f : Addr) (fd : FuncData) (ps : List Str) (sp : Addr × Obj → Sp) : Prop where
  len : ∀ p vs H Q E, sp p vs H Q E → vs.length = ps.length
  run : ∀ (A : Around) (outer : List Env) (s : Shared) (H : Hp) (args : Args) (us : List Value) (vs : List V) (Q : VK) (E : XK) (p : Addr × Obj), RoomH k A → A.guards = some [] → PinOk outer H s p → Env0 P w K mg base A outer s H → BindsTo s fd args (ps.zip us) → Vals vs us → sp p vs H Q E →
    codeAny (model P w) A (.call (.ref f) args) (CR CX0 outer P w H s Q E) s
end
section
variable {X : Cx} {k : Nat} {f : Addr} {fd : FuncData} {ps : List Str} {sp : Addr × Obj → Sp} {E : L2.St → XK} {x : Str} {q pos : Pos} {e : Expr} {es : List Expr} {t : TA} {p : Addr × Obj}
end
end Dw

/-! try: g = a() / except (A, B) as e: suite; return ("returned", g). -/
namespace Dw
open PySem PySem.Spec PyProof.Rows L2 LamX
variable [Tabs0]
end Dw

/-! told(lambda: body), by data. -/
namespace Dw
open PySem PySem.Spec PyProof.Rows L2 LamX
variable [Tabs0]
/-- the tables that a law knows: all there are -/
structure TabsOk (Tt : List (Addr × Str)) : Prop where
  sound : ∀ p ∈ Tt, Tabs0.nm p.1 = some p.2
  all : ∀ p q, Tabs0.nm p = some q → (p, q) ∈ Tt
theorem tabs_of {F : Addr → Prop} {W : Wd} {Tt : List (Addr × Str)} (ok : WOk F W) (T : TabsOk Tt) (tb : ∀ p q, Tabs0.nm p = some q → W.P p) : Tabs Tt W.H := fun p hp => (ok.pu p.1 (tb _ _ (T.sound p hp))).2.2.tab (T.sound p hp)
/-- a lambda is made: all that is known stays known -/
theorem SR.chg {F : Addr → Prop} {Γ : Gam} {σ : L2.St} {W : Wd} {Tt : List (Addr × Str)} {P : Addr} {q : Str} {H1 : Hp} (g : SR F Γ σ W) (T : TabsOk Tt) (hP : (P, q) ∈ Tt) (tb : ∀ p q, Tabs0.nm p = some q → W.P p) (c : Chg P q W.H H1) (T1 : Tabs Tt H1) :
    Stp F W (W.at H1) ∧ SR F Γ σ (W.at H1) := by
  have pP : W.P P := tb P q (T.sound _ hP)
  obtain ⟨uP, fP, _⟩ := g.ok.pu P pP
  have st : Stp F W (W.at H1) := ⟨fun a u e n => ⟨c.ne (fun z => n (by rw [z]; exact uP)) e, n⟩, rfl, fun a h => by
    cases e : W.H a with
    | none => exact absurd e (g.ok.dom a (g.ok.fu a h))
    | some u => exact c.ne (fun z => fP (by rw [← z]; exact h)) e⟩
  refine ⟨st, ⟨⟨fun a h z => ?_, g.ok.fu, fun a h => ?_⟩, g.len, fun i d e => ?_, fun i ds e => ?_, g.apartX⟩⟩
  · have z : H1 a = none := z
    by_cases hb : a = P
    · obtain ⟨ps, e, _⟩ := T1 _ hP
      rw [hb, show H1 P = _ from e] at z; cases z
    · cases e : W.H a with
      | none => exact g.ok.dom a h e
      | some u => rw [c.ne hb e] at z; cases z
  · obtain ⟨u, f, o⟩ := g.ok.pu a h
    refine ⟨u, f, ?_⟩
    cases n : Tabs0.nm a with
    | some q' =>
      have := T1 _ (T.all a q' n)
      unfold OwnAt
      rw [n]
      exact this
    | none =>
      obtain ⟨x, y, h1, h2, h3, e⟩ := o.purse n
      refine .of ⟨x, y, h1, h2, h3, c.ne (fun z => ?_) e⟩ n
      have := T.sound _ hP
      rw [← show a = P from z, n] at this; cases this
  · obtain ⟨v, e1, r⟩ := g.val i d e
    exact ⟨v, e1, r.stp st⟩
  · obtain ⟨a, vs, e1, u, f, p, e2, r⟩ := g.ownX i ds e
    exact ⟨a, vs, e1, u, f, p, c.ne (fun z => p (by rw [z]; exact pP)) e2, r.stp st⟩
section
variable {K : PySem.W.Frag} {Γ : Gam} {Tt : List (Addr × Str)} {P : Addr} {q wd : Str} {c1 c2 : Value} {n ie i : Nat} {ts : Addr → Value → Option Addr → TS} {t : XK → TE} {d : D} {Q : D → Gam → Prop}
end
/-! ### calls of defs that return, or raise -/
section
variable {Γ : Gam} {s : Spc} {se : SpcE} {sp : Sp} {ta : TA} {E : XK} {d : D}
end
end Dw

/-! Defs that return or raise, by data. -/
namespace Dw
open PySem PySem.Spec PyProof.Rows L2 LamX
variable [Tabs0]
/-! ### raise C() -/
section
variable {X : Cx} {C : Addr} {bmB : List Value} {B newId initId : String}
end
/-! ### what is raised -/
/-- the class, and the fields (none: no dict) -/
structure Exn where
  C : Addr
  fs : List (Str × D)
/-- its dict, as it stands in W -/
def ExHeld (W : Wd) (x : Exn) (ed : Option Addr) : Prop := match x.fs with
  | [] => ed = none
  | f :: fs => ∃ (dd : Addr) (vs : List V), ed = some dd ∧ ¬ W.U dd ∧ W.H dd = some (.xd (((f :: fs).map fun z => z.1).zip vs)) ∧ RepL W ((f :: fs).map fun z => z.2) vs
theorem ExHeld.mono {W W' : Wd} {x : Exn} {ed : Option Addr} (k : ∀ a u, W.H a = some u → ¬ W.U a → W'.H a = some u ∧ ¬ W'.U a) (p : ∀ a, W.P a → W'.P a) (h : ExHeld W x ed) : ExHeld W' x ed := by
  obtain ⟨C, fs⟩ := x
  cases fs with
  | nil => exact h
  | cons f fs =>
    obtain ⟨dd, vs, e, nu, hd, r⟩ := h
    obtain ⟨h1, h2⟩ := k _ _ hd nu
    exact ⟨dd, vs, e, h2, h1, RepL.mono k p _ _ r⟩
theorem ExHeld.same {W : Wd} {H : Hp} {x : Exn} {ed : Option Addr} (s : Same W.H H) (h : ExHeld W x ed) : ExHeld (W.at H) x ed := ExHeld.mono (W := W) (W' := W.at H) (fun a u e n => ⟨s a u e, n⟩) (fun _ z => z) h
/-- raised in W, where the heap was H0 before -/
def ExAt (H0 : Hp) (W : Wd) (x : Exn) (ed : Option Addr) : Prop := (∀ dd, ed = some dd → H0 dd = none) ∧ ExHeld W x ed
/-- an expression that raises x, and leaves what is known -/
def ErT (t : TE) (Γ : Gam) (x : Exn) (R : Option Addr → Hp → Prop) : Prop := ∀ (F : Addr → Prop) (σ : L2.St) (W : Wd) (Q : VK), SR F Γ σ W → (∀ ed H', Same W.H H' → ExAt W.H (W.at H') x ed → R ed H') → t σ W.H Q
/-- .. a statement -/
def ErS (t : TS) (Γ : Gam) (x : Exn) (R : Option Addr → Hp → Prop) : Prop := ∀ (F : Addr → Prop) (σ : L2.St) (W : Wd) (Dr : Ends), SR F Γ σ W → (∀ ed H', Same W.H H' → ExAt W.H (W.at H') x ed → R ed H') → t Dr σ W.H
/-- a statement that leaves what is known -/
def PuS (t : TS) (Γ Γ' : Gam) : Prop := ∀ (F : Addr → Prop) (σ : L2.St) (W : Wd) (Dr : Ends), SR F Γ σ W → (∀ σ' H', Same W.H H' → SR F Γ' σ' (W.at H') → Dr.nx σ' H') → t Dr σ W.H
theorem exAt_back {H0 H1 : Hp} {W : Wd} {x : Exn} {ed : Option Addr} (s : Same H0 H1) (h : ExAt H1 W x ed) : ExAt H0 W x ed := ⟨fun dd e => by
  cases q : H0 dd with
  | none => rfl
  | some u => exact absurd (s dd u q) (by rw [h.1 dd e]; exact fun z => nomatch z), h.2⟩
section
variable {Γ Γ' : Gam} {x : Exn} {R : Option Addr → Hp → Prop} {t u : TS} {te : TE} {c : TT} {d : D} {i : Nat} {g : TG}
theorem ers_first (h : ErS t Γ x R) : ErS (tSeq t u) Γ x R := fun F σ W Dr gg k => h F σ W _ gg k
theorem ers_seq (h : PuS t Γ Γ') (h' : ErS u Γ' x R) : ErS (tSeq t u) Γ x R := fun F σ W Dr gg k => h F σ W _ gg fun σ' H1 s1 g1 => h' F σ' (W.at H1) Dr g1 fun ed H' s' a => k ed H' (Same.trans s1 s') (exAt_back s1 a)
theorem ers_ifT (hc : EvT c Γ true) (h : ErS t Γ x R) : ErS (tIfS c t u) Γ x R := fun F σ W Dr gg k => hc F σ W _ gg fun H1 s1 => h F σ (W.at H1) Dr (gg.same s1) fun ed H' s' a => k ed H' (Same.trans s1 s') (exAt_back s1 a)
theorem pus_asg (h : Ev te Γ d) : PuS (tAsg te (gName i)) Γ (Γ.set i (.val d)) := fun F σ W Dr gg k => h F σ W _ gg fun v H s r => k _ H s ((gg.same s).set r)
end
/-! ### a def that raises -/
structure SpcX where
  ty : Type
  args : ty → List D
  ok : ty → Prop
  ex : ty → Exn
section
variable {P : Program} {w : World} {K : PySem.W.Frag} {mg : Str → Option Value} {base : Heap}
end
section
variable {Γ : Gam} {s : Spc} {sx : SpcX} {sp : Sp} {ta tk : TA} {E : XK} {d : D} {ds es : List D} {R : Option Addr → Hp → Prop}
end
end Dw

/-! The suite of told, by data: defs that it calls while an exception is held. -/
namespace L2H
theorem RoomH.units {k : Nat} {A : PySem.Around} (r : RoomH k A) : A.units + 64 < PySem.cLine := by have := r.un; omega
end L2H
namespace Dw
open PySem PySem.Spec PyProof.Rows L2 LamX
open L2H (RoomH PinOk cxH inv_startH)
variable [Tabs0]
/-! ### pure readings, where x is held with the dict ed -/
def EvH (t : TE) (Γ : Gam) (x : Exn) (ed : Option Addr) (d : D) : Prop := ∀ (F : Addr → Prop) (σ : L2.St) (W : Wd) (Q : VK), SR F Γ σ W → ExHeld W x ed → (∀ v H, Same W.H H → Rep (W.at H) d v → Q v H) → t σ W.H Q
/-- statements that return d -/
def RtS (t : TS) (Γ : Gam) (x : Exn) (ed : Option Addr) (d : D) : Prop := ∀ (F : Addr → Prop) (σ : L2.St) (W : Wd) (Dr : Ends), SR F Γ σ W → ExHeld W x ed → (∀ v H, Same W.H H → Rep (W.at H) d v → Dr.rt v H) → t Dr σ W.H
section
variable {Γ Γ' : Gam} {x : Exn} {ed : Option Addr} {t u : TS} {te ta tb : TE} {c : TT} {d : D} {i : Nat} {K : PySem.W.Frag}
theorem Ev.held (h : Ev te Γ d) : EvH te Γ x ed d := fun F σ W Q g hx k => h F σ W Q g k
theorem rts_ret (h : EvH te Γ x ed d) : RtS (tRet te) Γ x ed d := fun F σ W Dr g hx k => h F σ W _ g hx k
end
/-! ### their promise -/
structure SpcS where
  ty : Type
  args : ty → List D
  ok : ty → Prop
  ex : ty → Exn
  out : ty → D
section
variable {P : Program} {w : World} {K : PySem.W.Frag} {mg : Str → Option Value} {base : Heap}
end
section
variable {X : Cx} {k : Nat} {f : Addr} {fd : FuncData} {ps : List Str} {s : SpcS} {E : XK} {n : Str} {q pos : Pos} {e : Expr} {es : List Expr} {t : TA} {a : Addr} {oe : Obj} {cls : Value} {ed : Option Addr}
end
section
variable {Γ : Gam} {s : SpcS} {t : TA} {u : TS} {te ta tb : TE} {x : s.ty} {y : Exn} {a : Addr} {ed : Option Addr} {E : XK} {d d1 d2 : D} {i : Nat}
theorem sr_unset {F : Addr → Prop} {W : Wd} (ok : WOk F W) : ∀ σ : L2.St, SR F (List.replicate σ.length .unset) σ W := fun σ =>
  have no : ∀ (i : Nat) (z : Sl), (List.replicate σ.length Sl.unset)[i]? = some z → z = .unset := fun i z h => List.eq_of_mem_replicate (List.mem_of_getElem? h)
  ⟨ok, by simp, fun i d h => (nomatch no i _ h), fun i d h => (nomatch no i _ h), fun i j a ds es h => (nomatch no i _ h)⟩
end
/-! ### counting truth values -/
section
variable {K : PySem.W.Frag} {Γ : Gam} {ta tb : TE} {bs : List Bool}
end
/-! ### told(lambda: ..), where x is raised -/
section
variable {K : PySem.W.Frag} {Γ : Gam} {Tt : List (Addr × Str)} {P : Addr} {q wd : Str} {c1 c2 : Value} {n ie i : Nat} {ts : Addr → Value → Option Addr → TS} {t : XK → TE} {d : D} {Q : D → Gam → Prop} {x : Exn}
end
end Dw

/-! Defs that make lambdas: their code object is known. The head with tables of code objects. -/
namespace Dw
open PySem PySem.Spec PyProof.Rows L2 LamX
variable [Tabs0]
/-- a def of the text, with the address of its code object -/
structure FunC (K : PySem.W.Frag) (x qual : Str) (st : Stmt) (f : Addr) (fd : FuncData) (c : Addr) : Prop where
  ex : ∃ (oc : Value) (od : Option Addr) (kV doc pm : Value) (an : Option Addr) (ct : Value) (osl : Array (Option Value)), fd = PySem.W.fnOf x qual (defArgs st) (defBody st) (defScope st) .none kV doc pm an (.ref c) ct ∧ K.lookup f = some ⟨oc, od, .func fd, osl⟩ ∧ PySem.W.codeIn K (.ref c) qual = true
section
variable {P : Program} {w : World} {K : PySem.W.Frag} {mg : Str → Option Value} {base : Heap}
theorem fnGC_ok {x qual : Str} {st : Stmt} {f c : Addr} {fd : FuncData} {N ps : List Str} {k : Nat} {s : Spc} (F : FunC K x qual st f fd c) (S : FnScope N ps (defScope st)) (len : ∀ x, (s.args x).length = ps.length)
    (hbody : ∀ (A : Around) (outer : List Env) (s' : Shared) (H : Hp) (E : XK), Room k (A.deeper (envOfC qual (defScope st) s'.heap.objs.size f (.ref c))) → (A.deeper (envOfC qual (defScope st) s'.heap.objs.size f (.ref c))).guards = some [] →
      ∃ t, PSs (cxOf CX0 P w K mg base N qual (defScope st) f (.ref c) A outer s' H E).nox (defBody st) t ∧ ∀ x, s.ok x → Ds t (Gz0 N.length (s.args x)) ⟨fun _ => s.rel x .non, s.rel x, fun _ => False, fun _ => False⟩) : FnG P w K mg base (k + 1) f fd ps s := by
  obtain ⟨oc, od, kV, doc, pm, an, ct, osl, rfl, lk, hcd⟩ := F.ex
  refine ⟨len, fun A outer sh H args us vs Q E hr hg e0 hb r hsp => ?_⟩
  obtain ⟨t, p, hd⟩ := hbody A outer sh H E (hr.deeper _) hg
  have old : ∀ b o, base.get? b = some o → sh.heap.get? b = some o := fun b o e => (e0.bs b o e).1
  have KX := e0.mod.kin.keeps old
  refine codeAny_call_function hr.depth (KX _ _ lk) rfl S.co S.gen rfl (PySem.W.codeRec_of KX hcd) (hb _ _ _ _ (wpAny_newFunctionEnv_cells S.kind (cells_in S us) ?_))
  rintro env rfl s1 x1
  refine ⟨(e0.mod.nolimit.keeps old).keeps x1.toInCall.keep, codeAny_func (wpAny_mono (p.nox.run [] s1 _ H _ (inv_start S hr.hd e0 (spc_len len _ _ _ _ hsp) r x1) (body_of hsp hd)) (fun fl s' hs => ?_) fun _ _ z => z)⟩
  have done : ∀ {σ' : L2.St} {H' : Hp} {v : V} {u : Value}, Inv (cxOf CX0 P w K mg base N qual (defScope st) f (.ref c) A outer sh H E) [] σ' H' s' → RelV v u → Q v H' → CE outer P w H sh Q u s' := fun {_ H' v _} J rv q => ⟨v, H', J.os, J.bare, J.base, J.hok, rv, q⟩
  match fl, hs with
  | .ret _, ⟨_, _, _, J, rv, q⟩ => exact done J rv q
  | .next, ⟨_, _, J, q⟩ => exact done (v := .non) (u := .none) J rfl q
  | .brk, ⟨_, _, _, q⟩ => exact q.elim
  | .cont, ⟨_, _, _, q⟩ => exact q.elim
end
/-! ### the head -/
section
variable {P : Program} {w : World} {K : PySem.W.Frag} {mg mb : Str → Option Value} {k : Nat} {fa a : Addr} {fd : FuncData} {x : Str} {s1 : Shared} {vs : List Value} {ns : List Int} {sp : Spc}
/-- the script, and the tables, empty -/
def headT (K : PySem.W.Frag) (a : Addr) (vs : List Value) (ns : List Int) (ts : List Addr) : Hp := fun b => if b ∈ ts then some (.tbl #[]) else headH K a vs ns b
theorem headT_in {b : Addr} {ts : List Addr} (h : b ∈ ts) : headT K a vs ns ts b = some (.tbl #[]) := if_pos h
theorem headT_out {b : Addr} {ts : List Addr} (h : b ∉ ts) : headT K a vs ns ts b = headH K a vs ns b := if_neg h
theorem head_callT (cs : List (Addr × Addr × Str)) (T : TabsOk (cs.map fun p => (p.2.1, p.2.2)))
    (KX : K.In s1.heap) (hns : s1.heap.Ns mainGlobals mg) (hb : s1.heap.Ns builtinsNs mb) (hbb : ∀ x : Str, x ≠ "__name__" → mb x = bootBuiltins x) (hlim : s1.heap.NoLimit) (hg : s1.gens = #[]) (ha : s1.heap.get? a = some { cls := .type "list", data := .seq vs.toArray }) (hi : IntsAre vs ns) (hl : ns.length ≤ sizeLine) (hr : Room k callerA)
    (hT : ∀ p ∈ cs, s1.heap.get? p.2.1 = some { cls := .none, data := .fields #[] }) (nT : ∀ p ∈ cs, K.lookup p.2.1 = none) (hC : ∀ p ∈ cs, PySem.W.CodeHd s1.heap p.1 p.2.1)
    (hbm : ∃ (bm : Addr) (ob : Obj), mg "__builtins__" = some (.ref bm) ∧ bm ≠ builtinsNs ∧ s1.heap.get? bm = some ob ∧ ob.cls = .type "module" ∧ ob.dict = some builtinsNs ∧ ob.data = .plain)
    (F : ∀ base : Heap, (∀ p ∈ cs, TabB base mg p.1 p.2.1) → FnG P w K mg base k fa fd [x] sp) (hbind : ∀ (s : Shared) (u : Value), BindsTo s fd ⟨[u], []⟩ [(x, u)]) (hx : ∃ y : sp.ty, sp.args y = [.scr K (ns.map V.int)] ∧ sp.ok y ∧ ∀ d, sp.rel y d → d = .bl true) :
    codeAny (model P w) callerA (.call (.ref fa) ⟨[.ref a], []⟩) (fun r s' => r = .ok (.ret (.bool true)) ∧ OldK s1.heap s'.heap ∧ s'.os = s1.os ∧ AllBare s'.gens) s1 := by
  obtain ⟨ts, ets⟩ : ∃ ts : List Addr, ts = cs.map fun p => p.2.1 := ⟨_, rfl⟩
  have memT : ∀ p ∈ cs, p.2.1 ∈ ts := fun p hp => by rw [ets]; exact List.mem_map.mpr ⟨p, hp, rfl⟩
  have ofT : ∀ b ∈ ts, ∃ p ∈ cs, p.2.1 = b := fun b hb => by rw [ets] at hb; exact List.mem_map.mp hb
  have rv := vals_ints hi
  have tabO : ∀ b ∈ ts, s1.heap.get? b = some { cls := .none, data := .fields #[] } := fun b hb => by
    obtain ⟨p, hp, e⟩ := ofT b hb
    rw [← e]; exact hT p hp
  have aT : a ∉ ts := fun z => by
    have q := tabO a z
    rw [ha] at q
    cases (show Data.seq vs.toArray _ = Data.fields #[] from congrArg Obj.data (Option.some.inj q))
  -- what is neither the script nor a table stands in the ground
  have grd : ∀ {b : Addr} {o : Obj}, s1.heap.get? b = some o → (∀ vs n, o.data ≠ .seq vs n) → o.data ≠ .fields #[] → (hidT s1.heap (headT K a vs ns ts)).get? b = some o := fun {b o} e h1 h2 => by
    have nb : b ∉ ts := fun z => by
      rw [tabO b z] at e; cases e
      exact h2 rfl
    refine hidT_get e ?_
    rw [headT_out nb]
    refine headH_none fun z => ?_
    rw [z, ha] at e; cases e
    exact h1 _ _ rfl
  have dictG : ∀ {b : Addr} {o : Obj} {es : Array DictEntry} {ep : Nat}, s1.heap.get? b = some o → o.data = .dict es ep → (hidT s1.heap (headT K a vs ns ts)).get? b = some o := fun e d =>
    grd e (fun _ _ z => by rw [d] at z; cases z) (fun z => by rw [d] at z; cases z)
  have nsK : ∀ {b : Addr} {m : Str → Option Value}, s1.heap.Ns b m → (hidT s1.heap (headT K a vs ns ts)).Ns b m := fun ⟨o, es, ep, e, d, r⟩ => ⟨o, es, ep, dictG e d, d, r⟩
  have nK : ∀ b ∈ ts, K.lookup b = none := fun b hb => by
    obtain ⟨p, hp, e⟩ := ofT b hb
    rw [← e]; exact nT p hp
  have kin : K.In (hidT s1.heap (headT K a vs ns ts)) := fun b o e => hidT_get (KX b o e) (by
    have nb : b ∉ ts := fun z => by rw [nK b z] at e; cases e
    rw [headT_out nb]
    exact if_neg fun z => by rw [z.1, z.2] at e; cases e)
  have hS : SqL K (headT K a vs ns ts) a (ns.map V.int) := by
    cases q : K.lookup a with
    | none => exact .inl (.inr ⟨_, (headT_out aT).trans (if_pos ⟨rfl, q⟩)⟩)
    | some o =>
      have e := KX a o q
      rw [ha] at e; cases e
      exact .inr ⟨_, vs.toArray, _, q, rfl, rfl, rfl, by rw [List.size_toArray, hi.length]; exact hl, by simpa using rv⟩
  have hok : HOk P w (headT K a vs ns ts) s1.heap := fun b u z => by
    by_cases hb : b ∈ ts
    · rw [headT_in hb] at z; cases z
      exact tabO b hb
    · rw [headT_out hb] at z
      by_cases q : b = a ∧ K.lookup a = none
      · have z' := (if_pos q).symm.trans z
        cases z'
        rw [q.1]
        exact ⟨ha, by rw [List.length_map]; exact hl, vs, _, rv, ha⟩
      · cases (if_neg q).symm.trans z
  have hM : Mod K mg (hidT s1.heap (headT K a vs ns ts)) := ⟨kin, nsK hns, ⟨mb, nsK hb, hbb⟩, hlim.imp fun mc h => ⟨nsK h.1, h.2⟩⟩
  have TB : ∀ p ∈ cs, TabB (hidT s1.heap (headT K a vs ns ts)) mg p.1 p.2.1 := fun p hp => by
    have hTp := hT p hp
    refine ⟨?_, ?_, fun z => ?_⟩
    · obtain ⟨o, us, file, tf, flags, tg, inF, text, tt, e1, r1, r2, r3, r⟩ := hC p hp
      refine ⟨o, us, file, tf, flags, tg, inF, text, tt, grd e1 (fun _ _ z => ?_) (fun z => ?_), r1, r2, r3, r⟩
      · rw [r2] at z; cases z
      · rw [r2] at z; cases z
        simp at r3
    · obtain ⟨bm, ob, b1, b2, b3, b4, b5, b6⟩ := hbm
      refine ⟨bm, ob, b1, b2, fun q => ?_, fun q => ?_, grd b3 (fun _ _ z => ?_) (fun z => ?_), b4, b5, b6⟩
      · obtain ⟨o, es, ep, e, hd, _⟩ := hns
        rw [q, e] at b3; cases b3
        rw [hd] at b6; cases b6
      · rw [q, hTp] at b3; cases b3
        cases b6
      · rw [b6] at z; cases z
      · rw [b6] at z; cases z
    · obtain ⟨o, es, ep, e, hd, _⟩ := hns
      rw [z, hTp] at e; cases e
      cases hd
  obtain ⟨y, e1, o1, r1⟩ := hx
  have tabI : ∀ p q, Tabs0.nm p = some q → p ∈ ts := fun p q z => by
    obtain ⟨c, hc, e⟩ := List.mem_map.mp (T.all p q z)
    cases e
    exact memT c hc
  have rS : Rep ⟨headT K a vs ns ts, fun b => b ∈ ts, fun b => b ∈ ts⟩ (.scr K (ns.map V.int)) (.ref a) := by
    refine ⟨a, rfl, ?_, tabI⟩
    rcases hS with (h | ⟨o, h⟩) | q
    · exact .inl ⟨_, h, aT, .inl rfl⟩
    · exact .inl ⟨_, h, aT, .inr ⟨o, rfl⟩⟩
    · exact .inr q
  have hsp : toSp sp [.ref a] (headT K a vs ns ts) (fun v _ => v = .bl true) (fun _ _ _ => False) := by
    refine ⟨y, fun _ => False, ⟨headT K a vs ns ts, fun b => b ∈ ts, fun b => b ∈ ts⟩, rfl, ⟨fun b h z => ?_, fun b h => h.elim, fun b h => ⟨h, fun z => z, ?_⟩⟩, by rw [e1]; exact RepL.one rS, o1, fun d v W' h _ _ rp => by rw [r1 d h] at rp; exact rp⟩
    · have z : headT K a vs ns ts b = none := z
      rw [headT_in h] at z; cases z
    · obtain ⟨p, hp, e⟩ := ofT b h
      have nm : Tabs0.nm b = some p.2.2 := by
        rw [← e]; exact T.sound (p.2.1, p.2.2) (List.mem_map.mpr ⟨p, hp, rfl⟩)
      unfold OwnAt
      rw [nm]
      exact TabS.nil (headT_in h)
  refine codeAny_mono ((F _ TB).2 callerA [] s1 _ ⟨[.ref a], []⟩ [.ref a] [.ref a] _ _ hr rfl ⟨rfl, hM, fun b o e => of_hidT e, Nat.le_of_eq (hidT_size _ _), trivial, fun b hb => absurd (show b ∈ ([] : List Addr) from hb) (by simp), hok, .of_eq hg⟩ (hbind s1 (.ref a)) (.cons rfl .nil) hsp) fun r s' h => ?_
  match r, h with
  | .error _, h => exact (show False from h).elim
  | .ok .next, h => exact (show False from h).elim
  | .ok .brk, h => exact (show False from h).elim
  | .ok .cont, h => exact (show False from h).elim
  | .ok (.ret u), ⟨v, H', os, bare, un, hok', r', q⟩ =>
    have q' : v = .bl true := q
    subst q'
    obtain rfl : u = Value.bool true := r'
    have key : ∀ b o, b ∉ ts → s1.heap.get? b = some o → s'.heap.get? b = some o := fun b o nb e => by
      by_cases c : b = a ∧ K.lookup a = none
      · have z : headT K a vs ns ts b = _ := (headT_out nb).trans (if_pos c)
        have e3 := (hok b _ z).1
        rw [e] at e3; cases e3
        exact (hok' b _ (un.frzs b _ _ z)).1
      · exact un.keep b o e ((headT_out nb).trans (if_neg c)) (by intro z; exact absurd (show b ∈ ([] : List Addr) from z) (by simp)) (by simp)
    have grown : ∀ b ∈ ts, ∃ more : Array Value, s'.heap.get? b = some { cls := .none, data := .fields more } := fun b hb => by
      obtain ⟨more, z⟩ := un.tbls b #[] (headT_in hb)
      exact ⟨_, hok' b _ z⟩
    refine ⟨rfl, ⟨fun b o e => ?_, fun b o e => ?_⟩, os, bare⟩
    · by_cases hb : b ∈ ts
      · obtain ⟨more, hm⟩ := grown b hb
        rw [tabO b hb] at e; cases e
        obtain ⟨p, hp, ep⟩ := ofT b hb
        have CT := (hC p hp).tab (hT p hp)
        rw [ep] at CT
        exact .inr (.inl ⟨CT.isCodeTable, rfl, #[], more, rfl, by rw [Array.empty_append]; exact hm⟩)
      · exact .inl (key b o hb e)
    · by_cases hb : b ∈ ts
      · obtain ⟨more, hm⟩ := grown b hb
        exact ⟨_, hm⟩
      · exact ⟨o, key b o hb e⟩
end
/-- the table of a def of the law's text is empty, its code object stands -/
def TabOf (K : PySem.W.Frag) (f : Addr) (h : Heap) : Prop := ∀ (c P : Addr) (o : Obj) (fd : FuncData) (e : Value) (dd : Option Addr) (vs : Array Value) (sl : Array (Option Value)), K.lookup f = some o → o.data = .func fd → fd.code = .ref c → K.lookup c = some ⟨e, dd, .fields vs, sl⟩ → vs[11]? = some (.ref P) →
  h.get? P = some { cls := .none, data := .fields #[] } ∧ PySem.W.CodeHd h c P
end Dw

/-! The end of a law with tables of code objects. -/
namespace Dw
open PySem PySem.Spec PyProof.Rows L2 LamX
/-- what the end must bring -/
def EndT (l : PySem.W.OpenLaw) (w : World) (K : PySem.W.Frag) (mg : Str → Option Value) (k : Nat) (fa : Addr) (x : Str) (h : Heap) (sp : Spc) : Prop :=
  ∃ (fd : FuncData) (I : Tabs0) (cs : List (Addr × Addr × Str)), (∀ (s : Shared) (u : Value), BindsTo s fd ⟨[u], []⟩ [(x, u)]) ∧ @TabsOk I (cs.map fun p => (p.2.1, p.2.2)) ∧ (∀ p ∈ cs, h.get? p.2.1 = some { cls := .none, data := .fields #[] }) ∧ (∀ p ∈ cs, K.lookup p.2.1 = none) ∧ (∀ p ∈ cs, PySem.W.CodeHd h p.1 p.2.1) ∧
    ∀ base : Heap, (∀ p ∈ cs, TabB base mg p.1 p.2.1) → @FnG I l.prog w K mg base k fa fd [x] sp
theorem walk_GT {l : PySem.W.OpenLaw} {k : Nat} {x : Str} {q : Program} {loose : List Str} {XP : (Str → Option Value) → Heap → Prop} {YP : World → Heap → Prop} {d : DefRec} {K : Params → PySem.W.Frag} {sp : PySem.W.Frag → Spc} (hn : l.most = some 63) (hdf : d.params.defaults = []) (hr : Room k callerA)
    (hY : ∀ (w : World) (h : Heap), YP w h → (K w.params).In h) (hsp : ∀ (K : PySem.W.Frag) (ns : List Int), ns.length ≤ 63 → (∀ z ∈ ns, Builtin.Int.intBits z ≤ 1048576) → ∃ y : (sp K).ty, (sp K).args y = [.scr K (ns.map V.int)] ∧ (sp K).ok y ∧ ∀ d, (sp K).rel y d → d = .bl true)
    (F : ∀ (w : World) (mg : Str → Option Value) (fa : Addr) (h : Heap), (K w.params).In h → h.Ns mainGlobals mg → mg d.name = some (.ref fa) → (∀ (y : Str) (f : Addr), ((recsOf q).any fun e => e.name == y) = true → mg y = some (.ref f) → TabOf (K w.params) f h) → EndT l w (K w.params) mg k fa x h (sp (K w.params))) :
    PySem.W.WalkO q loose XP YP l.row.toRowW d [] (fun f vs => PySem.call f vs) := by
  refine Att.attach_callB hn hdf fun w _ s1 mg mb fa _ _ _ _ a _ ns G Y _ _ _ hmg hobj hints hlen hbits hg => ?_
  have KX := hY w _ Y
  obtain ⟨fd, I, cs, hb, T, hT, nT, hC, hF⟩ := F w mg fa _ KX G.T.g hmg fun y f hy hm c P o1 fd1 e dd vs1 sl k1 k2 k3 k4 k5 => by
    obtain ⟨dL, hm1, hn1⟩ := List.any_eq_true.mp hy
    have hn2 : dL.name = y := beq_iff_eq.mp hn1
    obtain ⟨a', o', fd', c', P', h1, h2, h3, h4, h5, h6⟩ := G.T.tab dL hm1
    rw [hn2, hm] at h1; cases h1
    have g1 := KX _ _ k1
    rw [g1] at h2; cases h2
    rw [k2] at h3; cases h3
    rw [k3] at h4; cases h4
    have CH := PySem.W.CodeHd.of h5 h6
    obtain ⟨⟨oc, vc, e1, _, e3, e4⟩, hP⟩ := h6
    have g2 := KX _ _ k4
    rw [g2] at e1; cases e1
    cases e3
    rw [k5] at e4; cases e4
    exact ⟨hP, CH⟩
  exact @head_callT I _ _ _ _ _ _ _ _ _ _ _ _ _ _ cs T KX G.T.g G.T.b G.T.builtins G.T.nolimit hg hobj hints (Nat.le_trans hlen (by decide)) hr hT nT hC G.T.bmain hF hb (hsp _ ns hlen hbits)
end Dw

/-! What is told of an error's class, by a row of truth values. -/
namespace Dw
open PySem PySem.Spec PyProof.Rows L2 LamX
theorem TabsOk.uniq [Tabs0] {Tt : List (Addr × Str)} (T : TabsOk Tt) {P : Addr} {q : Str} (h : (P, q) ∈ Tt) : ∀ p ∈ Tt, p.1 = P → p.2 = q := fun p hp e => by
  have h1 := T.sound p hp
  have h2 := T.sound (P, q) h
  rw [e] at h1
  rw [h1] at h2
  exact Option.some.inj h2
end Dw

/-! [f for a in xs if p for b in ys if q]; all of whole numbers. -/
namespace Dw
open PySem PySem.Spec PyProof.Rows L2
variable [Tabs0]
/-- what is walked stands out of the reach of what changes -/
structure ItK (W : Wd) (J : It) (xs : List D) : Prop where
  go : ∀ (W1 : Wd) (i : Nat) (x : D), (∀ a u, W.H a = some u → ¬ W.U a → W1.H a = some u ∧ ¬ W1.U a) → W1.P = W.P → xs[i]? = some x → J.go i W1.H ∧ ∀ v H', J.yld i W1.H v H' → Same W1.H H' ∧ Rep (W1.at H') x v
  stop : ∀ (W1 : Wd), (∀ a u, W.H a = some u → ¬ W.U a → W1.H a = some u ∧ ¬ W1.U a) → J.stop xs.length W1.H
section
variable {K : PySem.W.Frag} {Γ : Gam} {t : TE} {ta : TA} {xs : List D}
end
section
variable {Γ : Gam} {wi wi1 : TI} {g g1 : TG} {tt tt1 : TT} {te : TE} {vs vs1 : List Nat}
end

/-! ### all of whole numbers -/
/-! ### xs = [e, ..], a list of one's own that is drawn -/
end Dw

/-! max of a list; sorted of a tuple of whole numbers. -/
namespace Dw
open PySem PySem.Spec PyProof.Rows L2
variable [Tabs0]
section
variable {K : PySem.W.Frag} {Γ : Gam} {ta tb : TE}
end
end Dw

/-! Errors with a field: made, asked for their class and their field, shown. -/
namespace Dw
open PySem PySem.Spec PyProof.Rows L2 LamX
variable [Tabs0]
/-! ### X(given), where X's __init__ stores it -/
/-- the promise of such an __init__ -/
def spXI (C : Addr) (f : Str) : Sp := fun vs H Q _ => ∃ (a : Addr) (y : V), vs = [.ref a, y] ∧ H a = some (exo a C none) ∧ ∀ dx, H dx = none → dx ≠ a → Q .non (upd (upd H dx (exd dx [(f, y)])) a (exo a C (some dx)))
section
variable {P : Program} {w : World} {K : PySem.W.Frag} {mg : Str → Option Value} {base : Heap}
theorem fn_xinit {qual x f : Str} {st : Stmt} {fa C : Addr} {fd : FuncData} {N ps : List Str} {k : Nat} (F : Fun K x qual st fa fd) (S : FnScope N ps (defScope st)) (hp : ps.length = 2) (T : OexC K C) (hno : PySem.W.findIn K (.ref C) f = some none)
    (hN : N.length = 2)
    (hbody : ∀ (cdv : Value) (A : Around) (outer : List Env) (s' : Shared) (H : Hp) (E : XK), PSs (cxOf CX0 P w K mg base N qual (defScope st) fa cdv A outer s' H E).nox (defBody st) (tOst K f (tVar 0) (tVar 1))) :
    FnOk P w K mg base CX0 (k + 1) fa fd ps (spXI C f) :=
  F.ok S (fun vs H Q E ⟨a, y, e, _⟩ => by rw [e, hp]; rfl) fun cdv A outer s' H vs Q E hr ⟨a, y, e, ha, q⟩ => by
    subst e
    refine ⟨_, hbody cdv A outer s' H E, ?_⟩
    have e0 : (L2.start N [.ref a, y])[0]? = some (some (V.ref a)) := by unfold L2.start; simp
    have e1 : (L2.start N [.ref a, y])[1]? = some (some y) := by unfold L2.start; simp
    exact ⟨y, e1, .ref a, e0, a, C, rfl, T, hno, .inl ⟨ha, fun dx h1 h2 => q dx h1 h2⟩⟩
end
/-! ### raise X(e) -/
theorem ers_raiseF {Γ : Gam} {C : Addr} {f : Str} {ta : TA} {d : D} {E : XK} {x : Exn} (hx : x = ⟨C, [(f, d)]⟩) (h : EvA ta Γ [d]) : ErS (fun _ σ H => tMkO C (spXI C f) [] ta σ H fun cls ed H' => E cls ed H') Γ x (fun ed H' => E (.ref C) ed H') := fun F σ W Dr g k => h F σ W _ g fun vs H1 s1 r => by
  subst hx
  obtain ⟨v, _, rfl, rv, rfl⟩ := r
  refine ⟨by show 1 ≤ 1000; decide, fun a ha => ⟨a, v, rfl, upd_same, fun dx hd hne => ⟨rfl, dx, [(f, v)], upd_same, ?_, ?_, ?_⟩⟩⟩
  · rw [upd_ne hne, upd_same]
  · rw [upd_ne hne] at hd
    exact hd
  · have hd1 : H1 dx = none := by rw [upd_ne hne] at hd; exact hd
    have sm : Same H1 (upd (L2.del (upd (upd (upd H1 a (exo a C none)) dx (exd dx [(f, v)])) a (exo a C (some dx))) a) dx (.xd [(f, v)])) := fun b u e => by
      have nb : b ≠ dx := fun z => by rw [z, hd1] at e; cases e
      have na : b ≠ a := fun z => by rw [z, ha] at e; cases e
      rw [upd_ne nb, L2.del_ne na, upd_ne na, upd_ne nb, upd_ne na]
      exact e
    refine k (some dx) _ (Same.trans s1 sm) ⟨fun dd e => ?_, dx, [v], rfl, ?_, upd_same, v, [], rfl, ?_, rfl⟩
    · cases e
      exact s1.free hd1
    · exact fun u => g.ok.dom dx u (s1.free hd1)
    · exact Rep.same (W := W.at H1) sm rv
/-! ### asking the held error -/
section
variable {X : Cx} {a D0 : Addr} {oe : Obj} {ed : Option Addr}
end
end Dw

/-! Errors with fields, as told's suite reads them; repr of any data. -/
namespace Dw
open PySem PySem.Spec PyProof.Rows L2 LamX
variable [Tabs0]
/-! ### repr of any data -/
def rReprX (K : PySem.W.Frag) : List V → Hp → VK → Prop := fun xs H Q => ∃ (v : V) (d : PyData), xs = [v] ∧ Dp K H v d ∧ d.showable = true ∧ d.hasDict = false ∧ d.depth ≤ 64 ∧ d.shown.length ≤ sizeLine ∧ Q (.str d.shown) H
theorem cr_reprX {X : Cx} (hu : X.A.units + 66 < PySem.cLine) (hG : X.A.guards = some []) : CallR X (.builtin "repr") (rReprX X.K) := by
  intro pins s σ H xs us Q I r h
  obtain ⟨v, d, rfl, hd, h1, h2, h3, h4, q⟩ := h
  obtain ⟨u, rfl, ru⟩ := vals1 r
  cases d with
  | none =>
    cases hd
    obtain rfl : u = Value.none := ru
    exact P.repr_of_none ⟨.str _, H, I.tok _, ⟨_, rfl⟩, q⟩
  | bool b =>
    cases hd
    obtain rfl : u = Value.bool b := ru
    cases b
    · exact P.repr_of_bool ⟨.str _, H, I.tok _, ⟨_, rfl⟩, q⟩
    · exact P.repr_of_bool ⟨.str _, H, I.tok _, ⟨_, rfl⟩, q⟩
  | int i =>
    cases hd
    obtain ⟨t, rfl⟩ := ru
    exact P.repr_of_int (of_decide_eq_true h1) ⟨.str _, H, I.tok _, ⟨_, rfl⟩, q⟩
  | str x =>
    cases hd
    obtain ⟨t, rfl⟩ := ru
    exact P.repr_of_str ⟨.str _, H, I.tok _, ⟨_, rfl⟩, q⟩ h4
  | list ds =>
    cases hd with | lst e l => ?_
    cases ru
    obtain ⟨as, r1⟩ := Dp.reads I (.list ds) _ _ (.lst e l) rfl
    exact repr_of_reads' r1 h1 (PyData.noDict_hsm h2) hG (by omega) (fun _ _ e => e) (fun h' u tk hk => ⟨.str _, H, I.kept (t' := tk) hk, ⟨_, rfl⟩, q⟩) h4
  | tuple ds =>
    cases hd with | tup e l => ?_
    cases ru
    obtain ⟨as, r1⟩ := Dp.reads I (.tuple ds) _ _ (.tup e l) rfl
    exact repr_of_reads' r1 h1 (PyData.noDict_hsm h2) hG (by omega) (fun _ _ e => e) (fun h' u tk hk => ⟨.str _, H, I.kept (t' := tk) hk, ⟨_, rfl⟩, q⟩) h4
  | dict kv => cases hd
/-! ### held readings -/
section
variable {Γ : Gam} {x : Exn} {ed : Option Addr} {t tr : TA} {te ta tb : TE} {d : D} {ds es : List D} {K : PySem.W.Frag}
theorem evh_op {r : R2} {d1 d2 : D} (ha : EvH ta Γ x ed d1) (hb : EvH tb Γ x ed d2) (hr : DR2 r d1 d2 d) : EvH (tOp r ta tb) Γ x ed d := fun F σ W Q g hx k =>
  ha F σ W _ g hx fun u H s l => hb F σ (W.at H) _ (g.same s) (hx.same s) fun v H' s' l' => hr (W.at H') u v Q ((g.same s).same s').ok.dom (Rep.same (W := W.at H) s' l) l' fun z H'' s'' q => k z H'' (Same.trans s (Same.trans s' s'')) q
theorem fs_look {W : Wd} {f : Str} {d : D} : ∀ {fs : List (Str × D)} {vs : List V}, fs.lookup f = some d → RepL W (fs.map fun z => z.2) vs → ∃ v, ((fs.map fun z => z.1).zip vs).lookup f = some v ∧ Rep W d v
  | [], _, h, _ => by cases h
  | (g, e) :: fs, vs, h, r => by
    obtain ⟨v, ws, rfl, rv, rw'⟩ := r
    simp only [List.map_cons, List.zip_cons_cons, List.lookup_cons] at h ⊢
    cases q : f == g with
    | true =>
      rw [q] at h
      cases h
      exact ⟨v, rfl, rv⟩
    | false =>
      rw [q] at h
      exact fs_look h rw'
/-- e.f -/
theorem evh_xf {a : Addr} {f : Str} (h : Ev te Γ (.raw (.ref a))) (hf : x.fs.lookup f = some d) : EvH (tXf a (.ref x.C) ed x.C f te) Γ x ed d := fun F σ W Q g hx k =>
  h F σ W _ g fun v H s r => by
    have hx' : ExHeld (W.at H) x ed := hx.same s
    obtain ⟨C, fs⟩ := x
    cases fs with
    | nil => cases hf
    | cons f0 fs =>
      obtain ⟨dd, vs, e, _, hd, r2⟩ := hx'
      obtain ⟨v1, l, rv⟩ := fs_look hf r2
      exact ⟨r, rfl, dd, _, v1, e, hd, l, k v1 H s rv⟩
theorem rep_reprX {W : Wd} {k : Nat} {v : V} {Q : VK} (r : Rep W d v) (h1 : dOk k d = true) (hk : k ≤ 64) (h2 : shOk d = true) (h3 : shB d ≤ sizeLine) (q : Q (.str (PyData.shown (py d))) W.H) : rReprX K [v] W.H Q := by
  obtain ⟨p1, _, p3⟩ := dOk_py k _ h1
  obtain ⟨s1, s2⟩ := shOk_py _ h2
  exact ⟨v, _, rfl, dp_of d v p1 r, s1, s2, Nat.le_trans p3 hk, Nat.le_trans (shB_le k d h1) h3, q⟩
end
end Dw

/-! x -= e; a = b = e. -/
namespace Dw
open PySem PySem.Spec PyProof.Rows L2
variable [Tabs0]
section
variable {Γ : Gam} {te : TE} {De : DE} {d : D}
end
end Dw

/-! A tuple of whole numbers in a list of such: in, index. -/
namespace Dw
open PySem PySem.Spec PyProof.Rows L2
variable [Tabs0]
theorem inDA {X : Cx} {k : Nat} (K : PySem.W.Frag) (r : Room k X.A) (hK : X.K = K := by rfl) : OpR X (compareOp .In) (rInD K) := hK ▸ op_inD (by have := r.un; omega)
theorem plain_ordN : ∀ o : List Nat, PyData.plainAll (pys (ordN o)) = true
  | [] => rfl
  | k :: o => by
    show (PyData.plain (.int k) && PyData.plainAll (pys (ordN o))) = true
    rw [plain_ordN o]; rfl
@[reducible] def dtT : PySem.W.Datum (List Nat) where
  toD o := py (.tup (ordN o))
  plain o := plain_ordN o
  eqv a b := eqv_ints a b
  depth := 1
  depth_le o := (dOk_py 1 (.tup (ordN o)) (dOks_map fun _ _ => rfl)).2.2
end Dw

/-! sorted of a list of tuples of whole numbers that stands in order; an expression read in one of two ways. -/
namespace Dw
open PySem PySem.Spec PyProof.Rows L2
variable [Tabs0]
theorem pe_or2 {X : Cx} {e : Expr} {t u : TE} (h : PE X e t) (h' : PE X e u) : PE X e (fun σ H Q => t σ H Q ∨ u σ H Q) := ⟨fun pins s σ H Q I z => z.elim (h.run pins s σ H Q I) (h'.run pins s σ H Q I)⟩
end Dw

/-! x, ys, zs = e, [..], [..] where ys and zs are one's own. -/
namespace Dw
open PySem PySem.Spec PyProof.Rows L2
variable [Tabs0]
end Dw

/-! sorted of alike data; sorted(xs, key=lambda x: (len(x), x)) of tuples of whole numbers. -/
namespace Dw
open PySem PySem.Spec PyProof.Rows L2 LamX
section
variable {X : Cx} {pins : List (Addr × Obj)} {σ : L2.St} {H : Hp} {s : Shared} {β : Type}
end
/-! ### key=lambda x: (len(x), x) -/
section
variable {X : Cx} {pins : List (Addr × Obj)} {σ : L2.St} {H : Hp} {s : Shared}
end

end Dw

/-! Tagged data (what stands beside it: all tables may change); sorted lots by data. -/
namespace Dw
open PySem PySem.Spec PyProof.Rows L2 LamX
variable [Tabs0]
/-! ### tags -/
section
variable {Γ : Gam} {t : TE} {d e : D} {i : Nat} {Q : D → Gam → Prop}
def TabIn (W : Wd) : Prop := ∀ p q, Tabs0.nm p = some q → W.P p
/-- a slot that knows of the tables -/
def TgS (s : Sl) : Prop := s = .val .purse ∨ ∃ d, s = .val (.tag d)
theorem TgS.purse : TgS (.val .purse) := .inl rfl
theorem TgS.tag {d : D} : TgS (.val (.tag d)) := .inr ⟨d, rfl⟩
theorem SR.tabs {F : Addr → Prop} {Γ : Gam} {σ : L2.St} {W : Wd} {s : Sl} (g : SR F Γ σ W) (h : Γ[i]? = some s) (ht : TgS s) : TabIn W := by
  rcases ht with rfl | ⟨d, rfl⟩
  · obtain ⟨_, _, _, _, _, _, t⟩ := g.val i .purse h
    exact t
  · obtain ⟨_, _, _, t⟩ := g.val i (.tag d) h
    exact t
theorem ev_untag (h : Ev t Γ (.tag d)) : Ev t Γ d := fun F σ W Q g k => h F σ W Q g fun v H s r => k v H s r.1
theorem ev_tag {s : Sl} (hs : Γ[i]? = some s) (ht : TgS s) (h : Ev t Γ d) : Ev t Γ (.tag d) := fun F σ W Q g k => h F σ W Q g fun v H s r => k v H s ⟨r, g.tabs hs ht⟩
end
/-! ### the order of lots -/
/-! ### what is sorted, as data -/
section
variable {K : PySem.W.Frag} {Γ : Gam} {Tt : List (Addr × Str)} {P : Addr} {q : Str} {i : Nat} {te : TE} {l : List (List Nat)} {Q : D → Gam → Prop}
end
/-! ### sorted of alike data -/
end Dw

/-! A def that makes a lambda for sorted. -/
namespace Dw
open PySem PySem.Spec PyProof.Rows L2 LamX
variable [Tabs0]
section
variable {P : Program} {w : World} {K : PySem.W.Frag} {mg : Str → Option Value} {base : Heap}
end
end Dw
namespace Dw
open PySem PySem.Spec PyProof.Rows L2
variable [Tabs0]
/-- an own list, lent for the time of a test -/
theorem evt_lend {Γ : Gam} {t : TT} {b : Bool} (i : Nat) {ds : List D} (hi : Γ[i]? = some (.own ds)) (h : EvT t (Γ.set i (.val (.lst ds))) b) : EvT t Γ b := fun F σ W Q g k => by
  obtain ⟨a, vs, hs, _⟩ := g.own i ds hi
  obtain ⟨st, g2⟩ := g.freeze hi hs
  exact h F σ ⟨W.H, fun b => W.U b ∧ b ≠ a, W.P⟩ Q g2 k
end Dw
namespace Dw
open PySem PySem.Spec PyProof.Rows L2
variable [Tabs0]
end Dw

/-! told of what changes tables; several tables. -/
namespace Dw
open PySem PySem.Spec PyProof.Rows L2 LamX
variable [Tabs0]
section
variable {K : PySem.W.Frag} {Γ : Gam} {Tt : List (Addr × Str)} {P : Addr} {q wd : Str} {c1 c2 : Value} {n ie i : Nat} {ts : Addr → Value → Option Addr → TS} {t : XK → TE} {Q Q1 : D → Gam → Prop}
end
section
variable {Γ : Gam} {s : Spc} {sp : Sp} {ta tk : TA} {E : XK} {ds es : List D} {Q : D → Gam → Prop}
end
end Dw
namespace Dw
open PySem
theorem mem_lk {p : Addr} {q : Str} : ∀ {l : List (Addr × Str)}, l.lookup p = some q → (p, q) ∈ l
  | [], h => by cases h
  | a :: l, h => by
    cases e : p == a.1 with
    | true =>
      rw [List.lookup, e] at h
      have h : some a.2 = some q := h
      have e1 : p = a.1 := by simpa using e
      rw [e1, ← Option.some.inj h]
      exact List.mem_cons_self
    | false =>
      rw [List.lookup, e] at h
      exact List.mem_cons_of_mem _ (mem_lk h)
/-- tables by their list -/
theorem tabsOk_of {l : List (Addr × Str)} (nd : (l.map (·.1)).Nodup) : @TabsOk ⟨fun a => l.lookup a⟩ l := by
  refine @TabsOk.mk ⟨fun a => l.lookup a⟩ l (fun p hp => ?_) fun p q z => mem_lk z
  show l.lookup p.1 = some p.2
  induction l with
  | nil => cases hp
  | cons a l ih =>
    obtain ⟨n1, n2⟩ := List.nodup_cons.mp nd
    rcases List.mem_cons.mp hp with rfl | hp
    · simp [List.lookup]
    · have : p.1 ≠ a.1 := fun z => n1 (List.mem_map.mpr ⟨p, hp, z⟩)
      have e : (p.1 == a.1) = false := by simpa using this
      rw [List.lookup, e]
      exact ih n2 hp
theorem f_cons {α : Type} {P : α → Prop} {a : α} {l : List α} (h : P a) (t : ∀ p ∈ l, P p) : ∀ p ∈ a :: l, P p := fun p hp => (List.mem_cons.mp hp).elim (fun e => e ▸ h) (t p)
theorem f_nil {α : Type} {P : α → Prop} : ∀ p ∈ ([] : List α), P p := fun _ h => absurd h (by simp)
end Dw

/-! sorted(set(xs)), xs a list of whole numbers. -/
namespace Dw
open PySem PySem.Spec PyProof.Rows L2
variable [Tabs0]
section
variable {P : Program} {w : World} {A : Around} {E : Value → Shared → Prop} {s : Shared}
end
def rSetL (K : PySem.W.Frag) (w : World) : List V → Hp → VK → Prop := fun vs H Q => ∃ (a : Addr) (ns : List Int), vs = [V.ref a] ∧ SqL K H a (ns.map V.int) ∧ ns.length < 64 ∧
  ∀ (p : Addr) (c : Nat), H p = none → c ≤ ns.length → Q (.ref p) (upd H p (SetO w p (fun j => decide (j ∈ ns)) c))
end Dw

/-! own dicts: d = {}, d[k] = v, d[k] -/
namespace Dw
open PySem PySem.Spec PyProof.Rows L2
variable [Tabs0]
section
variable {K : PySem.W.Frag} {Γ : Gam} {ta tb te tk ty : TE} {De : DE} {ds : List D} {d : D}
end
end Dw

/-! str, repr, bool, == and != of objects whose class has its own __str__, __repr__, __eq__ (and no __bool__, __len__, __ne__). -/
namespace Dw
open PySem PySem.Spec PyProof.Rows L2
section
variable {X : Cx}
/-- a def of the text, called somewhere below the running body -/
theorem run_below {k : Nat} {f : Addr} {fd : FuncData} {ps : List Str} {sp : Sp} (F : FnOk X.prog X.w X.K X.mg X.base CX0 k f fd ps sp) {A : Around} (hr : Room k A) (fr : A.frames = X.A.frames) (hb : Binds X.K fd ps [])
    {pins : List (Addr × Obj)} {σ : L2.St} {H : Hp} {s : Shared} {us : List Value} {vs : List V} {Q : VK} {E1 : Value → Shared → Prop} (I : Inv X pins σ H s) (r : Vals vs us) (hsp : sp vs H Q E0) {R : Value → Shared → Prop}
    (hR : ∀ u s', EP X pins σ Q u s' → R u s') : wpAny (model X.prog X.w) A (call (.ref f) us) R E1 s := by
  have e0 : Env0 X.prog X.w X.K X.mg X.base A X.stack s H := by
    have e := I.env0
    exact ⟨by rw [fr]; exact e.frames, e.mod, e.bs, e.bsz, e.funs, e.frf, e.hok, e.bare⟩
  have hl : us.length = ps.length := by rw [← r.length]; exact F.len _ _ _ _ hsp
  have b := hb s us I.kIn (by rw [List.append_nil]; exact hl)
  rw [List.append_nil] at b
  refine wpAny_call (codeAny_mono (F.run A X.stack s H ⟨us, []⟩ us vs Q E0 hr e0 b r hsp) fun r s' hq => ?_)
  match r, hq with
  | .error e, hq => exact (show False from hq).elim
  | .ok .next, hq => exact (show False from hq).elim
  | .ok .brk, hq => exact (show False from hq).elim
  | .ok .cont, hq => exact (show False from hq).elim
  | .ok (.ret u), hq => exact hR _ _ (I.after hq)
/-- str(x), repr(x): the own def gives a text -/
def rOwn1 (C : Addr) (sp : Sp) : List V → Hp → VK → Prop := fun xs H Q => ∃ (a dx : Addr) (fs : List (Str × V)), xs = [.ref a] ∧ H a = some (.ins C dx fs) ∧ sp [.ref a] H (fun v H' => (∃ x, v = .str x) ∧ Q v H') E0
theorem str_back {pins : List (Addr × Obj)} {σ : L2.St} {Q : VK} {u : Value} {s' : Shared} (h : EP X pins σ (fun v H' => (∃ x, v = .str x) ∧ Q v H') u s') : PySem.W.StrBack (EP X pins σ Q) u s' := by
  obtain ⟨v, H', I', r, ⟨x, rfl⟩, q⟩ := h
  obtain ⟨t, rfl⟩ := r
  exact ⟨.str x, H', I', ⟨t, rfl⟩, q⟩
variable {C f : Addr} {fd : FuncData} {p : Str} {n : Nat} {sp : Sp}
theorem cr_strOwn (F : FnOk X.prog X.w X.K X.mg X.base CX0 n f fd [p] sp) (hr : Room (n + 2) X.A) (hs : PySem.W.findIn X.K (.ref C) "__str__" = some (some (.ref f))) (hf : PySem.W.isFn X.K (.ref f) = true) (hb : Binds X.K fd [p] []) : CallR X (.type "str") (rOwn1 C sp) := by
  intro pins s σ H xs us Q I r h
  obtain ⟨a, dx, fs, rfl, ha, hsp⟩ := h
  obtain ⟨u, rfl, ru⟩ := vals1 r
  cases ru
  obtain ⟨mA, J, _⟩ := ins_get I.hok ha
  obtain ⟨od, J, _⟩ := J.look
  refine PySem.W.kso_call (by have := hr.un; show X.A.units + 1 + 1 < cLine; omega) I.kIn J hs hf ?_
  exact run_below F hr.in1.in1 rfl hb I (vs := [V.ref a]) (us := [Value.ref a]) (.cons rfl .nil) hsp fun u s' h => str_back h
theorem cr_reprOwn (F : FnOk X.prog X.w X.K X.mg X.base CX0 n f fd [p] sp) (hr : Room (n + 1) X.A) (hs : PySem.W.findIn X.K (.ref C) "__repr__" = some (some (.ref f))) (hf : PySem.W.isFn X.K (.ref f) = true) (hb : Binds X.K fd [p] []) : CallR X (.builtin "repr") (rOwn1 C sp) := by
  intro pins s σ H xs us Q I r h
  obtain ⟨a, dx, fs, rfl, ha, hsp⟩ := h
  obtain ⟨u, rfl, ru⟩ := vals1 r
  cases ru
  obtain ⟨mA, J, _⟩ := ins_get I.hok ha
  obtain ⟨od, J, _⟩ := J.look
  obtain ⟨m, hF⟩ := I.fr
  refine PySem.W.repr_K (by have := hr.un; show X.A.units + 1 < cLine; omega) hF I.ok.mod.kin J hs hf ?_
  exact run_below F hr.in1 rfl hb I (vs := [V.ref a]) (us := [Value.ref a]) (.cons rfl .nil) hsp fun u s' h => str_back h
/-! ### == and != -/
/-- what stands on the right -/
def Right (K : PySem.W.Frag) (C : Addr) (H : Hp) (y : V) : Prop := y = .non ∨ (∃ b, y = .bl b) ∨ (∃ i, y = .int i) ∨ (∃ x, y = .str x) ∨ ∃ b, y = .ref b ∧ ((∃ xs, SqL K H b xs) ∨ (∃ xs, SqT K H b xs) ∨ (∃ kvs, H b = some (.dK kvs)) ∨ ∃ dx fs, H b = some (.ins C dx fs))
theorem nf_type {K : PySem.W.Frag} {C : Addr} : ∀ T ∈ (["NoneType", "bool", "int", "str", "list", "tuple", "dict"] : List String), PySem.W.notFirst K C (.type T) = true := by
  intro T hT
  simp only [List.mem_cons, List.not_mem_nil, or_false] at hT
  rcases hT with rfl | rfl | rfl | rfl | rfl | rfl | rfl <;> rfl
theorem looks_cls {h : Heap} {a : Addr} {o : Obj} {c : Value} (he : h.get? a = some o) (hc : o.cls = c) : PySem.W.Looks (model X.prog X.w) h (typeOf (.ref a)) c := fun A Q E s k q => wpAny_typeOf_ref (k _ _ he) (by rw [hc]; exact q)
theorem right_type {pins : List (Addr × Obj)} {σ : L2.St} {H : Hp} {s : Shared} {y : V} {v : Value} (I : Inv X pins σ H s) (hy : Right X.K C H y) (ry : RelV y v) : ∃ tb, PySem.W.Looks (model X.prog X.w) s.heap (typeOf v) tb ∧ PySem.W.notFirst X.K C tb = true := by
  rcases hy with rfl | ⟨b, rfl⟩ | ⟨i, rfl⟩ | ⟨x, rfl⟩ | ⟨b, rfl, h⟩
  · cases ry
    exact ⟨_, PySem.W.Looks.of_pure rfl, nf_type "NoneType" (by simp)⟩
  · cases ry
    exact ⟨_, PySem.W.Looks.of_pure rfl, nf_type "bool" (by simp)⟩
  · obtain ⟨t, rfl⟩ := ry
    exact ⟨_, PySem.W.Looks.of_pure rfl, nf_type "int" (by simp)⟩
  · obtain ⟨t, rfl⟩ := ry
    exact ⟨_, PySem.W.Looks.of_pure rfl, nf_type "str" (by simp)⟩
  · cases ry
    rcases h with ⟨xs, hq⟩ | ⟨xs, hq⟩ | ⟨kvs, hq⟩ | ⟨dx, fs, hq⟩
    · obtain ⟨its, rv, pl, hz⟩ := I.list hq
      obtain ⟨o, he, hc, _⟩ := pl.isList
      exact ⟨_, looks_cls he hc, nf_type "list" (by simp)⟩
    · obtain ⟨its, rv, e, hz⟩ := I.tuple hq
      obtain ⟨o, he, hc, _⟩ := e
      exact ⟨_, looks_cls he hc, nf_type "tuple" (by simp)⟩
    · obtain ⟨_, _, vs, _, o, es, ep, he, hx, _⟩ := (show ObjOk X.prog X.w H s.heap b (.dK kvs) from I.hok b _ hq)
      exact ⟨_, looks_cls he hx.1, nf_type "dict" (by simp)⟩
    · obtain ⟨mA, J, _⟩ := ins_get I.hok hq
      obtain ⟨od, J, _⟩ := J.look
      exact ⟨_, J.type, by simp [PySem.W.notFirst]⟩
/-- x == y: the own def gives a truth value -/
def rEqOwn (K : PySem.W.Frag) (C : Addr) (sp : Sp) : R2 := fun x y H Q => ∃ (a dx : Addr) (fs : List (Str × V)), x = .ref a ∧ H a = some (.ins C dx fs) ∧ Right K C H y ∧ sp [.ref a, y] H (fun v H' => (∃ b, v = .bl b) ∧ Q v H') E0
variable {p2 : Str}
open Builtin in
theorem ifBound_B {M : Model} {A : Around} {E : Value → Shared → Prop} {s : Shared} {K : PySem.W.Frag} {x C : Addr} {ox : Obj} {od : Option Obj} {name : Str} {id : String} {args : List Value} {Q : Option Value → Shared → Prop} (X : K.In s.heap) (I : PySem.W.InstAt s.heap x ox C od)
    (hs : PySem.W.findIn K (.ref C) name = some (some (.builtin id))) (hb : ∀ self, bindSpecial (.builtin id) self = pure (.builtin id, [self])) (h : wpAny M A (call (.builtin id) (.ref x :: args)) (fun v => Q (some v)) E s) : wpAny M A (callSpecialIfBound? (.ref x) name args) Q E s := by
  simp only [callSpecialIfBound?, bindSpecialIfBound?]
  refine wpAny_holding (wpAny_bind (wpAny_bind (wpAny_bind (I.type.here ((PySem.W.looks_findIn X hs).here ?_)))))
  refine wpAny_bind (wpAny_askSetting (wpAny_ite ?_))
  have fin : wpAny M A (call (.builtin id) ([.ref x] ++ args) >>= fun v => pure (some v)) Q E s := wpAny_bind (wpAny_mono h (fun v s' h' => wpAny_pure h') fun _ _ h' => h')
  split
  · exact wpAny_bind ((PySem.W.Looks.of_pure (hb _)).here (wpAny_pure (by exact fin)))
  · exact wpAny_tryCatch (wpAny_bind ((PySem.W.Looks.of_pure (hb _)).here (wpAny_pure (by exact fin))))
open Builtin in
/-- != of a class with an own == and no own !=: the opposite -/
theorem ne_K {prog : Program} {w : World} {A : Around} {E : Value → Shared → Prop} {s : Shared} {K : PySem.W.Frag} {x C f L : Addr} {h₀ : Heap} {m : Str → Option Value} {ox : Obj} {od : Option Obj} {b tb : Value} {Q : Value → Shared → Prop} (hu : A.units + 1 < cLine)
    (F : Fr h₀ L s.heap m) (X₀ : K.In h₀) (I : PySem.W.InstAt s.heap x ox C od) (hb : PySem.W.Looks (model prog w) s.heap (typeOf b) tb) (hn : PySem.W.notFirst K C tb = true) (hm : PySem.W.mroIn K C (.type "object") = some true)
    (hs : PySem.W.findIn K (.ref C) "__ne__" = some (some (.builtin "object.__ne__"))) (he : PySem.W.findIn K (.ref C) "__eq__" = some (some (.ref f))) (hf : PySem.W.isFn K (.ref f) = true)
    (h : wpAny (model prog w) A.in1 (call (.ref f) [.ref x, b]) (fun v s' => ∃ r, v = .bool r ∧ Q (.bool (!r)) s') E s) : wpAny (model prog w) A (richCompare .NotEq (.ref x) b) Q E s := by
  have X := X₀.keeps F.keep
  have one : wpAny (model prog w) A (tryCompare (.ref x) "__ne__" b) (fun r s' => ∃ v, r = some v ∧ Q v s') E s := by
    unfold tryCompare
    refine wpAny_bind (ifBound_B X I hs PySem.F.cmp_object.ne.bind (wpAny_call (codeAny_call_builtin PySem.F.cmp_object.ne.plain PySem.F.cmpEntry_ne (PySem.W.check_slot (i := "object.__ne__") (owner := "object") (n := "__ne__") (by decide +kernel) (by decide +kernel) (I.type.andThen (PySem.W.looks_mroIn X hm)) (PySem.F.cmpArgs_ne _ _) ?_))))
    unfold Builtin.«object.__ne__»
    refine wpAny_bind (m := slotArgs "__ne__" 1 _) (wpAny_pure ?_)
    refine wpAny_bind (m := cRoomFor _ _) (wpAny_cRoomFor (show A.units + 1 < cLine from hu) ?_)
    refine wpAny_bind (m := callSpecialIfBound? (.ref x) (Str.ofString "__eq__") [b]) (PySem.W.ifBound_K X I he hf (wpAny_mono h (fun r s' hr => ?_) fun _ _ y => y))
    obtain ⟨r, rfl, hq⟩ := hr
    exact wpAny_bind (wpAny_truthy_bool (wpAny_pure (wpAny_pure ⟨_, rfl, hq⟩)))
  unfold richCompare
  simp only [oneThing_ref]
  refine wpAny_holding (wpAny_bind (wpAny_cRoomFor (by omega) ?_))
  refine wpAny_bind (I.type.here (wpAny_bind (hb.here ?_)))
  split
  · rename_i q
    have e : PySem.W.subIn K tb (.ref C) = some false := by
      rcases Bool.or_eq_true_iff.mp hn with e | e
      · rw [beq_iff_eq.mp e] at q; simp at q
      · exact beq_iff_eq.mp e
    refine wpAny_bind ((PySem.W.looks_subIn X e).here ?_)
    simp only [Bool.false_eq_true, if_false]
    refine wpAny_bind (wpAny_mono one (fun r s' z => ?_) fun _ _ e => e)
    obtain ⟨v, rfl, hq⟩ := z
    exact wpAny_pure hq
  · refine wpAny_bind (wpAny_pure ?_)
    simp only [Bool.false_eq_true, if_false]
    refine wpAny_bind (wpAny_mono one (fun r s' z => ?_) fun _ _ e => e)
    obtain ⟨v, rfl, hq⟩ := z
    exact wpAny_pure hq
/-- x != y -/
theorem op_neOwn (F : FnOk X.prog X.w X.K X.mg X.base CX0 n f fd [p, p2] sp) (hr : Room (n + 1) X.A) (hm : PySem.W.mroIn X.K C (.type "object") = some true) (hn : PySem.W.findIn X.K (.ref C) "__ne__" = some (some (.builtin "object.__ne__"))) (hs : PySem.W.findIn X.K (.ref C) "__eq__" = some (some (.ref f))) (hf : PySem.W.isFn X.K (.ref f) = true) (hb : Binds X.K fd [p, p2] []) :
    OpR X (compareOp .NotEq) (fun x y H Q => rEqOwn X.K C sp x y H fun v H' => ∃ b, v = .bl b ∧ Q (.bl (!b)) H') := by
  intro pins s σ H x y u v Q I rx ry h
  obtain ⟨a, dx, fs, rfl, ha, hy, hsp⟩ := h
  cases rx
  obtain ⟨tb, LT, nf⟩ := right_type I hy ry
  obtain ⟨mA, J, _⟩ := ins_get I.hok ha
  obtain ⟨od, J, _⟩ := J.look
  obtain ⟨m, hF⟩ := I.fr
  show wpAny (model X.prog X.w) X.A (richCompare .NotEq (.ref a) v) (EP X pins σ Q) X.xe s
  refine ne_K (by have := hr.un; omega) hF I.ok.mod.kin J LT nf hm hn hs hf ?_
  refine run_below F hr.in1 rfl hb I (vs := [V.ref a, y]) (us := [Value.ref a, v]) (.cons rfl (.cons ry .nil)) hsp fun u s' hq => ?_
  obtain ⟨z, H', I', r, _, b, rfl, q⟩ := hq
  cases r
  exact ⟨b, rfl, .bl (!b), H', I', rfl, q⟩
/-! ### bool(x) -/
theorem truthy_own {M : Model} {A : Around} {E : Value → Shared → Prop} {s : Shared} {K : PySem.W.Frag} {x C : Addr} {ox : Obj} {od : Option Obj} {Q : Bool → Shared → Prop} (X : K.In s.heap) (I : PySem.W.InstAt s.heap x ox C od) (hs : PySem.W.findIn K (.ref C) "__bool__" = some none) (hl : PySem.W.findIn K (.ref C) "__len__" = some none) (h : Q true s) : wpAny M A (truthy (.ref x)) Q E s := by
  unfold truthy
  refine wpAny_bind (m := callSpecial? (.ref x) (Str.ofString "__bool__")) (wpAny_bind (wpAny_bind (I.type.here ((PySem.W.looks_findIn X hs).here (wpAny_pure ?_)))))
  refine wpAny_bind (wpAny_bind (I.type.here ((PySem.W.looks_findIn X hl).here ?_)))
  exact wpAny_pure h
theorem meets_bool_own {K : PySem.W.Frag} {x C : Addr} {ox : Obj} {od : Option Obj} (h1 : PySem.W.findIn K (.ref C) "__bool__" = some none) (h2 : PySem.W.findIn K (.ref C) "__len__" = some none) :
    Meets (Builtin.«bool.__new__» ⟨[.type "bool", .ref x], []⟩) (fun _ R s => (K.In s.heap ∧ PySem.W.InstAt s.heap x ox C od) ∧ R (.ok (.ret (.bool true))) s) :=
  Meets.of_wp fun prog w A R s hs => by
    obtain ⟨⟨hX, hI⟩, hs⟩ := hs
    have f1 := PySem.F.conv_sub_bool
    repeat (any_goals (first | assumption | (with_reducible refine truthy_own hX hI h1 h2 ?_) | wp_step))
    all_goals first | exact ⟨_, rfl, hs⟩ | exact hs | skip
theorem cr_boolOwn (h1 : PySem.W.findIn X.K (.ref C) "__bool__" = some none) (h2 : PySem.W.findIn X.K (.ref C) "__len__" = some none) : CallR X (.type "bool") (fun xs H Q => ∃ (a dx : Addr) (fs : List (Str × V)), xs = [.ref a] ∧ H a = some (.ins C dx fs) ∧ Q (.bl true) H) := by
  intro pins s σ H xs us Q I r h
  obtain ⟨a, dx, fs, rfl, ha, q⟩ := h
  obtain ⟨u, rfl, ru⟩ := vals1 r
  cases ru
  obtain ⟨mA, J, _⟩ := ins_get I.hok ha
  obtain ⟨od, J, _⟩ := J.look
  exact call_bool_1 (meets_bool_own h1 h2) ⟨⟨I.kIn, J⟩, rfl, .bl true, H, I, rfl, q⟩
end
end Dw

/-! try .. except C: suite, within a def, by data. -/
namespace Dw
open PySem PySem.Spec PyProof.Rows L2
variable [Tabs0]
section
variable {K : PySem.W.Frag} {c : Value} {ts : Addr → Value → Option Addr → TS} {tb : WX → TS} {Γ : Gam} {De : DE} {x : Exn} {d : D}
end
end Dw

/-! An __init__ that stores its fields, or raises; str, repr, bool, == and != of objects, by data. -/
namespace Dw
open PySem PySem.Spec PyProof.Rows L2 LamX
variable [Tabs0]
/-- an __init__ that raises -/
def toInX (C : Addr) (s : SpcX) : Sp := fun vs H _ E => ∃ (x : s.ty) (F : Addr → Prop) (W : Wd) (a dx : Addr) (us : List V), vs = .ref a :: us ∧ W.H = H ∧ WOk F W ∧ W.H a = some (.ins C dx []) ∧ RepL W (s.args x) us ∧ s.ok x ∧ ∀ ed H', Same W.H H' → ExAt W.H (W.at H') (s.ex x) ed → E (.ref (s.ex x).C) ed H'
section
variable {P : Program} {w : World} {K : PySem.W.Frag} {mg : Str → Option Value} {base : Heap} {C : Addr} {s : Spc} {sx : SpcX}
theorem in_okX {x qual : Str} {st : Stmt} {f : Addr} {fd : FuncData} {N ps : List Str} {k : Nat} {ns : List Str} (F : Fun K x qual st f fd) (S : FnScope N ps (defScope st)) (len : ∀ x, (s.args x).length + 1 = ps.length) (lenX : ∀ x, (sx.args x).length + 1 = ps.length)
    (hbody : ∀ (cdv : Value) (A : Around) (outer : List Env) (s' : Shared) (H : Hp) (E : XK), Room k (A.deeper (envOfC qual (defScope st) s'.heap.objs.size f cdv)) →
      ∃ t, PSs (cxOf (L2.CX P w) P w K mg base N qual (defScope st) f cdv A outer s' H E) (defBody st) t ∧ (∀ x, s.ok x → ∀ a, DI C a t (Gz0 N.length (.raw (.ref a) :: s.args x)) [] [] fun _ ns' ds' => ns' = ns ∧ s.rel x (.tup ds')) ∧
        ∀ x, sx.ok x → ∀ a, ErS t (Gz0 N.length (.raw (.ref a) :: sx.args x)) (sx.ex x) fun ed H' => E (.ref (sx.ex x).C) ed H') :
    FnOk P w K mg base (L2.CX P w) (k + 1) f fd ps (spOr (toIn C ns s) (toInX C sx)) := by
  obtain ⟨oc, od, kV, doc, pm, an, cdv, ct, osl, rfl, lk, hcd⟩ := F.ex
  refine fn_of lk hcd S (fun vs H Q E h => ?_) fun A outer s' H vs Q E hr h => ?_
  · rcases h with ⟨x, F, W, a, dx, us, e, _, _, _, _, _, _, r, _⟩ | ⟨x, F, W, a, dx, us, e, _, _, _, r, _⟩
    · rw [e, List.length_cons, ← r.length]; exact len x
    · rw [e, List.length_cons, ← r.length]; exact lenX x
  · obtain ⟨t, p, hb, hx⟩ := hbody cdv A outer s' H E hr
    refine ⟨t, p, ?_⟩
    rcases h with ⟨x, F, W, a, dx, us, rfl, rfl, ok, hu, nf, np, ha, r, hx, q⟩ | ⟨x, F, W, a, dx, us, rfl, rfl, ok, ha, r, ho, hE⟩
    · have ok' : WOk (Fp F a) W := ⟨ok.dom, fun b z => z.elim (ok.fu b) fun z => by rw [z]; exact hu, fun b z => let ⟨u, f, pp⟩ := ok.pu b z; ⟨u, fun y => y.elim f fun y => np (by rw [← y]; exact z), pp⟩⟩
      refine hb x hx a F _ W _ dx [] (sr_start ok' (ds := .raw (.ref a) :: s.args x) ⟨_, us, rfl, rfl, r⟩) nf ha rfl rfl fun σ' Γ' ns' ds' us' W' st g' e' l' r' hR => ?_
      obtain ⟨rfl, hrel⟩ := hR
      exact q ds' us' W' hrel st ⟨g'.ok.dom, fun b z => g'.ok.fu b (.inl z), fun b z => let ⟨u, f, pp⟩ := g'.ok.pu b z; ⟨u, fun y => f (.inl y), pp⟩⟩ (g'.ok.fu a (.inr rfl)) e' l' r'
    · exact hx x ho a F _ W _ (sr_start ok (ds := .raw (.ref a) :: sx.args x) ⟨_, us, rfl, rfl, r⟩) hE
end
section
variable {Γ : Gam} {s : Spc} {sx : SpcX} {sp : Sp} {C : Addr} {ta : TA} {E : XK} {ns : List Str} {R : Option Addr → Hp → Prop}
/-- C(..) raises -/
theorem ert_make {x : sx.ty} (h : EvA ta Γ (sx.args x)) (ok : sx.ok x) (hR : ∀ ed H', R ed H' → E (.ref (sx.ex x).C) ed H') : ErT (tMake C (spOr sp (toInX C sx)) [] E ta) Γ (sx.ex x) R := fun F σ W Q g k => h F σ W _ g fun vs H st r => by
  intro b dx hb hdx ne
  rw [List.append_nil]
  have sm : Same H (upd (upd H dx (.own b)) b (.ins C dx [])) := Same.trans (same_upd hdx) (same_upd ((upd_ne (Ne.symm ne)).trans hb))
  have g1 : SR F Γ σ (W.at H) := g.same st
  exact .inr ⟨x, _, W.at _, b, dx, vs, rfl, rfl, (SR.same (W := W.at H) sm g1).callOk, upd_same, RepL.same (W := W.at H) sm r, ok, fun ed H' s' a => hR ed H' (k ed H' (Same.trans st (Same.trans sm s')) (exAt_back (Same.trans st sm) a))⟩
/-- C(..) makes an object, of a class whose __init__ may raise -/
theorem dl_make_or {Q : D → Gam → Prop} (h : DlA ta Γ fun ds Γ1 => ∃ x, ds = s.args x ∧ s.ok x ∧ ∀ es, s.rel x (.tup es) → Q (.obj C ns es) Γ1) : Dl (tMake C (spOr (toIn C ns s) sp) [] E ta) Γ Q := fun F σ W R g k => h F σ W _ g fun vs W1 ds Γ1 st g1 r ⟨x, e, ok, q⟩ => by
  subst e
  intro b dx hb hdx ne
  rw [List.append_nil]
  have sm : Same W1.H (upd (upd W1.H dx (.own b)) b (.ins C dx [])) := Same.trans (same_upd hdx) (same_upd ((upd_ne (Ne.symm ne)).trans hb))
  obtain ⟨stp, gp, no, nf, np⟩ := g1.plus (H := upd (upd W1.H dx (.own b)) b (.ins C dx [])) (a := b) sm hb (by rw [upd_same]; exact fun z => nomatch z)
  refine .inl ⟨x, _, W1.plus _ b, b, dx, vs, rfl, rfl, gp.callOk, .inr rfl, fun z => z.elim nf no, np, upd_same, r.stp stp, ok, fun ds zs W' hd st' ok' hu hH hl rr => ⟨rfl, ?_⟩⟩
  have g2 := gp.call st' ok'
  have np' : ¬ W'.P b := by rw [st'.pur]; exact np
  obtain ⟨st3, g3⟩ := (g2.frame hu np' no).land nf
  exact k (.ref b) ⟨W'.H, fun c => W'.U c ∧ c ≠ b, W'.P⟩ (.obj C ns ds) Γ1 (st.trans (stp.trans ((st'.sub fun _ z => .inl z).trans st3))) g3 ⟨b, dx, zs, rfl, hH, fun z => z.2 rfl, hl, rr.stp st3⟩ (q ds hd)
end
/-! ### str(x), repr(x), bool(x), x == y, x != y -/
section
variable {Γ : Gam} {s : Spc} {C : Addr} {ta tb : TE} {K : PySem.W.Frag} {ns : List Str} {ds : List D} {dy : D} {b : Bool} {z : Str}
theorem ev_own1 {x : s.ty} (h : Ev ta Γ (.obj C ns ds)) (ha : s.args x = [.obj C ns ds]) (np : noPs (s.args x) = true) (ok : s.ok x) (hd : ∀ d', s.rel x d' → d' = .str z) : Ev (tCB (rOwn1 C (toSp s)) (tCons ta tNil)) Γ (.str z) := fun F σ W Q g k => h F σ W _ g fun v H st r => by
  obtain ⟨a, dx, vs, rfl, hH, nu, l, rr⟩ := r
  refine ⟨a, dx, _, rfl, hH, ?_⟩
  have r0 : RepL (W.at H) (s.args x) [.ref a] := by rw [ha]; exact RepL.one ⟨a, dx, vs, rfl, hH, nu, l, rr⟩
  exact pure_call (W := W.at H) (g.same st) (fun _ z => z) (RepL.delP _ _ np r0) ok fun d' v H' hd' s' r' => by
    rw [hd d' hd'] at r'
    exact ⟨⟨z, r'⟩, k v H' (Same.trans st s') (Rep.addP (W := W) r')⟩
theorem ev_boolOwn (h : Ev ta Γ (.obj C ns ds)) : Ev (tCB (fun xs H Q => ∃ (a dx : Addr) (fs : List (Str × V)), xs = [.ref a] ∧ H a = some (.ins C dx fs) ∧ Q (.bl true) H) (tCons ta tNil)) Γ (.bl true) := fun F σ W Q g k => h F σ W _ g fun v H st r => by
  obtain ⟨a, dx, vs, rfl, hH, nu, l, rr⟩ := r
  exact ⟨a, dx, _, rfl, hH, k _ H st rfl⟩
def rightD (C : Addr) : D → Prop
  | .non => True | .bl _ => True | .int _ => True | .str _ => True | .lst _ => True | .tup _ => True | .dct _ _ => True | .obj C' _ _ => C' = C
  | _ => False
theorem right_rep {W : Wd} {v : V} : ∀ {d : D}, rightD C d → Rep W d v → Right K C W.H v
  | .non, _, r => .inl r
  | .bl b, _, r => .inr (.inl ⟨b, r⟩)
  | .int i, _, r => .inr (.inr (.inl ⟨i, r⟩))
  | .str x, _, r => .inr (.inr (.inr (.inl ⟨x, r⟩)))
  | .lst ds, _, ⟨a, vs, e, h, _, _⟩ => .inr (.inr (.inr (.inr ⟨a, e, .inl ⟨vs, .of h⟩⟩)))
  | .tup ds, _, ⟨a, vs, e, h, _, _⟩ => .inr (.inr (.inr (.inr ⟨a, e, .inr (.inl ⟨vs, h.sq⟩)⟩)))
  | .dct ks ds, _, ⟨a, vs, e, h, _, _, _⟩ => .inr (.inr (.inr (.inr ⟨a, e, .inr (.inr (.inl ⟨_, h⟩))⟩)))
  | .obj C' ns ds, hc, ⟨a, dx, vs, e, h, _, _, _⟩ => .inr (.inr (.inr (.inr ⟨a, e, .inr (.inr (.inr ⟨dx, ns.zip vs, (show C' = C from hc) ▸ h⟩))⟩)))
abbrev rNeOwn (K : PySem.W.Frag) (C : Addr) (sp : Sp) : R2 := fun x y H Q => rEqOwn K C sp x y H fun v H' => ∃ b, v = .bl b ∧ Q (.bl (!b)) H'
theorem ev_neOwn {x : s.ty} (h : Ev ta Γ (.obj C ns ds)) (h' : Ev tb Γ dy) (hy : rightD C dy) (ha : s.args x = [.obj C ns ds, dy]) (np : noPs (s.args x) = true) (ok : s.ok x) (hd : ∀ d', s.rel x d' → d' = .bl b) : Ev (tOp (rNeOwn K C (toSp s)) ta tb) Γ (.bl (!b)) := fun F σ W Q g k => h F σ W _ g fun v H st r => h' F σ (W.at H) _ (g.same st) fun u H2 st2 r2 => by
  obtain ⟨a, dx, vs, rfl, hH, nu, l, rr⟩ := Rep.same (W := W.at H) st2 r
  refine ⟨a, dx, _, rfl, hH, right_rep hy r2, ?_⟩
  have r0 : RepL (W.at H2) (s.args x) [.ref a, u] := by rw [ha]; exact ⟨_, _, rfl, ⟨a, dx, vs, rfl, hH, nu, l, rr⟩, RepL.one r2⟩
  exact pure_call (W := W.at H2) ((g.same st).same (W := W.at H) st2) (fun _ z => z) (RepL.delP _ _ np r0) ok fun d' v H' hd' s' r' => by
    rw [hd d' hd'] at r'
    have r' : v = .bl b := r'
    exact ⟨⟨b, r'⟩, b, r', k (.bl (!b)) H' (Same.trans st (Same.trans st2 s')) rfl⟩
end
end Dw

/-! repr of any data, and of {}. -/
namespace Dw
open PySem PySem.Spec PyProof.Rows L2 LamX
def rReprE : List V → Hp → VK → Prop := fun xs H Q => ∃ a : Addr, xs = [.ref a] ∧ H a = some (.dK []) ∧ Q (.str "{}") H
theorem cr_reprE {X : Cx} (hu : X.A.units + 66 < PySem.cLine) (hG : X.A.guards = some []) : CallR X (.builtin "repr") rReprE := by
  intro pins s σ H xs us Q I r h
  obtain ⟨a, rfl, ha, q⟩ := h
  obtain ⟨u, rfl, ru⟩ := vals1 r
  cases ru
  obtain ⟨_, hsys, vs, hv, o, es, ep, he, hx, hd, _, hp, _⟩ := (show ObjOk X.prog X.w H s.heap a (.dK []) from I.hok a _ ha)
  have e0 : vs = [] := by cases hv; rfl
  subst e0
  have e1 : es.toList = [] := by cases q : es.toList with
    | nil => rfl
    | cons x l => rw [q] at hp; cases hp
  have rd : Reads s.heap (.ref a) (.dict []) (a :: [] ++ []) := .dict he hx.1 hd (by rw [e1]; exact .nil) (by rw [e1]; exact .nil)
  refine repr_of_reads' rd rfl (fun _ hm => ?_) hG (by have d1 : PyData.depth (.dict []) ≤ 1 := (by decide); omega) (fun _ _ e => e) (fun h' u tk hk => ⟨.str "{}", H, I.kept (t' := tk) hk, ⟨_, rfl⟩, q⟩) (by decide)
  rw [List.append_nil] at hm
  have := List.mem_singleton.mp hm
  rw [← this, beq_self_eq_true] at hsys
  cases hsys
variable [Tabs0]
def rReprY (K : PySem.W.Frag) : List V → Hp → VK → Prop := fun xs H Q => rReprX K xs H Q ∨ rReprE xs H Q
theorem cr_reprY {X : Cx} (hu : X.A.units + 66 < PySem.cLine) (hG : X.A.guards = some []) : CallR X (.builtin "repr") (rReprY X.K) := fun pins s σ H xs us Q I r h => h.elim (cr_reprX hu hG pins s σ H xs us Q I r) (cr_reprE hu hG pins s σ H xs us Q I r)
theorem reprY {X : Cx} {k : Nat} (K : PySem.W.Frag) (hr : Room k X.A) (hG : X.A.guards = some []) (hK : X.K = K := by rfl) : CallR X (.builtin "repr") (rReprY K) := hK ▸ cr_reprY (by have := hr.un; omega) hG
theorem reprHY {X : Cx} {k : Nat} (K : PySem.W.Frag) (hr : L2H.RoomH k X.A) (hG : X.A.guards = some []) (hK : X.K = K := by rfl) : CallR X (.builtin "repr") (rReprY K) := hK ▸ cr_reprY (by have := hr.un; omega) hG
/-- the text that repr gives of a datum -/
def RpD (d : D) (z : Str) : Prop := (∃ k, k ≤ 64 ∧ dOk k d = true ∧ shOk d = true ∧ shB d ≤ sizeLine ∧ z = PyData.shown (py d)) ∨ (d = .dct [] [] ∧ z = "{}")
theorem rep_reprY {K : PySem.W.Frag} {W : Wd} {v : V} {d : D} {z : Str} {Q : VK} (r : Rep W d v) (h : RpD d z) (q : Q (.str z) W.H) : rReprY K [v] W.H Q := by
  rcases h with ⟨k, hk, h1, h2, h3, rfl⟩ | ⟨rfl, rfl⟩
  · exact .inl (rep_reprX r h1 hk h2 h3 q)
  · obtain ⟨a, vs, rfl, h, _⟩ := r
    exact .inr ⟨a, rfl, h, q⟩
section
variable {K : PySem.W.Frag} {Γ : Gam} {te : TE} {d : D} {z : Str} {x : Exn} {ed : Option Addr}
theorem ev_reprY (h : Ev te Γ d) (hz : RpD d z) : Ev (tCB (rReprY K) (tCons te tNil)) Γ (.str z) := fun F σ W Q g q => h F σ W _ g fun v H s r => rep_reprY (W := W.at H) r hz (q _ H s rfl)
theorem evh_reprY (h : EvH te Γ x ed d) (hz : RpD d z) : EvH (tCB (rReprY K) (tCons te tNil)) Γ x ed (.str z) := fun F σ W Q g hx q => h F σ W _ g hx fun v H s r => rep_reprY (W := W.at H) r hz (q _ H s rfl)
end
end Dw

/-! f(lambda: body, y): a def that calls what it got, in a try, and reads its second argument where it catches. -/
namespace Dw
open PySem PySem.Spec PyProof.Rows L2 LamX
section
variable {X : Cx} {pins : List (Addr × Obj)} {σ : L2.St} {H : Hp} {s : Shared}
/-- a(), a the lambda; what it raises is told of the very slots -/
theorem pe_act2 {CXg : CXT} {Eg : XK} {Ng : List Str} {qg : Str} {sg : Scope} {g f c' : Addr} {cdg pm ctv : Value} {params : Arguments} {body : Expr} {scope : Scope} {k i : Nat} {a : Str} {pn : List (Addr × Obj)} {xe : Value → Shared → Prop} {W : WX} {E : XK} {tb : TE} {p1 p2 : Pos}
    (I : Inv X pins σ H s) (L : LamS X.env.scope scope) (hf : s.heap.get? f = some (PySem.W.kla_obj "<lambda>" (X.env.qual ++ "<lambda>") params body scope (cloFrom X.env.cells scope.names []) pm c' ctv)) (hfn : H f = none) (hfr : f ∉ frs X.stack)
    (hbind : bindArgs (PySem.W.kla_fn "<lambda>" (X.env.qual ++ "<lambda>") params body scope (cloFrom X.env.cells scope.names []) pm (.ref c') ctv) ⟨[], []⟩ = pure [])
    (tk : Takes ((cxOf CXg X.prog X.w X.K X.mg X.base Ng qg sg g cdg X.A X.stack s H Eg).tr pn xe) W) (hr : Room (k + 1) (X.A.deeper (envOfC qg sg s.heap.objs.size g cdg)))
    (hbody : ∀ (A : Around) (outer : List Env) (s : Shared) (H : Hp), Room k (A.deeper (lamEnv X scope s.heap.objs.size f c')) → PE (lamCx X A outer s H E scope f c') body tb)
    (hN : Ng[i]? = some a) (hv : Vis sg a) (hd : (a == ("__debug__" : Str)) = false := by decide) (hcd : (a == ("__classdict__" : Str)) = false := by decide) :
    PE ((cxOf CXg X.prog X.w X.K X.mg X.base Ng qg sg g cdg X.A X.stack s H Eg).tr pn xe) (.Call (.Name a p1) [] [] p2)
      (fun σZ HZ Q => σZ[i]? = some (some (.ref f)) ∧ HZ c' = some (CodeO c' (X.env.qual ++ "<lambda>")) ∧ (∀ cls d H', E cls d H' → W cls d σZ H') ∧ tb σ HZ Q) := by
  refine ⟨fun pinsZ sZ σZ HZ Q IZ h => ?_⟩
  obtain ⟨hs, hc, hW, ht⟩ := h
  refine wpAny_Call_Name_kw (thn ((pe_var (pos := p1) (i := i) hN hv hd hcd).run pinsZ sZ σZ HZ (fun v H1 => v = .ref f ∧ H1 = HZ) IZ ⟨.ref f, hs, rfl, rfl⟩) fun u s1 ⟨v, H1, I1, r1, q1⟩ => ?_)
  obtain ⟨ev, eH⟩ := q1
  subst ev
  rw [eH] at I1
  obtain rfl : u = Value.ref f := r1
  have of1 : s1.heap.get? f = some (PySem.W.kla_obj "<lambda>" (X.env.qual ++ "<lambda>") params body scope (cloFrom X.env.cells scope.names []) pm c' ctv) := I1.base.keep f _ hf hfn hfr (fun z => nomatch (show f ∈ ([] : List Addr) from z))
  refine PySem.W.callWith_F0 ⟨_, _, _, _, of1⟩ ?_
  have un : Un (frs X.stack) [] H HZ s.heap s1.heap := I1.base
  obtain ⟨⟨oc, vs, t, hoc, hdc, hvc⟩, _, _⟩ := I1.hok c' _ hc
  have rc : codeAny (model X.prog X.w) (X.A.deeper (envOfC qg sg s.heap.objs.size g cdg)) (.call (.ref f) ⟨[], []⟩) (CR (L2.CX X.prog X.w) (envOfC qg sg s.heap.objs.size g cdg :: X.stack) X.prog X.w HZ s1 Q E) s1 := by
    refine PySem.W.kla_callFunE hr.depth of1 rfl L.co L.gen rfl ⟨c', oc, vs, t, rfl, hoc, hdc, hvc⟩ ?_
    rw [hbind]
    refine wpAny_pure (wpAny_newFunctionEnv (fun y hy => (L.own y hy).2) (fun y hy => absurd hy (by simp)) (fun h₁ hns hsb => ⟨I1.nolimit.fresh _ hsb, ?_⟩) L.kind)
    show codeAny _ _ (.expr body (lamEnv X scope s1.heap.objs.size f c')) _ _
    have kp : ∀ b o, s1.heap.get? b = some o → h₁.get? b = some o := fun b o e => hsb.extBut b o (Nat.ne_of_lt (Heap.lt_size e)) (Heap.get?_push_of_some _ e)
    have J : Inv (lamCx X (X.A.deeper (envOfC qg sg s.heap.objs.size g cdg)) (envOfC qg sg s.heap.objs.size g cdg :: X.stack) s1 HZ E scope f c') [] σ HZ { s1 with heap := h₁, toks := s1.toks + ([] : List (Str × Value)).length } :=
      lam_start2 I L I1.env0 hr.hd un hns kp
    refine PySem.W.kla_codeExpr (wpAny_mono ((hbody _ _ s1 HZ (hr.deeper _)).run [] _ _ HZ Q J ht) (fun v s' hq => ?_) fun e s' hq => hq)
    obtain ⟨w', H', J', rv, q⟩ := hq
    exact ⟨w', H', J'.os, J'.bare, J'.base, J'.hok, rv, q⟩
  refine wpAny_call (codeAny_mono rc fun r s' hq => ?_)
  cases r with
  | error e => exact tk e s' (XE.of_call I1 hW hq)
  | ok fl =>
    cases fl with
    | ret u => exact I1.after hq
    | next => exact False.elim hq
    | brk => exact False.elim hq
    | cont => exact False.elim hq
end
section
variable {X : Cx} {pins : List (Addr × Obj)} {σ : L2.St} {H : Hp} {s : Shared}
/-- the lambda is made; what its making did is told -/
theorem lam_make5 {T : List (Addr × Str)} {c P : Addr} {params : Arguments} {body : Expr} {scope : Scope} {pos : Pos} {E Q : Value → Shared → Prop} (I : Inv X pins σ H s) (TB : TabB X.base X.mg c P) (hcode : X.env.code = .ref c)
    (hm : (P, X.env.qual ++ "<lambda>") ∈ T) (hu : ∀ p ∈ T, p.1 = P → p.2 = X.env.qual ++ "<lambda>") (hT : Tabs T H) (hdef : defaultsOf params X.env = ([], [])) (hfree : ∀ y ∈ scope.names, y.2 = .free → ∃ c, X.env.cells.lookup y.1 = some c)
    (h : ∀ (f c' : Addr) (pm ctv : Value) (H1 : Hp) (s' : Shared), Inv X pins σ H1 s' → Chg P (X.env.qual ++ "<lambda>") H H1 → Tabs T H1 →
      s'.heap.get? f = some (PySem.W.kla_obj "<lambda>" (X.env.qual ++ "<lambda>") params body scope (cloFrom X.env.cells scope.names []) pm c' ctv) → H1 f = none → s.heap.objs.size ≤ f → f ∉ frs X.stack → H1 c' = some (CodeO c' (X.env.qual ++ "<lambda>")) → Q (.ref f) s') :
    wpAny (model X.prog X.w) X.A (eval (.Lambda params body scope pos) X.env) Q E s := by
  obtain ⟨ps, hP, ht, ha⟩ := hT _ hm
  have nofr : ∀ f, s.heap.objs.size ≤ f → f ∉ frs X.stack := fun f hf z => by
    rcases List.mem_cons.mp (I.stkSub _ z) with e | e
    · have := I.lt
      rw [← e] at this
      exact Nat.lt_irrefl _ (Nat.lt_of_lt_of_le this hf)
    · exact I.nofs hf e
  have hP' : s.heap.get? P = some { cls := .none, data := .fields ps } := I.hok P _ hP
  have bP := TB.bm.keeps I.bk
  refine PySem.W.kla_eval hdef ?_
  cases hc : codeAmong pos ps.toList with
  | some cv =>
    obtain ⟨c', rfl, hco⟩ := ha pos cv hc
    refine PySem.W.kla_makeFunctionHit (mg := X.mg) (c := c) (P := P) (ps := ps) (closure_ok hfree) I.ok.glob (I.mod.glob.keeps I.bk) hcode (TB.code.keeps I.bk) hP' ht hc bP fun ctv h' tk hx hsz => ?_
    exact h h'.objs.size c' _ ctv H _ (I.kept (t' := tk) fun b o e => Heap.get?_push_of_some _ (hx b o e)) (.inl rfl) hT (Heap.get?_push_size _ rfl) (I.hok.fresh hsz) hsz (nofr _ hsz) hco
  | none =>
    refine PySem.W.kla_makeFunction (mg := X.mg) (c := c) (P := P) (ps := ps) (closure_ok hfree) I.ok.glob (I.mod.glob.keeps I.bk) hcode (TB.code.keeps I.bk) hP' ht hc TB.gP bP fun c' ctv h' tk hx hge hlt hrec htb => ?_
    obtain ⟨c2, oc, vs, t, e2, hoc, hd, hv⟩ := hrec
    cases e2
    have nC : H c' = none := I.hok.fresh hge
    have hsz : s.heap.objs.size ≤ h'.objs.size := Nat.le_trans hge (Nat.le_of_lt hlt)
    have I1 := inv_table (t' := tk) (more := #[rawInt pos.line, rawInt pos.col, .ref c']) (h' := h'.push (PySem.W.kla_obj "<lambda>" (X.env.qual ++ "<lambda>") params body scope (cloFrom X.env.cells scope.names []) ((X.mg "__name__").getD .none) c' ctv)) I hP
      (fun b o hb e => Heap.get?_push_of_some _ (hx b o hb e)) (Heap.get?_push_of_some _ htb) hge ⟨oc, vs, t, Heap.get?_push_of_some _ hoc, hd, hv⟩
    refine h h'.objs.size c' _ ctv _ _ I1 (.inr ⟨c', ps, _, hP, nC, rfl⟩) (tabs_grow hT hu hP ht ha nC) (Heap.get?_push_size _ rfl) ?_ hsz (nofr _ hsz) upd_same
    rw [upd_ne (Nat.ne_of_gt hlt), upd_ne (Nat.ne_of_gt (Nat.lt_of_lt_of_le (Heap.lt_size hP') hsz))]
    exact I.hok.fresh hsz
end
/-- the def that calls what it got, with a second argument -/
def GivesTo2 (X : Cx) (Ng : List Str) (x : Str) (sg : Scope) (g : Addr) (cdg : Value) (bg : List Stmt) (a : Str) (q : Str) (TT : V → (XK → Hp → VK → Prop) → Hp → VK → Prop) : Prop :=
  ∀ (f c' : Addr) (v2 : V) (s : Shared) (H : Hp) (Q : VK) (tl : XK → Hp → VK → Prop),
    (∀ (W : WX) (pn : List (Addr × Obj)) (xe : Value → Shared → Prop) (E : XK) (p1 p2 : Pos), Takes ((cxOf C8.CX0 X.prog X.w X.K X.mg X.base Ng x sg g cdg X.A X.stack s H C8.E0).tr pn xe) W →
      PE ((cxOf C8.CX0 X.prog X.w X.K X.mg X.base Ng x sg g cdg X.A X.stack s H C8.E0).tr pn xe) (.Call (.Name a p1) [] [] p2) (fun σZ HZ Q => σZ[0]? = some (some (.ref f)) ∧ HZ c' = some (CodeO c' q) ∧ (∀ cls d H', E cls d H' → W cls d σZ H') ∧ tl E HZ Q)) →
    H c' = some (CodeO c' q) → TT v2 tl H Q →
    ∃ t, PSs (cxOf C8.CX0 X.prog X.w X.K X.mg X.base Ng x sg g cdg X.A X.stack s H C8.E0).nox bg t ∧ t { nx := fun _ H' => Q .non H', rt := Q } (L2.start Ng [.ref f, v2]) H
def tLam5 (T : List (Addr × Str)) (P : Addr) (q : Str) (j : Nat) (TT : V → (XK → Hp → VK → Prop) → Hp → VK → Prop) (t : XK → TE) : TE := fun σ H Q => ∃ v2, σ[j]? = some (some v2) ∧ Tabs T H ∧ ∀ H1, Chg P q H H1 → Tabs T H1 → TT v2 (fun E H' Q' => t E σ H' Q') H1 Q
section
variable {X : Cx}
theorem pe_lamcall5 {T : List (Addr × Str)} {TT : V → (XK → Hp → VK → Prop) → Hp → VK → Prop} {x a a2 : Str} {g c P : Addr} {k j : Nat} {pg : Arguments} {bg : List Stmt} {sg : Scope} {dV kV doc pm cdv ct oc : Value} {an od : Option Addr} {osl : Array (Option Value)} {Ng : List Str}
    {params : Arguments} {body e2 : Expr} {scope : Scope} {t : XK → TE} {p lpos pos : Pos} (hg : Gl X x) (hm : X.mg x = some (.ref g)) (hk : PySem.W.keepIn X.K (.ref g) = true)
    (lk : X.K.lookup g = some ⟨oc, od, .func (PySem.W.fnOf x x pg bg sg dV kV doc pm an cdv ct), osl⟩) (hcg : PySem.W.codeIn X.K cdv x = true) (hb : L2.Binds X.K (PySem.W.fnOf x x pg bg sg dV kV doc pm an cdv ct) [a, a2] []) (Sg : FnScope Ng [a, a2] sg) (hNg : Ng[0]? = some a) (hva : Vis sg a)
    (hG : GivesTo2 X Ng x sg g cdv bg a (X.env.qual ++ "<lambda>") TT) (he2 : PA X [e2] (tCons (tVar j) tNil))
    (TB : TabB X.base X.mg c P) (hcode : X.env.code = .ref c) (hmT : (P, X.env.qual ++ "<lambda>") ∈ T) (hu : ∀ p ∈ T, p.1 = P → p.2 = X.env.qual ++ "<lambda>") (hr : Room (k + 2) X.A) (L : LamS X.env.scope scope) (hdef : defaultsOf params X.env = ([], []))
    (hbind : ∀ (q : Str) (cl : List (Str × Addr)) (pm cv ctv : Value), bindArgs (PySem.W.kla_fn "<lambda>" q params body scope cl pm cv ctv) ⟨[], []⟩ = pure [])
    (hbody : ∀ (A : Around) (outer : List Env) (s : Shared) (H : Hp) (E : XK) (f c' : Addr), Room k (A.deeper (lamEnv X scope s.heap.objs.size f c')) → PE (lamCx X A outer s H E scope f c') body (t E))
    (hdb : (x == ("__debug__" : Str)) = false := by decide) (hd : (a == ("__debug__" : Str)) = false := by decide) (hcd : (a == ("__classdict__" : Str)) = false := by decide)
    (hse : starEach [e2] X.env = [(false, eval e2 X.env)] := by rfl) :
    PE X (.Call (.Name x p) [.Lambda params body scope lpos, e2] [] pos) (tLam5 T P (X.env.qual ++ "<lambda>") j TT t) := by
  refine ⟨fun pins s σ H Q I h => ?_⟩
  obtain ⟨v2, hv2, hT, h⟩ := h
  refine wpAny_Call_Name_kw (ld_glob I hg hm (PySem.W.callWith_K (h₀ := X.base) I.ok.mod.kin hk ?_ (by rfl) (by rw [show starEach [e2] X.env = _ from hse]; rfl)) hdb)
  show wpAny _ _ (spliced ((false, eval (.Lambda params body scope lpos) X.env) :: backTo pos (starEach [e2] X.env))) _ _ s
  refine Calls.spliced_cons (lam_make5 I TB hcode hmT hu hT hdef (L.has I.ok) fun f c' pm' ctv H1 s' I1 eN T1 hf hfn hge hfr hco => ?_)
  have Ip : Inv X ((f, PySem.W.kla_obj "<lambda>" (X.env.qual ++ "<lambda>") params body scope (cloFrom X.env.cells scope.names []) pm' c' ctv) :: pins) σ H1 s' := I1.pins_of fun p hp => by
    rcases List.mem_cons.mp hp with rfl | hp
    · exact ⟨hf, hfn, Nat.ne_of_gt (Nat.lt_of_lt_of_le I.lt hge), I.nofs hge, fun v z => nomatch z⟩
    · exact I1.pin p (List.mem_append_right _ hp)
  refine thn (he2.run pos _ s' σ H1 (fun vs H2 => vs = [v2] ∧ H2 = H1) Ip ⟨v2, hv2, rfl, rfl⟩) fun us s2 ⟨xs, H2, I2, r2, exs, eH⟩ => ?_
  subst exs
  rw [eH] at I2
  have hf2 := (I2.pin _ (List.mem_append_right _ List.mem_cons_self)).1
  have I3 : Inv X pins σ H1 s2 := I2.pins_of fun r hr => I2.pin r (List.mem_append_right _ (List.mem_cons_of_mem _ hr))
  obtain ⟨u2, rfl, r3⟩ := vals1 r2
  refine ⟨I3.kIn, ?_⟩
  have rc : codeAny (model X.prog X.w) X.A (.call (.ref g) ⟨[.ref f, u2], []⟩) (CR C8.CX0 X.stack X.prog X.w H1 s2 Q C8.E0) s2 :=
    run_ofS (N := Ng) (ps := [a, a2]) (us := [.ref f, u2]) (vs := [.ref f, v2]) lk hcg Sg hr I3.env0 (hb s2 [.ref f, u2] I3.kIn rfl) (.cons rfl (.cons r3 .nil)) rfl fun hr' =>
      let ⟨t', ht', hq'⟩ := hG f c' v2 s2 H1 Q (fun E H' Q' => t E σ H' Q') (fun W pn xe E p1 p2 tk => pe_act2 (i := 0) I3 L hf2 hfn hfr (hbind _ _ _ _ _) tk hr' (fun A outer s H hr2 => hbody A outer s H E f c' hr2) hNg hva hd hcd) hco (h H1 eN T1)
      ⟨t', ht'.nox, hq'⟩
  refine wpAny_call (codeAny_mono rc fun r s2 hq => ?_)
  match r, hq with
  | .error e, hq => exact (show False from hq).elim
  | .ok .next, hq => exact (show False from hq).elim
  | .ok .brk, hq => exact (show False from hq).elim
  | .ok .cont, hq => exact (show False from hq).elim
  | .ok (.ret u), hq => exact I3.after hq
end
end Dw

/-! f(lambda: body, y): try: return a() / except C as e: suite, that reads e and y. -/
namespace Dw
open PySem PySem.Spec PyProof.Rows L2 LamX
variable [Tabs0]
def TMade (K : PySem.W.Frag) (c1 : Value) (Ng : List Str) (ie : Nat) (ts : Addr → Value → Option Addr → TS) : V → (XK → Hp → VK → Prop) → Hp → VK → Prop := fun v2 tl H Q =>
  ∀ f : Addr, tl (fun cls d H' => PySem.W.exmOne K cls c1 = some true ∧ ∀ (a : Addr) (D : Ends), H' a = none → D.rt = Q → ts a cls d D ((L2.start Ng [.ref f, v2]).set ie (some (.ref a))) H') H Q
theorem made_gives {X : Cx} {Ng : List Str} {x a e x1 q : Str} {sg : Scope} {g : Addr} {cdg c1 : Value} {ie : Nat} {p2 p3 p5 pr pos pos' : Pos} {b₀ : Stmt} {suite : List Stmt} {ts : Addr → Value → Option Addr → TS}
    (hN : Ng.Nodup) (hie : Ng[ie]? = some e) (hle : (envOfC x sg 0 g cdg).kindOf e = some .local) (hge : sg.names.lookup x1 = some .globalImplicit) (hm1 : X.mg x1 = some c1) (hd1 : (x1 == ("__debug__" : Str)) = false)
    (h0 : ∀ (f : Addr) (v2 : V), (L2.start Ng [V.ref f, v2])[0]? = some (some (V.ref f)))
    (hsu : ∀ (s : Shared) (H : Hp) (a : Addr) (oe : Obj) (cls : Value) (d : Option Addr) (pn : List (Addr × Obj)), Zc cls d oe → (∃ vs, oe.data = .fields vs) →
      PSs ((cxOf C8.CX0 X.prog X.w X.K X.mg X.base Ng x sg g cdg X.A X.stack s H C8.E0).nox.suite a ((a, oe) :: pn)) (b₀ :: suite) (ts a cls d)) :
    GivesTo2 X Ng x sg g cdg [.Try [.Return (some (.Call (.Name a p2) [] [] p3)) pr] [.ExceptHandler (some (.Name x1 p5)) (some e) (b₀ :: suite) pos'] [] [] pos] a q (TMade X.K c1 Ng ie ts) := by
  intro f c' v2 s H Q tl act hc h
  refine ⟨_, pss_one (L2.ps_try_as (X := (cxOf C8.CX0 X.prog X.w X.K X.mg X.base Ng x sg g cdg X.A X.stack s H C8.E0).nox) (c := c1) (i := ie) (Wout := fun _ _ _ _ => False)
      (tb := fun W D σ H => ∃ Ech : XK, (∀ cls d H', Ech cls d H' → W cls d σ H') ∧ σ[0]? = some (some (.ref f)) ∧ H c' = some (CodeO c' q) ∧ tl Ech H D.rt)
      rfl rfl hN hie hle ⟨hge, hd1, .inl hm1⟩ LamX.takes0 (fun W pn xe tk _ => ?_) (hsu s H)), ?_⟩
  · refine ⟨fun pins s' σ H' D I h' => ?_⟩
    obtain ⟨Ech, hW, h1, h2, h3⟩ := h'
    exact (pss_one (ps_ret (pos := pr) (act W pn xe Ech p2 p3 tk))).run pins s' σ H' D I ⟨h1, h2, hW, h3⟩
  · exact ⟨_, fun cls d H' hE => ⟨true, hE.1, fun _ a na => hE.2 a _ na rfl, fun z => nomatch z⟩, h0 f v2, hc, h f⟩
section
variable {K : PySem.W.Frag} {Γ : Gam} {Tt : List (Addr × Str)} {P : Addr} {q : Str} {c1 : Value} {ie i j : Nat} {Ng : List Str} {sl : Sl} {ts : Addr → Value → Option Addr → TS} {t : XK → TE} {Q : D → Gam → Prop} {d dj : D} {x : Exn}
/-- nothing is raised -/
theorem dl_made_dl (T : TabsOk Tt) (hP : (P, q) ∈ Tt) (hs : Γ[i]? = some sl) (ht : TgS sl) (hj : Γ[j]? = some (.val dj)) (hb : ∀ E, Dl (t E) Γ Q) : Dl (tLam5 Tt P q j (TMade K c1 Ng ie ts) t) Γ Q := fun F σ W R g k => by
  obtain ⟨v2, e2, r2⟩ := g.val j dj hj
  have tb := g.tabs hs ht
  refine ⟨v2, e2, tabs_of g.ok T tb, fun H1 c T1 => ?_⟩
  obtain ⟨st, g1⟩ := g.chg T hP tb c T1
  intro f
  exact hb _ F σ (W.at H1) R g1 fun v W2 d Γ' s' g2 r q1 => k v W2 d Γ' (st.trans s') g2 r q1
/-- x is raised: the suite returns d -/
theorem dl_made_exc (T : TabsOk Tt) (hP : (P, q) ∈ Tt) (hs : Γ[i]? = some sl) (ht : TgS sl) (hj : Γ[j]? = some (.val dj)) (hb : ∀ E : XK, ErT (t E) Γ x fun ed H' => E (.ref x.C) ed H') (hx : PySem.W.exmOne K (.ref x.C) c1 = some true)
    (hst : ∀ (f : Addr) (v2 : V), L2.start Ng [V.ref f, v2] = [some (V.ref f), some v2, none])
    (hsu : ∀ (a : Addr) (ed : Option Addr), RtS (ts a (.ref x.C) ed) [.unset, .val dj, .val (.raw (.ref a))] x ed d) (hq : Q d Γ) : Dl (tLam5 Tt P q j (TMade K c1 Ng 2 ts) t) Γ Q := fun F σ W R g k => by
  obtain ⟨v2, e2, r2⟩ := g.val j dj hj
  have tb := g.tabs hs ht
  refine ⟨v2, e2, tabs_of g.ok T tb, fun H1 c T1 => ?_⟩
  obtain ⟨st, g1⟩ := g.chg T hP tb c T1
  intro f
  refine hb _ F σ (W.at H1) R g1 fun ed H' s' ex => ⟨hx, fun a Dr na hD => ?_⟩
  have g2 : SR F Γ σ (W.at H') := SR.same (W := W.at H1) s' g1
  obtain ⟨v3, e3, r3⟩ := g2.val j dj hj
  obtain rfl : v2 = v3 := by rw [e2] at e3; cases e3; rfl
  rw [hst]
  have g3 := ((sr_unset g2.ok [some (V.ref f), some v2, none]).set (i := 1) (d := dj) (v := v2) r3).set (i := 2) (d := .raw (.ref a)) (v := .ref a) rfl
  refine hsu a ed F _ (W.at H') Dr g3 ex.2 fun v H2 s2 r => ?_
  have g4 : SR F Γ σ (W.at H2) := SR.same (W := W.at H') s2 g2
  rw [hD]
  exact k v (W.at H2) d Γ ((st.trans (Stp.of_same g1.ok s')).trans (Stp.of_same (W := W.at H') g2.ok s2)) g4 r hq
end
end Dw

/-! C(name=value), f'..{i}..', x == C(..), xs[k], xs[j] = xs[j], xs[k]. -/
namespace Dw
open PySem PySem.Spec PyProof.Rows L2 LamX HT
variable [Tabs0]
section
variable {Γ : Gam} {s : Spc} {sp : Sp} {C : Addr} {tk : TA} {E : XK} {ns : List Str} {e : D}
/-- C(name = value) makes an object, of a class whose __init__ may raise -/
theorem dl_makeK0 {Q : D → Gam → Prop} {gV : List V → List V → List V} {x : s.ty} (hg : ∀ a z, gV [V.ref a] [z] = [V.ref a, z]) (h : EvA tk Γ [e]) (hx : s.args x = [e]) (ok : s.ok x) (hd : ∀ es, s.rel x (.tup es) → Q (.obj C ns es) Γ) : Dl (tMakeK C 0 1 (spOr (toIn C ns s) sp) gV E tNil tk) Γ Q := fun F σ W R g k => h F σ W _ g fun zs H st r => by
  obtain ⟨z, zr, rfl, rz, rfl⟩ := r
  refine ⟨rfl, rfl, fun b dx hb hdx ne => ?_⟩
  rw [hg]
  have g1 : SR F Γ σ (W.at H) := g.same st
  have sm : Same H (upd (upd H dx (.own b)) b (.ins C dx [])) := Same.trans (same_upd hdx) (same_upd ((upd_ne (Ne.symm ne)).trans hb))
  obtain ⟨stp, gp, no, nf, np⟩ := g1.plus (H := upd (upd H dx (.own b)) b (.ins C dx [])) (a := b) sm hb (by rw [upd_same]; exact fun z => nomatch z)
  have r1 : RepL (W.at H) (s.args x) [z] := by rw [hx]; exact RepL.one rz
  refine .inl ⟨x, _, (W.at H).plus _ b, b, dx, [z], rfl, rfl, gp.callOk, .inr rfl, fun z => z.elim nf no, np, upd_same, r1.stp stp, ok, fun ds zs W' hd' st' ok' hu hH hl rr => ⟨rfl, ?_⟩⟩
  have g2 := gp.call st' ok'
  have np' : ¬ W'.P b := by rw [st'.pur]; exact np
  obtain ⟨st3, g3⟩ := (g2.frame hu np' no).land nf
  exact k (.ref b) ⟨W'.H, fun c => W'.U c ∧ c ≠ b, W'.P⟩ (.obj C ns ds) Γ ((Stp.of_same g.ok st).trans (stp.trans ((st'.sub fun _ z => .inl z).trans st3))) g3 ⟨b, dx, zs, rfl, hH, fun z => z.2 rfl, hl, rr.stp st3⟩ (hd ds hd')
end
/-- f'a{i}b' -/
theorem ev_fstrI {Γ : Gam} {te : TE} {i : Int} {a b : Str} (h : Ev te Γ (.int i)) (hz : i.natAbs.log2 < 1920) (h1 : (Str.empty ++ a).length ≤ sizeLine) (h2 : (Str.empty ++ a ++ Str.ofString (toString i)).length ≤ sizeLine) (h3 : (Str.empty ++ a ++ Str.ofString (toString i) ++ b).length ≤ sizeLine) :
    Ev (fun σ H Q => tJs [tC (.str a), tFmt te, tC (.str b)] Str.empty σ H fun out H1 => Q (.str out) H1) Γ (.str (Str.empty ++ a ++ Str.ofString (toString i) ++ b)) := fun F σ W Q g k => by
  refine ⟨a, rfl, h1, h F σ W _ g fun v H s r => ?_⟩
  have r : v = .int i := r
  exact .inr ⟨i, r, hz, _, rfl, h2, b, rfl, h3, k _ H s rfl⟩
section
variable {Γ : Gam} {s : Spc} {C : Addr} {ta tb : TE} {K : PySem.W.Frag} {ns : List Str} {ds : List D} {b : Bool}
end
theorem sub_step {F : Addr → Prop} {Γ : Gam} {σ : L2.St} {W : Wd} {i k : Nat} {ds : List D} {d : D} {v : V} {tk : TE} {Q : L2.St → Hp → Prop} (g : SR F Γ σ W) (hi : Γ[i]? = some (.own ds)) (hk : Ev tk Γ (.int (k : Nat))) (lt : k < ds.length) (r : Rep W d v)
    (h : ∀ W', Stp F W W' → SR F (Γ.set i (.own (ds.set k d))) σ W' → Q σ W'.H) : gSub (tVar i) tk L2.rSetL v σ W.H Q := by
  obtain ⟨a, vs, hs, u, f, p, q1, r1⟩ := g.own i ds hi
  refine ⟨.ref a, hs, hk F σ W _ g fun w H2 s2 rk => ?_⟩
  have g2 := g.same s2
  obtain ⟨a', vs', hs', _, _, _, q2, r2⟩ := g2.own i ds hi
  rw [hs] at hs'; cases hs'
  have hl : (k : Int) < (vs'.length : Int) := by rw [← r2.length]; omega
  obtain ⟨st3, g3⟩ := g2.write hi hs (r2.set (r.same (W := W) s2) k)
  refine ⟨a, vs', k, k, rfl, rk, q2, ?_, h _ ((Stp.of_same g.ok s2).trans st3) g3⟩
  unfold ixN
  rw [if_pos (by omega), if_pos hl]; rfl
/-- xs[k], xs[j] = xs[j], xs[k], an own list -/
theorem ds_swap {Γ : Gam} {De : DE} {K : PySem.W.Frag} {i a b : Nat} {ds : List D} {d1 d2 : D} {tj tk : TE} (hi : Γ[i]? = some (.own ds)) (hl : i < Γ.length) (ha : ∀ ds' : List D, Ev tk (Γ.set i (.own ds')) (.int (a : Nat))) (hb : ∀ ds' : List D, Ev tj (Γ.set i (.own ds')) (.int (b : Nat)))
    (h1 : atI ds (b : Nat) = some d1) (h2 : atI ds (a : Nat) = some d2) (la : a < ds.length) (lb : b < ds.length) (q : De.nx (Γ.set i (.own ((ds.set a d1).set b d2)))) :
    Ds (tAsg (tTup (tCons (tOp (rIx K) (tVar i) tj) (tCons (tOp (rIx K) (tVar i) tk) tNil))) (gTup K 2 (gCons (gSub (tVar i) tk L2.rSetL) (gCons (gSub (tVar i) tj L2.rSetL) gNil)))) Γ De := fun F σ W Dr g l => by
  have e0 : Γ.set i (.own ds) = Γ := List.ext_getElem? fun j => by
    by_cases hj : i = j
    · subst hj
      rw [List.getElem?_set_self hl, hi]
    · rw [List.getElem?_set_ne hj]
  have hb0 := hb ds
  have ha0 := ha ds
  rw [e0] at ha0 hb0
  have v1 : Ev (tOp (rIx K) (tVar i) tj) Γ d1 := ev_ix (evb_own hi) hb0 h1
  have v2 : Ev (tOp (rIx K) (tVar i) tk) Γ d2 := ev_ix (evb_own hi) ha0 h2
  refine v1 F σ W _ g fun u1 H1 s1 r1 => v2 F σ (W.at H1) _ (g.same s1) fun u2 H2 s2 r2 => ⟨Nat.le_trans (show 2 ≤ 100000 by decide) (by decide), fun p hp => ?_⟩
  have g2 : SR F Γ σ (W.at H2) := SR.same (W := W.at H1) s2 (g.same s1)
  have sm : Same H2 (upd H2 p (.tup [u1, u2])) := same_upd hp
  have g3 : SR F Γ σ (W.at (upd H2 p (.tup [u1, u2]))) := SR.same (W := W.at H2) sm g2
  have r1' : Rep (W.at (upd H2 p (.tup [u1, u2]))) d1 u1 := Rep.same (W := W.at H2) sm (Rep.same (W := W.at H1) s2 r1)
  have r2' : Rep (W.at (upd H2 p (.tup [u1, u2]))) d2 u2 := Rep.same (W := W.at H2) sm r2
  refine ⟨p, [u1, u2], rfl, TupAt.sq (.mk upd_same), rfl, u1, [u2], rfl, sub_step g3 hi ha0 la r1' fun W4 st4 g4 => ?_⟩
  have hi4 : (Γ.set i (.own (ds.set a d1)))[i]? = some (.own (ds.set a d1)) := List.getElem?_set_self hl
  refine ⟨u2, [], rfl, sub_step g4 hi4 (hb _) (by rw [List.length_set]; exact lb) (r2'.stp st4) fun W5 st5 g5 => ⟨rfl, ?_⟩⟩
  rw [List.set_set] at g5
  exact l.nx _ W5 _ ((Stp.of_same g.ok (Same.trans s1 (Same.trans s2 sm))).trans (st4.trans st5)) g5 q
end Dw
namespace Dw
open PySem PySem.Spec PyProof.Rows L2
variable [Tabs0]
/-- str(text) -/
theorem ev_strS {Γ : Gam} {ta : TE} {a : Str} (h : Ev ta Γ (.str a)) : Ev (tCB (fun xs H Q => ∃ a, xs = [.str a] ∧ Q (.str a) H) (tCons ta tNil)) Γ (.str a) := fun F σ W Q g k => h F σ W _ g fun v H s r => ⟨a, by rw [show v = V.str a from r], k _ H s rfl⟩
end Dw

/-! x == y, where y may be of another own class; not in a tuple of pairs; readings of one kind or the other. -/
namespace Dw
open PySem PySem.Spec PyProof.Rows L2
section
variable {X : Cx}
/-- what stands on the right: an object of another own class too -/
def RightO (K : PySem.W.Frag) (C : Addr) (H : Hp) (y : V) : Prop := Right K C H y ∨ ∃ D b dx fs, y = .ref b ∧ H b = some (.ins D dx fs) ∧ PySem.W.subIn K (.ref D) (.ref C) = some false
theorem right_typeO {C : Addr} {pins : List (Addr × Obj)} {σ : L2.St} {H : Hp} {s : Shared} {y : V} {v : Value} (I : Inv X pins σ H s) (hy : RightO X.K C H y) (ry : RelV y v) : ∃ tb, PySem.W.Looks (model X.prog X.w) s.heap (typeOf v) tb ∧ PySem.W.notFirst X.K C tb = true := by
  rcases hy with hy | ⟨D, b, dx, fs, rfl, hq, hs⟩
  · exact right_type I hy ry
  · cases ry
    obtain ⟨mA, J, _⟩ := ins_get I.hok hq
    obtain ⟨od, J, _⟩ := J.look
    refine ⟨_, J.type, ?_⟩
    unfold PySem.W.notFirst
    rw [hs]
    simp
def rEqOwnO (K : PySem.W.Frag) (C : Addr) (sp : Sp) : R2 := fun x y H Q => ∃ (a dx : Addr) (fs : List (Str × V)), x = .ref a ∧ H a = some (.ins C dx fs) ∧ RightO K C H y ∧ sp [.ref a, y] H (fun v H' => (∃ b, v = .bl b) ∧ Q v H') E0
variable {C f : Addr} {fd : FuncData} {p p2 : Str} {n : Nat} {sp : Sp}
theorem op_eqOwnO (F : FnOk X.prog X.w X.K X.mg X.base CX0 n f fd [p, p2] sp) (hr : Room n X.A) (hs : PySem.W.findIn X.K (.ref C) "__eq__" = some (some (.ref f))) (hf : PySem.W.isFn X.K (.ref f) = true) (hb : Binds X.K fd [p, p2] []) : OpR X (compareOp .Eq) (rEqOwnO X.K C sp) := by
  intro pins s σ H x y u v Q I rx ry h
  obtain ⟨a, dx, fs, rfl, ha, hy, hsp⟩ := h
  cases rx
  obtain ⟨tb, LT, nf⟩ := right_typeO I hy ry
  obtain ⟨mA, J, _⟩ := ins_get I.hok ha
  obtain ⟨od, J, _⟩ := J.look
  obtain ⟨m, hF⟩ := I.fr
  show wpAny (model X.prog X.w) X.A (richCompare .Eq (.ref a) v) (EP X pins σ Q) X.xe s
  refine PySem.W.cmp_K (op := .Eq) hr.units0 hF I.ok.mod.kin J LT nf hs hf ?_
  refine run_below F hr rfl hb I (vs := [V.ref a, y]) (us := [Value.ref a, v]) (.cons rfl (.cons ry .nil)) hsp fun u s' hq => ?_
  obtain ⟨z, H', I', r, ⟨b, rfl⟩, q⟩ := hq
  cases r
  exact ⟨.bl b, H', I', rfl, q⟩
/-- not in a tuple of data -/
def rNotInV (K : PySem.W.Frag) : R2 := fun x y H Q => ∃ d ds, Dp K H x d ∧ Dp K H y (.tuple ds) ∧ SeqAt.shaped d = true ∧ SeqAt.shaped (.tuple ds) = true ∧ Q (.bl (!ds.any fun z => PyData.eqv z d)) H
theorem op_notInV (hu : X.A.units + 65 < cLine) : OpR X (compareOp .NotIn) (rNotInV X.K) := by
  intro pins s σ H x y v u Q I rx ry h
  obtain ⟨d, ds, hd, he, sd, se, q⟩ := h
  obtain ⟨as, r1⟩ := Dp.reads I d x v hd rx
  obtain ⟨bs, r2⟩ := Dp.reads I (.tuple ds) y u he ry
  exact SeqAt.notIn_tuple_reads r2 r1 (SeqAt.canLay_of_shaped se) (SeqAt.canLay_of_shaped sd) (room_in_shaped sd hu) ⟨.bl _, H, I, rfl, q⟩
theorem notInTV {k : Nat} (K : PySem.W.Frag) (r : Room k X.A) (hK : X.K = K := by rfl) : OpR X (compareOp .NotIn) (rNotInV K) := hK ▸ op_notInV (by have := r.un; omega)
end
variable [Tabs0]
section
variable {Γ : Gam} {t u : TE} {r r' : R2} {x y d : D}
theorem ev_orl (h : Ev t Γ d) : Ev (fun σ H Q => t σ H Q ∨ u σ H Q) Γ d := fun F σ W Q g k => .inl (h F σ W Q g k)
theorem ev_orr (h : Ev u Γ d) : Ev (fun σ H Q => t σ H Q ∨ u σ H Q) Γ d := fun F σ W Q g k => .inr (h F σ W Q g k)
end
section
variable {Γ : Gam} {s : Spc} {C : Addr} {ta tb : TE} {K : PySem.W.Frag} {ns : List Str} {ds : List D} {dy : D} {b : Bool}
def rightDO (K : PySem.W.Frag) (C : Addr) (d : D) : Prop := rightD C d ∨ ∃ D ns ds, d = .obj D ns ds ∧ PySem.W.subIn K (.ref D) (.ref C) = some false
theorem right_repO {W : Wd} {v : V} {d : D} (h : rightDO K C d) (r : Rep W d v) : RightO K C W.H v := by
  rcases h with h | ⟨D, ns, ds, rfl, hs⟩
  · exact .inl (right_rep h r)
  · obtain ⟨a, dx, vs, e, h, _, _, _⟩ := r
    exact .inr ⟨D, a, dx, _, e, h, hs⟩
/-- x == y, both may be made -/
theorem dl_eqOwnO {Q : D → Gam → Prop} (h : Dl ta Γ fun d1 Γ1 => ∃ ns ds, d1 = .obj C ns ds ∧ Dl tb Γ1 fun dy Γ2 => rightDO K C dy ∧ ∃ x b, s.args x = [.obj C ns ds, dy] ∧ noPs (s.args x) = true ∧ s.ok x ∧ (∀ d', s.rel x d' → d' = .bl b) ∧ Q (.bl b) Γ2) : Dl (tOp (rEqOwnO K C (toSp s)) ta tb) Γ Q := fun F σ W R g k => h F σ W _ g fun v W1 d1 Γ1 st1 g1 r1 ⟨ns, ds, e, h'⟩ => h' F σ W1 _ g1 fun u W2 dy Γ2 st2 g2 r2 ⟨hy, x, b, ha, np, ok, hd, q⟩ => by
  subst e
  obtain ⟨a, dx, vs, rfl, hH, nu, l, rr⟩ := Rep.stp st2 r1
  refine ⟨a, dx, _, rfl, hH, right_repO hy r2, ?_⟩
  have r0 : RepL W2 (s.args x) [.ref a, u] := by rw [ha]; exact ⟨_, _, rfl, ⟨a, dx, vs, rfl, hH, nu, l, rr⟩, RepL.one r2⟩
  exact pure_call (W := W2) g2 (fun _ z => z) (RepL.delP _ _ np r0) ok fun d' v H' hd' s' r' => by
    rw [hd d' hd'] at r'
    have r' : v = .bl b := r'
    exact ⟨⟨b, r'⟩, k v (W2.at H') (.bl b) Γ2 (st1.trans (st2.trans (Stp.of_same g2.ok s'))) (g2.same s') r' q⟩
theorem ev_eqOwnO {x : s.ty} (h : Ev ta Γ (.obj C ns ds)) (h' : Ev tb Γ dy) (hy : rightDO K C dy) (ha : s.args x = [.obj C ns ds, dy]) (np : noPs (s.args x) = true) (ok : s.ok x) (hd : ∀ d', s.rel x d' → d' = .bl b) : Ev (tOp (rEqOwnO K C (toSp s)) ta tb) Γ (.bl b) := fun F σ W Q g k => h F σ W _ g fun v H st r => h' F σ (W.at H) _ (g.same st) fun u H2 st2 r2 => by
  obtain ⟨a, dx, vs, rfl, hH, nu, l, rr⟩ := Rep.same (W := W.at H) st2 r
  refine ⟨a, dx, _, rfl, hH, right_repO hy r2, ?_⟩
  have r0 : RepL (W.at H2) (s.args x) [.ref a, u] := by rw [ha]; exact ⟨_, _, rfl, ⟨a, dx, vs, rfl, hH, nu, l, rr⟩, RepL.one r2⟩
  exact pure_call (W := W.at H2) ((g.same st).same (W := W.at H) st2) (fun _ z => z) (RepL.delP _ _ np r0) ok fun d' v H' hd' s' r' => by
    rw [hd d' hd'] at r'
    exact ⟨⟨b, r'⟩, k v H' (Same.trans st (Same.trans st2 s')) (Rep.addP (W := W) r')⟩
end
end Dw

namespace K31
open PySem PySem.Spec PyProof.Rows L2 Dw
variable [Tabs0]
/-! ### the text by places -/
def topS (i : Nat) : Stmt := PySem.Challenge.pw_rankedrules_k31_whole_texts_of_veils.main.body.getD i (.Pass ⟨0, 0, 0, 0⟩)
abbrev s_is_name : Stmt := topS 10
abbrev N_is_name : List Str := ["value", "letter"]
theorem sc_is_name : FnScope N_is_name ["value"] (defScope s_is_name) := ⟨rfl, rfl, rfl, by decide +kernel, rfl, by decide +kernel, by decide +kernel⟩
abbrev s_are_names : Stmt := topS 11
abbrev N_are_names : List Str := ["values", "one", "other", "value"]
theorem sc_are_names : FnScope N_are_names ["values"] (defScope s_are_names) := ⟨rfl, rfl, rfl, by decide +kernel, rfl, by decide +kernel, by decide +kernel⟩
abbrev s_is_number : Stmt := topS 12
abbrev N_is_number : List Str := ["word", "digit"]
theorem sc_is_number : FnScope N_is_number ["word"] (defScope s_is_number) := ⟨rfl, rfl, rfl, by decide +kernel, rfl, by decide +kernel, by decide +kernel⟩
abbrev s_read_mark : Stmt := topS 15
abbrev N_read_mark : List Str := ["word"]
theorem sc_read_mark : FnScope N_read_mark ["word"] (defScope s_read_mark) := ⟨rfl, rfl, rfl, by decide +kernel, rfl, by decide +kernel, by decide +kernel⟩
abbrev s_read_stretch : Stmt := topS 16
abbrev N_read_stretch : List Str := ["word", "first", "dash", "last", "least", "greatest"]
theorem sc_read_stretch : FnScope N_read_stretch ["word"] (defScope s_read_stretch) := ⟨rfl, rfl, rfl, by decide +kernel, rfl, by decide +kernel, by decide +kernel⟩
abbrev s_read_candidates : Stmt := topS 17
abbrev N_read_candidates : List Str := ["text", "read_word", "parts", "names", "many", "marks", "part", "words", "row", "word"]
theorem sc_read_candidates : FnScope N_read_candidates ["text", "read_word"] (defScope s_read_candidates) := ⟨rfl, rfl, rfl, by decide +kernel, rfl, by decide +kernel, by decide +kernel⟩
abbrev s_read_case : Stmt := topS 18
abbrev N_read_case : List Str := ["text"]
theorem sc_read_case : FnScope N_read_case ["text"] (defScope s_read_case) := ⟨rfl, rfl, rfl, by decide +kernel, rfl, by decide +kernel, by decide +kernel⟩
abbrev s_read_veil : Stmt := topS 19
abbrev N_read_veil : List Str := ["text"]
theorem sc_read_veil : FnScope N_read_veil ["text"] (defScope s_read_veil) := ⟨rfl, rfl, rfl, by decide +kernel, rfl, by decide +kernel, by decide +kernel⟩
abbrev s__law_cell : Stmt := topS 25
abbrev N__law_cell : List Str := ["_law_cells", "_law_k", "_law_made", "_law_own"]
theorem sc__law_cell : FnScope N__law_cell ["_law_cells", "_law_k"] (defScope s__law_cell) := ⟨rfl, rfl, rfl, by decide +kernel, rfl, by decide +kernel, by decide +kernel⟩
abbrev s__law_well : Stmt := topS 26
abbrev N__law_well : List Str := ["_law_cell_here"]
theorem sc__law_well : FnScope N__law_well ["_law_cell_here"] (defScope s__law_well) := ⟨rfl, rfl, rfl, by decide +kernel, rfl, by decide +kernel, by decide +kernel⟩
abbrev s__law_dip : Stmt := topS 27
abbrev N__law_dip : List Str := ["_law_jar", "_law_many", "_law_mixed", "_law_stock", "_law_digit"]
theorem sc__law_dip : FnScope N__law_dip ["_law_jar", "_law_many"] (defScope s__law_dip) := ⟨rfl, rfl, rfl, by decide +kernel, rfl, by decide +kernel, by decide +kernel⟩
abbrev s__law_pick : Stmt := topS 28
abbrev N__law_pick : List Str := ["_law_jar", "_law_things"]
theorem sc__law_pick : FnScope N__law_pick ["_law_jar", "_law_things"] (defScope s__law_pick) := ⟨rfl, rfl, rfl, by decide +kernel, rfl, by decide +kernel, by decide +kernel⟩
abbrev s__law_tags : Stmt := topS 29
abbrev N__law_tags : List Str := ["_law_jar", "_law_many", "_law_stock", "_law_at", "_law_step", "_law_k"]
theorem sc__law_tags : FnScope N__law_tags ["_law_jar", "_law_many"] (defScope s__law_tags) := ⟨rfl, rfl, rfl, by decide +kernel, rfl, by decide +kernel, by decide +kernel⟩
abbrev s__law_folk : Stmt := topS 30
abbrev N__law_folk : List Str := ["_law_jar", "_law_many", "_law_least", "_law_most", "_law_top", "_law_found", "_law_tag", "_law_marks", "_law_k"]
theorem sc__law_folk : FnScope N__law_folk ["_law_jar", "_law_many", "_law_least", "_law_most"] (defScope s__law_folk) := ⟨rfl, rfl, rfl, by decide +kernel, rfl, by decide +kernel, by decide +kernel⟩
abbrev s__law_figure : Stmt := topS 31
abbrev N__law_figure : List Str := ["_law_term", "_law_most", "_law_sign"]
theorem sc__law_figure : FnScope N__law_figure ["_law_term", "_law_most"] (defScope s__law_figure) := ⟨rfl, rfl, rfl, by decide +kernel, rfl, by decide +kernel, by decide +kernel⟩
abbrev s__law_is_tag : Stmt := topS 32
abbrev N__law_is_tag : List Str := ["_law_term", "_law_sign"]
theorem sc__law_is_tag : FnScope N__law_is_tag ["_law_term"] (defScope s__law_is_tag) := ⟨rfl, rfl, rfl, by decide +kernel, rfl, by decide +kernel, by decide +kernel⟩
abbrev s__law_stretch : Stmt := topS 33
abbrev N__law_stretch : List Str := ["_law_term", "_law_is_veil", "_law_ends", "_law_each"]
theorem sc__law_stretch : FnScope N__law_stretch ["_law_term", "_law_is_veil"] (defScope s__law_stretch) := ⟨rfl, rfl, rfl, by decide +kernel, rfl, by decide +kernel, by decide +kernel⟩
abbrev s__law_read : Stmt := topS 34
abbrev N__law_read : List Str := ["_law_page", "_law_is_veil", "_law_found", "_law_part", "_law_terms", "_law_pairs", "_law_term"]
theorem sc__law_read : FnScope N__law_read ["_law_page", "_law_is_veil"] (defScope s__law_read) := ⟨rfl, rfl, rfl, by decide +kernel, rfl, by decide +kernel, by decide +kernel⟩
abbrev s__law_bent_page : Stmt := topS 35
abbrev N__law_bent_page : List Str := ["_law_jar", "_law_page", "_law_way", "_law_at", "_law_sign", "_law_parts", "_law_k", "_law_j", "_law_terms", "_law_some"]
theorem sc__law_bent_page : FnScope N__law_bent_page ["_law_jar", "_law_page"] (defScope s__law_bent_page) := ⟨rfl, rfl, rfl, by decide +kernel, rfl, by decide +kernel, by decide +kernel⟩
abbrev s__law_made_of : Stmt := topS 36
abbrev N__law_made_of : List Str := ["_law_act", "_law_page", "e"]
theorem sc__law_made_of : FnScope N__law_made_of ["_law_act", "_law_page"] (defScope s__law_made_of) := ⟨rfl, rfl, rfl, by decide +kernel, rfl, by decide +kernel, by decide +kernel⟩
abbrev s__law_odd_things : Stmt := topS 37
abbrev N__law_odd_things : List Str := ["_law_found"]
theorem sc__law_odd_things : FnScope N__law_odd_things [] (defScope s__law_odd_things) := ⟨rfl, rfl, rfl, by decide +kernel, rfl, by decide +kernel, by decide +kernel⟩
abbrev s__law_veiled : Stmt := topS 38
abbrev N__law_veiled : List Str := ["_law_jar", "_law_many", "_law_least", "_law_most", "_law_found", "_law_tag", "_law_marks", "_law_pairs", "_law_mark", "_law_more"]
theorem sc__law_veiled : FnScope N__law_veiled ["_law_jar", "_law_many", "_law_least", "_law_most"] (defScope s__law_veiled) := ⟨rfl, rfl, rfl, by decide +kernel, rfl, by decide +kernel, by decide +kernel⟩
abbrev s__law_veil_page : Stmt := topS 39
abbrev N__law_veil_page : List Str := ["_law_folk_here", "_law_found", "_law_tag", "_law_pairs", "_law_terms", "_law_low", "_law_high"]
theorem sc__law_veil_page : FnScope N__law_veil_page ["_law_folk_here"] (defScope s__law_veil_page) := ⟨rfl, rfl, rfl, by decide +kernel, rfl, by decide +kernel, by decide +kernel⟩
abbrev s_Veil_text : Stmt := inClass (topS 23) 1
abbrev N_Veil_text : List Str := ["self"]
theorem sc_Veil_text : FnScope N_Veil_text ["self"] (defScope s_Veil_text) := ⟨rfl, rfl, rfl, by decide +kernel, rfl, by decide +kernel, by decide +kernel⟩
abbrev s_Veil_names : Stmt := inClass (topS 23) 2
abbrev N_Veil_names : List Str := ["self"]
theorem sc_Veil_names : FnScope N_Veil_names ["self"] (defScope s_Veil_names) := ⟨rfl, rfl, rfl, by decide +kernel, rfl, by decide +kernel, by decide +kernel⟩
abbrev s_Veil_marks : Stmt := inClass (topS 23) 3
abbrev N_Veil_marks : List Str := ["self"]
theorem sc_Veil_marks : FnScope N_Veil_marks ["self"] (defScope s_Veil_marks) := ⟨rfl, rfl, rfl, by decide +kernel, rfl, by decide +kernel, by decide +kernel⟩
abbrev s_InvalidText___init__ : Stmt := inClass (topS 2) 0
abbrev N_InvalidText___init__ : List Str := ["self", "given"]
theorem sc_InvalidText___init__ : FnScope N_InvalidText___init__ ["self", "given"] (defScope s_InvalidText___init__) := ⟨rfl, rfl, rfl, by decide +kernel, rfl, by decide +kernel, by decide +kernel⟩
abbrev s_Veil___init__ : Stmt := inClass (topS 23) 0
abbrev N_Veil___init__ : List Str := ["self", "text", "parts"]
theorem sc_Veil___init__ : FnScope N_Veil___init__ ["self", "text"] (defScope s_Veil___init__) := ⟨rfl, rfl, rfl, by decide +kernel, rfl, by decide +kernel, by decide +kernel⟩
abbrev s_Case___init__ : Stmt := inClass (topS 21) 0
abbrev N_Case___init__ : List Str := ["self", "text", "parts"]
theorem sc_Case___init__ : FnScope N_Case___init__ ["self", "text"] (defScope s_Case___init__) := ⟨rfl, rfl, rfl, by decide +kernel, rfl, by decide +kernel, by decide +kernel⟩
abbrev s_Veil___str__ : Stmt := inClass (topS 23) 5
abbrev N_Veil___str__ : List Str := ["self"]
theorem sc_Veil___str__ : FnScope N_Veil___str__ ["self"] (defScope s_Veil___str__) := ⟨rfl, rfl, rfl, by decide +kernel, rfl, by decide +kernel, by decide +kernel⟩
abbrev s_Veil___repr__ : Stmt := inClass (topS 23) 6
abbrev N_Veil___repr__ : List Str := ["self"]
theorem sc_Veil___repr__ : FnScope N_Veil___repr__ ["self"] (defScope s_Veil___repr__) := ⟨rfl, rfl, rfl, by decide +kernel, rfl, by decide +kernel, by decide +kernel⟩
abbrev s_Veil___eq__ : Stmt := inClass (topS 23) 4
abbrev N_Veil___eq__ : List Str := ["self", "other"]
theorem sc_Veil___eq__ : FnScope N_Veil___eq__ ["self", "other"] (defScope s_Veil___eq__) := ⟨rfl, rfl, rfl, by decide +kernel, rfl, by decide +kernel, by decide +kernel⟩
abbrev s_Case___eq__ : Stmt := inClass (topS 21) 4
abbrev N_Case___eq__ : List Str := ["self", "other"]
theorem sc_Case___eq__ : FnScope N_Case___eq__ ["self", "other"] (defScope s_Case___eq__) := ⟨rfl, rfl, rfl, by decide +kernel, rfl, by decide +kernel, by decide +kernel⟩
abbrev s__law_is_right : Stmt := topS 40
abbrev N__law_is_right : List Str := ["_law_page", "_law_folk_here", "_law_made", "_law_told", "_law_due", "_law_tag", "_law_pairs"]
theorem sc__law_is_right : FnScope N__law_is_right ["_law_page"] (defScope s__law_is_right) := ⟨rfl, rfl, rfl, by decide +kernel, rfl, by decide +kernel, by decide +kernel⟩
abbrev s__law_right : Stmt := topS 41
abbrev N__law_right : List Str := ["_law_jar", "_law_made", "_law_pages", "_law_turn", "_law_page", "_law_again", "_law_k", "_law_told", "_law_some", "_law_thing"]
theorem sc__law_right : FnScope N__law_right ["_law_jar"] (defScope s__law_right) := ⟨rfl, rfl, rfl, by decide +kernel, rfl, by decide +kernel, by decide +kernel⟩
abbrev s_law : Stmt := topS 42
abbrev N_law : List Str := ["_law_cells", "_law_k"]
theorem sc_law : FnScope N_law ["_law_cells"] (defScope s_law) := ⟨rfl, rfl, rfl, by decide +kernel, rfl, by decide +kernel, by decide +kernel⟩
/-! ### what the top has written -/
structure Txt (K : PySem.W.Frag) (w : World) (mg : Str → Option Value) where
  C_Case : Addr
  m_Case : mg "Case" = some (.ref C_Case)
  cl_Case : Cls K C_Case
  C_InvalidText : Addr
  m_InvalidText : mg "InvalidText" = some (.ref C_InvalidText)
  C_Veil : Addr
  m_Veil : mg "Veil" = some (.ref C_Veil)
  cl_Veil : Cls K C_Veil
  xk_InvalidText : ExcC K C_InvalidText
  xe_InvalidText : PySem.W.exmOne K (.ref C_InvalidText) (.ref C_InvalidText) = some true
  xo_InvalidText : OexC K C_InvalidText
  xf_InvalidText : XfC K C_InvalidText
  xn_InvalidText_given : PySem.W.findIn K (.ref C_InvalidText) "given" = some none
  xn_InvalidText_index : PySem.W.findIn K (.ref C_InvalidText) "index" = some none
  xn_InvalidText_number : PySem.W.findIn K (.ref C_InvalidText) "number" = some none
  xn_InvalidText_told : PySem.W.findIn K (.ref C_InvalidText) "told" = some none
  f_is_name : Addr
  e_is_name : FuncData
  F_is_name : Fun K "is_name" "is_name" s_is_name f_is_name e_is_name
  b_is_name : Binds K e_is_name ["value"] []
  m_is_name : mg "is_name" = some (.ref f_is_name)
  f_are_names : Addr
  e_are_names : FuncData
  F_are_names : Fun K "are_names" "are_names" s_are_names f_are_names e_are_names
  b_are_names : Binds K e_are_names ["values"] []
  m_are_names : mg "are_names" = some (.ref f_are_names)
  f_is_number : Addr
  e_is_number : FuncData
  F_is_number : Fun K "is_number" "is_number" s_is_number f_is_number e_is_number
  b_is_number : Binds K e_is_number ["word"] []
  m_is_number : mg "is_number" = some (.ref f_is_number)
  f_read_mark : Addr
  e_read_mark : FuncData
  F_read_mark : Fun K "read_mark" "read_mark" s_read_mark f_read_mark e_read_mark
  b_read_mark : Binds K e_read_mark ["word"] []
  m_read_mark : mg "read_mark" = some (.ref f_read_mark)
  f_read_stretch : Addr
  e_read_stretch : FuncData
  F_read_stretch : Fun K "read_stretch" "read_stretch" s_read_stretch f_read_stretch e_read_stretch
  b_read_stretch : Binds K e_read_stretch ["word"] []
  m_read_stretch : mg "read_stretch" = some (.ref f_read_stretch)
  f_read_candidates : Addr
  e_read_candidates : FuncData
  F_read_candidates : Fun K "read_candidates" "read_candidates" s_read_candidates f_read_candidates e_read_candidates
  b_read_candidates : Binds K e_read_candidates ["text", "read_word"] []
  m_read_candidates : mg "read_candidates" = some (.ref f_read_candidates)
  f_read_case : Addr
  e_read_case : FuncData
  F_read_case : Fun K "read_case" "read_case" s_read_case f_read_case e_read_case
  b_read_case : Binds K e_read_case ["text"] []
  m_read_case : mg "read_case" = some (.ref f_read_case)
  f_read_veil : Addr
  e_read_veil : FuncData
  F_read_veil : Fun K "read_veil" "read_veil" s_read_veil f_read_veil e_read_veil
  b_read_veil : Binds K e_read_veil ["text"] []
  m_read_veil : mg "read_veil" = some (.ref f_read_veil)
  f__law_cell : Addr
  e__law_cell : FuncData
  F__law_cell : Fun K "_law_cell" "_law_cell" s__law_cell f__law_cell e__law_cell
  b__law_cell : Binds K e__law_cell ["_law_cells", "_law_k"] []
  m__law_cell : mg "_law_cell" = some (.ref f__law_cell)
  f__law_well : Addr
  e__law_well : FuncData
  F__law_well : Fun K "_law_well" "_law_well" s__law_well f__law_well e__law_well
  b__law_well : Binds K e__law_well ["_law_cell_here"] []
  m__law_well : mg "_law_well" = some (.ref f__law_well)
  f__law_dip : Addr
  e__law_dip : FuncData
  F__law_dip : Fun K "_law_dip" "_law_dip" s__law_dip f__law_dip e__law_dip
  b__law_dip : Binds K e__law_dip ["_law_jar", "_law_many"] []
  m__law_dip : mg "_law_dip" = some (.ref f__law_dip)
  f__law_pick : Addr
  e__law_pick : FuncData
  F__law_pick : Fun K "_law_pick" "_law_pick" s__law_pick f__law_pick e__law_pick
  b__law_pick : Binds K e__law_pick ["_law_jar", "_law_things"] []
  m__law_pick : mg "_law_pick" = some (.ref f__law_pick)
  f__law_tags : Addr
  e__law_tags : FuncData
  F__law_tags : Fun K "_law_tags" "_law_tags" s__law_tags f__law_tags e__law_tags
  b__law_tags : Binds K e__law_tags ["_law_jar", "_law_many"] []
  m__law_tags : mg "_law_tags" = some (.ref f__law_tags)
  f__law_folk : Addr
  e__law_folk : FuncData
  F__law_folk : Fun K "_law_folk" "_law_folk" s__law_folk f__law_folk e__law_folk
  b__law_folk : Binds K e__law_folk ["_law_jar", "_law_many", "_law_least", "_law_most"] []
  m__law_folk : mg "_law_folk" = some (.ref f__law_folk)
  f__law_figure : Addr
  e__law_figure : FuncData
  F__law_figure : Fun K "_law_figure" "_law_figure" s__law_figure f__law_figure e__law_figure
  b__law_figure : Binds K e__law_figure ["_law_term", "_law_most"] []
  m__law_figure : mg "_law_figure" = some (.ref f__law_figure)
  f__law_is_tag : Addr
  e__law_is_tag : FuncData
  F__law_is_tag : Fun K "_law_is_tag" "_law_is_tag" s__law_is_tag f__law_is_tag e__law_is_tag
  b__law_is_tag : Binds K e__law_is_tag ["_law_term"] []
  m__law_is_tag : mg "_law_is_tag" = some (.ref f__law_is_tag)
  f__law_stretch : Addr
  e__law_stretch : FuncData
  F__law_stretch : Fun K "_law_stretch" "_law_stretch" s__law_stretch f__law_stretch e__law_stretch
  b__law_stretch : Binds K e__law_stretch ["_law_term", "_law_is_veil"] []
  m__law_stretch : mg "_law_stretch" = some (.ref f__law_stretch)
  f__law_read : Addr
  e__law_read : FuncData
  F__law_read : Fun K "_law_read" "_law_read" s__law_read f__law_read e__law_read
  b__law_read : Binds K e__law_read ["_law_page", "_law_is_veil"] []
  m__law_read : mg "_law_read" = some (.ref f__law_read)
  f__law_bent_page : Addr
  e__law_bent_page : FuncData
  F__law_bent_page : Fun K "_law_bent_page" "_law_bent_page" s__law_bent_page f__law_bent_page e__law_bent_page
  b__law_bent_page : Binds K e__law_bent_page ["_law_jar", "_law_page"] []
  m__law_bent_page : mg "_law_bent_page" = some (.ref f__law_bent_page)
  f__law_made_of : Addr
  e__law_made_of : FuncData
  F__law_made_of : Fun K "_law_made_of" "_law_made_of" s__law_made_of f__law_made_of e__law_made_of
  b__law_made_of : Binds K e__law_made_of ["_law_act", "_law_page"] []
  m__law_made_of : mg "_law_made_of" = some (.ref f__law_made_of)
  f__law_odd_things : Addr
  e__law_odd_things : FuncData
  F__law_odd_things : Fun K "_law_odd_things" "_law_odd_things" s__law_odd_things f__law_odd_things e__law_odd_things
  b__law_odd_things : Binds K e__law_odd_things [] []
  m__law_odd_things : mg "_law_odd_things" = some (.ref f__law_odd_things)
  f__law_veiled : Addr
  e__law_veiled : FuncData
  F__law_veiled : Fun K "_law_veiled" "_law_veiled" s__law_veiled f__law_veiled e__law_veiled
  b__law_veiled : Binds K e__law_veiled ["_law_jar", "_law_many", "_law_least", "_law_most"] []
  m__law_veiled : mg "_law_veiled" = some (.ref f__law_veiled)
  f__law_veil_page : Addr
  e__law_veil_page : FuncData
  F__law_veil_page : Fun K "_law_veil_page" "_law_veil_page" s__law_veil_page f__law_veil_page e__law_veil_page
  b__law_veil_page : Binds K e__law_veil_page ["_law_folk_here"] []
  m__law_veil_page : mg "_law_veil_page" = some (.ref f__law_veil_page)
  f_Veil_text : Addr
  e_Veil_text : FuncData
  F_Veil_text : Fun K "text" "Veil.text" s_Veil_text f_Veil_text e_Veil_text
  b_Veil_text : Binds K e_Veil_text ["self"] []
  q_Veil_text : Addr
  p_Veil_text : PropOf K C_Veil "text" q_Veil_text f_Veil_text
  f_Veil_names : Addr
  e_Veil_names : FuncData
  F_Veil_names : Fun K "names" "Veil.names" s_Veil_names f_Veil_names e_Veil_names
  b_Veil_names : Binds K e_Veil_names ["self"] []
  q_Veil_names : Addr
  p_Veil_names : PropOf K C_Veil "names" q_Veil_names f_Veil_names
  f_Veil_marks : Addr
  e_Veil_marks : FuncData
  F_Veil_marks : Fun K "marks" "Veil.marks" s_Veil_marks f_Veil_marks e_Veil_marks
  b_Veil_marks : Binds K e_Veil_marks ["self"] []
  q_Veil_marks : Addr
  p_Veil_marks : PropOf K C_Veil "marks" q_Veil_marks f_Veil_marks
  f_InvalidText___init__ : Addr
  e_InvalidText___init__ : FuncData
  F_InvalidText___init__ : Fun K "__init__" "InvalidText.__init__" s_InvalidText___init__ f_InvalidText___init__ e_InvalidText___init__
  b_InvalidText___init__ : Binds K e_InvalidText___init__ ["self", "given"] []
  xj_InvalidText : PySem.W.findIn K (.ref C_InvalidText) "__init__" = some (some (.ref f_InvalidText___init__))
  xy_InvalidText : PySem.W.typeIn K (.ref f_InvalidText___init__) = some (.type "function")
  f_Veil___init__ : Addr
  e_Veil___init__ : FuncData
  F_Veil___init__ : Fun K "__init__" "Veil.__init__" s_Veil___init__ f_Veil___init__ e_Veil___init__
  b_Veil___init__ : Binds K e_Veil___init__ ["self", "text"] []
  mk_Veil : Mk K C_Veil f_Veil___init__
  f_Case___init__ : Addr
  e_Case___init__ : FuncData
  F_Case___init__ : Fun K "__init__" "Case.__init__" s_Case___init__ f_Case___init__ e_Case___init__
  b_Case___init__ : Binds K e_Case___init__ ["self", "text"] []
  mk_Case : Mk K C_Case f_Case___init__
  f_Veil___str__ : Addr
  e_Veil___str__ : FuncData
  F_Veil___str__ : Fun K "__str__" "Veil.__str__" s_Veil___str__ f_Veil___str__ e_Veil___str__
  b_Veil___str__ : Binds K e_Veil___str__ ["self"] []
  h_Veil___str__ : Meth K C_Veil "__str__" f_Veil___str__
  f_Veil___repr__ : Addr
  e_Veil___repr__ : FuncData
  F_Veil___repr__ : Fun K "__repr__" "Veil.__repr__" s_Veil___repr__ f_Veil___repr__ e_Veil___repr__
  b_Veil___repr__ : Binds K e_Veil___repr__ ["self"] []
  h_Veil___repr__ : Meth K C_Veil "__repr__" f_Veil___repr__
  f_Veil___eq__ : Addr
  e_Veil___eq__ : FuncData
  F_Veil___eq__ : Fun K "__eq__" "Veil.__eq__" s_Veil___eq__ f_Veil___eq__ e_Veil___eq__
  b_Veil___eq__ : Binds K e_Veil___eq__ ["self", "other"] []
  h_Veil___eq__ : Meth K C_Veil "__eq__" f_Veil___eq__
  f_Case___eq__ : Addr
  e_Case___eq__ : FuncData
  F_Case___eq__ : Fun K "__eq__" "Case.__eq__" s_Case___eq__ f_Case___eq__ e_Case___eq__
  b_Case___eq__ : Binds K e_Case___eq__ ["self", "other"] []
  h_Case___eq__ : Meth K C_Case "__eq__" f_Case___eq__
  f__law_is_right : Addr
  e__law_is_right : FuncData
  F__law_is_right : Fun K "_law_is_right" "_law_is_right" s__law_is_right f__law_is_right e__law_is_right
  b__law_is_right : Binds K e__law_is_right ["_law_page"] []
  m__law_is_right : mg "_law_is_right" = some (.ref f__law_is_right)
  f__law_right : Addr
  e__law_right : FuncData
  F__law_right : Fun K "_law_right" "_law_right" s__law_right f__law_right e__law_right
  b__law_right : Binds K e__law_right ["_law_jar"] []
  m__law_right : mg "_law_right" = some (.ref f__law_right)
  f_law : Addr
  e_law : FuncData
  F_law : Fun K "law" "law" s_law f_law e_law
  b_law : Binds K e_law ["_law_cells"] []
  m_law : mg "law" = some (.ref f_law)
  lc__law_is_right : Addr
  lt__law_is_right : Addr
  FC__law_is_right : FunC K "_law_is_right" "_law_is_right" s__law_is_right f__law_is_right e__law_is_right lc__law_is_right
  tts : List (Addr × Str)
  tabs : TabsOk tts
  hm__law_is_right : (lt__law_is_right, (envOfC "_law_is_right" (defScope s__law_is_right) 0 f__law_is_right (.ref lc__law_is_right)).qual ++ "<lambda>") ∈ tts
  n_abs : mg "abs" = none
  n_all : mg "all" = none
  n_bool : mg "bool" = none
  n_divmod : mg "divmod" = none
  n_int : mg "int" = none
  n_isinstance : mg "isinstance" = none
  n_len : mg "len" = none
  n_max : mg "max" = none
  n_min : mg "min" = none
  n_range : mg "range" = none
  n_repr : mg "repr" = none
  n_sorted : mg "sorted" = none
  n_str : mg "str" = none
  n_tuple : mg "tuple" = none
  n_zip : mg "zip" = none
  t_DIGITS : Tok
  c_DIGITS : mg "DIGITS" = some (.str "0123456789" t_DIGITS)
  t_LEAST_CANDIDATES : Tok
  c_LEAST_CANDIDATES : mg "LEAST_CANDIDATES" = some (.int 2 t_LEAST_CANDIDATES)
  t_LETTERS : Tok
  c_LETTERS : mg "LETTERS" = some (.str "abcdefghijklmnopqrstuvwxyz" t_LETTERS)
  t_MOST_CANDIDATES : Tok
  c_MOST_CANDIDATES : mg "MOST_CANDIDATES" = some (.int 8 t_MOST_CANDIDATES)
  t_MOST_LETTERS : Tok
  c_MOST_LETTERS : mg "MOST_LETTERS" = some (.int 8 t_MOST_LETTERS)
  t_MOST_MARKS : Tok
  c_MOST_MARKS : mg "MOST_MARKS" = some (.int 99 t_MOST_MARKS)
  t_MOST_RULES : Tok
  c_MOST_RULES : mg "MOST_RULES" = some (.int 8 t_MOST_RULES)
  cno_text : NoAttr K C_Case "_text"
  cno_names : NoAttr K C_Case "_names"
  cno_marks : NoAttr K C_Case "_marks"
  ins_Case : InsOk K C_Case
  oe_Case : PySem.W.findIn K (.ref C_Case) "__eq__" = some (some (.ref f_Case___eq__))
  ie_Case : PySem.W.isFn K (.ref f_Case___eq__) = true
  ct_Case : PySem.W.typeIn K (.ref C_Case) = some (.type "type")
  vno_text : NoAttr K C_Veil "_text"
  vno_names : NoAttr K C_Veil "_names"
  vno_marks : NoAttr K C_Veil "_marks"
  ins_Veil : InsOk K C_Veil
  os_Veil : PySem.W.findIn K (.ref C_Veil) "__str__" = some (some (.ref f_Veil___str__))
  or_Veil : PySem.W.findIn K (.ref C_Veil) "__repr__" = some (some (.ref f_Veil___repr__))
  oe_Veil : PySem.W.findIn K (.ref C_Veil) "__eq__" = some (some (.ref f_Veil___eq__))
  is_Veil : PySem.W.isFn K (.ref f_Veil___str__) = true
  ir_Veil : PySem.W.isFn K (.ref f_Veil___repr__) = true
  ie_Veil : PySem.W.isFn K (.ref f_Veil___eq__) = true
  om_Veil : PySem.W.mroIn K C_Veil (.type "object") = some true
  on_Veil : PySem.W.findIn K (.ref C_Veil) "__ne__" = some (some (.builtin "object.__ne__"))
  ob_Veil : PySem.W.findIn K (.ref C_Veil) "__bool__" = some none
  ol_Veil : PySem.W.findIn K (.ref C_Veil) "__len__" = some none
  kn_Veil : KBn K e_Veil___init__ ["self", "text"] 1 ["text"] (fun us ws => us ++ ws) (fun vs zs => vs ++ zs)
  ct_Veil : PySem.W.typeIn K (.ref C_Veil) = some (.type "type")
  sub_CV : PySem.W.subIn K (.ref C_Case) (.ref C_Veil) = some false
  sub_VC : PySem.W.subIn K (.ref C_Veil) (.ref C_Case) = some false
  ne_CV : (C_Case == C_Veil) = false
  ne_VC : (C_Veil == C_Case) = false
end K31

namespace K31
open PySem PySem.Spec PyProof.Rows L2 Dw
variable [Tabs0]
/-- a row's signs, as codes -/
def isSign (c : Nat) : Prop := c = 43 ∨ c = 45 ∨ c = 46
structure RowOk (l : List Nat) (n : Nat) : Prop where
  len : l.length = n
  all : ∀ c ∈ l, isSign c
def sgn (l : List Nat) (k : Nat) : Nat := l.getD k 46
theorem sgn_at {l : List Nat} {n k : Nat} (h : l.length = n) (hk : k < n) : atI (tx l).cps.toList (k : Int) = some (sgn l k) := by
  have hl : k < l.length := by omega
  rw [tx_cps]
  refine atI_nat ?_
  unfold sgn
  rw [List.getElem?_eq_getElem hl, List.getD_eq_getElem?_getD, List.getElem?_eq_getElem hl]
  rfl
theorem isSign.lt {c : Nat} (h : isSign c) : c < 1114112 := by rcases h with h | h | h <;> omega
/-- the signs of a row along an order, without the dots -/
def told (l : List Nat) (o : List Nat) : List Nat := (o.map (sgn l)).filter (fun c => !decide (c = 46))
/-- whether a row holds -/
def holdsB (l : List Nat) (o : List Nat) : Bool :=
  match told l o with
  | [] => true
  | c :: _ => decide (c = 43)
def ordD (o : List Nat) : List D := o.map fun (k : Nat) => D.int k
theorem small8 {n : Nat} (h : n ≤ 8) : n ≤ sizeLine := Nat.le_trans h (by decide)
end K31

namespace K31
open PySem PySem.Spec PyProof.Rows L2 Dw
variable [Tabs0]
/-! flipped -/
def flip1 (c : Nat) : Nat := if c = 43 then 45 else if c = 45 then 43 else 46
def flipped (l : List Nat) : List Nat := l.map flip1
def spDraw : Spc where
  ty := Nat
  args := fun n => [.purse, .int n]
  ok := fun n => 0 < n ∧ n < 100000
  rel := fun n d => ∃ r : Nat, r < n ∧ d = .int r
end K31

namespace K31
open PySem PySem.Spec PyProof.Rows L2 Dw
variable [Tabs0]
structure NameOk (l : List Nat) : Prop where
  lo : 1 ≤ l.length
  hi : l.length ≤ 8
  all : ∀ c ∈ l, 97 ≤ c ∧ c ≤ 122
theorem lettersS : Str.ofString "abcdefghijklmnopqrstuvwxyz" = tx ((List.range 26).map (97 + ·)) := by decide +kernel
theorem NameOk.len {l : List Nat} (h : NameOk l) : (tx l).length ≤ sizeLine := by rw [tx_len]; exact small8 h.hi
theorem RowOk.sz {l : List Nat} {n : Nat} (h : RowOk l n) (hn : n ≤ 8) : (tx l).length ≤ sizeLine := by rw [tx_len, h.len]; exact small8 hn
theorem ev_cast {t : TE} {Γ : Gam} {d d' : D} (h : d = d') (e : Ev t Γ d) : Ev t Γ d' := h ▸ e
def nameD (ls : List (List Nat)) : List D := ls.map fun l => D.str (tx l)
structure NamesOk (ls : List (List Nat)) : Prop where
  lo : 1 ≤ ls.length
  hi : ls.length ≤ 8
  all : ∀ l ∈ ls, NameOk l
  inc : ∀ p ∈ ls.zip (ls.drop 1), p.1 < p.2
theorem zip_names (ls ms : List (List Nat)) : zipD (nameD ls) (nameD ms) = (ls.zip ms).map fun p => D.tup [.str (tx p.1), .str (tx p.2)] := by
  unfold zipD nameD
  rw [List.zip_map, List.map_map]; rfl
end K31

namespace K31
open PySem PySem.Spec PyProof.Rows L2 Dw
variable [Tabs0]
structure LotOk (o : List Nat) (m : Nat) : Prop where
  lt : ∀ k ∈ o, k < m
  inc : o.Pairwise (· < ·)
end K31

namespace K31
open PySem PySem.Spec PyProof.Rows L2 Dw
variable [Tabs0]
/-! plain data: what a claim or a certificate may be -/
mutual
def plW (z : Nat) : Nat → D → Bool
  | _, .non => true | _, .bl _ => true | _, .int _ => true | _, .str x => PyData.strOk x && decide (x.length ≤ 100000)
  | k + 1, .tup ds => decide (ds.length ≤ z) && plWs z k ds
  | k + 1, .lst ds => decide (ds.length ≤ z) && plWs z k ds
  | k + 1, .dct ks ds => decide (ds.length ≤ z) && plWs z k ds
  | 0, .tup _ => false | 0, .lst _ => false | 0, .dct _ _ => false
  | _, .obj _ _ _ => false | _, .raw _ => false | _, .purse => false | _, .rng _ _ => false | _, .scr _ _ => false | _, .tag _ => false | _, .tupN _ => false
def plWs (z : Nat) : Nat → List D → Bool
  | _, [] => true
  | k, d :: ds => plW z k d && plWs z k ds
end
abbrev plB := plW 60
abbrev plBs := plWs 60
theorem plWs_iff {z k : Nat} : ∀ {ds : List D}, plWs z k ds = true ↔ ∀ d ∈ ds, plW z k d = true
  | [] => by simp [plWs]
  | d :: ds => by
    have e : plWs z k (d :: ds) = (plW z k d && plWs z k ds) := by cases k <;> rfl
    rw [e, Bool.and_eq_true, plWs_iff (ds := ds)]
    simp
theorem plBs_iff {k : Nat} {ds : List D} : plBs k ds = true ↔ ∀ d ∈ ds, plB k d = true := plWs_iff
mutual
theorem plW_mono {z z' : Nat} (hz : z ≤ z') : ∀ (k m : Nat) (d : D), k ≤ m → plW z k d = true → plW z' m d = true
  | _, _, .non, _, _ => by unfold plW; rfl
  | _, _, .bl _, _, _ => by unfold plW; rfl
  | _, _, .int _, _, _ => by unfold plW; rfl
  | k, m, .str x, _, h => by
    have e : plW z k (.str x) = (PyData.strOk x && decide (x.length ≤ 100000)) := by cases k <;> rfl
    have e2 : plW z' m (.str x) = (PyData.strOk x && decide (x.length ≤ 100000)) := by cases m <;> rfl
    rw [e2, ← e, h]
  | k + 1, m + 1, .tup ds, hm, h => by
    have h : (decide (ds.length ≤ z) && plWs z k ds) = true := h
    show (decide (ds.length ≤ z') && plWs z' m ds) = true
    rw [Bool.and_eq_true] at h ⊢
    exact ⟨decide_eq_true (Nat.le_trans (of_decide_eq_true h.1) hz), plWs_mono hz k m ds (by omega) h.2⟩
  | k + 1, m + 1, .lst ds, hm, h => by
    have h : (decide (ds.length ≤ z) && plWs z k ds) = true := h
    show (decide (ds.length ≤ z') && plWs z' m ds) = true
    rw [Bool.and_eq_true] at h ⊢
    exact ⟨decide_eq_true (Nat.le_trans (of_decide_eq_true h.1) hz), plWs_mono hz k m ds (by omega) h.2⟩
  | k + 1, m + 1, .dct ks ds, hm, h => by
    have h : (decide (ds.length ≤ z) && plWs z k ds) = true := h
    show (decide (ds.length ≤ z') && plWs z' m ds) = true
    rw [Bool.and_eq_true] at h ⊢
    exact ⟨decide_eq_true (Nat.le_trans (of_decide_eq_true h.1) hz), plWs_mono hz k m ds (by omega) h.2⟩
  | 0, _, .tup _, _, h => nomatch h
  | 0, _, .lst _, _, h => nomatch h
  | 0, _, .dct _ _, _, h => nomatch h
  | k + 1, 0, .tup _, hm, _ => absurd hm (by omega)
  | k + 1, 0, .lst _, hm, _ => absurd hm (by omega)
  | k + 1, 0, .dct _ _, hm, _ => absurd hm (by omega)
  | k, _, .obj _ _ _, _, h => by cases k <;> exact nomatch h
  | k, _, .raw _, _, h => by cases k <;> exact nomatch h
  | k, _, .purse, _, h => by cases k <;> exact nomatch h
  | k, _, .rng _ _, _, h => by cases k <;> exact nomatch h
  | k, _, .scr _ _, _, h => by cases k <;> exact nomatch h
  | k, _, .tag _, _, h => by cases k <;> exact nomatch h
  | k, _, .tupN _, _, h => by cases k <;> exact nomatch h
theorem plWs_mono {z z' : Nat} (hz : z ≤ z') : ∀ (k m : Nat) (ds : List D), k ≤ m → plWs z k ds = true → plWs z' m ds = true
  | _, _, [], _, _ => by unfold plWs; rfl
  | k, m, d :: ds, hm, h => by
    have e : plWs z k (d :: ds) = (plW z k d && plWs z k ds) := by cases k <;> rfl
    have e2 : plWs z' m (d :: ds) = (plW z' m d && plWs z' m ds) := by cases m <;> rfl
    rw [e, Bool.and_eq_true] at h
    rw [e2, plW_mono hz k m d hm h.1, plWs_mono hz k m ds hm h.2]; rfl
end
theorem plB_mono (k m : Nat) (d : D) (h : k ≤ m) (q : plB k d = true) : plB m d = true := plW_mono (Nat.le_refl _) k m d h q
mutual
theorem plB_np : ∀ (k : Nat) (d : D), plB k d = true → noP d = true
  | _, .non, _ => rfl
  | _, .bl _, _ => rfl
  | _, .int _, _ => rfl
  | _, .str _, _ => rfl
  | k + 1, .tup ds, h => plBs_np k ds (by have h : (decide (ds.length ≤ 60) && plBs k ds) = true := h; rw [Bool.and_eq_true] at h; exact h.2)
  | k + 1, .lst ds, h => plBs_np k ds (by have h : (decide (ds.length ≤ 60) && plBs k ds) = true := h; rw [Bool.and_eq_true] at h; exact h.2)
  | k + 1, .dct _ ds, h => plBs_np k ds (by have h : (decide (ds.length ≤ 60) && plBs k ds) = true := h; rw [Bool.and_eq_true] at h; exact h.2)
  | 0, .tup _, h => nomatch h
  | 0, .lst _, h => nomatch h
  | 0, .dct _ _, h => nomatch h
  | k, .obj _ _ _, h => by cases k <;> exact nomatch h
  | _, .raw _, _ => rfl
  | k, .purse, h => by cases k <;> exact nomatch h
  | _, .rng _ _, _ => rfl
  | k, .scr _ _, h => by cases k <;> exact nomatch h
  | k, .tag _, h => by cases k <;> exact nomatch h
  | k, .tupN _, h => by cases k <;> exact nomatch h
theorem plBs_np : ∀ (k : Nat) (ds : List D), plBs k ds = true → noPs ds = true
  | _, [], _ => rfl
  | k, d :: ds, h => by
    have e : plBs k (d :: ds) = (plB k d && plBs k ds) := by cases k <;> rfl
    rw [e, Bool.and_eq_true] at h
    show (noP d && noPs ds) = true
    rw [plB_np k d h.1, plBs_np k ds h.2]; rfl
end
/-- a plain value -/
def Pv (d : D) : Prop := plB 12 d = true
theorem Pv.ty {d : D} (h : Pv d) : hasTy d = true := by
  cases d <;> first | rfl | exact nomatch h
theorem Pv.np {d : D} (h : Pv d) : noP d = true := plB_np _ _ h
theorem Pv.str {x : Str} (h : Pv (.str x)) : okS x ∧ x.length ≤ 100000 := by
  have h : (PyData.strOk x && decide (x.length ≤ 100000)) = true := h
  rw [Bool.and_eq_true, decide_eq_true_eq] at h
  exact h
theorem Pv.tup {ds : List D} (h : Pv (.tup ds)) : ds.length ≤ 60 ∧ ∀ d ∈ ds, Pv d := by
  have h : (decide (ds.length ≤ 60) && plBs 11 ds) = true := h
  rw [Bool.and_eq_true, decide_eq_true_eq] at h
  exact ⟨h.1, fun d hd => plB_mono 11 12 d (by decide) (plBs_iff.mp h.2 d hd)⟩
theorem np1 {d : D} {r : List D} (h : Pv d) (hr : noPs r = true) : noPs (d :: r) = true := by
  show (noP d && noPs r) = true
  rw [h.np, hr]; rfl
theorem pv_strs {l : List Nat} (h : ∀ c ∈ l, c < 1114112) (hz : l.length ≤ 100000) : Pv (.str (tx l)) := by
  show (PyData.strOk (tx l) && decide ((tx l).length ≤ 100000)) = true
  rw [show PyData.strOk (tx l) = true from okS_tx h, tx_len, decide_eq_true hz]; rfl
/-! what isinstance tells -/
def isStrB : D → Bool | .str _ => true | _ => false
section
variable {K : PySem.W.Frag} {d : D}
theorem kit_str (h : hasTy d = true) : PySem.W.kitOne K (tyD d) (.type "str") = some (isStrB d) := by cases d <;> first | rfl | exact nomatch h
theorem str_of (h : isStrB d = true) : ∃ x, d = .str x := by cases d <;> first | exact ⟨_, rfl⟩ | exact nomatch h
end
def letterC (c : Nat) : Bool := decide (c ∈ (List.range 26).map (97 + ·))
theorem letter_iff {c : Nat} : letterC c = true ↔ 97 ≤ c ∧ c ≤ 122 := by
  unfold letterC
  rw [decide_eq_true_eq, List.mem_map]
  constructor
  · rintro ⟨a, h, rfl⟩
    have := List.mem_range.mp h
    omega
  · rintro ⟨h1, h2⟩
    exact ⟨c - 97, List.mem_range.mpr (by omega), by omega⟩
def nmC (l : List Nat) : Bool := decide (1 ≤ l.length) && decide (l.length ≤ 8) && l.all letterC
theorem nmC_ok {l : List Nat} : nmC l = true ↔ NameOk l := by
  unfold nmC
  rw [Bool.and_eq_true, Bool.and_eq_true, decide_eq_true_eq, decide_eq_true_eq, List.all_eq_true]
  exact ⟨fun ⟨⟨h1, h2⟩, h⟩ => ⟨h1, h2, fun c hc => letter_iff.mp (h c hc)⟩, fun h => ⟨⟨h.lo, h.hi⟩, fun c hc => letter_iff.mpr (h.all c hc)⟩⟩
def nmB : D → Bool | .str x => nmC x.cps.toList | _ => false
def spNameG : Spc where
  ty := D
  args := fun d => [d]
  ok := fun d => Pv d
  rel := fun d e => e = .bl (nmB d)
theorem nmB_iff {d : D} : nmB d = true ↔ ∃ l, d = .str (tx l) ∧ NameOk l := by
  constructor
  · intro h
    cases d <;> first | exact absurd h Bool.false_ne_true | skip
    rename_i x
    exact ⟨x.cps.toList, congrArg D.str (of_tx x), nmC_ok.mp h⟩
  · rintro ⟨l, rfl, h⟩
    show nmC (tx l).cps.toList = true
    rw [tx_cps]
    exact nmC_ok.mpr h
end K31

namespace K31
open PySem PySem.Spec PyProof.Rows L2 Dw
variable [Tabs0]
theorem d_is_name {P : Program} {w : World} {K : PySem.W.Frag} {mg : Str → Option Value} {base : Heap} (T : Txt K w mg) : FnOk P w K mg base CX0 1 T.f_is_name T.e_is_name ["value"] (toSp (spNameG)) := by
  refine fn_ok T.F_is_name sc_is_name (fun _ => rfl) fun cdv A outer s' H E hr => ?_
  refine ⟨_, (pss_cons (ps_if (PW.pt (pw_or (pt_not (truA K (pe_callB (isiA K) (by rfl) T.n_isinstance (by decide +kernel) (pa_cons (pv 0) (pa_cons (pe_bltn (v := .ty "str") (by rfl) T.n_str (by decide +kernel) rfl) pa_nil))))) (pw_or1 (pt_not (pt_chain opLe opLe pe_int (pe_callB (lenA K) (by rfl) T.n_len (by decide +kernel) (pa_cons (pv 0) pa_nil)) (pe_glob (v := .int 8) (by rfl) T.c_MOST_LETTERS ⟨_, rfl⟩)))))) (pss_one (ps_ret pe_bl)) pss_nil) (pss_one (ps_ret (pe_callB (allA K) (by rfl) T.n_all (by decide +kernel) (pa_cons (pe_lc (own := [("letter", 1)]) rfl sc_is_name.nd (piR K (pv 0)) (blkOk_by (own := [("letter", 1)]) (N := N_is_name) (sc := (defScope s_is_name)) (by decide +kernel)) (fun _ _ _ _ _ => pg_name (i := 1) sc_is_name.nd rfl (Or.inl rfl)) (fun _ _ _ _ _ => pts_nil) (fun _ _ _ _ _ => (pe_cmpR (inA K) (pv 1) (pe_glob (v := .str "abcdefghijklmnopqrstuvwxyz") (by rfl) T.c_LETTERS ⟨_, rfl⟩) (by rfl)))) pa_nil))))), fun x hx => ?_⟩
  obtain ⟨d, rfl⟩ : ∃ l : D, l = x := ⟨x, rfl⟩
  have hd : Pv d := hx
  by_cases hs : isStrB d = true
  · obtain ⟨s, rfl⟩ := str_of hs
    obtain ⟨l, rfl⟩ : ∃ l, s = tx l := ⟨_, of_tx s⟩
    have hz := hd.str.2
    rw [tx_len] at hz
    have hc : (decide ((1 : Int) ≤ ((tx l).length : Int)) && decide (((tx l).length : Int) ≤ 8)) = (decide (1 ≤ l.length) && decide (l.length ≤ 8)) := by
      rw [tx_len]
      congr 1
      · exact decide_eq_decide.mpr (by omega)
      · exact decide_eq_decide.mpr (by omega)
    refine ds_seq (ds_if (EvT.dl (b := !(decide (1 ≤ l.length) && decide (l.length ≤ 8))) ?_ ⟨fun h => ?_, fun h => ?_⟩))
    · have e := evt_or (Γ := Gz0 2 (spNameG.args (.str (tx l)))) (a := false) (b := !(decide ((1 : Int) ≤ ((tx l).length : Int)) && decide (((tx l).length : Int) ≤ 8))) (evt_not (a := true) (evt_tru_bl (K := K) (ev_isi (K := K) (ta := tVar 0) (d := .str (tx l)) (ev_var rfl) ev_raw (.inl rfl) (.ty "str") rfl))) fun _ => evt_not (evt_chain (ta := tC (.int 1)) (tb := tCB (Dw.rLen K) (tCons (tVar 0) tNil)) (tc := tC (.int 8)) ev_int (ev_lenS (ev_var rfl) (small (by rw [tx_len]; exact hz))) (fun _ => ev_int) dr2_le fun _ => dr2_le)
      rw [hc] at e
      exact e
    · refine ds_ret (Ev.dl ev_bl ?_)
      show D.bl false = D.bl (nmC (tx l).cps.toList)
      unfold nmC
      rw [tx_cps, show (decide (1 ≤ l.length) && decide (l.length ≤ 8)) = false by rw [Bool.not_eq_true'] at h; exact h]; rfl
    · refine ds_next (ds_ret (Ev.dl (ev_all_lc (xs := l) (c := fun c => .str (ch c)) (b := letterC) ?_ (by omega) fun c hc => ⟨[1], _, dg_name, fun i hi => hi, evt_yes, ev_op (ev_var rfl) ev_str ?_⟩) ?_))
      · have := ej_str (K := K) (ta := tVar 0) (Γ := Gz0 2 (spNameG.args (.str (tx l)))) (x := tx l) (ev_var rfl)
        rw [signs_tx, List.map_map] at this
        exact this
      · rw [lettersS]; exact in_code
      · show D.bl _ = D.bl (nmC (tx l).cps.toList)
        unfold nmC
        rw [tx_cps, show (decide (1 ≤ l.length) && decide (l.length ≤ 8)) = true by rw [Bool.not_eq_false'] at h; exact h]; rfl
  · have hs : isStrB d = false := by simpa using hs
    refine ds_seq (ds_if (EvT.dl (b := true) (evt_or (a := true) (b := false) (evt_not (a := false) (evt_tru_bl (ev_isi (ev_var rfl) ev_raw (.inl hd.ty) (.ty "str") (by rw [kit_str hd.ty, hs])))) fun h => (nomatch h)) ⟨fun _ => ds_ret (Ev.dl ev_bl ?_), fun h => (nomatch h)⟩))
    cases d <;> first | rfl | exact nomatch hs

end K31

namespace K31
open PySem PySem.Spec PyProof.Rows L2 Dw
variable [Tabs0]
def bookTx (ls rs : List (List Nat)) : List Nat := TL.joinL [32] ((TL.joinL [32] ls ++ [58]) :: rs)
structure BookOk (ls rs : List (List Nat)) : Prop where
  names : NamesOk ls
  few : rs.length ≤ 20
  rows : ∀ r ∈ rs, RowOk r ls.length
theorem kit_self {K : PySem.W.Frag} {C : Addr} : PySem.W.kitOne K (.ref C) (.ref C) = some true := by
  unfold PySem.W.kitOne
  rw [if_pos]
  first | exact beq_self_eq_true _ | simp | rfl
/-! signs fused -/
end K31

namespace K31
open PySem PySem.Spec PyProof.Rows L2 Dw
variable [Tabs0]
theorem np_name (ls : List (List Nat)) : noPs (nameD ls) = true := noPs_map (fun _ => rfl) ls
theorem np_ord (o : List Nat) : noPs (ordD o) = true := noPs_map (fun _ => rfl) o
theorem np_tup {ds : List D} (h : noPs ds = true) : noPs [.tup ds] = true := by show (noPs ds && true) = true; rw [h]; rfl
theorem joinL_len {m : Nat} : ∀ ls : List (List Nat), (∀ p ∈ ls, p.length ≤ m) → (TL.joinL [32] ls).length ≤ ls.length * (m + 1)
  | [], _ => Nat.zero_le _
  | [p], h => by
    have := h p (List.mem_singleton.mpr rfl)
    show p.length ≤ 1 * (m + 1)
    omega
  | p :: q :: r, h => by
    have h1 := h p List.mem_cons_self
    have h2 := joinL_len (q :: r) fun x hx => h x (List.mem_cons_of_mem _ hx)
    show (p ++ ([32] ++ TL.joinL [32] (q :: r))).length ≤ (List.length (q :: r) + 1) * (m + 1)
    rw [List.length_append, List.length_append, Nat.add_mul]
    show p.length + (1 + _) ≤ _
    omega
theorem bookTx_eq (ls : List (List Nat)) : ∀ rs : List (List Nat), bookTx ls rs = TL.joinL [32] ls ++ ([58] ++ TL.joinL [32] ([] :: rs))
  | [] => rfl
  | q :: r => by
    show (TL.joinL [32] ls ++ [58]) ++ ([32] ++ TL.joinL [32] (q :: r)) = TL.joinL [32] ls ++ ([58] ++ ([] ++ ([32] ++ TL.joinL [32] (q :: r))))
    rw [List.nil_append, List.append_assoc]
theorem spaceS : Str.ofString " " = tx [32] := by decide +kernel
theorem split_sp {ps : List (List Nat)} (hne : ps ≠ []) (h : ∀ p ∈ ps, 32 ∉ p) : Txt.split (tx (TL.joinL [32] ps)) (Str.ofString " ") = ps.map tx := by
  rw [spaceS]
  refine (SX.split_S (a := TL.joinL [32] ps) (b := [32]) (by simp) (by decide)).trans ?_
  rw [SX.spl_join hne h]; rfl
theorem BookOk.hl {ls rs : List (List Nat)} (h : BookOk ls rs) : (TL.joinL [32] ls).length ≤ 72 := by
  have := joinL_len (m := 8) ls fun p hp => (h.names.all p hp).hi
  have := h.names.hi
  omega
theorem BookOk.tl {ls rs : List (List Nat)} (h : BookOk ls rs) : (TL.joinL [32] ([] :: rs)).length ≤ 189 := by
  have e := joinL_len (m := 8) ([] :: rs) fun p hp => by
    rcases List.mem_cons.mp hp with rfl | hp
    · exact Nat.zero_le _
    · rw [(h.rows p hp).len]; exact h.names.hi
  rw [List.length_cons] at e
  have := h.few
  omega
theorem BookOk.len {ls rs : List (List Nat)} (h : BookOk ls rs) : (tx (bookTx ls rs)).length ≤ 300 := by
  rw [tx_len, bookTx_eq, List.length_append, List.length_append]
  have := h.hl
  have := h.tl
  show _ + (1 + _) ≤ _
  omega
theorem nameD_map (ls : List (List Nat)) : (ls.map tx).map D.str = nameD ls := by rw [List.map_map]; rfl
end K31

namespace K31
open PySem PySem.Spec PyProof.Rows L2 Dw
variable [Tabs0]
structure FuOk (ls rs : List (List Nat)) (o : List Nat) : Prop where
  book : BookOk ls rs
  lot : LotOk o rs.length
end K31

namespace K31
open PySem PySem.Spec PyProof.Rows L2 Dw
variable [Tabs0]
def lots : Nat → List (List Nat)
  | 0 => [[]]
  | n + 1 => lots n ++ (lots n).map (· ++ [n])
theorem ordD_snoc (o : List Nat) (i : Nat) : ordD o ++ [D.int i] = ordD (o ++ [i]) := by
  unfold ordD
  rw [List.map_append]; rfl
end K31

namespace K31
open PySem PySem.Spec PyProof.Rows L2 Dw
variable [Tabs0]
def nameB (l : List Nat) : Bool := decide (1 ≤ l.length) && decide (l.length ≤ 8) && l.all fun c => decide (97 ≤ c) && decide (c ≤ 122)
theorem nameB_ok {l : List Nat} (h : nameB l = true) : NameOk l := by
  unfold nameB at h
  rw [Bool.and_eq_true, Bool.and_eq_true, List.all_eq_true] at h
  exact ⟨of_decide_eq_true h.1.1, of_decide_eq_true h.1.2, fun c hc => by
    have := h.2 c hc
    rw [Bool.and_eq_true] at this
    exact ⟨of_decide_eq_true this.1, of_decide_eq_true this.2⟩⟩
theorem lt_of_ne : ∀ a b : List Nat, a ≠ b → ¬ b < a → a < b
  | [], [], h, _ => absurd rfl h
  | [], b :: bs, _, _ => List.nil_lt_cons b bs
  | a :: as, [], _, h => absurd (List.nil_lt_cons a as) h
  | a :: as, b :: bs, h, h' => by
    rw [List.cons_lt_cons_iff] at h' ⊢
    by_cases e : a = b
    · subst e
      exact .inr ⟨rfl, lt_of_ne as bs (fun z => h (by rw [z])) fun z => h' (.inr ⟨rfl, z⟩)⟩
    · exact .inl (by
        have : ¬ b < a := fun z => h' (.inl z)
        omega)
theorem rising_inc : ∀ (x : Str) (r : List Str), risingS x r = true → (x :: r).Nodup → ∀ p ∈ (((x :: r).map fun s => s.cps.toList).zip (r.map fun s => s.cps.toList)), p.1 < p.2
  | x, [], _, _, p, hp => by cases hp
  | x, y :: r, h, nd, p, hp => by
    have h : (!ltCps y.cps.toList x.cps.toList && risingS y r) = true := h
    rw [Bool.and_eq_true, ltCps_eq, Bool.not_eq_true', decide_eq_false_iff_not] at h
    obtain ⟨n1, n2⟩ := List.nodup_cons.mp nd
    rcases List.mem_cons.mp hp with rfl | hp
    · exact lt_of_ne _ _ (fun z => n1 (by
        have z' : x.cps.toList = y.cps.toList := z
        have : x = y := by rw [of_tx x, of_tx y, z']
        rw [this]; exact List.mem_cons_self)) h.1
    · exact rising_inc y r h.2 n2 p hp
theorem nameD_len (ls : List (List Nat)) : (nameD ls).length = ls.length := List.length_map ..
theorem nodup_tx {l : List (List Nat)} (h : l.Nodup) : (l.map tx).Nodup := by
  rw [List.nodup_iff_pairwise_ne] at h ⊢
  exact List.pairwise_map.mpr (h.imp fun h z => h (tx_eq.mp z))
end K31

namespace K31
open PySem PySem.Spec PyProof.Rows L2 Dw
variable [Tabs0]
end K31

namespace K31
open PySem PySem.Spec PyProof.Rows L2 Dw
variable [Tabs0]
end K31

namespace K31
open PySem PySem.Spec PyProof.Rows L2 Dw
variable [Tabs0]
theorem dr2_pow {i j : Int} (h : CPow i j) : DR2 (rI CPow fun i j => .int (i ^ j.toNat)) (.int i) (.int j) (.int (i ^ j.toNat)) := dr2_rI h fun _ => rfl
theorem scr_at {ns : List Int} {spot : Nat} (h : spot < ns.length) : atI (ns.map V.int) (spot : Int) = some (.int (ns.getD spot 0)) := by
  refine atI_nat ?_
  rw [List.getElem?_map, List.getElem?_eq_getElem h, List.getD_eq_getElem?_getD, List.getElem?_eq_getElem h]; rfl
end K31

namespace K31
open PySem PySem.Spec PyProof.Rows L2 Dw
variable [Tabs0]
/-! lots and rankings of any plain values -/
theorem eqv_ints : ∀ xs ys : List Int, PyData.eqvAll (pys (xs.map D.int)) (pys (ys.map D.int)) = decide (xs = ys)
  | [], [] => rfl
  | [], y :: ys => by
    show false = _
    simp
  | x :: xs, [] => by
    show false = _
    simp
  | x :: xs, y :: ys => by
    show ((x == y) && PyData.eqvAll (pys (xs.map D.int)) (pys (ys.map D.int))) = _
    rw [eqv_ints xs ys, Bool.eq_iff_iff]
    simp
/-! names of any plain values -/
def codesOf : D → List Nat | .str x => x.cps.toList | _ => []
def incB (ls : List (List Nat)) : Bool := (ls.zip (ls.drop 1)).all fun p => decide (p.1 < p.2)
def namesB (ds : List D) : Bool := ds.all nmB && incB (ds.map codesOf)
theorem all_names : ∀ {ds : List D}, ds.all nmB = true → ds = nameD (ds.map codesOf) ∧ ∀ l ∈ ds.map codesOf, NameOk l
  | [], _ => ⟨rfl, fun l h => absurd h (by simp)⟩
  | d :: r, h => by
    rw [List.all_cons, Bool.and_eq_true] at h
    obtain ⟨l, rfl, hl⟩ := nmB_iff.mp h.1
    obtain ⟨e, hr⟩ := all_names h.2
    have ec : codesOf (.str (tx l)) = l := tx_cps l
    rw [List.map_cons, ec]
    refine ⟨?_, fun x hx => ?_⟩
    · show D.str (tx l) :: r = D.str (tx l) :: nameD (r.map codesOf)
      rw [← e]
    · rcases List.mem_cons.mp hx with rfl | hx
      · exact hl
      · exact hr x hx
theorem codes_name (ls : List (List Nat)) : (nameD ls).map codesOf = ls := by
  unfold nameD
  rw [List.map_map]
  have e : (codesOf ∘ fun l => D.str (tx l)) = id := by funext l; exact tx_cps l
  rw [e, List.map_id]
theorem namesB_iff {ds : List D} : namesB ds = true ↔ ∃ ls, ds = nameD ls ∧ (∀ l ∈ ls, NameOk l) ∧ ∀ p ∈ ls.zip (ls.drop 1), p.1 < p.2 := by
  unfold namesB incB
  rw [Bool.and_eq_true]
  constructor
  · rintro ⟨h1, h2⟩
    obtain ⟨e, hn⟩ := all_names h1
    exact ⟨_, e, hn, fun p hp => of_decide_eq_true (List.all_eq_true.mp h2 p hp)⟩
  · rintro ⟨ls, rfl, h1, h2⟩
    rw [codes_name]
    refine ⟨?_, List.all_eq_true.mpr fun p hp => decide_eq_true (h2 p hp)⟩
    unfold nameD
    rw [List.all_map, List.all_eq_true]
    exact fun l hl => nmB_iff.mpr ⟨l, rfl, h1 l hl⟩
def spNamesG : Spc where
  ty := List D
  args := fun ds => [.tup ds]
  ok := fun ds => Pv (.tup ds)
  rel := fun ds e => e = .bl (namesB ds)
theorem cut_tail (ds : List D) : Dw.cutD ds (some 1) none = ds.drop 1 := by
  unfold Dw.cutD
  rw [HT.sIx_none]
  have e : HT.sIx ds.length 0 (some 1) = min 1 ds.length := by
    show (if (1 : Int) < 0 then ((1 : Int) + (ds.length : Int)).toNat else min (1 : Int).toNat ds.length) = _
    rw [if_neg (by decide)]; rfl
  rw [e]
  cases ds with
  | nil => rfl
  | cons d r =>
    rw [show min 1 (d :: r).length = 1 by simp [Nat.min_def], List.take_of_length_le (by simp)]
end K31

namespace K31
open PySem PySem.Spec PyProof.Rows L2 Dw
variable [Tabs0]
theorem d_are_names {P : Program} {w : World} {K : PySem.W.Frag} {mg : Str → Option Value} {base : Heap} (T : Txt K w mg) : FnOk P w K mg base CX0 2 T.f_are_names T.e_are_names ["values"] (toSp (spNamesG)) := by
  refine fn_ok T.F_are_names sc_are_names (fun _ => rfl) fun cdv A outer s' H E hr => ?_
  refine ⟨_, (pss_cons (ps_if (pt_not (truA K (pe_callB (allA K) (by rfl) T.n_all (by decide +kernel) (pa_cons (pe_lc (own := [("value", 3)]) rfl sc_are_names.nd (piR K (pv 0)) (blkOk_by (own := [("value", 3)]) (N := N_are_names) (sc := (defScope s_are_names)) (by decide +kernel)) (fun _ _ _ _ _ => pg_name (i := 3) sc_are_names.nd rfl (Or.inl rfl)) (fun _ _ _ _ _ => pts_nil) (fun _ _ _ _ _ => (pe_call (d_is_name T) (hr.mono (by decide)) (by rfl) T.m_is_name T.F_is_name.kp T.b_is_name .nil pass0 (pa_cons (pv 3) pa_nil)))) pa_nil)))) (pss_one (ps_ret pe_bl)) pss_nil) (pss_one (ps_ret (pe_callB (allA K) (by rfl) T.n_all (by decide +kernel) (pa_cons (pe_lc (own := [("one", 1), ("other", 2)]) rfl sc_are_names.nd (zipA K (by rfl) T.n_zip (pa_cons (pv 0) (pa_cons (pe_slice (slXA K) (pv 0) (po_some pe_int) po_none) pa_nil))) (blkOk_by (own := [("one", 1), ("other", 2)]) (N := N_are_names) (sc := (defScope s_are_names)) (by decide +kernel)) (fun _ _ _ _ _ => tupA K 2 rfl (pgs_cons (pg_name (i := 1) sc_are_names.nd rfl (Or.inl rfl)) (pgs_cons (pg_name (i := 2) sc_are_names.nd rfl (Or.inl rfl)) pgs_nil))) (fun _ _ _ _ _ => pts_nil) (fun _ _ _ _ _ => (pe_cmpR opLt (pv 1) (pv 2) (nomark _)))) pa_nil))))), fun x hx => ?_⟩
  obtain ⟨ds, rfl⟩ : ∃ l : List D, l = x := ⟨x, rfl⟩
  have hd : Pv (.tup ds) := hx
  obtain ⟨hz, hp⟩ := hd.tup
  refine ds_seq (ds_if (EvT.dl (b := !ds.all nmB) (evt_not (evt_tru_bl (ev_all_lc (K := K) (xs := ds) (c := fun d => d) (b := nmB) ?it (by omega) fun k hk => ⟨[3], _, dg_name, fun i hi => hi, evt_yes, ev_call (s := spNameG) (x := k) (eva_cons (ev_var rfl) eva_nil) (np1 (hp k hk) rfl) (hp k hk) fun d h => h⟩))) ⟨fun h => ?_, fun h => ds_next ?_⟩))
  case it => rw [List.map_id']; exact ej_tup (ev_var rfl)
  · refine ds_ret (Ev.dl ev_bl ?_)
    show D.bl false = D.bl (namesB ds)
    unfold namesB
    rw [Bool.not_eq_true'] at h
    rw [h]; rfl
  · rw [Bool.not_eq_false'] at h
    obtain ⟨e, hn⟩ := all_names h
    generalize hls : ds.map codesOf = ls at e hn
    subst e
    have el : (nameD ls).length = ls.length := List.length_map ..
    refine ds_ret (Ev.dl (ev_all_lc (xs := ls.zip (ls.drop 1)) (c := fun p => .tup [.str (tx p.1), .str (tx p.2)]) (b := fun p => decide (p.1 < p.2)) ?_ ?_ ?_) ?_)
    · rw [← zip_names]
      have e : nameD (ls.drop 1) = Dw.cutD (nameD ls) (some 1) none := by
        rw [cut_tail]
        unfold nameD
        rw [List.map_drop]
      rw [e]
      exact ei_zipT (ev_var rfl) (ev_sliceTY (ev_var rfl) (eo_some ev_int) eo_none)
    · rw [List.length_zip]; omega
    · intro p hp
      exact ⟨[1] ++ [2], _, dg_tup2 dg_name dg_name, fun i hi => hi, evt_yes, ev_op (ev_var rfl) (ev_var rfl) lt_tx⟩
    · show D.bl (incB ls) = D.bl (namesB (nameD ls))
      unfold namesB
      rw [h, codes_name]; rfl

end K31

namespace K31
open PySem PySem.Spec PyProof.Rows L2 Dw
variable [Tabs0]
/-! the layers -/
def rowAt (rs : List (List Nat)) (i : Nat) : List Nat := rs.getD i []
def minB (rs : List (List Nat)) (still : List Nat) (k : Nat) : Bool := still.any fun i => decide (sgn (rowAt rs i) k = 45)
def plusB (rs : List (List Nat)) (lay : List Nat) (i : Nat) : Bool := lay.any fun k => decide (sgn (rowAt rs i) k = 43)
def openB (rs : List (List Nat)) (i : Nat) : Bool := (rowAt rs i).any fun c => !decide (c = 46)
def open0 (rs : List (List Nat)) : List Nat := (List.range rs.length).filter (openB rs)
def layF (rs : List (List Nat)) : Nat → List (List Nat) → List Nat → List Nat → List (List Nat) × List Nat
  | 0, made, _, still => (made, still)
  | f + 1, made, left, still =>
    if still = [] then (if left = [] then made else made ++ [left], [])
    else if left.filter (fun k => !minB rs still k) = [] then (made, still)
    else layF rs f (made ++ [left.filter fun k => !minB rs still k]) (left.filter (minB rs still)) (still.filter fun i => !plusB rs (left.filter fun k => !minB rs still k) i)
def splitM (rs : List (List Nat)) (n : Nat) : List (List Nat) × List Nat := layF rs (n + 1) [] (List.range n) (open0 rs)
/-- a row that some layer settles, all ahead of it being dots, and none of it a minus -/
def Settled (rs : List (List Nat)) (made : List (List Nat)) (i : Nat) : Prop := ∃ pre lay post, made = pre ++ lay :: post ∧ (∀ l ∈ pre, ∀ k ∈ l, sgn (rowAt rs i) k = 46) ∧ (∀ k ∈ lay, sgn (rowAt rs i) k ≠ 45) ∧ ∃ k ∈ lay, sgn (rowAt rs i) k = 43
structure LayI (rs : List (List Nat)) (n : Nat) (made : List (List Nat)) (left still : List Nat) : Prop where
  perm : (made.flatten ++ left).Perm (List.range n)
  ne : ∀ l ∈ made, l ≠ []
  sub : still.Sublist (open0 rs)
  dots : ∀ i ∈ still, ∀ l ∈ made, ∀ k ∈ l, sgn (rowAt rs i) k = 46
  done : ∀ i ∈ open0 rs, i ∉ still → Settled rs made i
  inc : left.Sublist (List.range n)
theorem Settled.more {rs made i} (l : List (List Nat)) (h : Settled rs made i) : Settled rs (made ++ l) i := by
  obtain ⟨pre, lay, post, rfl, h1, h2, h3⟩ := h
  exact ⟨pre, lay, post ++ l, by simp, h1, h2, h3⟩
theorem filter_split (p : Nat → Bool) : ∀ l : List Nat, ((l.filter fun k => !p k) ++ l.filter p).Perm l
  | [] => .refl _
  | a :: l => by
    have ih := filter_split p l
    cases h : p a with
    | true =>
      rw [List.filter_cons_of_neg (by simp [h]), List.filter_cons_of_pos h]
      exact (List.perm_middle).trans (ih.cons a)
    | false =>
      rw [List.filter_cons_of_pos (by simp [h]), List.filter_cons_of_neg (by simp [h])]
      exact ih.cons a
theorem LayI.next {rs n made left still} (hs : ∀ i c, sgn (rowAt rs i) c = 43 ∨ sgn (rowAt rs i) c = 45 ∨ sgn (rowAt rs i) c = 46) (h : LayI rs n made left still) (hl : left.filter (fun k => !minB rs still k) ≠ []) :
    LayI rs n (made ++ [left.filter fun k => !minB rs still k]) (left.filter (minB rs still)) (still.filter fun i => !plusB rs (left.filter fun k => !minB rs still k) i) := by
  have nomin : ∀ i ∈ still, ∀ k ∈ left.filter (fun k => !minB rs still k), sgn (rowAt rs i) k ≠ 45 := fun i hi k hk z => by
    have h1 := (List.mem_filter.mp hk).2
    have : minB rs still k = true := List.any_eq_true.mpr ⟨i, hi, decide_eq_true z⟩
    rw [this] at h1; cases h1
  refine ⟨?_, fun l hm => ?_, (List.filter_sublist).trans h.sub, fun i hi l hm k hk => ?_, fun i hi hn => ?_, (List.filter_sublist).trans h.inc⟩
  · rw [List.flatten_append, List.append_assoc]
    refine (List.Perm.append_left _ ?_).trans h.perm
    simp only [List.flatten_cons, List.flatten_nil, List.append_nil]
    exact filter_split _ left
  · rcases List.mem_append.mp hm with hm | hm
    · exact h.ne l hm
    · rw [List.mem_singleton.mp hm]; exact hl
  · obtain ⟨hi, hp⟩ := List.mem_filter.mp hi
    rcases List.mem_append.mp hm with hm | hm
    · exact h.dots i hi l hm k hk
    · rw [List.mem_singleton.mp hm] at hk
      rcases hs i k with z | z | z
      · have : plusB rs (left.filter fun k => !minB rs still k) i = true := List.any_eq_true.mpr ⟨k, hk, decide_eq_true z⟩
        rw [this] at hp; cases hp
      · exact absurd z (nomin i hi k hk)
      · exact z
  · by_cases hi2 : i ∈ still
    · have hp : plusB rs (left.filter fun k => !minB rs still k) i = true := by
        cases q : plusB rs (left.filter fun k => !minB rs still k) i with
        | true => rfl
        | false => exact absurd (List.mem_filter.mpr ⟨hi2, by rw [q]; rfl⟩) hn
      obtain ⟨k, hk, z⟩ := List.any_eq_true.mp hp
      exact ⟨made, _, [], by simp, fun l hm k hk => h.dots i hi2 l hm k hk, nomin i hi2, k, hk, of_decide_eq_true z⟩
    · exact (h.done i hi hi2).more _
theorem lay_len {rs : List (List Nat)} {left still : List Nat} (hl : left.filter (fun k => !minB rs still k) ≠ []) : (left.filter (minB rs still)).length < left.length := by
  have := (filter_split (minB rs still) left).length_eq
  rw [List.length_append] at this
  have h2 : 0 < (left.filter fun k => !minB rs still k).length := List.length_pos_iff.mpr hl
  omega
theorem layI_0 (rs : List (List Nat)) (n : Nat) : LayI rs n [] (List.range n) (open0 rs) :=
  ⟨.refl _, fun l h => absurd h (by simp), List.Sublist.refl _, fun i _ l h => absurd h (by simp), fun i h h' => absurd h h', List.Sublist.refl _⟩
/-- how the making ends -/
theorem layF_end {rs : List (List Nat)} {n : Nat} (hs : ∀ i c, sgn (rowAt rs i) c = 43 ∨ sgn (rowAt rs i) c = 45 ∨ sgn (rowAt rs i) c = 46) : ∀ (f : Nat) (made : List (List Nat)) (left still : List Nat), LayI rs n made left still → left.length < f →
    (∃ ls, layF rs f made left still = (ls, []) ∧ LayI rs n ls [] []) ∨ (∃ ls lf st, layF rs f made left still = (ls, st) ∧ st ≠ [] ∧ LayI rs n ls lf st ∧ lf.filter (fun k => !minB rs st k) = [])
  | 0, _, _, _, _, h => absurd h (Nat.not_lt_zero _)
  | f + 1, made, left, still, h, hf => by
    unfold layF
    by_cases h1 : still = []
    · subst h1
      rw [if_pos rfl]
      refine .inl ⟨_, rfl, ?_⟩
      by_cases h2 : left = []
      · rw [if_pos h2]; subst h2; exact h
      · rw [if_neg h2]
        refine ⟨?_, fun l hm => ?_, h.sub, fun i hi => absurd hi (by simp), fun i hi hn => (h.done i hi hn).more _, List.nil_sublist _⟩
        · have := h.perm
          simpa using this
        · rcases List.mem_append.mp hm with hm | hm
          · exact h.ne l hm
          · rw [List.mem_singleton.mp hm]; exact h2
    · rw [if_neg h1]
      by_cases h2 : left.filter (fun k => !minB rs still k) = []
      · rw [if_pos h2]; exact .inr ⟨_, _, _, rfl, h1, h, h2⟩
      · rw [if_neg h2]
        exact layF_end hs f _ _ _ (h.next hs h2) (by have := lay_len h2; omega)
/-- a row along an order: dots, then a sign -/
theorem told_dots {l : List Nat} : ∀ {p : List Nat}, (∀ k ∈ p, sgn l k = 46) → told l p = []
  | [], _ => rfl
  | k :: p, h => by
    have ih := told_dots (l := l) (p := p) fun j hj => h j (List.mem_cons_of_mem _ hj)
    unfold told at ih ⊢
    rw [List.map_cons, List.filter_cons_of_neg (by rw [h k List.mem_cons_self]; decide)]
    exact ih
theorem told_app (l p q : List Nat) : told l (p ++ q) = told l p ++ told l q := by
  unfold told
  rw [List.map_append, List.filter_append]
theorem holds_lay {l : List Nat} : ∀ {q : List Nat}, (∀ k ∈ q, sgn l k = 43 ∨ sgn l k = 46) → (∃ k ∈ q, sgn l k = 43) → ∀ r, holdsB l (q ++ r) = true
  | [], _, h, _ => by obtain ⟨k, hk, _⟩ := h; cases hk
  | k :: q, h, h2, r => by
    rcases h k List.mem_cons_self with z | z
    · unfold holdsB told
      rw [List.cons_append, List.map_cons, List.filter_cons_of_pos (by rw [z]; decide), z]; rfl
    · have : told l (k :: q ++ r) = told l (q ++ r) := by
        unfold told
        rw [List.cons_append, List.map_cons, List.filter_cons_of_neg (by rw [z]; decide)]
      unfold holdsB
      rw [this]
      obtain ⟨j, hj, zj⟩ := h2
      rcases List.mem_cons.mp hj with rfl | hj
      · rw [z] at zj; cases zj
      · exact holds_lay (fun x hx => h x (List.mem_cons_of_mem _ hx)) ⟨j, hj, zj⟩ r
theorem holds_pre {l p q : List Nat} (h : ∀ k ∈ p, sgn l k = 46) : holdsB l (p ++ q) = holdsB l q := by
  unfold holdsB
  rw [told_app, told_dots h]; rfl
theorem holds_dots {l p : List Nat} (h : ∀ k ∈ p, sgn l k = 46) : holdsB l p = true := by
  unfold holdsB
  rw [told_dots h]
/-- layers each in some order -/
def walked (g : List Nat → List Nat) (ls : List (List Nat)) : List Nat := (ls.map g).flatten
theorem walked_perm {g : List Nat → List Nat} (hg : ∀ l, (g l).Perm l) : ∀ ls : List (List Nat), (walked g ls).Perm ls.flatten
  | [] => .refl _
  | l :: ls => by
    show (g l ++ walked g ls).Perm (l ++ ls.flatten)
    exact (hg l).append (walked_perm hg ls)
theorem settled_holds {rs : List (List Nat)} {ls : List (List Nat)} {i : Nat} (hs : ∀ i c, sgn (rowAt rs i) c = 43 ∨ sgn (rowAt rs i) c = 45 ∨ sgn (rowAt rs i) c = 46) {g : List Nat → List Nat} (hg : ∀ l, (g l).Perm l) (h : Settled rs ls i) : holdsB (rowAt rs i) (walked g ls) = true := by
  obtain ⟨pre, lay, post, rfl, h1, h2, k, hk, hk2⟩ := h
  have e : walked g (pre ++ lay :: post) = walked g pre ++ (g lay ++ walked g post) := by
    unfold walked
    simp
  rw [e, holds_pre fun k hk => ?_]
  · refine holds_lay (fun j hj => ?_) ⟨k, (hg lay).mem_iff.mpr hk, hk2⟩ _
    rcases hs i j with z | z | z
    · exact .inl z
    · exact absurd z (h2 j ((hg lay).mem_iff.mp hj))
    · exact .inr z
  · have hm := (walked_perm hg pre).mem_iff.mp hk
    obtain ⟨l, hl, hk⟩ := List.mem_flatten.mp hm
    exact h1 l hl k hk
theorem closed_dots {rs : List (List Nat)} {i : Nat} (hi : i < rs.length) (h : i ∉ open0 rs) (k : Nat) : sgn (rowAt rs i) k = 46 := by
  have hn : openB rs i = false := by
    cases q : openB rs i with
    | false => rfl
    | true => exact absurd (List.mem_filter.mpr ⟨List.mem_range.mpr hi, q⟩) h
  unfold openB at hn
  unfold sgn
  rw [List.getD_eq_getElem?_getD]
  cases q : (rowAt rs i)[k]? with
  | none => rfl
  | some c =>
    have := (List.any_eq_false.mp hn) c (List.mem_of_getElem? q)
    simpa using this
/-- where the layers end well, each order through them fits -/
theorem lay_fits {rs : List (List Nat)} {n : Nat} {ls : List (List Nat)} (hs : ∀ i c, sgn (rowAt rs i) c = 43 ∨ sgn (rowAt rs i) c = 45 ∨ sgn (rowAt rs i) c = 46) (h : LayI rs n ls [] []) {g : List Nat → List Nat} (hg : ∀ l, (g l).Perm l) :
    (walked g ls).Perm (List.range n) ∧ ∀ i, i < rs.length → holdsB (rowAt rs i) (walked g ls) = true := by
  refine ⟨(walked_perm hg ls).trans (by have := h.perm; simpa using this), fun i hi => ?_⟩
  by_cases ho : i ∈ open0 rs
  · exact settled_holds hs hg (h.done i ho (by simp))
  · exact holds_dots fun k _ => closed_dots hi ho k
/-- where they end badly, no order fits -/
theorem lay_stuck' {rs : List (List Nat)} {n : Nat} {ls : List (List Nat)} {lf st : List Nat} (h : LayI rs n ls lf st) (hne : st ≠ []) (hl : lf.filter (fun k => !minB rs st k) = []) (hr : ∀ i, i < rs.length → (rowAt rs i).length ≤ n) (o : List Nat) (ho : o.Perm (List.range n)) : ∃ i ∈ st, holdsB (rowAt rs i) o = false := by
  have bar : ∀ k ∈ lf, ∃ i ∈ st, sgn (rowAt rs i) k = 45 := fun k hk => by
    have : minB rs st k = true := by
      cases q : minB rs st k with
      | true => rfl
      | false =>
        have hm : k ∈ lf.filter (fun k => !minB rs st k) := List.mem_filter.mpr ⟨hk, by rw [q]; rfl⟩
        rw [hl] at hm; cases hm
    obtain ⟨i, hi, z⟩ := List.any_eq_true.mp this
    exact ⟨i, hi, of_decide_eq_true z⟩
  have inn : ∀ i ∈ st, i < rs.length := fun i hi => List.mem_range.mp (List.mem_filter.mp (h.sub.subset hi)).1
  have pl : ∀ k < n, k ∉ lf → ∀ i ∈ st, sgn (rowAt rs i) k = 46 := fun k hk hn i hi => by
    have : k ∈ ls.flatten ++ lf := h.perm.mem_iff.mpr (List.mem_range.mpr hk)
    rcases List.mem_append.mp this with hm | hm
    · obtain ⟨l, hl, hk⟩ := List.mem_flatten.mp hm
      exact h.dots i hi l hl k hk
    · exact absurd hm hn
  have hlf : ∃ k ∈ lf, k < n := by
    obtain ⟨i, hi⟩ := List.exists_mem_of_ne_nil st hne
    have ho := (List.mem_filter.mp (h.sub.subset hi)).2
    obtain ⟨c, hc, z⟩ := List.any_eq_true.mp ho
    obtain ⟨k, hk, e⟩ := List.mem_iff_getElem.mp hc
    have hkn : k < n := Nat.lt_of_lt_of_le hk (hr i (inn i hi))
    by_cases hk2 : k ∈ lf
    · exact ⟨k, hk2, hkn⟩
    · have := pl k hkn hk2 i hi
      unfold sgn at this
      rw [List.getD_eq_getElem?_getD, List.getElem?_eq_getElem hk] at this
      have this : (rowAt rs i)[k] = 46 := this
      rw [e] at this
      rw [this] at z; cases z
  obtain ⟨k0, hk0, hk0n⟩ := hlf
  -- the first of the order that is in no layer
  have first : ∀ o : List Nat, (∃ k ∈ o, k ∈ lf) → ∃ p k q, o = p ++ k :: q ∧ k ∈ lf ∧ ∀ j ∈ p, j ∉ lf := fun o => by
    induction o with
    | nil => rintro ⟨k, hk, _⟩; cases hk
    | cons a o ih =>
      intro hx
      by_cases ha : a ∈ lf
      · exact ⟨[], a, o, rfl, ha, fun j hj => absurd hj (by simp)⟩
      · obtain ⟨k, hk, hk2⟩ := hx
        rcases List.mem_cons.mp hk with rfl | hk
        · exact absurd hk2 ha
        · obtain ⟨p, j, q, e, h1, h2⟩ := ih ⟨k, hk, hk2⟩
          refine ⟨a :: p, j, q, by rw [e]; rfl, h1, fun x hx => ?_⟩
          rcases List.mem_cons.mp hx with rfl | hx
          · exact ha
          · exact h2 x hx
  obtain ⟨p, k, q, e, h1, h2⟩ := first o ⟨k0, ho.mem_iff.mpr (List.mem_range.mpr hk0n), hk0⟩
  obtain ⟨i, hi, z⟩ := bar k h1
  refine ⟨i, hi, ?_⟩
  rw [e, holds_pre fun j hj => pl j (List.mem_range.mp (ho.mem_iff.mp (by rw [e]; exact List.mem_append_left _ hj))) (h2 j hj) i hi]
  unfold holdsB told
  rw [List.map_cons, List.filter_cons_of_pos (by rw [z]; decide), z]; rfl
/-! all orders -/
theorem all_rows {rs : List (List Nat)} {p : List Nat → Prop} : (∀ r ∈ rs, p r) ↔ ∀ i, i < rs.length → p (rowAt rs i) := by
  constructor
  · intro h i hi
    unfold rowAt
    rw [List.getD_eq_getElem?_getD, List.getElem?_eq_getElem hi]
    exact h _ (List.getElem_mem hi)
  · intro h r hr
    obtain ⟨i, hi, rfl⟩ := List.mem_iff_getElem.mp hr
    have := h i hi
    unfold rowAt at this
    rw [List.getD_eq_getElem?_getD, List.getElem?_eq_getElem hi] at this
    exact this
end K31

namespace K31
open PySem PySem.Spec PyProof.Rows L2 Dw
variable [Tabs0]
theorem rowAt_at {rs : List (List Nat)} {i : Nat} (h : i < rs.length) : atI (nameD rs) (i : Int) = some (.str (tx (rowAt rs i))) := by
  refine atI_nat ?_
  unfold nameD rowAt
  rw [List.getElem?_map, List.getElem?_eq_getElem h, List.getD_eq_getElem?_getD, List.getElem?_eq_getElem h]; rfl
theorem ok_ordT1 (l : List Nat) : dOk 1 (.tup (ordD l)) = true := dOks_map fun _ _ => rfl
end K31

namespace K31
open PySem PySem.Spec PyProof.Rows L2 Dw
variable [Tabs0]
theorem lay_step {rs : List (List Nat)} {f : Nat} {made : List (List Nat)} {left still : List Nat} (h1 : still ≠ []) : layF rs (f + 1) made left still = if left.filter (fun k => !minB rs still k) = [] then (made, still) else layF rs f (made ++ [left.filter fun k => !minB rs still k]) (left.filter (minB rs still)) (still.filter fun i => !plusB rs (left.filter fun k => !minB rs still k) i) := by
  show (if still = [] then _ else _) = _
  rw [if_neg h1]
/-- what stays so while layers are made -/
structure Mk (rs : List (List Nat)) (n m : Nat) (made : List (List Nat)) (left still : List Nat) : Prop where
  eq : layF rs m made left still = splitM rs n
  lt : left.length < m
  few : made.length + left.length ≤ n
  ltn : ∀ k ∈ left, k < n
  ltr : ∀ i ∈ still, i < rs.length
  fst : still.length ≤ rs.length
  flat : made.flatten.length + left.length ≤ n
theorem Mk.next {rs n m made left still} (h : Mk rs n (m + 1) made left still) (h1 : still ≠ []) (h2 : left.filter (fun k => !minB rs still k) ≠ []) : Mk rs n m (made ++ [left.filter fun k => !minB rs still k]) (left.filter (minB rs still)) (still.filter fun i => !plusB rs (left.filter fun k => !minB rs still k) i) := by
  have l := lay_len h2
  have e := h.eq
  rw [lay_step h1, if_neg h2] at e
  refine ⟨e, by have := h.lt; omega, ?_, fun k hk => h.ltn k (List.mem_filter.mp hk).1, fun i hi => h.ltr i (List.mem_filter.mp hi).1, Nat.le_trans (List.length_filter_le _ _) h.fst, ?_⟩
  · have := h.few
    rw [List.length_append]
    show made.length + 1 + _ ≤ n
    omega
  · have := h.flat
    have e2 := (filter_split (minB rs still) left).length_eq
    rw [List.length_append] at e2
    rw [List.flatten_append, List.length_append]
    simp only [List.flatten_cons, List.flatten_nil, List.append_nil]
    omega
theorem BookOk.n8 {ls rs} (h : BookOk ls rs) : ls.length ≤ 8 := h.names.hi
end K31

namespace K31
open PySem PySem.Spec PyProof.Rows L2 Dw
variable [Tabs0]
def selQ (rs : List (List Nat)) (o : List Nat) : List (List Nat) := o.map fun i => rowAt rs i
def Fit (rs : List (List Nat)) (n : Nat) : Prop := ∃ o : List Nat, o.Perm (List.range n) ∧ ∀ r ∈ rs, holdsB r o = true
def SgnOk (rs : List (List Nat)) (n : Nat) : Prop := (∀ i c, sgn (rowAt rs i) c = 43 ∨ sgn (rowAt rs i) c = 45 ∨ sgn (rowAt rs i) c = 46) ∧ ∀ i, i < rs.length → (rowAt rs i).length ≤ n
theorem selQ_len (rs : List (List Nat)) (o : List Nat) : (selQ rs o).length = o.length := List.length_map ..
theorem selQ_at {rs : List (List Nat)} {o : List Nat} {j : Nat} (h : j < o.length) : rowAt (selQ rs o) j = rowAt rs o[j] := by
  unfold selQ
  conv => lhs; unfold rowAt
  rw [List.getD_eq_getElem?_getD, List.getElem?_map, List.getElem?_eq_getElem h]; rfl
theorem fit_sel {rs : List (List Nat)} {n : Nat} {p q : List Nat} (h : Fit (selQ rs q) n) (hs : ∀ k ∈ p, k ∈ q) : Fit (selQ rs p) n := by
  obtain ⟨o, ho, hh⟩ := h
  refine ⟨o, ho, fun r hr => ?_⟩
  obtain ⟨k, hk, rfl⟩ := List.mem_map.mp hr
  exact hh _ (List.mem_map.mpr ⟨k, hs k hk, rfl⟩)
/-- where the layers end badly, the rows that stay open fit no order -/
theorem stuck_open {rs : List (List Nat)} {n : Nat} {ls : List (List Nat)} {lf st : List Nat} (h : LayI rs n ls lf st) (hne : st ≠ []) (hl : lf.filter (fun k => !minB rs st k) = []) (hr : ∀ i, i < rs.length → (rowAt rs i).length ≤ n) : ¬ Fit (selQ rs st) n := by
  rintro ⟨o, ho, hh⟩
  obtain ⟨i, hi, z⟩ := lay_stuck' h hne hl hr o ho
  rw [hh _ (List.mem_map.mpr ⟨i, hi, rfl⟩)] at z; cases z
def Still (rs : List (List Nat)) (n : Nat) : List Nat := (splitM rs n).2
theorem still_cases {rs : List (List Nat)} {n : Nat} (h : SgnOk rs n) : (Still rs n = [] ∧ Fit rs n) ∨ ∃ ls lf, Still rs n ≠ [] ∧ LayI rs n ls lf (Still rs n) ∧ lf.filter (fun k => !minB rs (Still rs n) k) = [] ∧ ¬ Fit (selQ rs (Still rs n)) n := by
  rcases layF_end h.1 (n + 1) [] (List.range n) (open0 rs) (layI_0 rs n) (by rw [List.length_range]; omega) with ⟨ls, e, hh⟩ | ⟨ls, lf, st, e, h1, hh, h2⟩
  · have e : splitM rs n = (ls, []) := e
    refine .inl ⟨by unfold Still; rw [e], ?_⟩
    obtain ⟨w1, w2⟩ := lay_fits h.1 hh (g := fun l => l) (fun l => .refl _)
    exact ⟨_, w1, all_rows.mpr w2⟩
  · have e : splitM rs n = (ls, st) := e
    have e2 : Still rs n = st := by unfold Still; rw [e]
    refine .inr ⟨ls, lf, ?_⟩
    rw [e2]
    exact ⟨h1, hh, h2, stuck_open hh h1 h2 h.2⟩
theorem still_fit {rs : List (List Nat)} {n : Nat} (h : SgnOk rs n) : Still rs n = [] ↔ Fit rs n := by
  constructor
  · intro e
    rcases still_cases h with ⟨_, f⟩ | ⟨_, _, z, _⟩
    · exact f
    · exact absurd e z
  · intro f
    rcases still_cases h with ⟨e, _⟩ | ⟨ls, lf, z, hh, h2, nf⟩
    · exact e
    · obtain ⟨o, ho, hf⟩ := f
      refine absurd ⟨o, ho, fun r hr => ?_⟩ nf
      obtain ⟨k, hk, rfl⟩ := List.mem_map.mp hr
      exact all_rows.mp hf k (List.mem_range.mp (List.mem_filter.mp (hh.sub.subset hk)).1)
/-! the lot that is told -/
def qStep (rs : List (List Nat)) (n : Nat) (kept : List Nat) (i : Nat) : List Nat :=
  if Still (selQ rs (kept.filter fun j => !decide (j = i))) n = [] then kept else kept.filter fun j => !decide (j = i)
structure QI (rs : List (List Nat)) (n : Nat) (kept seen : List Nat) : Prop where
  sub : kept.Sublist (List.range rs.length)
  nf : ¬ Fit (selQ rs kept) n
  min : ∀ i ∈ seen, i ∈ kept → Fit (selQ rs (kept.filter fun j => !decide (j = i))) n
theorem sel_sgn {rs : List (List Nat)} {n : Nat} (h : SgnOk rs n) {o : List Nat} (ho : ∀ k ∈ o, k < rs.length) : SgnOk (selQ rs o) n := by
  refine ⟨fun i c => ?_, fun i hi => ?_⟩
  · by_cases hi : i < o.length
    · rw [selQ_at hi]; exact h.1 _ _
    · unfold rowAt sgn
      rw [List.getD_eq_getElem?_getD (l := selQ rs o), List.getElem?_eq_none (by rw [selQ_len]; omega)]
      exact .inr (.inr rfl)
  · rw [selQ_len] at hi
    rw [selQ_at hi]
    exact h.2 _ (ho _ (List.getElem_mem hi))
theorem QI.next {rs : List (List Nat)} {n : Nat} (h : SgnOk rs n) {kept seen : List Nat} (q : QI rs n kept seen) (i : Nat) : QI rs n (qStep rs n kept i) (seen ++ [i]) := by
  have hf : ∀ k ∈ kept.filter (fun j => !decide (j = i)), k < rs.length := fun k hk => List.mem_range.mp (q.sub.subset (List.mem_filter.mp hk).1)
  unfold qStep
  by_cases e : Still (selQ rs (kept.filter fun j => !decide (j = i))) n = []
  · rw [if_pos e]
    refine ⟨q.sub, q.nf, fun j hj hk => ?_⟩
    rcases List.mem_append.mp hj with hj | hj
    · exact q.min j hj hk
    · rw [List.mem_singleton.mp hj]
      exact (still_fit (sel_sgn h hf)).mp e
  · rw [if_neg e]
    refine ⟨List.filter_sublist.trans q.sub, fun f => e ((still_fit (sel_sgn h hf)).mpr f), fun j hj hk => ?_⟩
    have hk' := (List.mem_filter.mp hk).1
    rcases List.mem_append.mp hj with hj | hj
    · refine fit_sel (q.min j hj hk') fun k hk2 => ?_
      obtain ⟨a, b⟩ := List.mem_filter.mp hk2
      exact List.mem_filter.mpr ⟨(List.mem_filter.mp a).1, b⟩
    · have := (List.mem_filter.mp hk).2
      rw [List.mem_singleton.mp hj] at this
      simp at this
/-! all lots of some things -/
end K31

namespace K31
open PySem PySem.Spec PyProof.Rows L2 Dw
variable [Tabs0]
end K31

namespace K31
open PySem PySem.Spec PyProof.Rows L2 Dw
variable [Tabs0]
/-! claims about a book -/
inductive Cw where
  | fits | quarrels | follows (d : D) | opn (d : D) | above (a b : D)
def Cw.word : Cw → Str
  | .fits => "fits" | .quarrels => "quarrels" | .follows _ => "follows" | .opn _ => "open" | .above _ _ => "above"
def Cw.parts : Cw → List D
  | .fits => [] | .quarrels => [] | .follows d => [d] | .opn d => [d] | .above a b => [a, b]
end K31

namespace K31
open PySem PySem.Spec PyProof.Rows L2 Dw
variable [Tabs0]
/-! the law's own draws -/
def spAnyOf : Spc where
  ty := Bool × List D
  args := fun x => [.purse, if x.1 then .lst x.2 else .tup x.2]
  ok := fun x => 0 < x.2.length ∧ x.2.length < 100000
  rel := fun x d => d ∈ x.2
end K31

namespace K31
open PySem PySem.Spec PyProof.Rows L2 Dw
variable [Tabs0]
end K31

namespace K31
open PySem PySem.Spec PyProof.Rows L2 Dw
variable [Tabs0]
/-! lots, quarrels and the rows that stay open, by the law's own look -/
end K31

namespace K31
open PySem PySem.Spec PyProof.Rows L2 Dw
variable [Tabs0]
/-! all rankings, and pairs of them -/
structure OrdI (n i : Nat) (o : List Nat) : Prop where
  len : o.length = i
  nd : o.Nodup
  lt : ∀ k ∈ o, k < n
end K31

namespace K31
open PySem PySem.Spec PyProof.Rows L2 Dw
variable [Tabs0]
/-! which rankings fit, by the layers and by walking through all -/
end K31

namespace K31
open PySem PySem.Spec PyProof.Rows L2 Dw
variable [Tabs0]
/-! any text, read as a book -/
def splitL : List Nat → List (List Nat)
  | [] => [[]]
  | c :: l => if c = 32 then [] :: splitL l else match splitL l with | [] => [[c]] | p :: r => (c :: p) :: r
theorem splitL_ne : ∀ l : List Nat, splitL l ≠ []
  | [] => fun h => nomatch h
  | c :: l => by
    unfold splitL
    by_cases h : c = 32
    · rw [if_pos h]; exact fun h => nomatch h
    · rw [if_neg h]
      cases splitL l <;> exact fun h => nomatch h
theorem splitL_cons {c : Nat} {l : List Nat} (h : c ≠ 32) {p : List Nat} {r : List (List Nat)} (e : splitL l = p :: r) : splitL (c :: l) = (c :: p) :: r := by
  show (if c = 32 then [] :: splitL l else match splitL l with | [] => [[c]] | p :: r => (c :: p) :: r) = _
  rw [if_neg h, e]
theorem splitL_sp (l : List Nat) : splitL (32 :: l) = [] :: splitL l := if_pos rfl
theorem splitL_ind {P : List Nat → List (List Nat) → Prop} (h0 : P [] [[]]) (h1 : ∀ l ps, ps ≠ [] → P l ps → P (32 :: l) ([] :: ps)) (h2 : ∀ c l p r, c ≠ 32 → P l (p :: r) → P (c :: l) ((c :: p) :: r)) : ∀ l, P l (splitL l)
  | [] => h0
  | c :: l => by
    have ih := splitL_ind h0 h1 h2 l
    by_cases h : c = 32
    · subst h
      rw [splitL_sp]
      exact h1 l _ (splitL_ne l) ih
    · cases e : splitL l with
      | nil => exact absurd e (splitL_ne l)
      | cons p r =>
        rw [splitL_cons h e]
        rw [e] at ih
        exact h2 c l p r h ih
theorem joinX_cons (p : List Nat) {r : List (List Nat)} (h : r ≠ []) : TL.joinL [32] (p :: r) = p ++ ([32] ++ TL.joinL [32] r) := by
  cases r with
  | nil => exact absurd rfl h
  | cons q r => simp [TL.joinL]
theorem joinL_one (p : List Nat) : TL.joinL [32] [p] = p := by simp [TL.joinL]
theorem joinL_head (c : Nat) (p : List Nat) (r : List (List Nat)) : TL.joinL [32] ((c :: p) :: r) = c :: TL.joinL [32] (p :: r) := by
  cases r with
  | nil => rw [joinL_one, joinL_one]
  | cons q r => rw [joinX_cons (c :: p) (r := q :: r) (by simp), joinX_cons p (r := q :: r) (by simp)]; rfl
theorem splitL_join (l : List Nat) : TL.joinL [32] (splitL l) = l := splitL_ind (P := fun l ps => TL.joinL [32] ps = l) rfl (fun l ps hn h => by rw [joinX_cons _ hn, h]; rfl) (fun c l p r _ h => by rw [joinL_head, h]) l
theorem splitL_no (l : List Nat) : ∀ p ∈ splitL l, 32 ∉ p := splitL_ind (P := fun _ ps => ∀ p ∈ ps, 32 ∉ p) (fun p h => by rw [List.mem_singleton.mp h]; simp) (fun l ps _ h p hp => by
  rcases List.mem_cons.mp hp with rfl | hp
  · simp
  · exact h p hp) (fun c l p r hc h q hq => by
  rcases List.mem_cons.mp hq with rfl | hq
  · have := h p List.mem_cons_self
    intro hm
    rcases List.mem_cons.mp hm with e | hm
    · exact hc e.symm
    · exact this hm
  · exact h q (List.mem_cons_of_mem _ hq)) l
theorem splitL_len (l : List Nat) : (splitL l).length ≤ l.length + 1 := splitL_ind (P := fun l ps => ps.length ≤ l.length + 1) (Nat.le_refl _) (fun l ps _ h => by simp; omega) (fun c l p r _ h => by simp at h ⊢; omega) l
theorem splitL_sub (l : List Nat) : ∀ p ∈ splitL l, p.length ≤ l.length ∧ ∀ c ∈ p, c ∈ l := splitL_ind (P := fun l ps => ∀ p ∈ ps, p.length ≤ l.length ∧ ∀ c ∈ p, c ∈ l) (fun p h => by rw [List.mem_singleton.mp h]; simp) (fun l ps _ h p hp => by
  rcases List.mem_cons.mp hp with rfl | hp
  · simp
  · obtain ⟨a, b⟩ := h p hp
    exact ⟨by simp; omega, fun c hc => List.mem_cons_of_mem _ (b c hc)⟩) (fun c l p r _ h q hq => by
  rcases List.mem_cons.mp hq with rfl | hq
  · obtain ⟨a, b⟩ := h p List.mem_cons_self
    refine ⟨by simp; omega, fun d hd => ?_⟩
    rcases List.mem_cons.mp hd with rfl | hd
    · exact List.mem_cons_self
    · exact List.mem_cons_of_mem _ (b d hd)
  · obtain ⟨a, b⟩ := h q (List.mem_cons_of_mem _ hq)
    exact ⟨by simp; omega, fun d hd => List.mem_cons_of_mem _ (b d hd)⟩) l
theorem splitS (l : List Nat) : Txt.split (tx l) (Str.ofString " ") = (splitL l).map tx := by
  have := split_sp (splitL_ne l) (splitL_no l)
  rw [splitL_join] at this
  exact this
theorem names_some {ns : List (List Nat)} (h : ns ≠ []) (h8 : ns.length ≤ 8) (hn : namesB (nameD ns) = true) : NamesOk ns := by
  obtain ⟨ls, e, h1, h2⟩ := namesB_iff.mp hn
  have e : ns = ls := by
    have := congrArg (fun ds => ds.map codesOf) e
    rw [codes_name, codes_name] at this
    exact this
  subst e
  exact ⟨by cases ns with | nil => exact absurd rfl h | cons _ _ => simp, h8, h1, h2⟩
theorem okS_codes {l : List Nat} (h : okS (tx l)) : ∀ c ∈ l, c < 1114112 := fun c hc => by
  have h : (tx l).cps.all (fun c => decide (c < 1114112)) = true := h
  rw [← Array.all_toList, List.all_eq_true, tx_cps] at h
  exact of_decide_eq_true (h c hc)
/-- a text that is not long beyond sense -/
def shT : D → Bool
  | .str x => decide (x.length ≤ 15000)
  | _ => true
end K31

namespace K31
open PySem PySem.Spec PyProof.Rows L2 Dw
variable [Tabs0]
/-! cases: names with marks -/
structure NumOk (l : List Nat) (k : Nat) : Prop where
  lo : 1 ≤ l.length
  hi : l.length ≤ 2
  dig : ∀ c ∈ l, 48 ≤ c ∧ c ≤ 57
  lead : (decide (l = [48]) || !decide (sgn l 0 = 48)) = true
  val : NumText.digitsVal l = k
def numB (k : Nat) : Bool := decide (1 ≤ (TL.numL k).length) && decide ((TL.numL k).length ≤ 2) && (TL.numL k).all (fun c => decide (48 ≤ c) && decide (c ≤ 57)) && (decide (TL.numL k = [48]) || !decide (sgn (TL.numL k) 0 = 48)) && decide (NumText.digitsVal (TL.numL k) = k)
theorem num_all : (List.range 100).all numB = true := by decide +kernel
theorem num_ok {k : Nat} (h : k < 100) : NumOk (TL.numL k) k := by
  have := List.all_eq_true.mp num_all k (List.mem_range.mpr h)
  unfold numB at this
  rw [Bool.and_eq_true, Bool.and_eq_true, Bool.and_eq_true, Bool.and_eq_true, decide_eq_true_eq, decide_eq_true_eq, decide_eq_true_eq, List.all_eq_true] at this
  obtain ⟨⟨⟨⟨a, b⟩, c⟩, d⟩, e⟩ := this
  refine ⟨a, b, fun x hx => ?_, d, e⟩
  have := c x hx
  rw [Bool.and_eq_true, decide_eq_true_eq, decide_eq_true_eq] at this
  exact this
theorem digitsS : Str.ofString "0123456789" = tx ((List.range 10).map (48 + ·)) := by decide +kernel
theorem zeroS : Str.ofString "0" = ch 48 := by decide +kernel
theorem semiS : Str.ofString "; " = tx [59, 32] := by decide +kernel
def wordsL (p : List Nat × List Nat) : List (List Nat) := p.1 :: p.2.map TL.numL
def partT (p : List Nat × List Nat) : List Nat := TL.joinL [32] (wordsL p)
def caseTx (ls ms : List (List Nat)) : List Nat := TL.joinL [59, 32] ((ls.zip ms).map partT)
structure CaseOk (ls ms : List (List Nat)) (n : Nat) : Prop where
  names : NamesOk ls
  two : 2 ≤ ls.length
  same : ms.length = ls.length
  wide : ∀ m ∈ ms, m.length = n
  lo : 1 ≤ n
  hi : n ≤ 8
  marks : ∀ m ∈ ms, ∀ k ∈ m, k < 100
def caseD (ls ms : List (List Nat)) : D := .tup [.tupN (nameD ls), .tup (ms.map fun m => .tup (ordD m))]
theorem ch_sameC {a b : Nat} : decide (ch a = ch b) = decide (a = b) := decide_eq_decide.mpr ch_eq
theorem ev_strK {Γ : Gam} {ta : TE} {i : Int} (h : Ev ta Γ (.int i)) (hz : i.natAbs.log2 < 1920) : Ev (tCB (fun xs H Q => ∃ i, xs = [.int i] ∧ i.natAbs.log2 < 1920 ∧ Q (.str (toString i)) H) (tCons ta tNil)) Γ (.str (Str.ofString (toString i))) := fun F σ W Q g k =>
  h F σ W _ g fun v H s r => ⟨i, by rw [show v = V.int i from r], hz, k _ H s rfl⟩
theorem ev_intS {Γ : Gam} {ta : TE} {a : Str} {n : Int} (h : Ev ta Γ (.str a)) (hn : PySem.intText? a = some n) (hl : a.length ≤ 640) : Ev (tCB (fun xs H Q => ∃ a n, xs = [.str a] ∧ PySem.intText? a = some n ∧ a.length ≤ 640 ∧ Q (.int n) H) (tCons ta tNil)) Γ (.int n) := fun F σ W Q g k =>
  h F σ W _ g fun v H s r => ⟨a, n, by rw [show v = V.str a from r], hn, hl, k _ H s rfl⟩
theorem NumOk.int {l : List Nat} {k : Nat} (h : NumOk l k) : PySem.intText? (tx l) = some (k : Int) := by
  have := SX.int_S (a := l) (List.all_eq_true.mpr fun c hc => by
    have := h.dig c hc
    rw [Bool.and_eq_true, decide_eq_true_eq, decide_eq_true_eq]; exact this) (fun e => by have := h.lo; rw [e] at this; cases this) (by have := h.hi; omega)
  rw [h.val] at this
  exact this
theorem joinX_c {c : Nat} {sep : List Nat} (hs : c ∉ sep) : ∀ ps : List (List Nat), (∀ p ∈ ps, c ∉ p) → c ∉ TL.joinL sep ps
  | [], _, hc => absurd hc (by simp [TL.joinL])
  | [l], h, hc => h l List.mem_cons_self (by simpa [TL.joinL] using hc)
  | l :: m :: r, h, hc => by
    have e : TL.joinL sep (l :: m :: r) = l ++ (sep ++ TL.joinL sep (m :: r)) := by simp [TL.joinL]
    rw [e, List.mem_append, List.mem_append] at hc
    rcases hc with hc | hc | hc
    · exact h l List.mem_cons_self hc
    · exact hs hc
    · exact joinX_c hs (m :: r) (fun l' hl => h l' (List.mem_cons_of_mem _ hl)) hc
theorem joinL_lenB {m : Nat} (sep : List Nat) : ∀ ps : List (List Nat), (∀ p ∈ ps, p.length ≤ m) → (TL.joinL sep ps).length ≤ ps.length * (m + sep.length)
  | [], _ => by simp [TL.joinL]
  | [l], h => by
    have := h l List.mem_cons_self
    simp [TL.joinL]; omega
  | l :: q :: r, h => by
    have e : TL.joinL sep (l :: q :: r) = l ++ (sep ++ TL.joinL sep (q :: r)) := by simp [TL.joinL]
    have ih := joinL_lenB sep (q :: r) fun p hp => h p (List.mem_cons_of_mem _ hp)
    have h1 := h l List.mem_cons_self
    rw [e, List.length_append, List.length_append, List.length_cons (a := l), Nat.succ_mul]
    omega
theorem CaseOk.zip {ls ms : List (List Nat)} {n : Nat} (h : CaseOk ls ms n) {p : List Nat × List Nat} (hp : p ∈ ls.zip ms) : NameOk p.1 ∧ p.2.length = n ∧ ∀ k ∈ p.2, k < 100 :=
  ⟨h.names.all _ (List.of_mem_zip hp).1, h.wide _ (List.of_mem_zip hp).2, h.marks _ (List.of_mem_zip hp).2⟩
theorem words_no {p : List Nat × List Nat} {n c : Nat} (h : NameOk p.1 ∧ p.2.length = n ∧ ∀ k ∈ p.2, k < 100) (hc : c = 32 ∨ c = 59) : ∀ w ∈ wordsL p, c ∉ w := fun w hw hm => by
  rcases List.mem_cons.mp hw with rfl | hw
  · have := h.1.all c hm; omega
  · obtain ⟨k, hk, rfl⟩ := List.mem_map.mp hw
    have := (num_ok (h.2.2 k hk)).dig c hm; omega
theorem words_len {p : List Nat × List Nat} {n : Nat} (h : NameOk p.1 ∧ p.2.length = n ∧ ∀ k ∈ p.2, k < 100) : (wordsL p).length = n + 1 := by
  unfold wordsL
  rw [List.length_cons, List.length_map, h.2.1]
theorem words_8 {p : List Nat × List Nat} {n : Nat} (h : NameOk p.1 ∧ p.2.length = n ∧ ∀ k ∈ p.2, k < 100) : ∀ w ∈ wordsL p, w.length ≤ 8 := fun w hw => by
  rcases List.mem_cons.mp hw with rfl | hw
  · exact h.1.hi
  · obtain ⟨k, hk, rfl⟩ := List.mem_map.mp hw
    have := (num_ok (h.2.2 k hk)).hi; omega
theorem CaseOk.part {ls ms : List (List Nat)} {n : Nat} (h : CaseOk ls ms n) {q : List Nat} (hq : q ∈ (ls.zip ms).map partT) : q.length ≤ 81 ∧ 59 ∉ q := by
  obtain ⟨p, hp, rfl⟩ := List.mem_map.mp hq
  have hz := h.zip hp
  refine ⟨?_, joinX_c (by simp) _ fun w hw => words_no hz (.inr rfl) w hw⟩
  have := joinL_lenB (m := 8) [32] (wordsL p) fun w hw => words_8 hz w hw
  rw [words_len hz] at this
  have h8 := h.hi
  have : (n + 1) * (8 + [32].length) ≤ 9 * 9 := Nat.mul_le_mul (by omega) (by decide)
  show (TL.joinL [32] (wordsL p)).length ≤ 81
  omega
theorem CaseOk.zl {ls ms : List (List Nat)} {n : Nat} (h : CaseOk ls ms n) : (ls.zip ms).length = ls.length := by
  rw [List.length_zip, h.same, Nat.min_self]
theorem CaseOk.len {ls ms : List (List Nat)} {n : Nat} (h : CaseOk ls ms n) : (caseTx ls ms).length ≤ 664 := by
  have := joinL_lenB (m := 81) [59, 32] ((ls.zip ms).map partT) fun q hq => (h.part hq).1
  rw [List.length_map, h.zl] at this
  have h8 := h.names.hi
  have : ls.length * (81 + [59, 32].length) ≤ 8 * 83 := Nat.mul_le_mul h8 (by decide)
  unfold caseTx
  omega
theorem CaseOk.split {ls ms : List (List Nat)} {n : Nat} (h : CaseOk ls ms n) : (Txt.split (tx (caseTx ls ms)) (Str.ofString "; ")).map D.str = (ls.zip ms).map fun p => D.str (tx (partT p)) := by
  have hne : (ls.zip ms).map partT ≠ [] := fun e => by
    have h2 := h.two
    have := congrArg List.length e
    rw [List.length_map, h.zl] at this
    have : ls.length = 0 := this
    omega
  have e := SX.split_S (a := caseTx ls ms) (b := [59, 32]) (by simp) (by decide)
  unfold caseTx at e
  rw [SX.spl_join hne fun q hq => (h.part hq).2] at e
  rw [semiS]
  show (Txt.split (tx (TL.joinL [59, 32] ((ls.zip ms).map partT))) (tx [59, 32])).map D.str = _
  rw [show Txt.split (tx (TL.joinL [59, 32] ((ls.zip ms).map partT))) (tx [59, 32]) = ((ls.zip ms).map partT).map tx from e, List.map_map, List.map_map]; rfl
end K31

namespace K31
open PySem PySem.Spec PyProof.Rows L2 Dw
variable [Tabs0]
/-! any text, read as a case -/
def digC (c : Nat) : Bool := decide (c ∈ (List.range 10).map (48 + ·))
theorem digC_iff {c : Nat} : digC c = true ↔ 48 ≤ c ∧ c ≤ 57 := by
  unfold digC
  rw [decide_eq_true_eq, List.mem_map]
  constructor
  · rintro ⟨a, h, rfl⟩
    have := List.mem_range.mp h
    omega
  · rintro ⟨h1, h2⟩
    exact ⟨c - 48, List.mem_range.mpr (by omega), by omega⟩
def leadB (l : List Nat) : Bool := decide (l = [48]) || !decide (sgn l 0 = 48)
def numW (l : List Nat) : Bool := !decide (l = []) && (l.all digC && leadB l)
def markW (l : List Nat) : Option Nat := if (numW l && decide (l.length ≤ 2)) = true then some (NumText.digitsVal l) else none
def optN : Option Nat → D | some k => .int k | none => .non
theorem numW_ok {l : List Nat} (h : numW l = true) (h2 : l.length ≤ 2) : NumOk l (NumText.digitsVal l) := by
  unfold numW at h
  rw [Bool.and_eq_true, Bool.and_eq_true, Bool.not_eq_true', decide_eq_false_iff_not, List.all_eq_true] at h
  refine ⟨?_, h2, fun c hc => digC_iff.mp (h.2.1 c hc), h.2.2, rfl⟩
  cases l with
  | nil => exact absurd rfl h.1
  | cons _ _ => simp
theorem dig_two : ∀ i < 10, ∀ j < 10, NumText.digitsVal [48 + i, 48 + j] < 100 := by decide +kernel
theorem dig_one : ∀ i < 10, NumText.digitsVal [48 + i] < 100 := by decide +kernel
theorem NumOk.lt {l : List Nat} {k : Nat} (h : NumOk l k) : k < 100 := by
  have e := h.val
  have h1 := h.lo
  have h2 := h.hi
  have hd := h.dig
  match l, h1, h2 with
  | [a], _, _ =>
    have := hd a List.mem_cons_self
    rw [← e, show a = 48 + (a - 48) by omega]
    exact dig_one _ (by omega)
  | [a, b], _, _ =>
    have ha := hd a List.mem_cons_self
    have hb := hd b (by simp)
    rw [← e, show a = 48 + (a - 48) by omega, show b = 48 + (b - 48) by omega]
    exact dig_two _ (by omega) _ (by omega)
theorem markW_some {l : List Nat} {k : Nat} (h : markW l = some k) : NumOk l k ∧ k < 100 := by
  unfold markW at h
  by_cases hb : (numW l && decide (l.length ≤ 2)) = true
  · rw [if_pos hb] at h
    rw [Bool.and_eq_true, decide_eq_true_eq] at hb
    have ho := numW_ok hb.1 hb.2
    rw [Option.some.inj h] at ho
    exact ⟨ho, ho.lt⟩
  · rw [if_neg hb] at h; cases h
theorem NumOk.mark {l : List Nat} {k : Nat} (h : NumOk l k) : markW l = some k := by
  have h1 := h.lo
  have hn : numW l = true := by
    unfold numW
    rw [decide_eq_false (fun e => by rw [e] at h1; cases h1), List.all_eq_true.mpr (fun c hc => digC_iff.mpr (h.dig c hc)), show leadB l = true from h.lead]; rfl
  unfold markW
  rw [hn, decide_eq_true h.hi, h.val]; rfl
def spIsNumG : Spc where
  ty := List Nat
  args := fun l => [.str (tx l)]
  ok := fun l => l.length ≤ 15000
  rel := fun l d => d = .bl (numW l)
def spMarkG : Spc where
  ty := List Nat
  args := fun l => [.str (tx l)]
  ok := fun l => l.length ≤ 15000
  rel := fun l d => d = optN (markW l)
/-! the parts of a text -/
theorem spl_ne (S : List Nat) : ∀ (k : Nat) (acc l : List Nat), TL.spl S k acc l ≠ []
  | k, acc, [] => by rw [TL.spl_nil]; exact fun h => nomatch h
  | 0, acc, c :: r => by
    cases h : TL.pre S (c :: r) with
    | true => rw [TL.spl_hit h]; exact fun h => nomatch h
    | false => rw [TL.spl_miss h]; exact spl_ne S 0 _ r
  | k + 1, acc, _ :: r => spl_ne S k acc r
theorem spl_len (S : List Nat) : ∀ (k : Nat) (acc l : List Nat), (TL.spl S k acc l).length ≤ l.length + 1
  | k, acc, [] => by rw [TL.spl_nil]; exact Nat.le_refl _
  | 0, acc, c :: r => by
    cases h : TL.pre S (c :: r) with
    | true =>
      rw [TL.spl_hit h, List.length_cons, List.length_cons]
      have := spl_len S (S.length - 1) [] r
      omega
    | false =>
      rw [TL.spl_miss h, List.length_cons]
      have := spl_len S 0 (acc ++ [c]) r
      omega
  | k + 1, acc, _ :: r => Nat.le_trans (spl_len S k acc r) (by rw [List.length_cons]; omega)
theorem spl_sub (S : List Nat) : ∀ (k : Nat) (acc l : List Nat), ∀ p ∈ TL.spl S k acc l, p.length ≤ acc.length + l.length ∧ ∀ c ∈ p, c ∈ acc ++ l
  | k, acc, [], p, hp => by
    rw [TL.spl_nil, List.mem_singleton] at hp
    subst hp
    exact ⟨Nat.le_refl _, fun c hc => List.mem_append_left _ hc⟩
  | 0, acc, c :: r, p, hp => by
    cases h : TL.pre S (c :: r) with
    | true =>
      rw [TL.spl_hit h, List.mem_cons] at hp
      rcases hp with rfl | hp
      · exact ⟨by omega, fun c hc => List.mem_append_left _ hc⟩
      · obtain ⟨h1, h2⟩ := spl_sub S (S.length - 1) [] r p hp
        refine ⟨by simp at h1 ⊢; omega, fun d hd => ?_⟩
        have := h2 d hd
        simp at this ⊢
        exact .inr (.inr this)
    | false =>
      rw [TL.spl_miss h] at hp
      obtain ⟨h1, h2⟩ := spl_sub S 0 (acc ++ [c]) r p hp
      refine ⟨by simp at h1 ⊢; omega, fun d hd => ?_⟩
      have := h2 d hd
      simp at this ⊢
      exact this
  | k + 1, acc, c :: r, p, hp => by
    obtain ⟨h1, h2⟩ := spl_sub S k acc r p hp
    refine ⟨by rw [List.length_cons]; omega, fun d hd => ?_⟩
    have := h2 d hd
    simp at this ⊢
    rcases this with h | h
    · exact .inl h
    · exact .inr (.inr h)
def semiL (l : List Nat) : List (List Nat) := TL.spl [59, 32] 0 [] l
theorem semiS_split (l : List Nat) : Txt.split (tx l) (Str.ofString "; ") = (semiL l).map tx := by
  rw [semiS]
  exact SX.split_S (a := l) (b := [59, 32]) (by simp) (by decide)
def partsL (l : List Nat) : List (List (List Nat)) := (semiL l).map splitL
theorem parts_ne (l : List Nat) : ∀ ws ∈ partsL l, ws ≠ [] := fun ws h => by
  obtain ⟨p, _, rfl⟩ := List.mem_map.mp h
  exact splitL_ne p
theorem parts_len (l : List Nat) : (partsL l).length ≤ l.length + 1 := by
  unfold partsL
  rw [List.length_map]
  exact spl_len _ 0 [] l
theorem parts_word (l : List Nat) : ∀ ws ∈ partsL l, ws.length ≤ l.length + 1 ∧ ∀ w ∈ ws, w.length ≤ l.length ∧ ∀ c ∈ w, c ∈ l := fun ws h => by
  obtain ⟨p, hp, rfl⟩ := List.mem_map.mp h
  obtain ⟨h1, h2⟩ := spl_sub [59, 32] 0 [] l p hp
  have h1 : p.length ≤ l.length := by simpa using h1
  have := splitL_len p
  refine ⟨by omega, fun w hw => ?_⟩
  obtain ⟨s1, s2⟩ := splitL_sub p w hw
  exact ⟨by omega, fun c hc => by simpa using h2 c (s2 c hc)⟩
def headsL (ps : List (List (List Nat))) : List (List Nat) := ps.map fun ws => ws.headD []
def manyL (ps : List (List (List Nat))) : Nat := (ps.headD []).length - 1
def marksO (ws : List (List Nat)) : List (Option Nat) := (ws.drop 1).map markW
def marksN (ps : List (List (List Nat))) : List (List Nat) := ps.map fun ws => (marksO ws).map fun o => o.getD 0
def candB (ps : List (List (List Nat))) : Bool := (decide (2 ≤ ps.length) && decide (ps.length ≤ 8)) && namesB (nameD (headsL ps))
def wideB (ps : List (List (List Nat))) : Bool := (decide (1 ≤ manyL ps) && decide (manyL ps ≤ 8)) && ps.all fun ws => decide (ws.length = manyL ps + 1)
def allMB (ps : List (List (List Nat))) : Bool := ps.all fun ws => !decide (none ∈ marksO ws)
abbrev CaseV := List (List Nat) × List (List Nat) × Nat
def caseP (ps : List (List (List Nat))) : Option CaseV := if (candB ps && (wideB ps && allMB ps)) = true then some (headsL ps, marksN ps, manyL ps) else none
def caseQ (l : List Nat) : Option CaseV := caseP (partsL l)
def caseOf : D → Option CaseV
  | .str x => caseQ x.cps.toList
  | _ => none
def optC : Option CaseV → D | some c => caseD c.1 c.2.1 | none => .non
theorem case_no {d : D} (h : isStrB d = false) : caseOf d = none := by cases d <;> first | rfl | exact nomatch h
theorem cs_none {l : List Nat} (h : caseQ l = none) : D.non = optC (caseOf (.str (tx l))) := by
  show _ = optC (caseQ (tx l).cps.toList)
  rw [tx_cps, h]; rfl
theorem inV_opt (r : List (Option Nat)) : inV .non ((r.map optN).map scV) = decide (none ∈ r) := by
  unfold inV
  rw [List.map_map, List.any_map, Bool.eq_iff_iff, List.any_eq_true, decide_eq_true_eq]
  constructor
  · rintro ⟨o, ho, e⟩
    cases o with
    | none => exact ho
    | some k => exact absurd (show eqV (V.int (k : Int)) V.non = true from e) Bool.false_ne_true
  · exact fun h => ⟨none, h, rfl⟩
theorem sc_opt (r : List (Option Nat)) : (r.map optN).all isSc = true := by
  rw [List.all_map, List.all_eq_true]
  intro o _
  cases o <;> rfl
theorem headD_at {ws : List (List Nat)} (h : ws ≠ []) : (nameD ws)[0]? = some (.str (tx (ws.headD []))) := by
  cases ws with
  | nil => exact absurd rfl h
  | cons w r => rfl
end K31

namespace K31
open PySem PySem.Spec PyProof.Rows L2 Dw
variable [Tabs0]
theorem d_is_number {P : Program} {w : World} {K : PySem.W.Frag} {mg : Str → Option Value} {base : Heap} (T : Txt K w mg) : FnOk P w K mg base CX0 1 T.f_is_number T.e_is_number ["word"] (toSp (spIsNumG)) := by
  refine fn_ok T.F_is_number sc_is_number (fun _ => rfl) fun cdv A outer s' H E hr => ?_
  refine ⟨_, (pss_cons (ps_if (PW.pt (pw_or (pt_cmpR (eqA K hr.units) (pv 0) pe_str (nomark _)) (pw_or1 (pt_not (truA K (pe_callB (allA K) (by rfl) T.n_all (by decide +kernel) (pa_cons (pe_lc (own := [("digit", 1)]) rfl sc_is_number.nd (piR K (pv 0)) (blkOk_by (own := [("digit", 1)]) (N := N_is_number) (sc := (defScope s_is_number)) (by decide +kernel)) (fun _ _ _ _ _ => pg_name (i := 1) sc_is_number.nd rfl (Or.inl rfl)) (fun _ _ _ _ _ => pts_nil) (fun _ _ _ _ _ => (pe_cmpR (inA K) (pv 1) (pe_glob (v := .str "0123456789") (by rfl) T.c_DIGITS ⟨_, rfl⟩) (by rfl)))) pa_nil))))))) (pss_one (ps_ret pe_bl)) pss_nil) (pss_one (ps_ret (pe_or (pe_cmpR (eqA K hr.units) (pv 0) pe_str (nomark _)) (pe_one (pe_cmpR (neA K hr.units) (pe_ix (ixA K) (pv 0) pe_int (fun _ _ => rfl)) pe_str (nomark _))))))), fun x hx => ?_⟩
  obtain ⟨l, rfl⟩ : ∃ l' : List Nat, l' = x := ⟨x, rfl⟩
  have hz : l.length ≤ 15000 := hx
  have e0 : decide (tx l = Str.ofString "") = decide (l = []) := by
    rw [show Str.ofString "" = tx [] by decide +kernel]
    exact decide_eq_decide.mpr tx_eq
  refine ds_seq (ds_if (EvT.dl (b := decide (l = []) || !l.all digC) (evt_or (a := decide (l = [])) (b := !l.all digC) (evt_test (ev_op (ev_var rfl) ev_str (eq_sb e0))) fun _ => evt_not (evt_tru_bl (ev_all_lc (K := K) (xs := l) (c := fun c => .str (ch c)) (b := digC) ?it (by omega) fun c hc => ⟨[1], _, dg_name, fun i hi => hi, evt_yes, ev_op (ev_var rfl) ev_str ?dg⟩))) ⟨fun h => ds_ret (Ev.dl ev_bl ?r1), fun h => ds_next ?_⟩))
  case it =>
    have := ej_str (K := K) (ta := tVar 0) (Γ := Gz0 2 (spIsNumG.args l)) (x := tx l) (ev_var rfl)
    rw [signs_tx, List.map_map] at this
    exact this
  case dg =>
    rw [digitsS]
    exact in_code
  case r1 =>
    show D.bl false = D.bl (numW l)
    unfold numW
    rw [Bool.or_eq_true, Bool.not_eq_true'] at h
    rcases h with h | h
    · rw [h]; rfl
    · rw [h, Bool.false_and, Bool.and_false]
  rw [Bool.or_eq_false_iff, Bool.not_eq_false'] at h
  have hl : 0 < l.length := by
    cases l with
    | nil => exact absurd h.1 (by decide)
    | cons _ _ => simp
  refine ds_ret (Ev.dl (ev_orV (a := decide (l = [48])) (b := !decide (sgn l 0 = 48)) (ev_op (ev_var rfl) ev_str (eq_sb ?qa)) fun _ => ev_op (ev_op (ev_var rfl) ev_int (dr2_ixS (x := tx l) (by rw [tx_len]; exact small (by omega)) (sgn_at (l := l) (k := 0) rfl hl))) ev_str (ne_sb ?qb)) ?_)
  case qa =>
    rw [zeroS]
    exact decide_eq_decide.mpr (tx_eq (b := [48]))
  case qb =>
    rw [zeroS]
    show (!decide (ch (sgn l 0) = ch 48)) = _
    rw [ch_sameC]
  show D.bl _ = D.bl (numW l)
  unfold numW leadB
  rw [h.1, h.2]; rfl
end K31

namespace K31
open PySem PySem.Spec PyProof.Rows L2 Dw
variable [Tabs0]
theorem d_read_mark {P : Program} {w : World} {K : PySem.W.Frag} {mg : Str → Option Value} {base : Heap} (T : Txt K w mg) : FnOk P w K mg base CX0 2 T.f_read_mark T.e_read_mark ["word"] (toSp (spMarkG)) := by
  refine fn_ok T.F_read_mark sc_read_mark (fun _ => rfl) fun cdv A outer s' H E hr => ?_
  refine ⟨_, (pss_cons (ps_if (PW.pt (pw_or (pt_not (truA K (pe_call (d_is_number T) (hr.mono (by decide)) (by rfl) T.m_is_number T.F_is_number.kp T.b_is_number .nil pass0 (pa_cons (pv 0) pa_nil)))) (pw_or (pt_cmpR opGt (pe_callB (lenA K) (by rfl) T.n_len (by decide +kernel) (pa_cons (pv 0) pa_nil)) (pe_callB (lenA K) (by rfl) T.n_len (by decide +kernel) (pa_cons (pe_callTy call_str_int (by rfl) T.n_str (by decide +kernel) (pa_cons (pe_glob (v := .int 99) (by rfl) T.c_MOST_MARKS ⟨_, rfl⟩) pa_nil)) pa_nil)) (nomark _)) (pw_or1 (pt_cmpR opGt (pe_callTy call_int_str (by rfl) T.n_int (by decide +kernel) (pa_cons (pv 0) pa_nil)) (pe_glob (v := .int 99) (by rfl) T.c_MOST_MARKS ⟨_, rfl⟩) (nomark _)))))) (pss_one (ps_ret pe_non)) pss_nil) (pss_one (ps_ret (pe_callTy call_int_str (by rfl) T.n_int (by decide +kernel) (pa_cons (pv 0) pa_nil))))), fun x hx => ?_⟩
  obtain ⟨l, rfl⟩ : ∃ l' : List Nat, l' = x := ⟨x, rfl⟩
  have hz : l.length ≤ 15000 := hx
  have s2 : (Str.ofString (toString (99 : Int))).length = 2 := by decide +kernel
  have hz2 : (tx l).length ≤ sizeLine := by rw [tx_len]; exact small (by omega)
  have en : Ev (tCall (toSp spIsNumG) [] E0 (tCons (tVar 0) tNil)) (Gz0 1 (spMarkG.args l)) (.bl (numW l)) := ev_call (s := spIsNumG) (x := l) (eva_cons (ev_var rfl) eva_nil) rfl hz fun d h => h
  by_cases h1 : numW l = true
  · rw [h1] at en
    by_cases h2 : l.length ≤ 2
    · have ho := numW_ok h1 h2
      have hk := ho.lt
      have em : markW l = some (NumText.digitsVal l) := ho.mark
      have hi : Ev (tCB (fun xs H Q => ∃ a n, xs = [.str a] ∧ PySem.intText? a = some n ∧ a.length ≤ 640 ∧ Q (.int n) H) (tCons (tVar 0) tNil)) (Gz0 1 (spMarkG.args l)) (.int (NumText.digitsVal l : Nat)) := ev_intS (ev_var rfl) ho.int (by rw [tx_len]; omega)
      refine ds_seq (ds_if (EvT.dl (b := false) (evt_or (a := false) (b := false) (evt_not (a := true) (evt_tru_bl en)) fun _ => evt_or (a := false) (b := false) (evt_test (ev_op (ev_lenS (ev_var rfl) hz2) (ev_lenS (ev_strK ev_int (by decide)) (by rw [s2]; decide)) (gt_b (decide_eq_false (by rw [s2, tx_len]; show ¬ ((2 : Nat) : Int) < (l.length : Int); omega))))) fun _ => evt_test (ev_op hi ev_int (gt_b (decide_eq_false (by omega))))) ⟨fun h => (nomatch h), fun _ => ds_next (ds_ret (Ev.dl hi ?_))⟩))
      show _ = optN (markW l)
      rw [em]; rfl
    · refine ds_seq (ds_if (EvT.dl (b := true) (evt_or (a := false) (b := true) (evt_not (a := true) (evt_tru_bl en)) fun _ => evt_or (a := true) (b := false) (evt_test (ev_op (ev_lenS (ev_var rfl) hz2) (ev_lenS (ev_strK ev_int (by decide)) (by rw [s2]; decide)) (gt_b (decide_eq_true (by rw [s2, tx_len]; show ((2 : Nat) : Int) < (l.length : Int); omega))))) fun h => (nomatch h)) ⟨fun _ => ds_ret (Ev.dl ev_non ?_), fun h => (nomatch h)⟩))
      show D.non = optN (markW l)
      unfold markW
      rw [decide_eq_false h2, Bool.and_false]; rfl
  · have h1 : numW l = false := by simpa using h1
    rw [h1] at en
    refine ds_seq (ds_if (EvT.dl (b := true) (evt_or (a := true) (b := false) (evt_not (a := false) (evt_tru_bl en)) fun h => (nomatch h)) ⟨fun _ => ds_ret (Ev.dl ev_non ?_), fun h => (nomatch h)⟩))
    show D.non = optN (markW l)
    unfold markW
    rw [h1]; rfl
end K31

namespace K31
open PySem PySem.Spec PyProof.Rows L2 Dw
variable [Tabs0]
/-! what can be told -/
mutual
def rOk : Nat → D → Bool
  | _, .non => true | _, .int i => shOk (.int i) && decide (shB (.int i) ≤ 10) | _, .str x => PyData.strOk x && decide (x.length ≤ 300)
  | k + 1, .tup ds => rOks k ds | k + 1, .lst ds => rOks k ds
  | _, _ => false
def rOks : Nat → List D → Bool
  | _, [] => true
  | k, d :: ds => rOk k d && rOks k ds
end
mutual
def cntD : D → Nat
  | .tup ds => cntDs ds + 1 | .lst ds => cntDs ds + 1
  | _ => 1
def cntDs : List D → Nat
  | [] => 0
  | d :: ds => cntD d + cntDs ds
end
mutual
theorem rOk_sh : ∀ (k : Nat) (d : D), rOk k d = true → dOk k d = true ∧ shOk d = true ∧ shB d + 2 ≤ 3010 * cntD d
  | k, .non, _ => ⟨by cases k <;> rfl, rfl, by show 5 + 2 ≤ 3010 * 1; decide⟩
  | k, .int i, h => by
    have h : (shOk (.int i) && decide (shB (.int i) ≤ 10)) = true := by cases k <;> exact h
    rw [Bool.and_eq_true, decide_eq_true_eq] at h
    exact ⟨by cases k <;> rfl, h.1, by show _ ≤ 3010 * 1; have := h.2; omega⟩
  | k, .str x, h => by
    have h : (PyData.strOk x && decide (x.length ≤ 300)) = true := by cases k <;> exact h
    rw [Bool.and_eq_true, decide_eq_true_eq] at h
    obtain ⟨h1, h2⟩ := h
    exact ⟨by cases k <;> exact h1, rfl, by show 10 * x.length + 2 + 2 ≤ 3010 * 1; omega⟩
  | k + 1, .tup ds, h => by
    obtain ⟨h1, h2, h3⟩ := rOks_sh k ds h
    exact ⟨h1, h2, by show shBs ds + 4 + 2 ≤ 3010 * (cntDs ds + 1); omega⟩
  | k + 1, .lst ds, h => by
    obtain ⟨h1, h2, h3⟩ := rOks_sh k ds h
    exact ⟨h1, h2, by show shBs ds + 4 + 2 ≤ 3010 * (cntDs ds + 1); omega⟩
  | 0, .tup _, h => nomatch h
  | 0, .lst _, h => nomatch h
  | k, .bl _, h => by cases k <;> exact nomatch h
  | k, .dct _ _, h => by cases k <;> exact nomatch h
  | k, .obj _ _ _, h => by cases k <;> exact nomatch h
  | k, .raw _, h => by cases k <;> exact nomatch h
  | k, .purse, h => by cases k <;> exact nomatch h
  | k, .rng _ _, h => by cases k <;> exact nomatch h
  | k, .scr _ _, h => by cases k <;> exact nomatch h
  | k, .tag _, h => by cases k <;> exact nomatch h
  | k, .tupN _, h => by cases k <;> exact nomatch h
theorem rOks_sh : ∀ (k : Nat) (ds : List D), rOks k ds = true → dOks k ds = true ∧ shOks ds = true ∧ shBs ds ≤ 3010 * cntDs ds
  | k, [], _ => ⟨by cases k <;> rfl, rfl, by show 0 ≤ _; exact Nat.zero_le _⟩
  | k, d :: ds, h => by
    have e : rOks k (d :: ds) = (rOk k d && rOks k ds) := by cases k <;> rfl
    rw [e, Bool.and_eq_true] at h
    obtain ⟨a1, a2, a3⟩ := rOk_sh k d h.1
    obtain ⟨b1, b2, b3⟩ := rOks_sh k ds h.2
    have e2 : dOks k (d :: ds) = (dOk k d && dOks k ds) := by cases k <;> rfl
    refine ⟨by rw [e2, a1, b1]; rfl, by show (shOk d && shOks ds) = true; rw [a2, b2]; rfl, ?_⟩
    show shB d + 2 + shBs ds ≤ 3010 * (cntD d + cntDs ds)
    omega
end
end K31

namespace K31
open PySem PySem.Spec PyProof.Rows L2 Dw
variable [Tabs0]
theorem rowAt_get {ls : List (List Nat)} {a : Nat} (h : a < ls.length) : rowAt ls a = ls[a] := by
  unfold rowAt
  rw [List.getD_eq_getElem?_getD, List.getElem?_eq_getElem h]; rfl
theorem rowAt_mem {ls : List (List Nat)} {a : Nat} (h : a < ls.length) : rowAt ls a ∈ ls := by rw [rowAt_get h]; exact List.getElem_mem h
theorem nameD_ix {ls : List (List Nat)} {k : Nat} (h : k < ls.length) : (nameD ls)[k]? = some (.str (tx (rowAt ls k))) := by
  unfold nameD
  rw [List.getElem?_map, List.getElem?_eq_getElem h, rowAt_get h]; rfl

end K31

namespace K31
open PySem PySem.Spec PyProof.Rows L2 Dw
variable [Tabs0]
/-! the jar and what is drawn from it -/
def strs2 : List Str := ["a", "ann", "b", "bob", "cid", "cost", "near", "safe", "zzzzzzzz", "tell", "rows", "undo", "x", "none", "sure", "count", "m"]
def lab2 : List (List Nat) := strs2.map fun s => s.cps.toList
theorem lab2_D : nameD lab2 = strs2.map D.str := by
  unfold nameD lab2
  rw [List.map_map]
  exact List.map_congr_left fun s _ => congrArg D.str (of_tx s)
theorem lab2_ok : ∀ l ∈ lab2, NameOk l := by
  have h : lab2.all nameB = true := by decide +kernel
  exact fun l hl => nameB_ok (List.all_eq_true.mp h l hl)
theorem lab2_nd : lab2.Nodup := by decide +kernel
/-- names of their own, put in order -/
theorem names_ofN {lab : List (List Nat)} (hok : ∀ l ∈ lab, NameOk l) {zs : List Str} {acc : List (List Nat)} {n : Nat} (hn : acc.Nodup) (hp : ∀ l ∈ acc, l ∈ lab) (hz : zs.Perm (acc.map tx)) (hs : sortedS zs = true) (hl : acc.length = n) (h1 : 1 ≤ n) (h8 : n ≤ 8) :
    NamesOk (zs.map fun s => s.cps.toList) := by
  have ln : zs.length = n := by rw [hz.length_eq, List.length_map, hl]
  have nd : zs.Nodup := hz.nodup_iff.mpr (nodup_tx hn)
  refine ⟨by rw [List.length_map]; omega, by rw [List.length_map]; omega, fun l h => ?_, ?_⟩
  · obtain ⟨s, h1, rfl⟩ := List.mem_map.mp h
    obtain ⟨m, h2, rfl⟩ := List.mem_map.mp (hz.mem_iff.mp h1)
    show NameOk (tx m).cps.toList
    rw [tx_cps]
    exact hok m (hp m h2)
  · cases zs with
    | nil => exact fun p hp => by cases hp
    | cons x r => exact rising_inc x r hs nd
def stepAt (a s : Nat) (k : Nat) : Nat := (a + s * k) % 17
theorem step_lt (a s k : Nat) : stepAt a s k < 17 := Nat.mod_lt _ (by decide)
theorem steps_nd : ∀ a < 17, ∀ s < 17, 1 ≤ s → ((List.range 8).map (stepAt a s)).Nodup := by decide +kernel
theorem tags_nd {a s n : Nat} (ha : a < 17) (hs : s < 17) (h1 : 1 ≤ s) (h8 : n ≤ 8) : ((List.range n).map fun k => rowAt lab2 (stepAt a s k)).Nodup := by
  have h := steps_nd a ha s hs h1
  have e : List.range n = (List.range 8).take n := by rw [List.take_range]; congr 1; omega
  have h2 : ((List.range n).map (stepAt a s)).Nodup := by
    rw [e, List.map_take]
    exact h.sublist (List.take_sublist _ _)
  have h3 : (List.range n).map (fun k => rowAt lab2 (stepAt a s k)) = ((List.range n).map (stepAt a s)).map (rowAt lab2) := by rw [List.map_map]; rfl
  rw [h3]
  unfold List.Nodup at h2 ⊢
  rw [List.pairwise_map]
  refine h2.imp_of_mem fun {x y} hx hy hxy he => hxy ?_
  obtain ⟨i, _, rfl⟩ := List.mem_map.mp hx
  obtain ⟨j, _, rfl⟩ := List.mem_map.mp hy
  have l1 := step_lt a s i
  have l2 := step_lt a s j
  rw [rowAt_get (show _ < lab2.length from l1), rowAt_get (show _ < lab2.length from l2)] at he
  exact (List.getElem_inj lab2_nd).mp he
def spTags : Spc where
  ty := Nat
  args := fun n => [.purse, .int n]
  ok := fun n => 1 ≤ n ∧ n ≤ 8
  rel := fun n d => ∃ ls, d = .lst (nameD ls) ∧ NamesOk ls ∧ ls.length = n
def pairDm (p : List Nat × List Nat) : D := .tup [.str (tx p.1), .tup (ordD p.2)]
def folkD (ls ms : List (List Nat)) : List D := (ls.zip ms).map pairDm
def spFolk : Spc where
  ty := Nat × Nat × Nat
  args := fun x => [.purse, .int x.1, .int x.2.1, .int x.2.2]
  ok := fun x => 1 ≤ x.1 ∧ x.1 ≤ 8 ∧ 2 ≤ x.2.1 ∧ x.2.1 ≤ x.2.2 ∧ x.2.2 ≤ 8
  rel := fun x d => ∃ ls ms, d = .lst (folkD ls ms) ∧ CaseOk ls ms x.1 ∧ x.2.1 ≤ ls.length ∧ ls.length ≤ x.2.2
def spCell (K : PySem.W.Frag) : Spc where
  ty := List Int × Nat
  args := fun x => [.scr K (x.1.map V.int), .int x.2]
  ok := fun x => x.1.length ≤ 63
  rel := fun _ d => ∃ z : Int, d = .int z
theorem at_step (a s k : Nat) : atI (nameD lab2) (((a : Int) + (s : Int) * (k : Int)) % 17) = some (.str (tx (rowAt lab2 (stepAt a s k)))) := by
  have e : ((a : Int) + (s : Int) * (k : Int)) % 17 = ((stepAt a s k : Nat) : Int) := by
    unfold stepAt
    rw [Int.natCast_emod, Int.natCast_add, Int.natCast_mul]; rfl
  rw [e]
  exact rowAt_at (show _ < lab2.length from step_lt a s k)
theorem dg_tup3J {K : PySem.W.Frag} {g1 g2 g3 : TG} {is js ks : List Nat} {x y z : D} {Γ Γ1 Γ2 Γ3 : Gam} (h1 : DG g1 is x Γ Γ1) (h2 : DG g2 js y Γ1 Γ2) (h3 : DG g3 ks z Γ2 Γ3) : DG (gTup K 3 (gCons g1 (gCons g2 (gCons g3 gNil)))) (is ++ (js ++ ks)) (.tup [x, y, z]) Γ Γ3 := fun F σ W v R g r k => by
  obtain ⟨a, vs, e, ha, nu, v1, _, rfl, r1, v2, _, rfl, r2, v3, _, rfl, r3, rfl⟩ := r
  refine ⟨a, [v1, v2, v3], e, ha.sq, rfl, v1, [v2, v3], rfl, h1 F σ W v1 _ g r1 fun σ1 g1 w1 => ⟨v2, [v3], rfl, h2 F σ1 W v2 _ g1 r2 fun σ2 g2 w2 => ⟨v3, [], rfl, h3 F σ2 W v3 _ g2 r3 fun σ3 g3 w3 => ⟨rfl, k σ3 g3 fun vs h => ?_⟩⟩⟩⟩
  rw [w3 vs fun i hi => h i (List.mem_append_right _ (List.mem_append_right _ hi)), w2 vs fun i hi => h i (List.mem_append_right _ (List.mem_append_left _ hi)), w1 vs fun i hi => h i (List.mem_append_left _ hi)]
end K31

namespace K31
open PySem PySem.Spec PyProof.Rows L2 Dw
variable [Tabs0]
theorem d__law_cell {P : Program} {w : World} {K : PySem.W.Frag} {mg : Str → Option Value} {base : Heap} (T : Txt K w mg) : FnOk P w K mg base CX0 1 T.f__law_cell T.e__law_cell ["_law_cells", "_law_k"] (toSp (spCell K)) := by
  refine fn_ok T.F__law_cell sc__law_cell (fun _ => rfl) fun cdv A outer s' H E hr => ?_
  refine ⟨_, (pss_cons (ps_if (pt_cmpR opLt (pv 1) (pe_callB (lenA K) (by rfl) T.n_len (by decide +kernel) (pa_cons (pv 0) pa_nil)) (nomark _)) (pss_one (ps_ret (pe_ix (ixA K) (pv 0) (pv 1) (fun _ _ => rfl)))) pss_nil) (pss_cons (ps_set (i := 2) sc__law_cell.nd rfl (Or.inl rfl) (pe_op (plusE K) pe_int (pe_op opTimes pe_int (pv 1)))) (pss_cons (ps_for PassesOwn.never rfl (piR K (pe_slice (slXA K) (pv 0) po_none (po_some pe_int))) (pg_name (i := 3) sc__law_cell.nd rfl (Or.inl rfl)) (pss_one (ps_set (i := 2) sc__law_cell.nd rfl (Or.inl rfl) (pe_op op_mod (pe_callTy call_int1 (by rfl) T.n_int (by decide +kernel) (pa_cons (pe_op (plusE K) (pe_op (plusE K) (pe_op opTimes (pv 2) pe_int) (pe_op opTimes (pv 3) pe_int)) (pv 1)) pa_nil)) pe_int)))) (pss_one (ps_ret (pv 2)))))), fun x hx => ?_⟩
  obtain ⟨ns, k⟩ := x
  have hn : ns.length ≤ 63 := hx
  have l0 : (ns.map V.int).length = ns.length := List.length_map ..
  refine ds_seq (ds_if (EvT.dl (b := decide ((k : Int) < ((ns.map V.int).length : Int))) (evt_test (ev_op (ev_var rfl) (ev_lenX (ev_var rfl)) lt_int')) ⟨fun h => ds_ret (Ev.dl (ev_ixX (z := ns.getD k 0) (ev_var rfl) (ev_var rfl) (scr_at ?_)) ⟨_, rfl⟩), fun _ => ds_next ?_⟩))
  · have := of_decide_eq_true h
    rw [l0] at this
    show k < ns.length
    omega
  refine ds_seq (ds_asg (Ev.dl (ev_op ev_int (ev_op ev_int (ev_var rfl) (times_int (.inl ⟨by decide, by decide⟩))) pl_int) ?_))
  refine ds_seq (ds_for (fun xs i Γ' => (∀ x ∈ xs, ∃ z : Int, x = .int z) ∧ ∃ (made : Int) (s3 : Sl), Γ' = [.val (.scr K (ns.map V.int)), .val (.int k), .val (.int made), s3])
      (dj_list (Ev.dl (EvN.ev (evn_sliceXY (hi := some 5) (ev_var rfl) eo_none (eo_some ev_int))) ⟨_, rfl, ⟨fun x hx => ?_, _, _, rfl⟩, fun i x Γ' hx' ⟨hx0, made, s3, e⟩ => ?_, fun Γ' ⟨hx0, made, s3, e⟩ => ?_⟩)))
  · obtain ⟨z, _, rfl⟩ := List.mem_map.mp hx
    exact ⟨z, rfl⟩
  · subst e
    obtain ⟨z, rfl⟩ := hx0 x (List.mem_of_getElem? hx')
    exact ⟨[3], _, dg_name, ds_asg (Ev.dl (ev_op (ev_int1 (ev_op (ev_op (ev_op (ev_var rfl) ev_int (times_int (.inr ⟨by decide, by decide⟩))) (ev_op (ev_var rfl) ev_int (times_int (.inr ⟨by decide, by decide⟩))) pl_int) (ev_var rfl) pl_int)) ev_int (dr2_mod (by decide))) ⟨hx0, _, _, rfl⟩)⟩
  · subst e
    exact ds_ret (Ev.dl (ev_var rfl) ⟨_, rfl⟩)
end K31

namespace K31
open PySem PySem.Spec PyProof.Rows L2 Dw
variable [Tabs0]
theorem d__law_well {P : Program} {w : World} {K : PySem.W.Frag} {mg : Str → Option Value} {base : Heap} (T : Txt K w mg) : FnOk P w K mg base CX0 1 T.f__law_well T.e__law_well ["_law_cell_here"] toWell := by
  refine T.F__law_well.ok sc__law_well (fun vs H Q E ⟨F, W, cell, _, _, r, _⟩ => by rw [← r.length]; rfl) fun cdv A outer s' H vs Q E hr h => ?_
  refine ⟨_, (pss_one (ps_ret (pe_lst (pa_cons (pe_ifExp (PW.pt (pw_or (pt_cmpR opLt (pv 0) pe_int (nomark _)) (pw_or1 (pt_cmpR opGe (pv 0) (pe_op op_pow pe_int pe_int) (nomark _))))) (pe_callB call_abs (by rfl) T.n_abs (by decide +kernel) (pa_cons (pv 0) pa_nil)) pe_int) (pa_cons (pe_op op_mod (pe_callTy call_int1 (by rfl) T.n_int (by decide +kernel) (pa_cons (pv 0) pa_nil)) pe_int) (pa_cons pe_int pa_nil)))))), ?_⟩
  obtain ⟨F, W, cell, rfl, ok, r, k⟩ := h
  have g0 : SR F (Gz0 1 [.int cell]) (L2.start N__law_well vs) W := sr_start (N := N__law_well) ok r
  have ep : (10 : Int) ^ (18 : Int).toNat = 1000000000000000000 := by decide +kernel
  refine evn_lst (ds := [.int (if (decide (cell < 0) || decide ((10 : Int) ^ (18 : Int).toNat ≤ cell)) = true then (if cell < 0 then -cell else cell) else 0), .int (cell % 2147483587), .int 0]) (eva_cons (ev_cast ?_ (ev_if (a := (decide (cell < 0) || decide ((10 : Int) ^ (18 : Int).toNat ≤ cell))) (evt_or (evt_test (ev_op (ev_var rfl) ev_int lt_int')) fun _ => evt_test (ev_op (ev_var rfl) (ev_op ev_int ev_int (dr2_pow ?_)) dr2_ge)) (fun _ => ev_abs (ev_var rfl)) fun _ => ev_int)) (eva_cons (ev_op (ev_int1 (ev_var rfl)) ev_int (dr2_mod (by decide))) (eva_cons ev_int eva_nil))) (small (show 3 ≤ 100000 by decide)) F _ W _ g0 fun a vs H' sm hn ha rl => ?_
  · cases (decide (cell < 0) || decide ((10 : Int) ^ (18 : Int).toNat ≤ cell)) <;> rfl
  · exact ⟨by decide, by decide, by decide⟩
  · have ev := RepL.ints (ns := [_, _, _]) |>.mp rl
    rw [ev] at ha
    refine k a _ _ _ W H' (Stp.refl _) ok sm hn ha ?_ (Int.emod_nonneg _ (by decide)) (Int.lt_trans (Int.emod_lt_of_pos _ (by decide)) (by decide))
    by_cases hq : (decide (cell < 0) || decide ((10 : Int) ^ (18 : Int).toNat ≤ cell)) = true
    · rw [if_pos hq]
      by_cases h : cell < 0 <;> simp [h] <;> omega
    · rw [if_neg hq]; exact Int.le_refl _

end K31

namespace K31
open PySem PySem.Spec PyProof.Rows L2 Dw
variable [Tabs0]
theorem d__law_dip {P : Program} {w : World} {K : PySem.W.Frag} {mg : Str → Option Value} {base : Heap} (T : Txt K w mg) : FnOk P w K mg base CX0 1 T.f__law_dip T.e__law_dip ["_law_jar", "_law_many"] (toSp (spDraw)) := by
  refine fn_ok T.F__law_dip sc__law_dip (fun _ => rfl) fun cdv A outer s' H E hr => ?_
  refine ⟨_, (pss_cons (ps_asg (pe_op (plusE K) (pe_ix (ixA K) (pv 0) pe_int (fun _ _ => rfl)) pe_int) (pg_sub (pv 0) pe_int set_list)) (pss_cons (ps_set (i := 2) sc__law_dip.nd rfl (Or.inl rfl) (pe_op op_mod (pe_callTy call_int1 (by rfl) T.n_int (by decide +kernel) (pa_cons (pe_op (plusE K) (pe_ix (ixA K) (pv 0) pe_int (fun _ _ => rfl)) (pe_op opTimes pe_int (pe_ix (ixA K) (pv 0) pe_int (fun _ _ => rfl)))) pa_nil)) pe_int)) (pss_cons (ps_asg (pe_op op_mod (pe_callTy call_int1 (by rfl) T.n_int (by decide +kernel) (pa_cons (pe_op (plusE K) (pe_op (plusE K) (pe_op op_mulX (pv 2) (pv 2)) (pe_op opTimes pe_int (pv 2))) pe_int) pa_nil)) pe_int) (pg_sub (pv 0) pe_int set_list)) (pss_cons (ps_if (pt_cmpR (eqA K hr.units) (pe_ix (ixA K) (pv 0) pe_int (fun _ _ => rfl)) pe_int (nomark _)) (pss_one (ps_ret (pe_op op_mod (pe_callTy call_int1 (by rfl) T.n_int (by decide +kernel) (pa_cons (pe_op op_fdiv (pe_ix (ixA K) (pv 0) pe_int (fun _ _ => rfl)) pe_int) pa_nil)) (pv 1)))) pss_nil) (pss_cons (ps_asg (pe_callB call_divmod (by rfl) T.n_divmod (by decide +kernel) (pa_cons (pe_ix (ixA K) (pv 0) pe_int (fun _ _ => rfl)) (pa_cons (pv 1) pa_nil))) (tupA K 2 rfl (pgs_cons (pg_name (i := 3) sc__law_dip.nd rfl (Or.inl rfl)) (pgs_cons (pg_name (i := 4) sc__law_dip.nd rfl (Or.inl rfl)) pgs_nil)))) (pss_cons (ps_asg (pv 3) (pg_sub (pv 0) pe_int set_list)) (pss_one (ps_ret (pv 4))))))))), fun x hx => ?_⟩
  obtain ⟨x, rfl⟩ : ∃ n : Nat, n = x := ⟨x, rfl⟩
  obtain ⟨hn0, hn1⟩ := hx
  have hn0 : 0 < x := hn0
  have hn1 : x < 100000 := hn1
  refine fun F σ W Dr g l => ?_
  obtain ⟨v0, e0, a, ev, hp, nn, tbl⟩ := g.val 0 .purse rfl
  obtain ⟨v1, e1, r1⟩ := g.val 1 (.int x) rfl
  subst ev
  rw [show v1 = V.int x from r1] at e1
  have l2 : 2 < σ.length := by rw [← g.len]; exact (show 2 < 5 by decide)
  have l3 : 3 < σ.length := by rw [← g.len]; exact (show 3 < 5 by decide)
  have l4 : 4 < σ.length := by rw [← g.len]; exact (show 4 < 5 by decide)
  obtain ⟨⟨p, c⟩, q, hp0, hq0, hq1, hH⟩ := (g.ok.pu a hp).2.2.purse nn
  have hp0 : 0 ≤ p := hp0
  have hH : W.H a = some (.lst [.int p, .int q, .int c]) := hH
  have i0 : ∀ y c : Int, atI [V.int p, V.int y, V.int c] 0 = some (V.int p) := fun y c => atI_nat (j := 0) rfl
  have i1 : ∀ y c : Int, atI [V.int p, V.int y, V.int c] 1 = some (V.int y) := fun y c => atI_nat (j := 1) rfl
  have i2 : ∀ y c : Int, atI [V.int p, V.int y, V.int c] 2 = some (V.int c) := fun y c => atI_nat (j := 2) rfl
  have md : ∀ z : Int, ∃ r : Nat, r < x ∧ V.int (z % (x : Int)) = V.int r := fun z => ⟨(z % (x : Int)).toNat, by
    have h1 := Int.emod_nonneg z (show (x : Int) ≠ 0 by omega)
    have h2 := Int.emod_lt_of_pos z (show (0 : Int) < x by omega)
    omega, by
    have h1 := Int.emod_nonneg z (show (x : Int) ≠ 0 by omega)
    rw [Int.toNat_of_nonneg h1]⟩
  refine ⟨.ref a, e0, .inl ⟨a, _, 2, .int c, rfl, rfl, .of hH, i2 q c, .inl (.inl ⟨c, 1, rfl, rfl, ?_⟩)⟩⟩
  obtain ⟨st1, ok1⟩ := purse_step (x := p) (y := q) (c := c + 1) g.ok hp nn hp0 hq0 hq1
  refine ⟨.ref a, e0, a, _, 2, 2, rfl, rfl, hH, rfl, ?_⟩
  refine ⟨.ref a, e0, .inl ⟨a, [.int p, .int q, .int (c + 1)], 1, .int q, rfl, rfl, .of upd_same, i1 _ _, ?_⟩⟩
  refine ⟨.ref a, e0, .inl ⟨a, [.int p, .int q, .int (c + 1)], 2, .int (c + 1), rfl, rfl, .of upd_same, i2 _ _, .inl ⟨770551, c + 1, rfl, rfl, .inl ⟨by decide, by decide⟩, ?_⟩⟩⟩
  refine .inl (.inl ⟨_, _, rfl, rfl, .inl ⟨_, rfl, _, _, rfl, rfl, (show (0 : Int) < 2147483587 by decide), ?_⟩⟩)
  have b0 := Int.emod_nonneg (q + 770551 * (c + 1)) (show (2147483587 : Int) ≠ 0 by decide)
  have b1 := Int.emod_lt_of_pos (q + 770551 * (c + 1)) (show (0 : Int) < 2147483587 by decide)
  obtain ⟨m, hm⟩ : ∃ m : Int, (q + 770551 * (c + 1)) % 2147483587 = m := ⟨_, rfl⟩
  refine (show gName 2 (V.int ((q + 770551 * (c + 1)) % 2147483587)) σ _ _ from ?_)
  rw [hm] at b0 b1 ⊢
  have cm : CMulX m m := mulx_ok (a := 31) (b := 31) (by omega) (by omega) (by decide)
  have e0' : (σ.set 2 (some (V.int m)))[0]? = some (some (.ref a)) := (List.getElem?_set_ne (by decide)).trans e0
  have e1' : (σ.set 2 (some (V.int m)))[1]? = some (some (.int x)) := (List.getElem?_set_ne (by decide)).trans e1
  refine ⟨.int m, List.getElem?_set_self l2, .int m, List.getElem?_set_self l2, m, m, rfl, rfl, cm, ?_⟩
  refine ⟨.int m, List.getElem?_set_self l2, .inl ⟨2753159, m, rfl, rfl, .inl ⟨by decide, by decide⟩, ?_⟩⟩
  refine .inl (.inl ⟨_, _, rfl, rfl, .inl (.inl ⟨_, 519371, rfl, rfl, .inl ⟨_, rfl, _, _, rfl, rfl, (show (0 : Int) < 2147483587 by decide), ?_⟩⟩)⟩)
  have d0 := Int.emod_nonneg (m * m + 2753159 * m + 519371) (show (2147483587 : Int) ≠ 0 by decide)
  have d1 := Int.emod_lt_of_pos (m * m + 2753159 * m + 519371) (show (0 : Int) < 2147483587 by decide)
  obtain ⟨st2, ok2⟩ := purse_step (x := p) (y := (m * m + 2753159 * m + 519371) % 2147483587) (c := c + 1) ok1 hp nn hp0 d0 (Int.lt_trans d1 (by decide))
  refine ⟨.ref a, e0', a, _, 1, 1, rfl, rfl, upd_same, rfl, ?_⟩
  refine ⟨.ref a, e0', .inl ⟨a, [.int p, .int ((m * m + 2753159 * m + 519371) % 2147483587), .int (c + 1)], 0, .int p, rfl, rfl, .of upd_same, i0 _ _, .inl ⟨rfl, _, rfl, ?_⟩⟩⟩
  have ifB : ∀ {b : Bool} {A B : Prop}, (b = true → A) → (b = false → B) → (if b = true then A else B) := fun {b A B} h1 h2 => by
    cases b with
    | true => exact h1 rfl
    | false => exact h2 rfl
  refine ifB (fun hz => ?_) fun hz => ?_
  · have hz : p = 0 := by
      have := of_decide_eq_true hz
      injection this
    obtain ⟨r, hr1, hr2⟩ := md (((m * m + 2753159 * m + 519371) % 2147483587) / 103)
    refine ⟨.ref a, e0', .inl ⟨a, [.int p, .int ((m * m + 2753159 * m + 519371) % 2147483587), .int (c + 1)], 1, .int ((m * m + 2753159 * m + 519371) % 2147483587), rfl, rfl, .of upd_same, i1 _ _, _, 103, rfl, rfl, ⟨by decide, by decide⟩, .inl ⟨_, rfl, .int x, e1', _, _, rfl, rfl, (show (0 : Int) < x by omega), ?_⟩⟩⟩
    exact l.rt _ (Wd.at _ _) (.int r) (st1.trans st2) ok2 hr2 ⟨r, hr1, rfl⟩
  · have hz : ¬ p = 0 := fun h => by
      have := of_decide_eq_false hz
      exact this (congrArg V.int h)
    refine ⟨.ref a, e0', .inl ⟨a, [.int p, .int ((m * m + 2753159 * m + 519371) % 2147483587), .int (c + 1)], 0, .int p, rfl, rfl, .of upd_same, i0 _ _, .int x, e1', p, x, rfl, ⟨by omega, by omega⟩, fun t ht => ?_⟩⟩
    have na : a ≠ t := ne_of_none upd_same ht
    have s1 := same_upd (o := .tup [.int (p / x), .int (p % x)]) ht
    obtain ⟨st3, ok3⟩ := purse_step (x := p / x) (y := ((m * m + 2753159 * m + 519371) % 2147483587)) (c := c + 1) (ok2.same s1) hp nn (Int.ediv_nonneg hp0 (by omega)) d0 (Int.lt_trans d1 (by decide))
    obtain ⟨r, hr1, hr2⟩ := md p
    refine ⟨t, _, rfl, .of upd_same, rfl, .int (p / x), [.int (p % x)], rfl, .int (p % x), [], rfl, rfl, ?_⟩
    have e0'' : (((σ.set 2 (some (V.int m))).set 3 (some (V.int (p / x)))).set 4 (some (V.int (p % x))))[0]? = some (some (.ref a)) := (List.getElem?_set_ne (by decide)).trans ((List.getElem?_set_ne (by decide)).trans e0')
    have e3 : (((σ.set 2 (some (V.int m))).set 3 (some (V.int (p / x)))).set 4 (some (V.int (p % x))))[3]? = some (some (.int (p / x))) := (List.getElem?_set_ne (by decide)).trans (List.getElem?_set_self (by rw [List.length_set]; exact l3))
    have e4 : (((σ.set 2 (some (V.int m))).set 3 (some (V.int (p / x)))).set 4 (some (V.int (p % x))))[4]? = some (some (.int (p % x))) := List.getElem?_set_self (by rw [List.length_set, List.length_set]; exact l4)
    refine ⟨.int (p / x), e3, .ref a, e0'', a, _, 0, 0, rfl, rfl, (upd_ne na).trans upd_same, rfl, ?_⟩
    refine ⟨.int (p % x), e4, ?_⟩
    exact l.rt _ (Wd.at _ _) (.int r) ((st1.trans st2).trans ((Stp.of_same ok2 s1).trans st3)) ok3 hr2 ⟨r, hr1, rfl⟩
end K31

namespace K31
open PySem PySem.Spec PyProof.Rows L2 Dw
variable [Tabs0]
theorem d__law_pick {P : Program} {w : World} {K : PySem.W.Frag} {mg : Str → Option Value} {base : Heap} (T : Txt K w mg) : FnOk P w K mg base CX0 2 T.f__law_pick T.e__law_pick ["_law_jar", "_law_things"] (toSp (spAnyOf)) := by
  refine fn_ok T.F__law_pick sc__law_pick (fun _ => rfl) fun cdv A outer s' H E hr => ?_
  refine ⟨_, (pss_one (ps_ret (pe_ix (ixA K) (pv 1) (pe_call (d__law_dip T) (hr.mono (by decide)) (by rfl) T.m__law_dip T.F__law_dip.kp T.b__law_dip .nil pass0 (pa_cons (pv 0) (pa_cons (pe_callB (lenA K) (by rfl) T.n_len (by decide +kernel) (pa_cons (pv 1) pa_nil)) pa_nil))) (fun _ _ => rfl)))), fun x hx => ?_⟩
  obtain ⟨b, ds⟩ := x
  obtain ⟨h0, h1⟩ := hx
  have h0 : 0 < ds.length := h0
  have h1 : ds.length < 100000 := h1
  cases b with
  | true =>
    refine ds_ret (dl_op (Ev.dl (ev_var rfl) (dl_call (s := spDraw) (dla_cons (Ev.dl (ev_var rfl) (dla_cons (Ev.dl (ev_len (ds := ds) (ev_var rfl).b) (dla_nil ⟨ds.length, rfl, ⟨h0, h1⟩, fun d hd => ?_⟩))))))))
    obtain ⟨r, hr1, rfl⟩ := hd
    exact ⟨_, dr2_ixL (atI_nat (List.getElem?_eq_getElem hr1)), List.getElem_mem hr1⟩
  | false =>
    refine ds_ret (dl_op (Ev.dl (ev_var rfl) (dl_call (s := spDraw) (dla_cons (Ev.dl (ev_var rfl) (dla_cons (Ev.dl (ev_lenT (ds := ds) (ev_var rfl)) (dla_nil ⟨ds.length, rfl, ⟨h0, h1⟩, fun d hd => ?_⟩))))))))
    obtain ⟨r, hr1, rfl⟩ := hd
    exact ⟨_, dr2_ixT (atI_nat (List.getElem?_eq_getElem hr1)), List.getElem_mem hr1⟩
end K31

namespace K31
open PySem PySem.Spec PyProof.Rows L2 Dw
variable [Tabs0]
theorem d__law_tags {P : Program} {w : World} {K : PySem.W.Frag} {mg : Str → Option Value} {base : Heap} (T : Txt K w mg) : FnOk P w K mg base CX0 2 T.f__law_tags T.e__law_tags ["_law_jar", "_law_many"] (toSp (spTags)) := by
  refine fn_ok T.F__law_tags sc__law_tags (fun _ => rfl) fun cdv A outer s' H E hr => ?_
  refine ⟨_, (pss_cons (ps_set (i := 2) sc__law_tags.nd rfl (Or.inr rfl) (pe_lst (pa_cons pe_str (pa_cons pe_str (pa_cons pe_str (pa_cons pe_str (pa_cons pe_str (pa_cons pe_str (pa_cons pe_str (pa_cons pe_str (pa_cons pe_str (pa_cons pe_str (pa_cons pe_str (pa_cons pe_str (pa_cons pe_str pa_nil))))))))))))))) (pss_cons (ps_asg (pe_tup (pa_cons (pe_op (plusE K) (pv 2) (pe_lst (pa_cons pe_str (pa_cons pe_str (pa_cons pe_str (pa_cons pe_str pa_nil)))))) (pa_cons (pe_call (d__law_dip T) (hr.mono (by decide)) (by rfl) T.m__law_dip T.F__law_dip.kp T.b__law_dip .nil pass0 (pa_cons (pv 0) (pa_cons pe_int pa_nil))) (pa_cons (pe_op (plusE K) pe_int (pe_call (d__law_dip T) (hr.mono (by decide)) (by rfl) T.m__law_dip T.F__law_dip.kp T.b__law_dip .nil pass0 (pa_cons (pv 0) (pa_cons pe_int pa_nil)))) pa_nil)))) (tupA K 3 rfl (pgs_cons (pg_name (i := 2) sc__law_tags.nd rfl (Or.inr rfl)) (pgs_cons (pg_name (i := 3) sc__law_tags.nd rfl (Or.inr rfl)) (pgs_cons (pg_name (i := 4) sc__law_tags.nd rfl (Or.inr rfl)) pgs_nil))))) (pss_one (ps_ret (pe_callB (sortedA K) (by rfl) T.n_sorted (by decide +kernel) (pa_cons (pe_lc (own := [("_law_k", 5)]) rfl sc__law_tags.nd (pi_range1 (by rfl) T.n_range (pa_cons (pv 1) pa_nil)) (blkOk_by (own := [("_law_k", 5)]) (N := N__law_tags) (sc := (defScope s__law_tags)) (by decide +kernel)) (fun _ _ _ _ _ => pg_name (i := 5) sc__law_tags.nd rfl (Or.inl rfl)) (fun _ _ _ _ _ => pts_nil) (fun _ _ _ _ _ => (pe_ix (ixA K) (pv 2) (pe_op op_mod (pe_callTy call_int1 (by rfl) T.n_int (by decide +kernel) (pa_cons (pe_op (plusE K) (pv 3) (pe_op opTimes (pv 4) (pv 5))) pa_nil)) pe_int) (fun _ _ => rfl)))) pa_nil)))))), fun x hx => ?_⟩
  obtain ⟨n, rfl⟩ : ∃ l : Nat, l = x := ⟨x, rfl⟩
  obtain ⟨h1, h8⟩ := hx
  have h1 : 1 ≤ n := h1
  have h8 : n ≤ 8 := h8
  refine ds_seq (ds_asg (Ev.dl (EvN.ev (evn_lst (ds := (strs2.take 13).map D.str) (eva_cons ev_str (eva_cons ev_str (eva_cons ev_str (eva_cons ev_str (eva_cons ev_str (eva_cons ev_str (eva_cons ev_str (eva_cons ev_str (eva_cons ev_str (eva_cons ev_str (eva_cons ev_str (eva_cons ev_str (eva_cons ev_str eva_nil))))))))))))) (small (show 13 ≤ 100000 by decide)))) ?_))
  refine ds_seq (ds_asg_g (dl_tup (dla_cons (Ev.dl (ev_cast (d' := .lst (nameD lab2)) (congrArg D.lst lab2_D.symm) (EvN.ev (pl_evn (ds := (strs2.take 13).map D.str) (es := (strs2.drop 13).map D.str) (ev_var rfl).b (EvN.b (evn_lst (eva_cons ev_str (eva_cons ev_str (eva_cons ev_str (eva_cons ev_str eva_nil)))) (small (show 4 ≤ 100000 by decide)))) (small (show 13 + 4 ≤ 100000 by decide))))) (dla_cons (dl_call (s := spDraw) (dla_cons (Ev.dl (ev_var rfl) (dla_cons (Ev.dl ev_int (dla_nil ⟨(17 : Nat), rfl, ⟨by decide, by decide⟩, fun d hd => ?_⟩)))))))))))
  obtain ⟨a, ha, rfl⟩ := hd
  have ha : a < 17 := ha
  refine dla_cons (dl_op (Ev.dl ev_int (dl_call (s := spDraw) (dla_cons (Ev.dl (ev_var rfl) (dla_cons (Ev.dl ev_int (dla_nil ⟨(16 : Nat), rfl, ⟨by decide, by decide⟩, fun d hd => ?_⟩))))))))
  obtain ⟨q, hq, rfl⟩ := hd
  have hq : q < 16 := hq
  refine ⟨.int ((1 + q : Nat) : Int), ?pl, ?_⟩
  case pl =>
    have e := pl_int (K := K) (i := 1) (j := (q : Int))
    rw [show (1 : Int) + (q : Int) = ((1 + q : Nat) : Int) by omega] at e
    exact e
  generalize hs : 1 + q = st
  have s1 : 1 ≤ st := by omega
  have s17 : st < 17 := by omega
  refine dla_nil ⟨small (show 3 ≤ 100000 by decide), [2] ++ ([3] ++ [4]), _, dg_tup3J dg_name dg_name dg_name, ?_⟩
  have nd := tags_nd (n := n) ha s17 s1 h8
  refine ds_ret (dl_sortedS (Ev.dl (EvN.ev (evn_lc1 (xs := List.range n) (c := fun k : Nat => D.int k) (f := fun k => .str (tx (rowAt lab2 (stepAt a st k)))) (ei_range (n := n) (eva_cons (ev_var rfl) eva_nil) (by omega)) (by rw [List.length_range]; omega) fun k hk => ⟨[5], _, dg_name, fun i hi => hi, evt_yes, ev_ix (ds := nameD lab2) (ev_var rfl).b (ev_op (ev_int1 (ev_op (ev_var rfl) (ev_op (ev_var rfl) (ev_var rfl) (times_int (.inl ⟨by omega, by omega⟩))) pl_int)) ev_int (dr2_mod (by decide))) (at_step a st k)⟩)) ⟨((List.range n).map fun k => rowAt lab2 (stepAt a st k)).map tx, ?_, by rw [List.length_map, List.length_map, List.length_range]; omega, fun zs hz hs => ⟨zs.map fun s => s.cps.toList, ?_, names_ofN lab2_ok nd (fun l hl => ?_) hz hs (by rw [List.length_map, List.length_range]) h1 h8, ?_⟩⟩))
  · rw [List.map_map, List.map_map]; rfl
  · unfold nameD
    rw [List.map_map]
    exact congrArg D.lst (List.map_congr_left fun s _ => congrArg D.str (of_tx s)).symm
  · obtain ⟨k, _, rfl⟩ := List.mem_map.mp hl
    exact rowAt_mem (show _ < lab2.length from step_lt a st k)
  · rw [List.length_map, hz.length_eq, List.length_map, List.length_map, List.length_range]
end K31

namespace K31
open PySem PySem.Spec PyProof.Rows L2 Dw
variable [Tabs0]
/-! folk that is drawn -/
theorem folkD_snoc {ls ms : List (List Nat)} {m : List Nat} {i : Nat} (h : ms.length = i) (hi : i < ls.length) : folkD (ls.take i) ms ++ [.tup [.str (tx (rowAt ls i)), .tup (ordD m)]] = folkD (ls.take (i + 1)) (ms ++ [m]) := by
  have e : ls.take (i + 1) = ls.take i ++ [rowAt ls i] := by rw [List.take_add_one, List.getElem?_eq_getElem hi, rowAt_get hi]; rfl
  unfold folkD
  rw [e, List.zip_append (by rw [List.length_take, h]; omega), List.map_append]; rfl
theorem folkD_len (ls ms : List (List Nat)) : (folkD ls ms).length = min ls.length ms.length := by unfold folkD; rw [List.length_map, List.length_zip]
theorem ok_folk {ls ms : List (List Nat)} (h : ∀ l ∈ ls, NameOk l) : dOk 3 (.lst (folkD ls ms)) = true := dOks_map fun p hp => by
  have hn := h p.1 (List.of_mem_zip hp).1
  have h1 : okS (tx p.1) := okS_tx fun c hc => by have := hn.all c hc; omega
  have h2 : dOk 1 (.tup (ordD p.2)) = true := ok_ordT1 p.2
  show (dOk 1 (.str (tx p.1)) && (dOk 1 (.tup (ordD p.2)) && true)) = true
  rw [show dOk 1 (.str (tx p.1)) = true from h1, h2]; rfl
end K31

namespace K31
open PySem PySem.Spec PyProof.Rows L2 Dw
variable [Tabs0]
theorem d__law_folk {P : Program} {w : World} {K : PySem.W.Frag} {mg : Str → Option Value} {base : Heap} (T : Txt K w mg) : FnOk P w K mg base CX0 3 T.f__law_folk T.e__law_folk ["_law_jar", "_law_many", "_law_least", "_law_most"] (toSp (spFolk)) := by
  refine fn_ok T.F__law_folk sc__law_folk (fun _ => rfl) fun cdv A outer s' H E hr => ?_
  refine ⟨_, (pss_cons (ps_asg (pe_tup (pa_cons (pe_ix (ixA K) (pe_lst (pa_cons pe_int (pa_cons pe_int (pa_cons pe_int pa_nil)))) (pe_call (d__law_dip T) (hr.mono (by decide)) (by rfl) T.m__law_dip T.F__law_dip.kp T.b__law_dip .nil pass0 (pa_cons (pv 0) (pa_cons pe_int pa_nil))) (fun _ _ => rfl)) (pa_cons (pe_lst pa_nil) pa_nil))) (tupA K 2 rfl (pgs_cons (pg_name (i := 4) sc__law_folk.nd rfl (Or.inr rfl)) (pgs_cons (pg_name (i := 5) sc__law_folk.nd rfl (Or.inl rfl)) pgs_nil)))) (pss_cons (ps_for PassesOwn.never rfl (piR K (pe_call (d__law_tags T) (hr.mono (by decide)) (by rfl) T.m__law_tags T.F__law_tags.kp T.b__law_tags .nil pass0 (pa_cons (pv 0) (pa_cons (pe_op (plusE K) (pv 2) (pe_call (d__law_dip T) (hr.mono (by decide)) (by rfl) T.m__law_dip T.F__law_dip.kp T.b__law_dip .nil pass0 (pa_cons (pv 0) (pa_cons (pe_op (plusE K) (pe_op op_sub (pv 3) (pv 2)) pe_int) pa_nil)))) pa_nil)))) (pg_name (i := 6) sc__law_folk.nd rfl (Or.inl rfl)) (pss_cons (ps_set (i := 7) sc__law_folk.nd rfl (Or.inl rfl) (pe_callTy (tupleA K) (by rfl) T.n_tuple (by decide +kernel) (pa_cons (pe_lc (own := [("_law_k", 8)]) rfl sc__law_folk.nd (pi_range1 (by rfl) T.n_range (pa_cons (pv 1) pa_nil)) (blkOk_by (own := [("_law_k", 8)]) (N := N__law_folk) (sc := (defScope s__law_folk)) (by decide +kernel)) (fun _ _ _ _ _ => pg_name (i := 8) sc__law_folk.nd rfl (Or.inl rfl)) (fun _ _ _ _ _ => pts_nil) (fun _ _ _ _ _ => (pe_call (d__law_dip T) (hr.mono (by decide)) (by rfl) T.m__law_dip T.F__law_dip.kp T.b__law_dip .nil pass0 (pa_cons (pv 0) (pa_cons (pv 4) pa_nil))))) pa_nil))) (pss_one (ps_expr (bmA K PySem.F.plainAttrs_list PySem.F.slot_list_append PySem.F.type_list_append mt_append (pv 5) (pa_cons (pe_tup (pa_cons (pv 6) (pa_cons (pe_ifExp (PW.pt (pw_and (pt_cmpR (neA K hr.units) (pv 5) (pe_lst pa_nil) (nomark _)) (pw_and1 (pt_cmpR (eqA K hr.units) (pe_call (d__law_dip T) (hr.mono (by decide)) (by rfl) T.m__law_dip T.F__law_dip.kp T.b__law_dip .nil pass0 (pa_cons (pv 0) (pa_cons pe_int pa_nil))) pe_int (nomark _))))) (pe_ix (ixA K) (pe_call (d__law_pick T) (hr.mono (by decide)) (by rfl) T.m__law_pick T.F__law_pick.kp T.b__law_pick .nil pass0 (pa_cons (pv 0) (pa_cons (pv 5) pa_nil))) pe_int (fun _ _ => rfl)) (pv 7)) pa_nil))) pa_nil)))))) (pss_one (ps_ret (pv 5))))), fun x hx => ?_⟩
  obtain ⟨n, lo, hi⟩ := x
  obtain ⟨n1, n8, h2, hlh, h8⟩ := hx
  have n1 : 1 ≤ n := n1
  have n8 : n ≤ 8 := n8
  have h2 : 2 ≤ lo := h2
  have hlh : lo ≤ hi := hlh
  have h8 : hi ≤ 8 := h8
  refine ds_seq (ds_asg_2o (dl_op (Ev.dl (EvN.ev (evn_lst (ds := [.int 2, .int 4, .int 100]) (eva_cons ev_int (eva_cons ev_int (eva_cons ev_int eva_nil))) (small (show 3 ≤ 100000 by decide)))) (dl_call (s := spDraw) (dla_cons (Ev.dl (ev_var rfl) (dla_cons (Ev.dl ev_int (dla_nil ⟨(3 : Nat), rfl, ⟨by decide, by decide⟩, fun d hd => ?_⟩)))))))))
  obtain ⟨r, hr, rfl⟩ := hd
  have hr : r < 3 := hr
  obtain ⟨tp, e, t1, t2⟩ : ∃ tp : Nat, [D.int 2, .int 4, .int 100][r]? = some (.int tp) ∧ 1 ≤ tp ∧ tp ≤ 100 := by
    match r, hr with
    | 0, _ => exact ⟨2, rfl, by decide, by decide⟩
    | 1, _ => exact ⟨4, rfl, by decide, by decide⟩
    | 2, _ => exact ⟨100, rfl, by decide, by decide⟩
  refine ⟨.int tp, dr2_ixL (atI_nat e), [], evn_lst eva_nil (Nat.zero_le _), ?_⟩
  refine ds_seq (ds_for (fun xs i Γ' => ∃ (ls ms : List (List Nat)) (s6 s7 : Sl), xs = nameD ls ∧ NamesOk ls ∧ lo ≤ ls.length ∧ ls.length ≤ hi ∧ Γ' = [.val .purse, .val (.int n), .val (.int lo), .val (.int hi), .val (.int tp), .own (folkD (ls.take i) ms), s6, s7, .unset] ∧ ms.length = i ∧ (∀ m ∈ ms, m.length = n) ∧ ∀ m ∈ ms, ∀ k ∈ m, k < 100) (dj_list (dl_call (s := spTags) (dla_cons (Ev.dl (ev_var rfl) (dla_cons (dl_op (Ev.dl (ev_var rfl) (dl_call (s := spDraw) (dla_cons (Ev.dl (ev_var rfl) (dla_cons (Ev.dl (ev_cast (congrArg D.int (by omega : (hi : Int) - (lo : Int) + 1 = ((hi - lo + 1 : Nat) : Int))) (ev_op (ev_op (ev_var rfl) (ev_var rfl) dr2_sub) ev_int pl_int)) (dla_nil ⟨hi - lo + 1, rfl, ⟨by omega, by omega⟩, fun d hd => ?_⟩))))))))))))))
  obtain ⟨q, hq, rfl⟩ := hd
  have hq : q < hi - lo + 1 := hq
  refine ⟨.int ((lo + q : Nat) : Int), ?pl, dla_nil ⟨lo + q, rfl, ⟨by omega, by omega⟩, fun d hd => ?_⟩⟩
  case pl =>
    have e := pl_int (K := K) (i := (lo : Int)) (j := (q : Int))
    rw [show (lo : Int) + (q : Int) = ((lo + q : Nat) : Int) by omega] at e
    exact e
  obtain ⟨ls0, rfl, hls0, hll0⟩ := hd
  have hll0 : ls0.length = lo + q := hll0
  refine ⟨nameD ls0, rfl, ⟨ls0, [], _, _, rfl, hls0, by omega, by omega, rfl, rfl, fun k h => absurd h (by simp), fun k h => absurd h (by simp)⟩, fun i x Γ' hx' ⟨ls, ms, s6, s7, exs, hls, l1, l2, e, p1, p2, p3⟩ => ?_, fun Γ' ⟨ls, ms, s6, s7, exs, hls, l1, l2, e, p1, p2, p3⟩ => ?_⟩
  · subst e
    rw [exs] at hx'
    have hil : i < ls.length := by
      have := (List.getElem?_eq_some_iff.mp hx').1
      rw [nameD_len] at this; exact this
    obtain rfl : x = .str (tx (rowAt ls i)) := by
      rw [nameD_ix hil] at hx'
      exact (Option.some.inj hx').symm
    refine ⟨[6], _, dg_name, ds_seq (ds_asg (dl_tuple (dl_lc (di_range (dla_cons (Ev.dl (ev_var rfl) (dla_nil ⟨n, rfl, by omega, by rw [rng_length]; omega, fun j acc Γ' => Γ' = [.val .purse, .val (.int n), .val (.int lo), .val (.int hi), .val (.int tp), .own (folkD (ls.take i) ms), .val (.str (tx (rowAt ls i))), s7, .unset] ∧ ∃ l : List Nat, acc = ordD l ∧ l.length = j ∧ ∀ k ∈ l, k < 100, ⟨rfl, [], rfl, rfl, fun c h => absurd h (by simp)⟩, fun j x acc Γ' hx2 ⟨e, l, ea, hl, hk⟩ => ?_, fun acc Γ' ⟨e, l, ea, hl, hk⟩ => ?_⟩)))))))⟩
    · subst e
      refine ⟨[8], _, dg_name, fun i hi => hi, dlt_yes ⟨fun _ => dl_call (s := spDraw) (dla_cons (Ev.dl (ev_var rfl) (dla_cons (Ev.dl (ev_var rfl) (dla_nil ⟨tp, rfl, ⟨by omega, by omega⟩, fun d hd => ?_⟩))))), fun h => nomatch h⟩⟩
      obtain ⟨q, hq, rfl⟩ := hd
      have hq : q < tp := hq
      refine ⟨rfl, l ++ [q], ?_, by rw [List.length_append, hl]; rfl, fun k hk' => ?_⟩
      · rw [ea, ← ordD_snoc]
      · rcases List.mem_append.mp hk' with hk' | hk'
        · exact hk k hk'
        · rw [List.mem_singleton.mp hk']; omega
    · subst e
      rw [rng_length] at hl
      refine ⟨ordD l, congrArg D.lst ea, ?_⟩
      have okm : ∀ m : List Nat, m.length = n → (∀ k ∈ m, k < 100) → (ms ++ [m]).length = i + 1 ∧ (∀ q ∈ ms ++ [m], q.length = n) ∧ ∀ q ∈ ms ++ [m], ∀ k ∈ q, k < 100 := fun m a b => ⟨by rw [List.length_append, p1]; rfl, fun q hq => by
        rcases List.mem_append.mp hq with hq | hq
        · exact p2 q hq
        · rw [List.mem_singleton.mp hq]; exact a, fun q hq => by
        rcases List.mem_append.mp hq with hq | hq
        · exact p3 q hq
        · rw [List.mem_singleton.mp hq]; exact b⟩
      have okn : ∀ l ∈ ls.take i, NameOk l := fun l hl => hls.all l (List.mem_of_mem_take hl)
      have hfl : (folkD (ls.take i) ms).length = i := by rw [folkD_len, List.length_take]; omega
      have hlt : (folkD (ls.take i) ms).length < sizeLine := by rw [hfl]; exact Nat.lt_of_lt_of_le (by omega : i < 100) (by decide)
      have fin : ∀ m : List Nat, m.length = n → (∀ k ∈ m, k < 100) → ∃ (ls' ms' : List (List Nat)) (s6 s7 : Sl), nameD ls0 = nameD ls' ∧ NamesOk ls' ∧ lo ≤ ls'.length ∧ ls'.length ≤ hi ∧ [Sl.val .purse, .val (.int n), .val (.int lo), .val (.int hi), .val (.int tp), .own (folkD (ls.take i) ms ++ [.tup [.str (tx (rowAt ls i)), .tup (ordD m)]]), .val (.str (tx (rowAt ls i))), .val (.tup (ordD l)), .unset] = [.val .purse, .val (.int n), .val (.int lo), .val (.int hi), .val (.int tp), .own (folkD (ls'.take (i + 1)) ms'), s6, s7, .unset] ∧ ms'.length = i + 1 ∧ (∀ m ∈ ms', m.length = n) ∧ ∀ m ∈ ms', ∀ k ∈ m, k < 100 := fun m a b => by
        obtain ⟨x1, x2, x3⟩ := okm m a b
        exact ⟨ls, ms ++ [m], _, _, exs, hls, l1, l2, by rw [folkD_snoc p1 hil], x1, x2, x3⟩
      refine ds_drop (dl_append ⟨_, rfl⟩ (dla_cons (dl_tup (dla_cons (Ev.dl (ev_var rfl) (dla_cons (dl_lend 5 rfl ?one (dl_if (dlt_and (EvT.dl (evt_test (ev_op (ev_var (d := .lst (folkD (ls.take i) ms)) rfl) (evn_lst eva_nil (Nat.zero_le _)).ev (ne_nil (ok_folk okn) (by decide)))) ⟨fun hne => dlt_test (dl_op (dl_call (s := spDraw) (dla_cons (Ev.dl (ev_var rfl) (dla_cons (Ev.dl ev_int (dla_nil ⟨(8 : Nat), rfl, ⟨by decide, by decide⟩, fun d1 hd1 => ?_⟩))))))), fun h => ⟨fun z => (nomatch z), fun _ => Ev.dl (ev_var rfl) ?_⟩⟩))))))))))
      case one =>
        intro j es e
        rcases j with _ | _ | _ | _ | _ | _ | _ | _ | _ | j <;> first | rfl | cases e
      · obtain ⟨q, _, rfl⟩ := hd1
        refine Ev.dl ev_int ⟨_, eq_int', _, rfl, fun _ => dl_op (dl_call (s := spAnyOf) (dla_cons (Ev.dl (ev_var rfl) (dla_cons (Ev.dl (ev_var (d := .lst (folkD (ls.take i) ms)) rfl) (dla_nil ⟨(true, folkD (ls.take i) ms), rfl, ⟨?_, ?_⟩, fun d2 hd2 => ?_⟩)))))), fun _ => Ev.dl (ev_var rfl) ?_⟩
        · show 0 < (folkD (ls.take i) ms).length
          cases hm : folkD (ls.take i) ms with
          | nil => rw [hm] at hne; exact absurd hne (by decide)
          | cons _ _ => exact Nat.succ_pos _
        · show (folkD (ls.take i) ms).length < 100000
          omega
        · obtain ⟨p, hp, rfl⟩ := List.mem_map.mp hd2
          have hpm := (List.of_mem_zip hp).2
          exact Ev.dl ev_int ⟨.tup (ordD p.2), dr2_ixT (atI_nat (j := 1) rfl), rfl, ⟨p.2, rfl⟩, dla_nil ⟨small (show 2 ≤ 100000 by decide), dla_nil ⟨_, folkD (ls.take i) ms, rfl, rfl, hlt, fin p.2 (p2 _ hpm) (p3 _ hpm)⟩⟩⟩
        · exact ⟨rfl, ⟨l, rfl⟩, dla_nil ⟨small (show 2 ≤ 100000 by decide), dla_nil ⟨_, folkD (ls.take i) ms, rfl, rfl, hlt, fin l hl hk⟩⟩⟩
      · exact ⟨rfl, ⟨l, rfl⟩, dla_nil ⟨small (show 2 ≤ 100000 by decide), dla_nil ⟨_, folkD (ls.take i) ms, rfl, rfl, hlt, fin l hl hk⟩⟩⟩
  · subst e
    have hxl : (nameD ls0).length = ls.length := by rw [exs, nameD_len]
    rw [hxl, List.take_length]
    rw [hxl] at p1
    exact ds_freeze 5 rfl (ds_ret (Ev.dl (ev_var rfl) ⟨ls, ms, rfl, ⟨hls, (by omega), p1, p2, n1, n8, p3⟩, l1, l2⟩))
end K31

namespace K31
open PySem PySem.Spec PyProof.Rows L2 Dw
variable [Tabs0]
/-! stretches of marks -/
def prD (p : Nat × Nat) : D := .tup [.int p.1, .int p.2]
def prP : Option (Nat × Nat) → D | some p => prD p | none => .non
def dashC : List Nat → Option (List Nat × List Nat)
  | [] => none
  | c :: l => if c = 45 then some ([], l) else (dashC l).map fun x => (c :: x.1, x.2)
theorem dashC_some : ∀ {l p q : List Nat}, dashC l = some (p, q) → l = p ++ ([45] ++ q) ∧ 45 ∉ p
  | [], p, q, h => nomatch h
  | c :: l, p, q, h => by
    unfold dashC at h
    by_cases hc : c = 45
    · rw [if_pos hc] at h
      cases h
      exact ⟨by rw [hc]; rfl, by simp⟩
    · rw [if_neg hc] at h
      cases e : dashC l with
      | none => rw [e] at h; cases h
      | some x =>
        obtain ⟨a, b⟩ := x
        rw [e] at h; cases h
        obtain ⟨h1, h2⟩ := dashC_some e
        refine ⟨by rw [h1]; rfl, fun hm => ?_⟩
        rcases List.mem_cons.mp hm with z | hm
        · exact hc z.symm
        · exact h2 hm
theorem dashC_none : ∀ {l : List Nat}, dashC l = none ↔ 45 ∉ l
  | [] => by simp [dashC]
  | c :: l => by
    unfold dashC
    by_cases hc : c = 45
    · rw [if_pos hc]
      simp [hc]
    · rw [if_neg hc, Option.map_eq_none_iff, dashC_none (l := l), List.mem_cons, not_or]
      exact ⟨fun h => ⟨fun z => hc z.symm, h⟩, fun h => h.2⟩
def twoW (a b : List Nat) : Option (Nat × Nat) := match markW a, markW b with
  | some x, some y => if decide (x < y) = true then some (x, y) else none
  | _, _ => none
def strW (l : List Nat) : Option (Nat × Nat) := match dashC l with
  | none => (markW l).map fun k => (k, k)
  | some (a, b) => twoW a b
theorem strW_no {l : List Nat} (h : 45 ∉ l) : strW l = (markW l).map fun k => (k, k) := by unfold strW; rw [dashC_none.mpr h]
theorem strW_at {l a b : List Nat} (h : dashC l = some (a, b)) : strW l = twoW a b := by unfold strW; rw [h]
theorem twoW_lt {a b : List Nat} {p : Nat × Nat} (h : twoW a b = some p) : p.1 < 100 ∧ p.2 < 100 := by
  unfold twoW at h
  cases e1 : markW a with
  | none => rw [e1] at h; cases h
  | some x =>
    cases e2 : markW b with
    | none => rw [e1, e2] at h; cases h
    | some y =>
      rw [e1, e2] at h
      have h : (if decide (x < y) = true then some (x, y) else none) = some p := h
      split at h
      · cases h; exact ⟨(markW_some e1).2, (markW_some e2).2⟩
      · cases h
theorem strW_lt {l : List Nat} {p : Nat × Nat} (h : strW l = some p) : p.1 < 100 ∧ p.2 < 100 := by
  unfold strW at h
  cases e : dashC l with
  | none =>
    rw [e] at h
    have h : (markW l).map (fun k => (k, k)) = some p := h
    cases e1 : markW l with
    | none => rw [e1] at h; cases h
    | some k => rw [e1] at h; cases h; exact ⟨(markW_some e1).2, (markW_some e1).2⟩
  | some x =>
    obtain ⟨a, b⟩ := x
    rw [e] at h
    exact twoW_lt h
def spStrP : Spc where
  ty := List Nat
  args := fun l => [.str (tx l)]
  ok := fun l => l.length ≤ 15000
  rel := fun l d => d = prP (strW l)
theorem isN_opt (o : Option Nat) : DR2 rIsNone (optN o) .non (.bl o.isNone) := dr2_isN fun W v r => by
  cases o with
  | none => exact decide_eq_true r
  | some k => rw [show v = V.int (k : Int) from r]; exact decide_eq_false fun h => nomatch h
/-! a veil's text -/
def strO (ws : List (List Nat)) : List (Option (Nat × Nat)) := (ws.drop 1).map strW
def strN (ps : List (List (List Nat))) : List (List (Nat × Nat)) := ps.map fun ws => (strO ws).map fun o => o.getD (0, 0)
def allVB (ps : List (List (List Nat))) : Bool := ps.all fun ws => !decide (none ∈ strO ws)
abbrev VeilV := List (List Nat) × List (List (Nat × Nat)) × Nat
def veilP (ps : List (List (List Nat))) : Option VeilV := if (candB ps && (wideB ps && allVB ps)) = true then some (headsL ps, strN ps, manyL ps) else none
def veilQ (l : List Nat) : Option VeilV := veilP (partsL l)
def veilOf : D → Option VeilV
  | .str x => veilQ x.cps.toList
  | _ => none
def vsD (ms : List (List (Nat × Nat))) : List D := ms.map fun m => D.tup (m.map prD)
def veilD (ls : List (List Nat)) (ms : List (List (Nat × Nat))) : D := .tup [.tupN (nameD ls), .tup (vsD ms)]
def optV : Option VeilV → D | some c => veilD c.1 c.2.1 | none => .non
theorem veil_no {d : D} (h : isStrB d = false) : veilOf d = none := by cases d <;> first | rfl | exact nomatch h
theorem vs_none {l : List Nat} (h : veilQ l = none) : D.non = optV (veilOf (.str (tx l))) := by
  show _ = optV (veilQ (tx l).cps.toList)
  rw [tx_cps, h]; rfl
theorem nin_V {K : PySem.W.Frag} (r : List (Option (Nat × Nat))) : DR2 (rNotInV K) .non (.tup (r.map prP)) (.bl (!decide (none ∈ r))) := dr2_flat fun W u v Q a b k => by
  have t0 : dOk 1 .non = true := rfl
  have t1 : dOk 2 (.tup (r.map prP)) = true := dOks_map fun o _ => by cases o <;> rfl
  obtain ⟨h1, h2⟩ := dOk_shaped t0 (by decide)
  obtain ⟨h3, h4⟩ := dOk_shaped t1 (by decide)
  refine ⟨_, _, dp_of _ u h1 a, dp_of _ v h3 b, h2, h4, k _ ?_⟩
  show V.bl _ = V.bl _
  congr 2
  clear h3 h4 t1 k b
  induction r with
  | nil => rfl
  | cons o r ih =>
    show (PyData.eqv (py (prP o)) (py .non) || (pys (r.map prP)).any _) = _
    rw [ih, Bool.eq_iff_iff, Bool.or_eq_true, decide_eq_true_eq, decide_eq_true_eq, List.mem_cons]
    cases o with
    | none => exact ⟨fun _ => .inl rfl, fun _ => .inl rfl⟩
    | some k => exact ⟨fun h => h.elim (fun z => absurd z (by show ¬ false = true; decide)) .inr, fun h => h.elim (fun z => nomatch z) .inr⟩
def AnyOk (d : D) : Prop := hasTy d = true ∧ noP d = true ∧ (isStrB d = true → Pv d ∧ shT d = true)
theorem any_np {d : D} {r : List D} (h : AnyOk d) (hr : noPs r = true) : noPs (d :: r) = true := by
  show (noP d && noPs r) = true
  rw [h.2.1, hr]; rfl
def spReadCB (fm fs : Addr) : Spc where
  ty := Bool × D
  args := fun x => [x.2, .raw (.ref (if x.1 = true then fs else fm))]
  ok := fun x => AnyOk x.2
  rel := fun x e => e = if x.1 = true then optV (veilOf x.2) else optC (caseOf x.2)
def spReadCH : Spc where
  ty := D
  args := fun d => [d]
  ok := fun d => AnyOk d
  rel := fun d e => e = optC (caseOf d)
def spReadVH : Spc where
  ty := D
  args := fun d => [d]
  ok := fun d => AnyOk d
  rel := fun d e => e = optV (veilOf d)
theorem evt_dash0 {K : PySem.W.Frag} {Γ : Gam} {t : TE} (h : Ev t Γ (.str (tx []))) : EvT (tTru K t) Γ false := fun F σ W Q g k => h F σ W _ g fun v H s l => ⟨false, by rw [show v = .str (tx []) from l]; exact ⟨by rw [tx_len]; exact Nat.zero_le _, rfl⟩, k H s⟩
theorem evt_dash1 {K : PySem.W.Frag} {Γ : Gam} {t : TE} (h : Ev t Γ (.str (tx [45]))) : EvT (tTru K t) Γ true := fun F σ W Q g k => h F σ W _ g fun v H s l => ⟨true, by rw [show v = .str (tx [45]) from l]; exact ⟨by rw [tx_len]; exact small (show 1 ≤ 100000 by decide), rfl⟩, k H s⟩
theorem ev_ninT_l {K : PySem.W.Frag} {Γ : Gam} {ta tb : TE} {d : D} {ds : List D} {r' r2 : R2} (ha : Ev ta Γ d) (hb : Ev tb Γ (.tup ds)) (s1 : isSc d = true) (s2 : ds.all isSc = true) : Ev (tOp (fun x y H Q => rOr (rIn K true) r' x y H Q ∨ r2 x y H Q) ta tb) Γ (.bl (!inV (scV d) (ds.map scV))) := fun F σ W Q g k =>
  ha F σ W _ g fun v H s r => hb F σ (W.at H) _ (g.same s) fun u H' s' ⟨p, vs, eu, e, nu, l⟩ => .inl (.inl ⟨p, vs, eu, .inr e.sq, by rw [rep_sc s1 r]; exact flat_sc s1, by rw [repL_sc s2 l]; exact flats_sc s2, by
    rw [rep_sc s1 r, repL_sc s2 l]
    exact k _ H' (Same.trans s s') rfl⟩)
end K31

namespace K31
open PySem PySem.Spec PyProof.Rows L2 Dw
variable [Tabs0]
theorem d_read_stretch {P : Program} {w : World} {K : PySem.W.Frag} {mg : Str → Option Value} {base : Heap} (T : Txt K w mg) : FnOk P w K mg base CX0 3 T.f_read_stretch T.e_read_stretch ["word"] (toSp (spStrP)) := by
  refine fn_ok T.F_read_stretch sc_read_stretch (fun _ => rfl) fun cdv A outer s' H E hr => ?_
  refine ⟨_, (pss_cons (ps_asg (pe_partition (pv 0) pe_str) (tupA K 3 rfl (pgs_cons (pg_name (i := 1) sc_read_stretch.nd rfl (Or.inl rfl)) (pgs_cons (pg_name (i := 2) sc_read_stretch.nd rfl (Or.inl rfl)) (pgs_cons (pg_name (i := 3) sc_read_stretch.nd rfl (Or.inl rfl)) pgs_nil))))) (pss_cons (ps_set (i := 4) sc_read_stretch.nd rfl (Or.inl rfl) (pe_call (d_read_mark T) (hr.mono (by decide)) (by rfl) T.m_read_mark T.F_read_mark.kp T.b_read_mark .nil pass0 (pa_cons (pv 1) pa_nil))) (pss_cons (ps_set (i := 5) sc_read_stretch.nd rfl (Or.inl rfl) (pe_ifExp (truA K (pv 2)) (pe_call (d_read_mark T) (hr.mono (by decide)) (by rfl) T.m_read_mark T.F_read_mark.kp T.b_read_mark .nil pass0 (pa_cons (pv 3) pa_nil)) (pv 4))) (pss_cons (ps_if (PW.pt (pw_or (pt_cmpR op_isN (pv 4) pe_non (nomark _)) (pw_or1 (pt_cmpR op_isN (pv 5) pe_non (nomark _))))) (pss_one (ps_ret pe_non)) pss_nil) (pss_cons (ps_if (PW.pt (pw_and (truA K (pv 2)) (pw_and1 (pt_cmpR opGe (pv 4) (pv 5) (nomark _))))) (pss_one (ps_ret pe_non)) pss_nil) (pss_one (ps_ret (pe_tup (pa_cons (pv 4) (pa_cons (pv 5) pa_nil)))))))))), fun x hx => ?_⟩
  obtain ⟨l, rfl⟩ : ∃ l' : List Nat, l' = x := ⟨x, rfl⟩
  have hl : l.length ≤ 15000 := hx
  have hz : (tx l).length ≤ sizeLine := by rw [tx_len]; exact small (by omega)
  cases e : dashC l with
  | none =>
    have h45 := dashC_none.mp e
    have hp : Txt.partition (tx l) (Str.ofString "-") = (tx l, tx [], tx []) := by rw [show Str.ofString "-" = tx [45] by decide +kernel]; exact SX.partition_none (by simp) (SX.par_head_none h45)
    refine ds_seq (ds_asg_g (Ev.dl (ev_cast (d' := .tup [.str (tx l), .str (tx []), .str (tx [])]) (by rw [hp]) (ev_partition (ev_var rfl) ev_str (by decide +kernel) hz)) ⟨[1] ++ ([2] ++ [3]), _, dg_tup3 dg_name dg_name dg_name, ?_⟩))
    refine ds_seq (ds_asg (Ev.dl (ev_call (s := spMarkG) (x := l) (eva_cons (ev_var rfl) eva_nil) rfl hl fun d h => h) ?_))
    refine ds_seq (ds_asg (Ev.dl (d := optN (markW l)) (ev_cast (d := if false = true then .non else optN (markW l)) rfl (ev_if (a := false) (d1 := .non) (d2 := optN (markW l)) ?tr (fun h => ?_) fun _ => ev_var rfl)) ?_))
    case tr => exact evt_dash0 (ev_var rfl)
    · exact nomatch h
    cases em : markW l with
    | none =>
      refine ds_seq (ds_if (EvT.dl (b := true || false) (evt_or (a := true) (b := false) (evt_test (ev_op (ev_var (d := optN none) rfl) ev_non (isN_opt none))) fun h => nomatch h) ⟨fun _ => ds_ret (Ev.dl ev_non ?_), fun h => (nomatch h)⟩))
      show _ = prP (strW l)
      rw [strW_no h45, em]; rfl
    | some k =>
      refine ds_seq (ds_if (EvT.dl (b := false || false) (evt_or (a := false) (b := false) (evt_test (ev_op (ev_var (d := optN (some k)) rfl) ev_non (isN_opt (some k)))) fun _ => evt_test (ev_op (ev_var (d := optN (some k)) rfl) ev_non (isN_opt (some k)))) ⟨fun h => (nomatch h), fun _ => ds_next ?_⟩))
      refine ds_seq (ds_if (EvT.dl (b := false && false) (evt_and (a := false) (b := false) (evt_dash0 (ev_var rfl)) fun h => nomatch h) ⟨fun h => (nomatch h), fun _ => ds_next ?_⟩))
      refine ds_ret (Ev.dl (ev_tup (eva_cons (ev_var (d := .int (k : Nat)) rfl) (eva_cons (ev_var (d := .int (k : Nat)) rfl) eva_nil)) (small (by simp))) ?_)
      show _ = prP (strW l)
      rw [strW_no h45, em]; rfl
  | some x =>
    obtain ⟨p, q⟩ := x
    obtain ⟨el, h45⟩ := dashC_some e
    have lpq : p.length + q.length ≤ l.length := by rw [el]; simp
    have hp : Txt.partition (tx l) (Str.ofString "-") = (tx p, tx [45], tx q) := by rw [el, show Str.ofString "-" = tx [45] by decide +kernel]; exact SX.partition_some (by simp) (SX.par_head q h45)
    refine ds_seq (ds_asg_g (Ev.dl (ev_cast (d' := .tup [.str (tx p), .str (tx [45]), .str (tx q)]) (by rw [hp]) (ev_partition (ev_var rfl) ev_str (by decide +kernel) hz)) ⟨[1] ++ ([2] ++ [3]), _, dg_tup3 dg_name dg_name dg_name, ?_⟩))
    refine ds_seq (ds_asg (Ev.dl (ev_call (s := spMarkG) (x := p) (eva_cons (ev_var rfl) eva_nil) rfl (by show p.length ≤ 15000; omega) fun d h => h) ?_))
    refine ds_seq (ds_asg (Ev.dl (d := optN (markW q)) (ev_cast (d := if true = true then optN (markW q) else .non) rfl (ev_if (a := true) (d1 := optN (markW q)) (d2 := .non) ?tr2 (fun _ => ev_call (s := spMarkG) (x := q) (eva_cons (ev_var rfl) eva_nil) rfl (by show q.length ≤ 15000; omega) fun d h => h) fun h => ?_)) ?_))
    case tr2 => exact evt_dash1 (ev_var rfl)
    · exact nomatch h
    have es : strW l = twoW p q := strW_at e
    cases em : markW p with
    | none =>
      refine ds_seq (ds_if (EvT.dl (b := true || false) (evt_or (a := true) (b := false) (evt_test (ev_op (ev_var (d := optN none) rfl) ev_non (isN_opt none))) fun h => nomatch h) ⟨fun _ => ds_ret (Ev.dl ev_non ?_), fun h => (nomatch h)⟩))
      show _ = prP (strW l)
      rw [es]; unfold twoW; rw [em]; rfl
    | some x =>
      cases en : markW q with
      | none =>
        refine ds_seq (ds_if (EvT.dl (b := false || true) (evt_or (a := false) (b := true) (evt_test (ev_op (ev_var (d := optN (some x)) rfl) ev_non (isN_opt (some x)))) fun _ => evt_test (ev_op (ev_var (d := optN none) rfl) ev_non (isN_opt none))) ⟨fun _ => ds_ret (Ev.dl ev_non ?_), fun h => (nomatch h)⟩))
        show _ = prP (strW l)
        rw [es]; unfold twoW; rw [em, en]; rfl
      | some y =>
        refine ds_seq (ds_if (EvT.dl (b := false || false) (evt_or (a := false) (b := false) (evt_test (ev_op (ev_var (d := optN (some x)) rfl) ev_non (isN_opt (some x)))) fun _ => evt_test (ev_op (ev_var (d := optN (some y)) rfl) ev_non (isN_opt (some y)))) ⟨fun h => (nomatch h), fun _ => ds_next ?_⟩))
        refine ds_seq (ds_if (EvT.dl (b := true && !decide (x < y)) (evt_and (a := true) (b := !decide (x < y)) (evt_dash1 (ev_var rfl)) fun _ => evt_test (ev_op (ev_var (d := .int (x : Nat)) rfl) (ev_var (d := .int (y : Nat)) rfl) (ge_b ?_))) ⟨fun h => ds_ret (Ev.dl ev_non ?_), fun h => ds_next ?_⟩))
        · rw [← decide_not]; exact decide_eq_decide.mpr (by omega)
        · have h : ¬ decide (x < y) = true := by
            rw [Bool.true_and] at h
            simpa using h
          show _ = prP (strW l)
          rw [es]; unfold twoW; rw [em, en]
          show _ = prP (if decide (x < y) = true then some (x, y) else none)
          rw [if_neg h]; rfl
        · have h : decide (x < y) = true := by
            rw [Bool.true_and] at h
            simpa using h
          refine ds_ret (Ev.dl (ev_tup (eva_cons (ev_var (d := .int (x : Nat)) rfl) (eva_cons (ev_var (d := .int (y : Nat)) rfl) eva_nil)) (small (by simp))) ?_)
          show _ = prP (strW l)
          rw [es]; unfold twoW; rw [em, en]
          show _ = prP (if decide (x < y) = true then some (x, y) else none)
          rw [if_pos h]; rfl
end K31

namespace K31
open PySem PySem.Spec PyProof.Rows L2 Dw
variable [Tabs0]
theorem d_read_candidates {P : Program} {w : World} {K : PySem.W.Frag} {mg : Str → Option Value} {base : Heap} (T : Txt K w mg) : FnOk P w K mg base CX0 4 T.f_read_candidates T.e_read_candidates ["text", "read_word"] (toSp (spReadCB T.f_read_mark T.f_read_stretch)) := by
  refine fn_ok T.F_read_candidates sc_read_candidates (fun _ => rfl) fun cdv A outer s' H E hr => ?_
  refine ⟨_, (pss_cons (ps_if (pt_not (truA K (pe_callB (isiA K) (by rfl) T.n_isinstance (by decide +kernel) (pa_cons (pv 0) (pa_cons (pe_bltn (v := .ty "str") (by rfl) T.n_str (by decide +kernel) rfl) pa_nil))))) (pss_one (ps_ret pe_non)) pss_nil) (pss_cons (ps_setLc (i := 2) (own := [("part", 6)]) rfl sc_read_candidates.nd rfl rfl (sw_true rfl rfl rfl (by decide +kernel)) (piR K (pe_split (pv 0) pe_str)) (blkOk_by (own := [("part", 6)]) (N := N_read_candidates) (sc := (defScope s_read_candidates)) (by decide +kernel)) (fun _ _ _ _ _ => pg_name (i := 6) sc_read_candidates.nd rfl (Or.inl rfl)) (fun _ _ _ _ _ => pts_nil) (fun _ _ _ _ _ => (pe_split (pv 6) pe_str))) (pss_cons (ps_set (i := 3) sc_read_candidates.nd rfl (Or.inl rfl) (pe_callTy (tupleFA K) (by rfl) T.n_tuple (by decide +kernel) (pa_cons (pe_lc (own := [("words", 7)]) rfl sc_read_candidates.nd (piR K (pv 2)) (blkOk_by (own := [("words", 7)]) (N := N_read_candidates) (sc := (defScope s_read_candidates)) (by decide +kernel)) (fun _ _ _ _ _ => pg_name (i := 7) sc_read_candidates.nd rfl (Or.inl rfl)) (fun _ _ _ _ _ => pts_nil) (fun _ _ _ _ _ => (pe_ix (ixA K) (pv 7) pe_int (fun _ _ => rfl)))) pa_nil))) (pss_cons (ps_if (PW.pt (pw_or (pt_not (pt_chain opLe opLe (pe_glob (v := .int 2) (by rfl) T.c_LEAST_CANDIDATES ⟨_, rfl⟩) (pe_callB (lenA K) (by rfl) T.n_len (by decide +kernel) (pa_cons (pv 3) pa_nil)) (pe_glob (v := .int 8) (by rfl) T.c_MOST_CANDIDATES ⟨_, rfl⟩))) (pw_or1 (pt_not (truA K (pe_call (d_are_names T) (hr.mono (by decide)) (by rfl) T.m_are_names T.F_are_names.kp T.b_are_names .nil pass0 (pa_cons (pv 3) pa_nil))))))) (pss_one (ps_ret pe_non)) pss_nil) (pss_cons (ps_set (i := 4) sc_read_candidates.nd rfl (Or.inr rfl) (pe_op op_sub (pe_callB (lenA K) (by rfl) T.n_len (by decide +kernel) (pa_cons (pe_ix (ixA K) (pv 2) pe_int (fun _ _ => rfl)) pa_nil)) pe_int)) (pss_cons (ps_if (PW.pt (pw_or (pt_not (pt_chain opLe opLe pe_int (pv 4) (pe_glob (v := .int 8) (by rfl) T.c_MOST_RULES ⟨_, rfl⟩))) (pw_or1 (pt_not (truA K (pe_callB (allA K) (by rfl) T.n_all (by decide +kernel) (pa_cons (pe_lc (own := [("words", 7)]) rfl sc_read_candidates.nd (piR K (pv 2)) (blkOk_by (own := [("words", 7)]) (N := N_read_candidates) (sc := (defScope s_read_candidates)) (by decide +kernel)) (fun _ _ _ _ _ => pg_name (i := 7) sc_read_candidates.nd rfl (Or.inl rfl)) (fun _ _ _ _ _ => pts_nil) (fun _ _ _ _ _ => (pe_cmpR (eqA K hr.units) (pe_callB (lenA K) (by rfl) T.n_len (by decide +kernel) (pa_cons (pv 7) pa_nil)) (pe_op (plusF K) (pv 4) pe_int) (nomark _)))) pa_nil))))))) (pss_one (ps_ret pe_non)) pss_nil) (pss_cons (ps_set (i := 5) sc_read_candidates.nd rfl (Or.inl rfl) (pe_callTy (tupleFA K) (by rfl) T.n_tuple (by decide +kernel) (pa_cons (pe_lc (own := [("words", 7)]) rfl sc_read_candidates.nd (piR K (pv 2)) (blkOk_by (own := [("words", 7)]) (N := N_read_candidates) (sc := (defScope s_read_candidates)) (by decide +kernel)) (fun _ _ _ _ _ => pg_name (i := 7) sc_read_candidates.nd rfl (Or.inl rfl)) (fun _ _ _ _ _ => pts_nil) (fun _ _ _ _ _ => (pe_callTy (tupleFA K) (by rfl) T.n_tuple (by decide +kernel) (pa_cons (pe_lc (own := [("word", 9)]) rfl sc_read_candidates.nd (piR K (pe_slice (slXA K) (pv 7) (po_some pe_int) po_none)) (blkOk_by (own := [("word", 9)]) (N := N_read_candidates) (sc := (relS { kind := .function, names := [(".0", .local), ("words", .local), ("tuple", .globalImplicit), ("read_word", .free)], isGenerator := false, isCoroutine := false, more := [] } (defScope s_read_candidates))) (by decide +kernel)) (fun _ _ _ _ _ => pg_name (i := 9) sc_read_candidates.nd rfl (Or.inl rfl)) (fun _ _ _ _ _ => pts_nil) (fun _ _ _ _ _ => (pe_or2 (pe_callL (i := 1) (d_read_mark T) (hr.mono (by decide)) (by rfl) (Or.inr (Or.inl (by rfl))) T.F_read_mark.kp T.b_read_mark .nil pass0 (pa_cons (pv 9) pa_nil)) (pe_callL (i := 1) (d_read_stretch T) (hr.mono (by decide)) (by rfl) (Or.inr (Or.inl (by rfl))) T.F_read_stretch.kp T.b_read_stretch .nil pass0 (pa_cons (pv 9) pa_nil))))) pa_nil)))) pa_nil))) (pss_cons (ps_if (pt_not (truA K (pe_callB (allA K) (by rfl) T.n_all (by decide +kernel) (pa_cons (pe_lc (own := [("row", 8)]) rfl sc_read_candidates.nd (piR K (pv 5)) (blkOk_by (own := [("row", 8)]) (N := N_read_candidates) (sc := (defScope s_read_candidates)) (by decide +kernel)) (fun _ _ _ _ _ => pg_name (i := 8) sc_read_candidates.nd rfl (Or.inl rfl)) (fun _ _ _ _ _ => pts_nil) (fun _ _ _ _ _ => (pe_cmpR ((ninA K).or (notInTV K hr)) pe_non (pv 8) (by rfl)))) pa_nil)))) (pss_one (ps_ret pe_non)) pss_nil) (pss_one (ps_ret (pe_tupF (pa_cons (pv 3) (pa_cons (pv 5) pa_nil))))))))))))), fun x hx => ?_⟩
  obtain ⟨b, d⟩ := x
  have hx : AnyOk d := hx
  cases b with
  | false =>
    show Ds _ (Gz0 10 [d, .raw (.ref (if false = true then T.f_read_stretch else T.f_read_mark))]) ⟨fun _ => D.non = optC (caseOf d), fun e => e = optC (caseOf d), fun _ => False, fun _ => False⟩
    by_cases hs : isStrB d = true
    · obtain ⟨hd, hsh⟩ := hx.2.2 hs
      have hd : Pv d := hd
      obtain ⟨s, rfl⟩ := str_of hs
      obtain ⟨l, rfl⟩ : ∃ l, s = tx l := ⟨_, of_tx s⟩
      have hcd := okS_codes hd.str.1
      have hl : l.length ≤ 15000 := by
        have : decide ((tx l).length ≤ 15000) = true := hsh
        rw [tx_len] at this
        exact of_decide_eq_true this
      have pn := parts_ne l
      have pl := parts_len l
      have pw := parts_word l
      have sl := spl_sub [59, 32] 0 [] l
      obtain ⟨ps, hps⟩ : ∃ ps, partsL l = ps := ⟨_, rfl⟩
      have eps : (semiL l).map (fun p => D.lst (nameD (splitL p))) = ps.map fun ws => D.lst (nameD ws) := by rw [← hps]; unfold partsL; rw [List.map_map]; rfl
      rw [hps] at pn pl pw
      have lh : (nameD (headsL ps)).length = ps.length := by unfold nameD headsL; rw [List.length_map, List.length_map]
      have en : ps.map (fun ws => D.str (tx (ws.headD []))) = nameD (headsL ps) := by unfold nameD headsL; rw [List.map_map]; rfl
      have eq : caseQ l = caseP ps := by unfold caseQ; rw [hps]
      refine ds_seq (ds_if (EvT.dl (b := false) (evt_not (a := true) (evt_tru_bl (ev_isi (ev_var rfl) ev_raw (.inl rfl) (.ty "str") rfl))) ⟨fun h => (nomatch h), fun _ => ds_next ?_⟩))
      refine ds_seq (ds_asg (Ev.dl (ev_cast (congrArg D.lst eps) (EvN.ev (evn_lc1 (xs := semiL l) (c := fun p => .str (tx p)) (f := fun p => .lst (nameD (splitL p))) ?it0 ?z0 fun p hp => ⟨[6], _, dg_name, fun i hi => hi, evt_yes, ev_cast (congrArg D.lst ?w0) (EvN.ev (evn_split (a := tx p) (ev_var rfl) ev_str (by decide +kernel) ?z1))⟩))) ?_))
      case it0 =>
        have := ej_list (K := K) (EvN.b (evn_split (Γ := [.val (.str (tx l)), .val (.raw (.ref (if false = true then T.f_read_stretch else T.f_read_mark))), .unset, .unset, .unset, .unset, .unset, .unset, .unset, .unset]) (a := tx l) (b := Str.ofString "; ") (ta := tVar 0) (tb := tC (.str "; ")) (ev_var rfl) ev_str (by decide +kernel) (by rw [tx_len]; exact small (by omega))))
        rw [semiS_split, List.map_map] at this
        exact this
      case z0 =>
        have := spl_len [59, 32] 0 [] l
        show (semiL l).length ≤ _
        unfold semiL
        omega
      case w0 => rw [splitS, nameD_map]
      case z1 =>
        have := (sl p hp).1
        rw [tx_len]
        exact small (by simp at this; omega)
      have pv : ∀ Γ : Gam, Γ[2]? = some (.val (.lst (ps.map fun ws => D.lst (nameD ws)))) → Ei (iAnyR K (tVar 2)) Γ (ps.map fun ws => D.lst (nameD ws)) := fun Γ h => ej_list (ev_var h).b
      refine ds_seq (ds_asg (Ev.dl (ev_cast (congrArg D.tupN en) (ev_tupleN (EvN.b (evn_lc1 (xs := ps) (c := fun ws => .lst (nameD ws)) (f := fun ws => .str (tx (ws.headD []))) (pv _ rfl) (by omega) fun ws hw => ⟨[7], _, dg_name, fun i hi => hi, evt_yes, ev_ix (ev_var (d := .lst (nameD ws)) rfl).b ev_int (atI_nat (j := 0) (headD_at (pn ws hw)))⟩)))) ?_))
      have ec : (!candB ps) = (!(decide (2 ≤ ps.length) && decide (ps.length ≤ 8)) || !namesB (nameD (headsL ps))) := by unfold candB; rw [Bool.not_and]
      refine ds_seq (ds_if (EvT.dl (b := !candB ps) ?hd ⟨fun h2 => ds_ret (Ev.dl ev_non (cs_none ?no2)), fun h2 => ds_next ?_⟩))
      case hd =>
        rw [ec]
        refine evt_or (evt_not (evt_chain (p := decide (2 ≤ ps.length)) (q := decide (ps.length ≤ 8)) ev_int (ev_lenT (ds := nameD (headsL ps)) (ev_dn (ev_var rfl))) (fun _ => ev_int) (le_b (by rw [lh]; exact decide_eq_decide.mpr (by omega))) fun _ => le_b (by rw [lh]; exact decide_eq_decide.mpr (by omega)))) fun h9 => evt_not (evt_tru_bl (ev_call (s := spNamesG) (x := nameD (headsL ps)) (eva_cons (ev_dn (ev_var rfl)) eva_nil) (np_tup (np_name _)) ?pv fun d h => h))
        have h9 : ps.length ≤ 8 := by
          rw [Bool.not_eq_false', Bool.and_eq_true] at h9
          exact of_decide_eq_true h9.2
        show (decide ((nameD (headsL ps)).length ≤ 60) && plBs 11 (nameD (headsL ps))) = true
        rw [lh, decide_eq_true (by omega), Bool.true_and, plBs_iff]
        intro d hd'
        obtain ⟨w, hw, rfl⟩ := List.mem_map.mp hd'
        obtain ⟨ws, hws, rfl⟩ := List.mem_map.mp hw
        have hm : ws.headD [] ∈ ws := by
          cases ws with
          | nil => exact absurd rfl (pn _ hws)
          | cons a r => exact List.mem_cons_self
        obtain ⟨s1, s2⟩ := (pw ws hws).2 _ hm
        exact pv_strs (fun c hc' => hcd c (s2 c hc')) (by omega)
      case no2 =>
        rw [Bool.not_eq_true'] at h2
        rw [eq]; unfold caseP
        rw [h2]; rfl
      rw [Bool.not_eq_false'] at h2
      have h2' := h2
      unfold candB at h2'
      rw [Bool.and_eq_true, Bool.and_eq_true, decide_eq_true_eq, decide_eq_true_eq] at h2'
      obtain ⟨⟨p2, p8⟩, _⟩ := h2'
      obtain ⟨w0, r0, rfl⟩ : ∃ w r, ps = w :: r := by
        cases ps with
        | nil => exact absurd p2 (by simp)
        | cons w r => exact ⟨w, r, rfl⟩
      have hw0 : 0 < w0.length := by
        cases w0 with
        | nil => exact absurd rfl (pn [] List.mem_cons_self)
        | cons _ _ => simp
      have em : manyL (w0 :: r0) = w0.length - 1 := rfl
      have hn15 := (pw w0 List.mem_cons_self).1
      obtain ⟨n, hn⟩ : ∃ n, manyL (w0 :: r0) = n := ⟨_, rfl⟩
      refine ds_seq (ds_asg (Ev.dl (ev_cast (d' := .int (n : Nat)) (congrArg D.int (by rw [nameD_len]; omega)) (ev_op (ev_len (ds := nameD w0) (Ev.b (ev_ix (ev_var (d := .lst ((w0 :: r0).map fun ws => D.lst (nameD ws))) rfl).b ev_int (atI_nat (j := 0) rfl)))) ev_int dr2_sub)) ?_))
      have ew : (!wideB (w0 :: r0)) = (!(decide (1 ≤ n) && decide (n ≤ 8)) || !((w0 :: r0).all fun ws => decide (ws.length = n + 1))) := by unfold wideB; rw [Bool.not_and, hn]
      refine ds_seq (ds_if (EvT.dl (b := !wideB (w0 :: r0)) ?wd ⟨fun h3 => ds_ret (Ev.dl ev_non (cs_none ?no3)), fun h3 => ds_next ?_⟩))
      case wd =>
        rw [ew]
        exact evt_or (evt_not (evt_chain (p := decide (1 ≤ n)) (q := decide (n ≤ 8)) ev_int (ev_var rfl) (fun _ => ev_int) (le_b (decide_eq_decide.mpr (by omega))) fun _ => le_b (decide_eq_decide.mpr (by omega)))) fun _ => evt_not (evt_tru_bl (ev_all_lc (K := K) (xs := w0 :: r0) (c := fun ws => .lst (nameD ws)) (b := fun ws => decide (ws.length = n + 1)) (pv _ rfl) (by omega) fun ws hw => ⟨[7], _, dg_name, fun i hi => hi, evt_yes, ev_op (ev_len (ds := nameD ws) (ev_var rfl).b) (ev_op (ev_var rfl) ev_int (plF_of (pl_int (i := (n : Int)) (j := 1)))) (eq_ib (by rw [nameD_len]; exact decide_eq_decide.mpr (by omega)))⟩))
      case no3 =>
        rw [Bool.not_eq_true'] at h3
        rw [eq]; unfold caseP
        rw [h3]; simp
      rw [Bool.not_eq_false'] at h3
      have h3' := h3
      unfold wideB at h3'
      rw [hn, Bool.and_eq_true, Bool.and_eq_true, decide_eq_true_eq, decide_eq_true_eq, List.all_eq_true] at h3'
      obtain ⟨⟨n1, n8⟩, hwl⟩ := h3'
      have hwl : ∀ ws ∈ w0 :: r0, ws.length = n + 1 := fun ws hw => of_decide_eq_true (hwl ws hw)
      refine ds_seq (ds_asg (Ev.dl (ev_tupleF (ds := (w0 :: r0).map fun ws => D.tup ((marksO ws).map optN)) (EvN.b (evn_lc1 (xs := w0 :: r0) (c := fun ws => .lst (nameD ws)) (f := fun ws => .tup ((marksO ws).map optN)) (pv _ rfl) (by omega) fun ws hw => ⟨[7], _, dg_name, fun i hi => hi, evt_yes, ev_cast (d := .tup ((ws.drop 1).map fun w => optN (markW w))) (by unfold marksO; rw [List.map_map]; rfl) (ev_tupleF (EvN.b (evn_lc1 (xs := ws.drop 1) (c := fun w => .str (tx w)) (f := fun w => optN (markW w)) ?sl (by rw [List.length_drop]; have := hwl ws hw; omega) fun w hwm => ⟨[9], _, dg_name, fun i hi => hi, evt_yes, ev_orl (ev_callL (s := spMarkG) (x := w) rfl (eva_cons (ev_var rfl) eva_nil) rfl (by
        have := ((pw ws hw).2 w (List.mem_of_mem_drop hwm)).1
        show w.length ≤ 15000
        omega) fun d h => h)⟩)))⟩))) ?_))
      case sl =>
        have e : Dw.cutD (nameD ws) (some 1) none = (ws.drop 1).map fun w => D.str (tx w) := by
          rw [cut_tail]
          unfold nameD
          rw [List.map_drop]
        exact e ▸ ej_list (EvN.b (evn_sliceY (ds := nameD ws) (ev_var rfl).b (eo_some ev_int) eo_none))
      refine ds_seq (ds_if (EvT.dl (b := !allMB (w0 :: r0)) (evt_not (evt_tru_bl (ev_all_lc (K := K) (xs := w0 :: r0) (c := fun ws => .tup ((marksO ws).map optN)) (b := fun ws => !decide (none ∈ marksO ws)) (ej_tup (ev_var rfl)) (by omega) fun ws hw => ⟨[8], _, dg_name, fun i hi => hi, evt_yes, ev_cast (congrArg D.bl (congrArg not (inV_opt (marksO ws)))) (ev_ninT_l (K := K) (d := .non) (ds := (marksO ws).map optN) ev_non (ev_var rfl) rfl (sc_opt _))⟩))) ⟨fun h4 => ds_ret (Ev.dl ev_non (cs_none ?no4)), fun h4 => ds_next ?_⟩))
      case no4 =>
        rw [Bool.not_eq_true'] at h4
        rw [eq]; unfold caseP
        rw [h4]; simp
      rw [Bool.not_eq_false'] at h4
      refine ds_ret (Ev.dl (ev_tupF (eva_cons (ev_var rfl) (eva_cons (ev_var rfl) eva_nil)) (small (show 2 ≤ 100000 by decide))) ?_)
      show _ = optC (caseQ (tx l).cps.toList)
      rw [tx_cps, eq]
      unfold caseP
      rw [h2, h3, h4]
      show _ = caseD _ _
      unfold caseD
      have em : (marksN (w0 :: r0)).map (fun m => D.tup (ordD m)) = (w0 :: r0).map fun ws => D.tup ((marksO ws).map optN) := by
        unfold marksN
        rw [List.map_map]
        refine List.map_congr_left fun ws hw => ?_
        show D.tup (ordD ((marksO ws).map fun o => o.getD 0)) = _
        unfold ordD
        rw [List.map_map]
        refine congrArg D.tup (List.map_congr_left fun o ho => ?_)
        have hno : none ∉ marksO ws := by
          unfold allMB at h4
          have := List.all_eq_true.mp h4 ws hw
          simpa using this
        cases o with
        | none => exact absurd ho hno
        | some k => rfl
      rw [em]
    · have hs : isStrB d = false := by simpa using hs
      refine ds_seq (ds_if (EvT.dl (b := true) (evt_not (a := false) (evt_tru_bl (ev_isi (ev_var rfl) ev_raw (.inl hx.1) (.ty "str") (by rw [kit_str hx.1, hs])))) ⟨fun _ => ds_ret (Ev.dl ev_non ?_), fun h => (nomatch h)⟩))
      show D.non = optC (caseOf d)
      rw [case_no hs]; rfl
  | true =>
    show Ds _ (Gz0 10 [d, .raw (.ref (if true = true then T.f_read_stretch else T.f_read_mark))]) ⟨fun _ => D.non = optV (veilOf d), fun e => e = optV (veilOf d), fun _ => False, fun _ => False⟩
    by_cases hs : isStrB d = true
    · obtain ⟨hd, hsh⟩ := hx.2.2 hs
      have hd : Pv d := hd
      obtain ⟨s, rfl⟩ := str_of hs
      obtain ⟨l, rfl⟩ : ∃ l, s = tx l := ⟨_, of_tx s⟩
      have hcd := okS_codes hd.str.1
      have hl : l.length ≤ 15000 := by
        have : decide ((tx l).length ≤ 15000) = true := hsh
        rw [tx_len] at this
        exact of_decide_eq_true this
      have pn := parts_ne l
      have pl := parts_len l
      have pw := parts_word l
      have sl := spl_sub [59, 32] 0 [] l
      obtain ⟨ps, hps⟩ : ∃ ps, partsL l = ps := ⟨_, rfl⟩
      have eps : (semiL l).map (fun p => D.lst (nameD (splitL p))) = ps.map fun ws => D.lst (nameD ws) := by rw [← hps]; unfold partsL; rw [List.map_map]; rfl
      rw [hps] at pn pl pw
      have lh : (nameD (headsL ps)).length = ps.length := by unfold nameD headsL; rw [List.length_map, List.length_map]
      have en : ps.map (fun ws => D.str (tx (ws.headD []))) = nameD (headsL ps) := by unfold nameD headsL; rw [List.map_map]; rfl
      have eq : veilQ l = veilP ps := by unfold veilQ; rw [hps]
      refine ds_seq (ds_if (EvT.dl (b := false) (evt_not (a := true) (evt_tru_bl (ev_isi (ev_var rfl) ev_raw (.inl rfl) (.ty "str") rfl))) ⟨fun h => (nomatch h), fun _ => ds_next ?_⟩))
      refine ds_seq (ds_asg (Ev.dl (ev_cast (congrArg D.lst eps) (EvN.ev (evn_lc1 (xs := semiL l) (c := fun p => .str (tx p)) (f := fun p => .lst (nameD (splitL p))) ?it0V ?z0V fun p hp => ⟨[6], _, dg_name, fun i hi => hi, evt_yes, ev_cast (congrArg D.lst ?w0V) (EvN.ev (evn_split (a := tx p) (ev_var rfl) ev_str (by decide +kernel) ?z1V))⟩))) ?_))
      case it0V =>
        have := ej_list (K := K) (EvN.b (evn_split (Γ := [.val (.str (tx l)), .val (.raw (.ref (if true = true then T.f_read_stretch else T.f_read_mark))), .unset, .unset, .unset, .unset, .unset, .unset, .unset, .unset]) (a := tx l) (b := Str.ofString "; ") (ta := tVar 0) (tb := tC (.str "; ")) (ev_var rfl) ev_str (by decide +kernel) (by rw [tx_len]; exact small (by omega))))
        rw [semiS_split, List.map_map] at this
        exact this
      case z0V =>
        have := spl_len [59, 32] 0 [] l
        show (semiL l).length ≤ _
        unfold semiL
        omega
      case w0V => rw [splitS, nameD_map]
      case z1V =>
        have := (sl p hp).1
        rw [tx_len]
        exact small (by simp at this; omega)
      have pv : ∀ Γ : Gam, Γ[2]? = some (.val (.lst (ps.map fun ws => D.lst (nameD ws)))) → Ei (iAnyR K (tVar 2)) Γ (ps.map fun ws => D.lst (nameD ws)) := fun Γ h => ej_list (ev_var h).b
      refine ds_seq (ds_asg (Ev.dl (ev_cast (congrArg D.tupN en) (ev_tupleN (EvN.b (evn_lc1 (xs := ps) (c := fun ws => .lst (nameD ws)) (f := fun ws => .str (tx (ws.headD []))) (pv _ rfl) (by omega) fun ws hw => ⟨[7], _, dg_name, fun i hi => hi, evt_yes, ev_ix (ev_var (d := .lst (nameD ws)) rfl).b ev_int (atI_nat (j := 0) (headD_at (pn ws hw)))⟩)))) ?_))
      have ec : (!candB ps) = (!(decide (2 ≤ ps.length) && decide (ps.length ≤ 8)) || !namesB (nameD (headsL ps))) := by unfold candB; rw [Bool.not_and]
      refine ds_seq (ds_if (EvT.dl (b := !candB ps) ?hdV ⟨fun h2 => ds_ret (Ev.dl ev_non (vs_none ?no2V)), fun h2 => ds_next ?_⟩))
      case hdV =>
        rw [ec]
        refine evt_or (evt_not (evt_chain (p := decide (2 ≤ ps.length)) (q := decide (ps.length ≤ 8)) ev_int (ev_lenT (ds := nameD (headsL ps)) (ev_dn (ev_var rfl))) (fun _ => ev_int) (le_b (by rw [lh]; exact decide_eq_decide.mpr (by omega))) fun _ => le_b (by rw [lh]; exact decide_eq_decide.mpr (by omega)))) fun h9 => evt_not (evt_tru_bl (ev_call (s := spNamesG) (x := nameD (headsL ps)) (eva_cons (ev_dn (ev_var rfl)) eva_nil) (np_tup (np_name _)) ?pvV fun d h => h))
        have h9 : ps.length ≤ 8 := by
          rw [Bool.not_eq_false', Bool.and_eq_true] at h9
          exact of_decide_eq_true h9.2
        show (decide ((nameD (headsL ps)).length ≤ 60) && plBs 11 (nameD (headsL ps))) = true
        rw [lh, decide_eq_true (by omega), Bool.true_and, plBs_iff]
        intro d hd'
        obtain ⟨w, hw, rfl⟩ := List.mem_map.mp hd'
        obtain ⟨ws, hws, rfl⟩ := List.mem_map.mp hw
        have hm : ws.headD [] ∈ ws := by
          cases ws with
          | nil => exact absurd rfl (pn _ hws)
          | cons a r => exact List.mem_cons_self
        obtain ⟨s1, s2⟩ := (pw ws hws).2 _ hm
        exact pv_strs (fun c hc' => hcd c (s2 c hc')) (by omega)
      case no2V =>
        rw [Bool.not_eq_true'] at h2
        rw [eq]; unfold veilP
        rw [h2]; rfl
      rw [Bool.not_eq_false'] at h2
      have h2' := h2
      unfold candB at h2'
      rw [Bool.and_eq_true, Bool.and_eq_true, decide_eq_true_eq, decide_eq_true_eq] at h2'
      obtain ⟨⟨p2, p8⟩, _⟩ := h2'
      obtain ⟨w0, r0, rfl⟩ : ∃ w r, ps = w :: r := by
        cases ps with
        | nil => exact absurd p2 (by simp)
        | cons w r => exact ⟨w, r, rfl⟩
      have hw0 : 0 < w0.length := by
        cases w0 with
        | nil => exact absurd rfl (pn [] List.mem_cons_self)
        | cons _ _ => simp
      have em : manyL (w0 :: r0) = w0.length - 1 := rfl
      have hn15 := (pw w0 List.mem_cons_self).1
      obtain ⟨n, hn⟩ : ∃ n, manyL (w0 :: r0) = n := ⟨_, rfl⟩
      refine ds_seq (ds_asg (Ev.dl (ev_cast (d' := .int (n : Nat)) (congrArg D.int (by rw [nameD_len]; omega)) (ev_op (ev_len (ds := nameD w0) (Ev.b (ev_ix (ev_var (d := .lst ((w0 :: r0).map fun ws => D.lst (nameD ws))) rfl).b ev_int (atI_nat (j := 0) rfl)))) ev_int dr2_sub)) ?_))
      have ew : (!wideB (w0 :: r0)) = (!(decide (1 ≤ n) && decide (n ≤ 8)) || !((w0 :: r0).all fun ws => decide (ws.length = n + 1))) := by unfold wideB; rw [Bool.not_and, hn]
      refine ds_seq (ds_if (EvT.dl (b := !wideB (w0 :: r0)) ?wdV ⟨fun h3 => ds_ret (Ev.dl ev_non (vs_none ?no3V)), fun h3 => ds_next ?_⟩))
      case wdV =>
        rw [ew]
        exact evt_or (evt_not (evt_chain (p := decide (1 ≤ n)) (q := decide (n ≤ 8)) ev_int (ev_var rfl) (fun _ => ev_int) (le_b (decide_eq_decide.mpr (by omega))) fun _ => le_b (decide_eq_decide.mpr (by omega)))) fun _ => evt_not (evt_tru_bl (ev_all_lc (K := K) (xs := w0 :: r0) (c := fun ws => .lst (nameD ws)) (b := fun ws => decide (ws.length = n + 1)) (pv _ rfl) (by omega) fun ws hw => ⟨[7], _, dg_name, fun i hi => hi, evt_yes, ev_op (ev_len (ds := nameD ws) (ev_var rfl).b) (ev_op (ev_var rfl) ev_int (plF_of (pl_int (i := (n : Int)) (j := 1)))) (eq_ib (by rw [nameD_len]; exact decide_eq_decide.mpr (by omega)))⟩))
      case no3V =>
        rw [Bool.not_eq_true'] at h3
        rw [eq]; unfold veilP
        rw [h3]; simp
      rw [Bool.not_eq_false'] at h3
      have h3' := h3
      unfold wideB at h3'
      rw [hn, Bool.and_eq_true, Bool.and_eq_true, decide_eq_true_eq, decide_eq_true_eq, List.all_eq_true] at h3'
      obtain ⟨⟨n1, n8⟩, hwl⟩ := h3'
      have hwl : ∀ ws ∈ w0 :: r0, ws.length = n + 1 := fun ws hw => of_decide_eq_true (hwl ws hw)
      refine ds_seq (ds_asg (Ev.dl (ev_tupleF (ds := (w0 :: r0).map fun ws => D.tup ((strO ws).map prP)) (EvN.b (evn_lc1 (xs := w0 :: r0) (c := fun ws => .lst (nameD ws)) (f := fun ws => .tup ((strO ws).map prP)) (pv _ rfl) (by omega) fun ws hw => ⟨[7], _, dg_name, fun i hi => hi, evt_yes, ev_cast (d := .tup ((ws.drop 1).map fun w => prP (strW w))) (by unfold strO; rw [List.map_map]; rfl) (ev_tupleF (EvN.b (evn_lc1 (xs := ws.drop 1) (c := fun w => .str (tx w)) (f := fun w => prP (strW w)) ?slV (by rw [List.length_drop]; have := hwl ws hw; omega) fun w hwm => ⟨[9], _, dg_name, fun i hi => hi, evt_yes, ev_orr (ev_callL (s := spStrP) (x := w) rfl (eva_cons (ev_var rfl) eva_nil) rfl (by
        have := ((pw ws hw).2 w (List.mem_of_mem_drop hwm)).1
        show w.length ≤ 15000
        omega) fun d h => h)⟩)))⟩))) ?_))
      case slV =>
        have e : Dw.cutD (nameD ws) (some 1) none = (ws.drop 1).map fun w => D.str (tx w) := by
          rw [cut_tail]
          unfold nameD
          rw [List.map_drop]
        exact e ▸ ej_list (EvN.b (evn_sliceY (ds := nameD ws) (ev_var rfl).b (eo_some ev_int) eo_none))
      refine ds_seq (ds_if (EvT.dl (b := !allVB (w0 :: r0)) (evt_not (evt_tru_bl (ev_all_lc (K := K) (xs := w0 :: r0) (c := fun ws => .tup ((strO ws).map prP)) (b := fun ws => !decide (none ∈ strO ws)) (ej_tup (ev_var rfl)) (by omega) fun ws hw => ⟨[8], _, dg_name, fun i hi => hi, evt_yes, ev_op ev_non (ev_var rfl) (dr2_r (nin_V (strO ws)))⟩))) ⟨fun h4 => ds_ret (Ev.dl ev_non (vs_none ?no4V)), fun h4 => ds_next ?_⟩))
      case no4V =>
        rw [Bool.not_eq_true'] at h4
        rw [eq]; unfold veilP
        rw [h4]; simp
      rw [Bool.not_eq_false'] at h4
      refine ds_ret (Ev.dl (ev_tupF (eva_cons (ev_var rfl) (eva_cons (ev_var rfl) eva_nil)) (small (show 2 ≤ 100000 by decide))) ?_)
      show _ = optV (veilQ (tx l).cps.toList)
      rw [tx_cps, eq]
      unfold veilP
      rw [h2, h3, h4]
      show _ = veilD _ _
      unfold veilD vsD
      have em : (strN (w0 :: r0)).map (fun m => D.tup (m.map prD)) = (w0 :: r0).map fun ws => D.tup ((strO ws).map prP) := by
        unfold strN
        rw [List.map_map]
        refine List.map_congr_left fun ws hw => ?_
        show D.tup (((strO ws).map fun o => o.getD (0, 0)).map prD) = _
        rw [List.map_map]
        refine congrArg D.tup (List.map_congr_left fun o ho => ?_)
        have hno : none ∉ strO ws := by
          unfold allVB at h4
          have := List.all_eq_true.mp h4 ws hw
          simpa using this
        cases o with
        | none => exact absurd ho hno
        | some k => rfl
      rw [em]
    · have hs : isStrB d = false := by simpa using hs
      refine ds_seq (ds_if (EvT.dl (b := true) (evt_not (a := false) (evt_tru_bl (ev_isi (ev_var rfl) ev_raw (.inl hx.1) (.ty "str") (by rw [kit_str hx.1, hs])))) ⟨fun _ => ds_ret (Ev.dl ev_non ?_), fun h => (nomatch h)⟩))
      show D.non = optV (veilOf d)
      rw [veil_no hs]; rfl
end K31

namespace K31
open PySem PySem.Spec PyProof.Rows L2 Dw
variable [Tabs0]
theorem d_read_case {P : Program} {w : World} {K : PySem.W.Frag} {mg : Str → Option Value} {base : Heap} (T : Txt K w mg) : FnOk P w K mg base CX0 5 T.f_read_case T.e_read_case ["text"] (toSp (spReadCH)) := by
  refine fn_ok T.F_read_case sc_read_case (fun _ => rfl) fun cdv A outer s' H E hr => ?_
  refine ⟨_, (pss_one (ps_ret (pe_call (d_read_candidates T) (hr.mono (by decide)) (by rfl) T.m_read_candidates T.F_read_candidates.kp T.b_read_candidates .nil pass0 (pa_cons (pv 0) (pa_cons (pe_glob (v := .ref T.f_read_mark) (by rfl) T.m_read_mark rfl) pa_nil))))), fun x hx => ?_⟩
  obtain ⟨d, rfl⟩ : ∃ l : D, l = x := ⟨x, rfl⟩
  have hx : AnyOk d := hx
  exact ds_ret (Ev.dl (ev_call (s := spReadCB T.f_read_mark T.f_read_stretch) (x := (false, d)) (eva_cons (ev_var rfl) (eva_cons ev_raw eva_nil)) (any_np (r := [_]) hx rfl) hx fun d h => h) rfl)
end K31

namespace K31
open PySem PySem.Spec PyProof.Rows L2 Dw
variable [Tabs0]
theorem d_read_veil {P : Program} {w : World} {K : PySem.W.Frag} {mg : Str → Option Value} {base : Heap} (T : Txt K w mg) : FnOk P w K mg base CX0 5 T.f_read_veil T.e_read_veil ["text"] (toSp (spReadVH)) := by
  refine fn_ok T.F_read_veil sc_read_veil (fun _ => rfl) fun cdv A outer s' H E hr => ?_
  refine ⟨_, (pss_one (ps_ret (pe_call (d_read_candidates T) (hr.mono (by decide)) (by rfl) T.m_read_candidates T.F_read_candidates.kp T.b_read_candidates .nil pass0 (pa_cons (pv 0) (pa_cons (pe_glob (v := .ref T.f_read_stretch) (by rfl) T.m_read_stretch rfl) pa_nil))))), fun x hx => ?_⟩
  obtain ⟨d, rfl⟩ : ∃ l : D, l = x := ⟨x, rfl⟩
  have hx : AnyOk d := hx
  exact ds_ret (Ev.dl (ev_call (s := spReadCB T.f_read_mark T.f_read_stretch) (x := (true, d)) (eva_cons (ev_var rfl) (eva_cons ev_raw eva_nil)) (any_np (r := [_]) hx rfl) hx fun d h => h) rfl)
end K31

namespace K31
open PySem PySem.Spec PyProof.Rows L2 Dw
variable [Tabs0]
/-! a Case over any text that is one, as a thing of the program -/
def msD (ms : List (List Nat)) : List D := ms.map fun m => D.tup (ordD m)
theorem np_msD (ms : List (List Nat)) : noPs (msD ms) = true := noPs_map (f := fun m => D.tup (ordD m)) (fun m => np_ord m) ms
abbrev CaseX := List Nat × CaseV
def casO (C : Addr) (x : CaseX) : D := .obj C ["_text", "_names", "_marks"] [.str (tx x.1), .tupN (nameD x.2.1), .tup (msD x.2.2.1)]
theorem np_casO {C : Addr} {x : CaseX} {r : List D} (h : noPs r = true) : noPs (casO C x :: r) = true := by
  show ((true && (noPs (nameD x.2.1) && (noPs (msD x.2.2.1) && true))) && noPs r) = true
  rw [np_name, np_msD, h]; rfl
/-- a text of a drawn page: not long, its signs plain -/
structure PgOk (l : List Nat) (m : Nat) : Prop where
  len : l.length ≤ m
  all : ∀ c ∈ l, c < 128
theorem pg_any {l : List Nat} {m : Nat} (h : PgOk l m) (hm : m ≤ 15000) : AnyOk (.str (tx l)) := by
  have := h.len
  exact ⟨rfl, rfl, fun _ => ⟨pv_strs (fun c hc => by have := h.all c hc; omega) (by omega), decide_eq_true (by rw [tx_len]; omega)⟩⟩
theorem caseOf_t (l : List Nat) : caseOf (.str (tx l)) = caseQ l := by
  show caseQ (tx l).cps.toList = _
  rw [tx_cps]
def spCIn : Spc where
  ty := CaseX
  args := fun x => [.str (tx x.1)]
  ok := fun x => AnyOk (.str (tx x.1)) ∧ caseQ x.1 = some x.2
  rel := fun x d => d = .tup [.str (tx x.1), .tupN (nameD x.2.1), .tup (msD x.2.2.1)]
def spCInX (C : Addr) : SpcX where
  ty := D
  args := fun d => [d]
  ok := fun d => AnyOk d ∧ caseOf d = none
  ex := fun d => ⟨C, [("given", d)]⟩
/-- what == says of a case -/
inductive EqC (K : PySem.W.Frag) (C : Addr) (x : CaseX) : D → Bool → Prop
  | own (y : CaseX) : EqC K C x (casO C y) (decide (tx x.1 = tx y.1))
  | str (t : Str) : EqC K C x (.str t) false
  | non : EqC K C x .non false
  | oth (D : Addr) (ns : List Str) (ds : List Dw.D) (hi : InsOk K D) (hk : PySem.W.kitOne K (.ref D) (.ref C) = some false) : EqC K C x (.obj D ns ds) false
def spOEq (K : PySem.W.Frag) (C : Addr) : Spc where
  ty := CaseX × D × Bool
  args := fun x => [casO C x.1, x.2.1]
  ok := fun x => EqC K C x.1 x.2.1 x.2.2
  rel := fun x d => d = .bl x.2.2
theorem kit_tyC {K : PySem.W.Frag} {C : Addr} {n : String} (hn : n = "str" ∨ n = "NoneType") (hd : PySem.W.hasDictIn K C = true) (ht : PySem.W.typeIn K (.ref C) = some (.type "type")) : PySem.W.kitOne K (.type n) (.ref C) = some false := by
  obtain ⟨cd, hc, _⟩ := PySem.W.any_some hd
  have e : PySem.W.subIn K (.type n) (.ref C) = some false := by rcases hn with rfl | rfl <;> rfl
  unfold PySem.W.kitOne
  rw [if_neg (by intro z; cases beq_iff_eq.mp z)]
  show (if ((PySem.W.clsIn K C).isSome && PySem.W.typeIn K (.ref C) == some (.type "type")) = true then PySem.W.subIn K (.type n) (.ref C) else none) = some false
  rw [if_pos (by rw [hc, ht]; rfl)]
  exact e
theorem kit_noC {K : PySem.W.Frag} {D C : Addr} (hd : PySem.W.hasDictIn K C = true) (ht : PySem.W.typeIn K (.ref C) = some (.type "type")) (hs : PySem.W.subIn K (.ref D) (.ref C) = some false) (ne : (D == C) = false) : PySem.W.kitOne K (.ref D) (.ref C) = some false := by
  obtain ⟨cd, hc, _⟩ := PySem.W.any_some hd
  unfold PySem.W.kitOne
  rw [if_neg]
  · show (if ((PySem.W.clsIn K C).isSome && PySem.W.typeIn K (.ref C) == some (.type "type")) = true then PySem.W.subIn K (.ref D) (.ref C) else none) = some false
    rw [if_pos (by rw [hc, ht]; rfl)]
    exact hs
  · intro z
    have e : D = C := Value.ref.inj (beq_iff_eq.mp z)
    rw [e, beq_self_eq_true] at ne
    cases ne
end K31

namespace K31
open PySem PySem.Spec PyProof.Rows L2 Dw
variable [Tabs0]
theorem np_vsD (ms : List (List (Nat × Nat))) : noPs (vsD ms) = true := noPs_map (f := fun m : List (Nat × Nat) => D.tup (m.map prD)) (fun m => show noPs (m.map prD) = true from noPs_map (f := prD) (fun _ => rfl) m) ms
abbrev VeilX := List Nat × VeilV
def vasO (C : Addr) (x : VeilX) : D := .obj C ["_text", "_names", "_marks"] [.str (tx x.1), .tupN (nameD x.2.1), .tup (vsD x.2.2.1)]
theorem np_vasO {C : Addr} {x : VeilX} {r : List D} (h : noPs r = true) : noPs (vasO C x :: r) = true := by
  show ((true && (noPs (nameD x.2.1) && (noPs (vsD x.2.2.1) && true))) && noPs r) = true
  rw [np_name, np_vsD, h]; rfl
theorem veilOf_t (l : List Nat) : veilOf (.str (tx l)) = veilQ l := by
  show veilQ (tx l).cps.toList = _
  rw [tx_cps]
def spVIn : Spc where
  ty := VeilX
  args := fun x => [.str (tx x.1)]
  ok := fun x => AnyOk (.str (tx x.1)) ∧ veilQ x.1 = some x.2
  rel := fun x d => d = .tup [.str (tx x.1), .tupN (nameD x.2.1), .tup (vsD x.2.2.1)]
def spVInX (C : Addr) : SpcX where
  ty := D
  args := fun d => [d]
  ok := fun d => AnyOk d ∧ veilOf d = none
  ex := fun d => ⟨C, [("given", d)]⟩
def spWText (C : Addr) : Spc where
  ty := VeilX
  args := fun x => [vasO C x]
  ok := fun _ => True
  rel := fun x d => d = .str (tx x.1)
def spWNames (C : Addr) : Spc where
  ty := VeilX
  args := fun x => [vasO C x]
  ok := fun _ => True
  rel := fun x d => d = .tupN (nameD x.2.1)
def spWMarks (C : Addr) : Spc where
  ty := VeilX
  args := fun x => [vasO C x]
  ok := fun _ => True
  rel := fun x d => d = .tup (vsD x.2.2.1)
def reprV (n : Nat) : Str := Str.empty ++ Str.ofString "Veil of " ++ Str.ofString (toString (n : Int)) ++ Str.ofString " candidates"
def spWRepr (C : Addr) : Spc where
  ty := VeilX
  args := fun x => [vasO C x]
  ok := fun x => x.2.1.length ≤ 8
  rel := fun x d => d = .str (reprV x.2.1.length)
theorem repr_lenV : ∀ n : Nat, n < 9 → (Str.empty ++ Str.ofString "Veil of ").length ≤ 100 ∧ (Str.empty ++ Str.ofString "Veil of " ++ Str.ofString (toString (n : Int))).length ≤ 100 ∧ (reprV n).length ≤ 100 := by decide +kernel
/-- what == says of a case -/
inductive EqV (K : PySem.W.Frag) (C : Addr) (x : VeilX) : D → Bool → Prop
  | own (y : VeilX) : EqV K C x (vasO C y) (decide (tx x.1 = tx y.1))
  | str (t : Str) : EqV K C x (.str t) false
  | non : EqV K C x .non false
  | oth (D : Addr) (ns : List Str) (ds : List Dw.D) (hi : InsOk K D) (hk : PySem.W.kitOne K (.ref D) (.ref C) = some false) : EqV K C x (.obj D ns ds) false
def spWEq (K : PySem.W.Frag) (C : Addr) : Spc where
  ty := VeilX × D × Bool
  args := fun x => [vasO C x.1, x.2.1]
  ok := fun x => EqV K C x.1 x.2.1 x.2.2
  rel := fun x d => d = .bl x.2.2
end K31

namespace K31
open PySem PySem.Spec PyProof.Rows L2 Dw
variable [Tabs0]
theorem d_InvalidText___init__ {P : Program} {w : World} {K : PySem.W.Frag} {mg : Str → Option Value} {base : Heap} (T : Txt K w mg) : FnOk P w K mg base CX0 1 T.f_InvalidText___init__ T.e_InvalidText___init__ ["self", "given"] (spXI T.C_InvalidText "given") :=
  fn_xinit T.F_InvalidText___init__ sc_InvalidText___init__ rfl T.xo_InvalidText T.xn_InvalidText_given rfl fun cdv A outer s' H E => (pss_one (ps_ost (pv 0) (pv 1)))

end K31

namespace K31
open PySem PySem.Spec PyProof.Rows L2 Dw
variable [Tabs0]
theorem d_Case___init__ {P : Program} {w : World} {K : PySem.W.Frag} {mg : Str → Option Value} {base : Heap} (T : Txt K w mg) : FnOk P w K mg base (L2.CX P w) 6 T.f_Case___init__ T.e_Case___init__ ["self", "text"] (spOr (toIn T.C_Case ["_text", "_names", "_marks"] spCIn) (toInX T.C_Case (spCInX T.C_InvalidText))) := by
  refine in_okX T.F_Case___init__ sc_Case___init__ (fun _ => rfl) (fun _ => rfl) fun cdv A outer s' H E hr => ?_
  refine ⟨_, (pss_cons (ps_set (i := 2) sc_Case___init__.nd rfl (Or.inl rfl) (pe_call (d_read_case T) (hr.mono (by decide)) (by rfl) T.m_read_case T.F_read_case.kp T.b_read_case .nil pass0 (pa_cons (pv 1) pa_nil))) (pss_cons (ps_if (pt_cmpR op_isN (pv 2) pe_non (nomark _)) (pss_one (ps_raise rfl (takes_of rfl rfl rfl rfl) (pmk_oex T.xo_InvalidText T.xj_InvalidText T.xy_InvalidText (d_InvalidText___init__ T) (hr.mono (by decide)) T.b_InvalidText___init__ .nil pass0 (by rfl) T.m_InvalidText (pa_cons (pv 1) pa_nil)))) pss_nil) (pss_cons (ps_fld (pv 0) (pv 1) rfl) (pss_one (ps_asg (pv 2) (tupA K 2 rfl (pgs_cons (pg_fld (pv 0)) (pgs_cons (pg_fld (pv 0)) pgs_nil)))))))), fun x hx a => ?_, fun x hx a => ?_⟩
  · obtain ⟨l, c⟩ := x
    obtain ⟨ha, hq⟩ := hx
    have hq : caseQ l = some c := hq
    have eo : optC (caseOf (.str (tx l))) = .tup [.tupN (nameD c.1), .tup (msD c.2.1)] := by rw [caseOf_t, hq]; rfl
    refine di_seq (di_of (ds_asg (Ev.dl (ev_call (s := spReadCH) (d := .tup [.tupN (nameD c.1), .tup (msD c.2.1)]) (x := .str (tx l)) (eva_cons (ev_var rfl) eva_nil) rfl ha fun d h => h.trans eo) ?_)))
    refine di_seq (di_of (ds_if (EvT.dl (b := false) (evt_test (ev_op (ev_var rfl) ev_non (dr2_isN fun W v h => ?_))) ⟨fun h => (nomatch h), fun _ => ds_next ?_⟩)))
    · obtain ⟨p, vs, e, _⟩ := h
      rw [e]; exact decide_eq_false fun h => nomatch h
    refine di_seq (di_fld T.cl_Case T.cno_text (by simp) (by decide) (ev_var rfl) (ev_var rfl) ?_)
    exact di_fld2 T.cl_Case T.cno_names T.cno_marks (by decide +kernel) (by decide +kernel) (by decide) (ev_var rfl) (ev_var rfl) ⟨rfl, rfl⟩
  · obtain ⟨d, rfl⟩ : ∃ l : D, l = x := ⟨x, rfl⟩
    obtain ⟨ha, hq⟩ := hx
    have ha : AnyOk d := ha
    have hq : caseOf d = none := hq
    refine ers_seq (pus_asg (ev_call (s := spReadCH) (d := .non) (x := d) (eva_cons (ev_var rfl) eva_nil) (any_np ha rfl) ha fun e h => by rw [h, hq]; rfl)) ?_
    exact ers_first (ers_ifT (evt_test (ev_op (ev_var (d := .non) rfl) ev_non (dr2_isN fun W v h => decide_eq_true h))) (ers_raiseF rfl (eva_cons (ev_var rfl) eva_nil)))

end K31

namespace K31
open PySem PySem.Spec PyProof.Rows L2 Dw
variable [Tabs0]
theorem d_Case___eq__ {P : Program} {w : World} {K : PySem.W.Frag} {mg : Str → Option Value} {base : Heap} (T : Txt K w mg) : FnOk P w K mg base CX0 1 T.f_Case___eq__ T.e_Case___eq__ ["self", "other"] (toSp (spOEq K T.C_Case)) := by
  refine fn_ok T.F_Case___eq__ sc_Case___eq__ (fun _ => rfl) fun cdv A outer s' H E hr => ?_
  refine ⟨_, (pss_one (ps_ret (pe_and (pe_callB (isiA K) (by rfl) T.n_isinstance (by decide +kernel) (pa_cons (pv 1) (pa_cons (pe_glob (v := .ref T.C_Case) (by rfl) T.m_Case rfl) pa_nil))) (pe_one (pe_cmpR (eqA K hr.units) (fldA K (pv 0)) (fldA K (pv 1)) (nomark _)))))), fun x hx => ?_⟩
  obtain ⟨⟨l, c⟩, d, b⟩ := x
  have hx : EqC K T.C_Case (l, c) d b := hx
  cases hx with
  | own y =>
    obtain ⟨l2, c2⟩ := y
    exact ds_ret (Ev.dl (ev_andV (a := true) (b := decide (tx l = tx l2)) (ev_isi (ev_var rfl) ev_raw (.inr ⟨_, _, _, rfl, T.ins_Case⟩) (.own _) kit_self) fun _ => ev_op (ev_fld T.cl_Case T.cno_text (ev_var (i := 0) rfl) (by rfl)) (ev_fld T.cl_Case T.cno_text (ev_var (i := 1) rfl) (by rfl)) (eq_sb rfl)) rfl)
  | str t => exact ds_ret (Ev.dl (ev_andV (a := false) (b := false) (ev_isi (ev_var (i := 1) rfl) ev_raw (.inl rfl) (.own _) (kit_tyC (.inl rfl) T.cl_Case.hd T.ct_Case)) fun h => nomatch h) rfl)
  | non => exact ds_ret (Ev.dl (ev_andV (a := false) (b := false) (ev_isi (ev_var (i := 1) rfl) ev_raw (.inl rfl) (.own _) (kit_tyC (.inr rfl) T.cl_Case.hd T.ct_Case)) fun h => nomatch h) rfl)
  | oth D ns ds hi hk => exact ds_ret (Ev.dl (ev_andV (a := false) (b := false) (ev_isi (ev_var (i := 1) rfl) ev_raw (.inr ⟨_, _, _, rfl, hi⟩) (.own _) hk) fun h => nomatch h) rfl)
end K31

namespace K31
open PySem PySem.Spec PyProof.Rows L2 Dw
variable [Tabs0]
theorem d_Veil___init__ {P : Program} {w : World} {K : PySem.W.Frag} {mg : Str → Option Value} {base : Heap} (T : Txt K w mg) : FnOk P w K mg base (L2.CX P w) 6 T.f_Veil___init__ T.e_Veil___init__ ["self", "text"] (spOr (toIn T.C_Veil ["_text", "_names", "_marks"] spVIn) (toInX T.C_Veil (spVInX T.C_InvalidText))) := by
  refine in_okX T.F_Veil___init__ sc_Veil___init__ (fun _ => rfl) (fun _ => rfl) fun cdv A outer s' H E hr => ?_
  refine ⟨_, (pss_cons (ps_set (i := 2) sc_Veil___init__.nd rfl (Or.inl rfl) (pe_call (d_read_veil T) (hr.mono (by decide)) (by rfl) T.m_read_veil T.F_read_veil.kp T.b_read_veil .nil pass0 (pa_cons (pv 1) pa_nil))) (pss_cons (ps_if (pt_cmpR op_isN (pv 2) pe_non (nomark _)) (pss_one (ps_raise rfl (takes_of rfl rfl rfl rfl) (pmk_oex T.xo_InvalidText T.xj_InvalidText T.xy_InvalidText (d_InvalidText___init__ T) (hr.mono (by decide)) T.b_InvalidText___init__ .nil pass0 (by rfl) T.m_InvalidText (pa_cons (pv 1) pa_nil)))) pss_nil) (pss_cons (ps_fld (pv 0) (pv 1) rfl) (pss_one (ps_asg (pv 2) (tupA K 2 rfl (pgs_cons (pg_fld (pv 0)) (pgs_cons (pg_fld (pv 0)) pgs_nil)))))))), fun x hx a => ?_, fun x hx a => ?_⟩
  · obtain ⟨l, c⟩ := x
    obtain ⟨ha, hq⟩ := hx
    have hq : veilQ l = some c := hq
    have eo : optV (veilOf (.str (tx l))) = .tup [.tupN (nameD c.1), .tup (vsD c.2.1)] := by rw [veilOf_t, hq]; rfl
    refine di_seq (di_of (ds_asg (Ev.dl (ev_call (s := spReadVH) (d := .tup [.tupN (nameD c.1), .tup (vsD c.2.1)]) (x := .str (tx l)) (eva_cons (ev_var rfl) eva_nil) rfl ha fun d h => h.trans eo) ?_)))
    refine di_seq (di_of (ds_if (EvT.dl (b := false) (evt_test (ev_op (ev_var rfl) ev_non (dr2_isN fun W v h => ?_))) ⟨fun h => (nomatch h), fun _ => ds_next ?_⟩)))
    · obtain ⟨p, vs, e, _⟩ := h
      rw [e]; exact decide_eq_false fun h => nomatch h
    refine di_seq (di_fld T.cl_Veil T.vno_text (by simp) (by decide) (ev_var rfl) (ev_var rfl) ?_)
    exact di_fld2 T.cl_Veil T.vno_names T.vno_marks (by decide +kernel) (by decide +kernel) (by decide) (ev_var rfl) (ev_var rfl) ⟨rfl, rfl⟩
  · obtain ⟨d, rfl⟩ : ∃ l : D, l = x := ⟨x, rfl⟩
    obtain ⟨ha, hq⟩ := hx
    have ha : AnyOk d := ha
    have hq : veilOf d = none := hq
    refine ers_seq (pus_asg (ev_call (s := spReadVH) (d := .non) (x := d) (eva_cons (ev_var rfl) eva_nil) (any_np ha rfl) ha fun e h => by rw [h, hq]; rfl)) ?_
    exact ers_first (ers_ifT (evt_test (ev_op (ev_var (d := .non) rfl) ev_non (dr2_isN fun W v h => decide_eq_true h))) (ers_raiseF rfl (eva_cons (ev_var rfl) eva_nil)))

end K31

namespace K31
open PySem PySem.Spec PyProof.Rows L2 Dw
variable [Tabs0]
theorem d_Veil_text {P : Program} {w : World} {K : PySem.W.Frag} {mg : Str → Option Value} {base : Heap} (T : Txt K w mg) : FnOk P w K mg base CX0 1 T.f_Veil_text T.e_Veil_text ["self"] (toSp (spWText T.C_Veil)) := by
  refine fn_ok T.F_Veil_text sc_Veil_text (fun _ => rfl) fun cdv A outer s' H E hr => ?_
  refine ⟨_, (pss_one (ps_ret (fldA K (pv 0)))), fun x hx => ?_⟩
  obtain ⟨l, c⟩ := x
  exact ds_ret (Ev.dl (ev_fld T.cl_Veil T.vno_text (ev_var rfl) (by rfl)) rfl)
end K31

namespace K31
open PySem PySem.Spec PyProof.Rows L2 Dw
variable [Tabs0]
theorem d_Veil_names {P : Program} {w : World} {K : PySem.W.Frag} {mg : Str → Option Value} {base : Heap} (T : Txt K w mg) : FnOk P w K mg base CX0 1 T.f_Veil_names T.e_Veil_names ["self"] (toSp (spWNames T.C_Veil)) := by
  refine fn_ok T.F_Veil_names sc_Veil_names (fun _ => rfl) fun cdv A outer s' H E hr => ?_
  refine ⟨_, (pss_one (ps_ret (fldA K (pv 0)))), fun x hx => ?_⟩
  obtain ⟨l, c⟩ := x
  exact ds_ret (Ev.dl (ev_fld T.cl_Veil T.vno_names (ev_var rfl) (by rfl)) rfl)
end K31

namespace K31
open PySem PySem.Spec PyProof.Rows L2 Dw
variable [Tabs0]
theorem d_Veil_marks {P : Program} {w : World} {K : PySem.W.Frag} {mg : Str → Option Value} {base : Heap} (T : Txt K w mg) : FnOk P w K mg base CX0 1 T.f_Veil_marks T.e_Veil_marks ["self"] (toSp (spWMarks T.C_Veil)) := by
  refine fn_ok T.F_Veil_marks sc_Veil_marks (fun _ => rfl) fun cdv A outer s' H E hr => ?_
  refine ⟨_, (pss_one (ps_ret (fldA K (pv 0)))), fun x hx => ?_⟩
  obtain ⟨l, c⟩ := x
  exact ds_ret (Ev.dl (ev_fld T.cl_Veil T.vno_marks (ev_var rfl) (by rfl)) rfl)
end K31

namespace K31
open PySem PySem.Spec PyProof.Rows L2 Dw
variable [Tabs0]
theorem d_Veil___str__ {P : Program} {w : World} {K : PySem.W.Frag} {mg : Str → Option Value} {base : Heap} (T : Txt K w mg) : FnOk P w K mg base CX0 1 T.f_Veil___str__ T.e_Veil___str__ ["self"] (toSp (spWText T.C_Veil)) := by
  refine fn_ok T.F_Veil___str__ sc_Veil___str__ (fun _ => rfl) fun cdv A outer s' H E hr => ?_
  refine ⟨_, (pss_one (ps_ret (pe_callTy SkE.call_str_str (by rfl) T.n_str (by decide +kernel) (pa_cons (fldA K (pv 0)) pa_nil)))), fun x hx => ?_⟩
  obtain ⟨l, c⟩ := x
  exact ds_ret (Ev.dl (ev_strS (ev_fld T.cl_Veil T.vno_text (ev_var rfl) (by rfl))) rfl)
end K31

namespace K31
open PySem PySem.Spec PyProof.Rows L2 Dw
variable [Tabs0]
theorem d_Veil___repr__ {P : Program} {w : World} {K : PySem.W.Frag} {mg : Str → Option Value} {base : Heap} (T : Txt K w mg) : FnOk P w K mg base CX0 1 T.f_Veil___repr__ T.e_Veil___repr__ ["self"] (toSp (spWRepr T.C_Veil)) := by
  refine fn_ok T.F_Veil___repr__ sc_Veil___repr__ (fun _ => rfl) fun cdv A outer s' H E hr => ?_
  refine ⟨_, (pss_one (ps_ret (pe_joined (.cons pe_str (.cons (pe_fmt (pe_callB (lenA K) (by rfl) T.n_len (by decide +kernel) (pa_cons (fldA K (pv 0)) pa_nil))) (.cons pe_str .nil)))))), fun x hx => ?_⟩
  obtain ⟨l, c⟩ := x
  have h8 : c.1.length ≤ 8 := hx
  obtain ⟨z1, z2, z3⟩ := repr_lenV c.1.length (by omega)
  have hz : ((c.1.length : Nat) : Int).natAbs.log2 < 1920 := by
    rw [Int.natAbs_natCast]
    exact Nat.lt_of_le_of_lt (Nat.log2_le_self _) (by omega)
  exact ds_ret (Ev.dl (ev_fstrI (ev_cast (d' := .int (c.1.length : Nat)) (congrArg (fun k : Nat => D.int k) (nameD_len c.1)) (ev_lenT (ds := nameD c.1) (ev_dn (ev_fld T.cl_Veil T.vno_names (ev_var rfl) (by rfl))))) hz (small (by omega)) (small (by omega)) (small (show (reprV c.1.length).length ≤ 100000 by omega))) rfl)
end K31

namespace K31
open PySem PySem.Spec PyProof.Rows L2 Dw
variable [Tabs0]
theorem d_Veil___eq__ {P : Program} {w : World} {K : PySem.W.Frag} {mg : Str → Option Value} {base : Heap} (T : Txt K w mg) : FnOk P w K mg base CX0 1 T.f_Veil___eq__ T.e_Veil___eq__ ["self", "other"] (toSp (spWEq K T.C_Veil)) := by
  refine fn_ok T.F_Veil___eq__ sc_Veil___eq__ (fun _ => rfl) fun cdv A outer s' H E hr => ?_
  refine ⟨_, (pss_one (ps_ret (pe_and (pe_callB (isiA K) (by rfl) T.n_isinstance (by decide +kernel) (pa_cons (pv 1) (pa_cons (pe_glob (v := .ref T.C_Veil) (by rfl) T.m_Veil rfl) pa_nil))) (pe_one (pe_cmpR (eqA K hr.units) (fldA K (pv 0)) (fldA K (pv 1)) (nomark _)))))), fun x hx => ?_⟩
  obtain ⟨⟨l, c⟩, d, b⟩ := x
  have hx : EqV K T.C_Veil (l, c) d b := hx
  cases hx with
  | own y =>
    obtain ⟨l2, c2⟩ := y
    exact ds_ret (Ev.dl (ev_andV (a := true) (b := decide (tx l = tx l2)) (ev_isi (ev_var rfl) ev_raw (.inr ⟨_, _, _, rfl, T.ins_Veil⟩) (.own _) kit_self) fun _ => ev_op (ev_fld T.cl_Veil T.vno_text (ev_var (i := 0) rfl) (by rfl)) (ev_fld T.cl_Veil T.vno_text (ev_var (i := 1) rfl) (by rfl)) (eq_sb rfl)) rfl)
  | str t => exact ds_ret (Ev.dl (ev_andV (a := false) (b := false) (ev_isi (ev_var (i := 1) rfl) ev_raw (.inl rfl) (.own _) (kit_tyC (.inl rfl) T.cl_Veil.hd T.ct_Veil)) fun h => nomatch h) rfl)
  | non => exact ds_ret (Ev.dl (ev_andV (a := false) (b := false) (ev_isi (ev_var (i := 1) rfl) ev_raw (.inl rfl) (.own _) (kit_tyC (.inr rfl) T.cl_Veil.hd T.ct_Veil)) fun h => nomatch h) rfl)
  | oth D ns ds hi hk => exact ds_ret (Ev.dl (ev_andV (a := false) (b := false) (ev_isi (ev_var (i := 1) rfl) ev_raw (.inr ⟨_, _, _, rfl, hi⟩) (.own _) hk) fun h => nomatch h) rfl)
end K31

namespace K31
open PySem PySem.Spec PyProof.Rows L2 Dw
variable [Tabs0]
/-! the law's own reading of a case's text -/
theorem dv_fold (r : List Nat) : ∀ a : Nat, a * 10 ^ r.length ≤ r.foldl (fun acc c => acc * 10 + (c - 48)) a := by
  induction r with
  | nil => intro a; simp
  | cons c r ih =>
    intro a
    refine Nat.le_trans ?_ (ih (a * 10 + (c - 48)))
    rw [List.length_cons, Nat.pow_succ, Nat.mul_comm (10 ^ r.length) 10, ← Nat.mul_assoc]
    exact Nat.mul_le_mul_right _ (by omega)
theorem dv_big {l : List Nat} (hd : l.all digC = true) (h3 : 3 ≤ l.length) (h0 : sgn l 0 ≠ 48) : 100 ≤ NumText.digitsVal l := by
  cases l with
  | nil => exact absurd h3 (by simp)
  | cons a r =>
    have ha := digC_iff.mp (List.all_eq_true.mp hd a List.mem_cons_self)
    have h0 : a ≠ 48 := h0
    have h1 : 1 ≤ a - 48 := by omega
    have h2 : 10 ^ 2 ≤ 10 ^ r.length := Nat.pow_le_pow_right (by decide) (by simp at h3; omega)
    have h4 := dv_fold r (0 * 10 + (a - 48))
    have h5 : 1 * 10 ^ r.length ≤ (0 * 10 + (a - 48)) * 10 ^ r.length := Nat.mul_le_mul_right _ (by omega)
    show 100 ≤ r.foldl (fun acc c => acc * 10 + (c - 48)) (0 * 10 + (a - 48))
    omega
def bigB (l : List Nat) : Bool := (decide (1 < l.length) && decide (sgn l 0 = 48)) || decide (99 < NumText.digitsVal l)
theorem fig_mark {l : List Nat} (h1 : 1 ≤ l.length) (hd : l.all digC = true) : markW l = if bigB l = true then none else some (NumText.digitsVal l) := by
  have hne : decide (l = []) = false := decide_eq_false fun e => by rw [e] at h1; cases h1
  by_cases h0 : sgn l 0 = 48
  · by_cases hl : 1 < l.length
    · have e1 : leadB l = false := by
        unfold leadB
        rw [decide_eq_false (p := l = [48]) (fun e => by rw [e] at hl; exact absurd hl (by decide)), decide_eq_true h0]; rfl
      have e2 : bigB l = true := by unfold bigB; rw [decide_eq_true hl, decide_eq_true h0]; rfl
      rw [if_pos e2]
      unfold markW numW
      rw [e1, Bool.and_false, Bool.and_false, Bool.false_and, if_neg (by decide)]
    · have e3 : l = [48] := by
        cases l with
        | nil => exact absurd h1 (by simp)
        | cons a r =>
          cases r with
          | nil => exact congrArg (fun z => [z]) h0
          | cons b r => exact absurd (by simp) hl
      rw [e3]; decide
  · have e1 : leadB l = true := by
      unfold leadB
      rw [decide_eq_false h0, Bool.not_false, Bool.or_true]
    have en : numW l = true := by unfold numW; rw [hne, hd, e1]; rfl
    have e2 : bigB l = decide (99 < NumText.digitsVal l) := by unfold bigB; rw [decide_eq_false h0, Bool.and_false, Bool.false_or]
    rw [e2]
    unfold markW
    rw [en, Bool.true_and]
    by_cases h2 : l.length ≤ 2
    · have := (numW_ok en h2).lt
      rw [if_pos (decide_eq_true h2), if_neg (by rw [decide_eq_true_eq]; omega)]
    · have := dv_big hd (by omega) h0
      rw [if_neg (by rw [decide_eq_true_eq]; exact h2), if_pos (decide_eq_true (by omega))]
theorem mark_out {l : List Nat} (h : ((decide (1 ≤ l.length) && decide (l.length ≤ 9)) && l.all digC) = false) : markW l = none := by
  cases e : markW l with
  | none => rfl
  | some k =>
    obtain ⟨ho, _⟩ := markW_some e
    have h1 := ho.lo
    have h2 := ho.hi
    rw [decide_eq_true h1, decide_eq_true (show l.length ≤ 9 by omega), List.all_eq_true.mpr fun c hc => digC_iff.mpr (ho.dig c hc)] at h
    exact absurd h (by decide)
theorem figs_int {l : List Nat} (h1 : 1 ≤ l.length) (h9 : l.length ≤ 9) (hd : l.all digC = true) : PySem.intText? (tx l) = some ((NumText.digitsVal l : Nat) : Int) := SX.int_S (a := l) (List.all_eq_true.mpr fun c hc => by
    have := digC_iff.mp (List.all_eq_true.mp hd c hc)
    rw [Bool.and_eq_true, decide_eq_true_eq, decide_eq_true_eq]; exact this) (fun e => by rw [e] at h1; cases h1) (by omega)
def spFig : Spc where
  ty := List Nat
  args := fun l => [.str (tx l), .int 99]
  ok := fun l => l.length ≤ 15000
  rel := fun l d => d = optN (markW l)
def spTag : Spc where
  ty := List Nat
  args := fun l => [.str (tx l)]
  ok := fun l => l.length ≤ 15000
  rel := fun l d => d = .bl (nmC l)
/-! a word's pair -/
def dashL (l : List Nat) : List (List Nat) := TL.spl [45] 0 [] l
theorem dashS_split (l : List Nat) : Txt.split (tx l) (Str.ofString "-") = (dashL l).map tx := by
  rw [show Str.ofString "-" = tx [45] by decide +kernel]
  exact SX.split_S (a := l) (b := [45]) (by simp) (by decide)
theorem dash_no {l : List Nat} (h : 45 ∉ l) : dashL l = [l] := SX.spl_join (sep := []) (parts := [l]) (fun e => nomatch e) fun p hp => by rw [List.mem_singleton.mp hp]; exact h
theorem dash_two : ∀ (acc l : List Nat), 45 ∈ l → 2 ≤ (TL.spl [45] 0 acc l).length
  | acc, [], h => absurd h (by simp)
  | acc, c :: r, h => by
    cases q : TL.pre [45] (c :: r) with
    | true =>
      rw [TL.spl_hit q, List.length_cons]
      have := List.length_pos_iff.mpr (spl_ne [45] ([45].length - 1) [] r)
      omega
    | false =>
      rw [TL.spl_miss q]
      refine dash_two _ r ?_
      rcases List.mem_cons.mp h with e | h
      · rw [← e] at q
        exact absurd q (by show ¬ (([45] : List Nat) == [45]) = false; decide)
      · exact h
theorem dash_mark {l : List Nat} (h : 45 ∈ l) : markW l = none := by
  cases e : markW l with
  | none => rfl
  | some k =>
    have := (markW_some e).1.dig 45 h
    omega
theorem dash_at {a b : List Nat} : ∀ (acc : List Nat), 45 ∉ a → TL.spl [45] 0 acc (a ++ ([45] ++ b)) = (acc ++ a) :: TL.spl [45] 0 [] b := by
  induction a with
  | nil =>
    intro acc _
    have q : TL.pre [45] (45 :: b) = true := by show (([45] : List Nat) == [45]) = true; decide
    show TL.spl [45] 0 acc (45 :: b) = _
    rw [TL.spl_hit q, List.append_nil]; rfl
  | cons c a ih =>
    intro acc h
    have hc : c ≠ 45 := fun z => h (by rw [z]; exact List.mem_cons_self)
    have q : TL.pre [45] (c :: (a ++ ([45] ++ b))) = false := by
      show (([c] : List Nat) == [45]) = false
      simp [hc]
    show TL.spl [45] 0 acc (c :: (a ++ ([45] ++ b))) = _
    rw [TL.spl_miss q, ih _ fun z => h (List.mem_cons_of_mem _ z), List.append_assoc]; rfl
theorem dash_some {l p q : List Nat} (h : dashC l = some (p, q)) : dashL l = p :: dashL q := by
  obtain ⟨e, hn⟩ := dashC_some h
  rw [e]
  exact dash_at [] hn
def pW (b : Bool) (l : List Nat) : Option (Nat × Nat) := if b = true then strW l else (markW l).map fun k => (k, k)
theorem pW_f (l : List Nat) : pW false l = (markW l).map fun k => (k, k) := rfl
theorem pW_t (l : List Nat) : pW true l = strW l := rfl
def spStr : Spc where
  ty := Bool × List Nat
  args := fun x => [.str (tx x.2), .bl x.1]
  ok := fun x => x.2.length ≤ 15000
  rel := fun x d => d = prP (pW x.1 x.2)
def pO (b : Bool) (ws : List (List Nat)) : List (Option (Nat × Nat)) := (ws.drop 1).map (pW b)
def allPB (b : Bool) (ps : List (List (List Nat))) : Bool := ps.all fun ws => !decide (none ∈ pO b ws)
/-! the parts of a text, one by one -/
abbrev Prt := List (List Nat)
def fD (b : Bool) (ws : Prt) : D := .tup [.str (tx (ws.headD [])), .tup ((pO b ws).map prP)]
def c1B (b : Bool) (ws : Prt) : Bool := nmC (ws.headD []) && (!decide (none ∈ pO b ws) && (decide (1 ≤ (pO b ws).length) && decide ((pO b ws).length ≤ 8)))
def c2B (b : Bool) (ps : List Prt) (i : Nat) : Bool := decide (i = 0) || (decide ((ps.getD (i - 1) []).headD [] < (ps.getD i []).headD []) && decide ((pO b (ps.getD 0 [])).length = (pO b (ps.getD i [])).length))
def stB (b : Bool) (ps : List Prt) (i : Nat) : Bool := c1B b (ps.getD i []) && c2B b ps i
def upB (b : Bool) (ps : List Prt) : Bool := (List.range ps.length).all (stB b ps)
theorem pO_len {b : Bool} (ws : Prt) : (pO b ws).length = ws.length - 1 := by unfold pO; rw [List.length_map, List.length_drop]
theorem getD_at {ps : List Prt} {i : Nat} (h : i < ps.length) : ps.getD i [] = ps[i] := by rw [List.getD_eq_getElem?_getD, List.getElem?_eq_getElem h]; rfl
theorem up_iff {b : Bool} {ps : List Prt} (hne : ∀ ws ∈ ps, ws ≠ []) (h0 : ps ≠ []) : upB b ps = (namesB (nameD (headsL ps)) && (wideB ps && allPB b ps)) := by
  have hp0 : 0 < ps.length := List.length_pos_iff.mpr h0
  have lh : (headsL ps).length = ps.length := List.length_map ..
  have hh : ∀ i (h : i < ps.length), (headsL ps)[i]'(by rw [lh]; exact h) = (ps.getD i []).headD [] := fun i h => by
    unfold headsL
    rw [List.getElem_map, getD_at h]
  have lw : ∀ ws ∈ ps, (pO b ws).length + 1 = ws.length := fun ws hw => by
    have := List.length_pos_iff.mpr (hne ws hw)
    rw [pO_len]; omega
  have em : manyL ps = (pO b (ps.getD 0 [])).length := by
    rw [pO_len]
    unfold manyL
    cases ps with
    | nil => exact absurd rfl h0
    | cons a r => rfl
  have mem : ∀ i, i < ps.length → ps.getD i [] ∈ ps := fun i h => by rw [getD_at h]; exact List.getElem_mem h
  have idx : ∀ ws ∈ ps, ∃ i, i < ps.length ∧ ps.getD i [] = ws := fun ws hw => by
    obtain ⟨i, hi, e⟩ := List.mem_iff_getElem.mp hw
    exact ⟨i, hi, by rw [getD_at hi]; exact e⟩
  rw [Bool.eq_iff_iff]
  constructor
  · intro h
    have hs : ∀ i, i < ps.length → stB b ps i = true := fun i hi => List.all_eq_true.mp h i (List.mem_range.mpr hi)
    have s1 : ∀ i, i < ps.length → NameOk ((ps.getD i []).headD []) ∧ none ∉ pO b (ps.getD i []) ∧ 1 ≤ (pO b (ps.getD i [])).length ∧ (pO b (ps.getD i [])).length ≤ 8 := fun i hi => by
      have := hs i hi
      unfold stB c1B at this
      rw [Bool.and_eq_true, Bool.and_eq_true, Bool.and_eq_true, Bool.and_eq_true, Bool.not_eq_true', decide_eq_false_iff_not, decide_eq_true_eq, decide_eq_true_eq, nmC_ok] at this
      exact ⟨this.1.1, this.1.2.1, this.1.2.2.1, this.1.2.2.2⟩
    have s2 : ∀ i, i < ps.length → i = 0 ∨ ((ps.getD (i - 1) []).headD [] < (ps.getD i []).headD [] ∧ (pO b (ps.getD 0 [])).length = (pO b (ps.getD i [])).length) := fun i hi => by
      have := hs i hi
      unfold stB c2B at this
      rw [Bool.and_eq_true, Bool.or_eq_true, Bool.and_eq_true, decide_eq_true_eq, decide_eq_true_eq, decide_eq_true_eq] at this
      exact this.2
    have wd : ∀ i, i < ps.length → (pO b (ps.getD i [])).length = (pO b (ps.getD 0 [])).length := fun i hi => by
      rcases s2 i hi with e | ⟨_, e⟩
      · rw [e]
      · exact e.symm
    rw [Bool.and_eq_true, Bool.and_eq_true]
    refine ⟨namesB_iff.mpr ⟨headsL ps, rfl, fun l hl => ?_, fun p hp => ?_⟩, ?_, ?_⟩
    · obtain ⟨ws, hw, rfl⟩ := List.mem_map.mp hl
      obtain ⟨i, hi, e⟩ := idx ws hw
      rw [← e]; exact (s1 i hi).1
    · obtain ⟨i, hi, e⟩ := List.mem_iff_getElem.mp hp
      rw [List.length_zip, List.length_drop, lh] at hi
      rw [List.getElem_zip, List.getElem_drop] at e
      rw [← e]
      show (headsL ps)[i] < (headsL ps)[1 + i]
      rw [hh i (by omega), hh (1 + i) (by omega)]
      rcases s2 (1 + i) (by omega) with z | ⟨z, _⟩
      · omega
      · rw [show 1 + i - 1 = i by omega] at z; exact z
    · unfold wideB
      rw [em, decide_eq_true (s1 0 hp0).2.2.1, decide_eq_true (s1 0 hp0).2.2.2, List.all_eq_true.mpr]
      · rfl
      · intro ws hw
        obtain ⟨i, hi, e⟩ := idx ws hw
        refine decide_eq_true ?_
        have := lw ws hw
        have := wd i hi
        rw [e] at this
        omega
    · refine List.all_eq_true.mpr fun ws hw => ?_
      obtain ⟨i, hi, e⟩ := idx ws hw
      have := (s1 i hi).2.1
      rw [e] at this
      rw [decide_eq_false this]; rfl
  · intro h
    rw [Bool.and_eq_true, Bool.and_eq_true] at h
    obtain ⟨hn, hw, hm⟩ := h
    obtain ⟨ls, e, ok, inc⟩ := namesB_iff.mp hn
    have e : headsL ps = ls := by
      have := congrArg (fun ds => ds.map codesOf) e
      rw [codes_name, codes_name] at this
      exact this
    subst e
    unfold wideB at hw
    rw [Bool.and_eq_true, Bool.and_eq_true, decide_eq_true_eq, decide_eq_true_eq, List.all_eq_true, em] at hw
    obtain ⟨⟨w1, w8⟩, wl⟩ := hw
    have wl : ∀ i, i < ps.length → (pO b (ps.getD i [])).length = (pO b (ps.getD 0 [])).length := fun i hi => by
      have h1 := of_decide_eq_true (wl _ (mem i hi))
      have h2 := lw _ (mem i hi)
      omega
    refine List.all_eq_true.mpr fun i hi => ?_
    have hi := List.mem_range.mp hi
    have hno : none ∉ pO b (ps.getD i []) := by
      have := List.all_eq_true.mp hm _ (mem i hi)
      simpa using this
    have hnm : nmC ((ps.getD i []).headD []) = true := nmC_ok.mpr (ok _ (List.mem_map_of_mem (f := fun ws : Prt => ws.headD []) (mem i hi)))
    unfold stB c1B c2B
    rw [hnm, decide_eq_false hno, wl i hi, decide_eq_true w1, decide_eq_true w8]
    by_cases h0 : i = 0
    · rw [decide_eq_true h0]; rfl
    · have hlt : (ps.getD (i - 1) []).headD [] < (ps.getD i []).headD [] := by
        have hz : ((headsL ps)[i - 1]'(by rw [lh]; omega), (headsL ps)[i]'(by rw [lh]; omega)) ∈ (headsL ps).zip ((headsL ps).drop 1) := by
          refine List.mem_iff_getElem.mpr ⟨i - 1, by rw [List.length_zip, List.length_drop, lh]; omega, ?_⟩
          rw [List.getElem_zip, List.getElem_drop]
          have : 1 + (i - 1) = i := by omega
          simp [this]
        have := inc _ hz
        simp only [hh (i - 1) (by omega), hh i hi] at this
        exact this
      rw [decide_eq_true hlt, decide_eq_true rfl, Bool.and_self, Bool.or_true]; rfl
def rdQ (b : Bool) (l : List Nat) : Bool := candB (partsL l) && (wideB (partsL l) && allPB b (partsL l))
theorem rd_up {b : Bool} {l : List Nat} : rdQ b l = (upB b (partsL l) && (decide (2 ≤ (partsL l).length) && decide ((partsL l).length ≤ 8))) := by
  unfold rdQ candB
  by_cases hz : (decide (2 ≤ (partsL l).length) && decide ((partsL l).length ≤ 8)) = true
  · have h2 : 2 ≤ (partsL l).length := by
      rw [Bool.and_eq_true, decide_eq_true_eq] at hz; exact hz.1
    rw [hz, up_iff (parts_ne l) (fun e => by rw [e] at h2; exact absurd h2 (by decide)), Bool.true_and, Bool.and_true]
  · have hz : (decide (2 ≤ (partsL l).length) && decide ((partsL l).length ≤ 8)) = false := by simpa using hz
    rw [hz, Bool.and_false, Bool.false_and, Bool.false_and]
def rdD (b : Bool) (l : List Nat) : D := if rdQ b l = true then .lst ((partsL l).map (fD b)) else .non
theorem rd_no {b : Bool} {l : List Nat} (h : rdQ b l = false) : D.non = rdD b l := by unfold rdD; rw [h]; rfl
/-- what the program's readers say, by the law's own reading -/
theorem veil_rd {l : List Nat} : veilQ l = if rdQ true l = true then some (headsL (partsL l), strN (partsL l), manyL (partsL l)) else none := rfl
theorem case_rd {l : List Nat} : (caseQ l).isSome = rdQ false l := by
  have e : allPB false (partsL l) = allMB (partsL l) := by
    unfold allPB allMB
    congr 1
    funext ws
    have h2 : decide (none ∈ pO false ws) = decide (none ∈ marksO ws) := decide_eq_decide.mpr (by
      unfold pO marksO
      simp only [List.mem_map, pW_f, Option.map_eq_none_iff])
    rw [h2]
  unfold caseQ caseP rdQ
  rw [e]
  cases candB (partsL l) && (wideB (partsL l) && allMB (partsL l)) <;> rfl
def spLRead : Spc where
  ty := Bool × List Nat
  args := fun x => [.str (tx x.2), .bl x.1]
  ok := fun x => x.2.length ≤ 15000
  rel := fun x d => d = rdD x.1 x.2
end K31

namespace K31
open PySem PySem.Spec PyProof.Rows L2 Dw
variable [Tabs0]
theorem d__law_figure {P : Program} {w : World} {K : PySem.W.Frag} {mg : Str → Option Value} {base : Heap} (T : Txt K w mg) : FnOk P w K mg base CX0 1 T.f__law_figure T.e__law_figure ["_law_term", "_law_most"] (toSp (spFig)) := by
  refine fn_ok T.F__law_figure sc__law_figure (fun _ => rfl) fun cdv A outer s' H E hr => ?_
  refine ⟨_, (pss_cons (ps_if (PW.pt (pw_or (pt_not (pt_chain opLe opLe pe_int (pe_callB (lenA K) (by rfl) T.n_len (by decide +kernel) (pa_cons (pv 0) pa_nil)) pe_int)) (pw_or1 (pt_cmpR (neL0A K hr.units) (pe_lc (own := [("_law_sign", 2)]) rfl sc__law_figure.nd (piR K (pv 0)) (blkOk_by (own := [("_law_sign", 2)]) (N := N__law_figure) (sc := (defScope s__law_figure)) (by decide +kernel)) (fun _ _ _ _ _ => pg_name (i := 2) sc__law_figure.nd rfl (Or.inl rfl)) (fun _ _ _ _ _ => pts_one (pt_cmpR (ninA K) (pv 2) pe_str (by rfl))) (fun _ _ _ _ _ => (pv 2))) (pe_lst pa_nil) (nomark _))))) (pss_one (ps_ret pe_non)) pss_nil) (pss_one (ps_ret (pe_ifExp (PW.pt (pw_or (PW.pt (pw_and (pt_cmpR opGt (pe_callB (lenA K) (by rfl) T.n_len (by decide +kernel) (pa_cons (pv 0) pa_nil)) pe_int (nomark _)) (pw_and1 (pt_cmpR (eqA K hr.units) (pe_ix (ixA K) (pv 0) pe_int (fun _ _ => rfl)) pe_str (nomark _))))) (pw_or1 (pt_cmpR opGt (pe_callTy call_int_str (by rfl) T.n_int (by decide +kernel) (pa_cons (pv 0) pa_nil)) (pv 1) (nomark _))))) pe_non (pe_callTy call_int_str (by rfl) T.n_int (by decide +kernel) (pa_cons (pv 0) pa_nil)))))), fun x hx => ?_⟩
  obtain ⟨l, rfl⟩ : ∃ l' : List Nat, l' = x := ⟨x, rfl⟩
  have hz : l.length ≤ 15000 := hx
  have hzs : (tx l).length ≤ sizeLine := by rw [tx_len]; exact small (by omega)
  have eb : (!((decide (1 ≤ l.length) && decide (l.length ≤ 9)) && l.all digC)) = (!(decide (1 ≤ l.length) && decide (l.length ≤ 9)) || !l.all digC) := Bool.not_and ..
  refine ds_seq (ds_if (EvT.dl (b := !((decide (1 ≤ l.length) && decide (l.length ≤ 9)) && l.all digC)) ?tt ⟨fun h => ds_ret (Ev.dl ev_non ?r1), fun h => ds_next ?_⟩))
  case tt =>
    rw [eb]
    refine evt_or (evt_not (evt_chain (p := decide (1 ≤ l.length)) (q := decide (l.length ≤ 9)) ev_int (ev_lenS (ev_var rfl) hzs) (fun _ => ev_int) (le_b (by rw [tx_len]; exact decide_eq_decide.mpr (by omega))) fun _ => le_b (by rw [tx_len]; exact decide_eq_decide.mpr (by omega)))) fun _ => evt_test (ev_neL0 (evn_lc (xs := l) (c := fun c => .str (ch c)) (p := fun c => !digC c) (f := fun c => .str (ch c)) ?it (by omega) fun c hc => ⟨[2], _, dg_name, fun i hi => hi, evt_test (ev_op (ev_var rfl) ev_str ?nc), fun _ => ev_var rfl⟩) (evn_lst eva_nil (Nat.zero_le _)).ev ?em)
    case it =>
      have := ej_str (K := K) (ta := tVar 0) (Γ := Gz0 3 (spFig.args l)) (x := tx l) (ev_var rfl)
      rw [signs_tx, List.map_map] at this
      exact this
    case nc =>
      rw [digitsS]
      exact nin_code
    case em =>
      rw [filter_no]
      congr 2
      funext c
      rw [Bool.not_not]
  case r1 =>
    rw [Bool.not_eq_true'] at h
    show _ = optN (markW l)
    rw [mark_out h]; rfl
  rw [Bool.not_eq_false', Bool.and_eq_true, Bool.and_eq_true, decide_eq_true_eq, decide_eq_true_eq] at h
  obtain ⟨⟨h1, h9⟩, hd⟩ := h
  have hi : ∀ Γ : Gam, Γ[0]? = some (.val (.str (tx l))) → Ev (tCB (fun xs H Q => ∃ a n, xs = [.str a] ∧ PySem.intText? a = some n ∧ a.length ≤ 640 ∧ Q (.int n) H) (tCons (tVar 0) tNil)) Γ (.int (NumText.digitsVal l : Nat)) := fun Γ h => ev_intS (ev_var h) (figs_int h1 h9 hd) (by rw [tx_len]; omega)
  refine ds_ret (Ev.dl (ev_if (a := bigB l) (d1 := .non) (d2 := .int (NumText.digitsVal l : Nat)) (evt_or (evt_and (a := decide (1 < l.length)) (b := decide (sgn l 0 = 48)) (evt_test (ev_op (ev_lenS (ev_var rfl) hzs) ev_int (gt_b (by rw [tx_len]; exact decide_eq_decide.mpr (by omega))))) fun _ => evt_test (ev_op (ev_op (ev_var rfl) ev_int (dr2_ixS (x := tx l) hzs (sgn_at (l := l) (k := 0) rfl h1))) ev_str (eq_sb ?qb))) fun _ => evt_test (ev_op (hi _ rfl) (ev_var rfl) (gt_b (decide_eq_decide.mpr (by omega))))) (fun _ => ev_non) fun _ => hi _ rfl) ?_)
  case qb =>
    rw [zeroS]
    exact ch_sameC
  show _ = optN (markW l)
  rw [fig_mark h1 hd]
  cases bigB l <;> rfl
end K31

namespace K31
open PySem PySem.Spec PyProof.Rows L2 Dw
variable [Tabs0]
theorem d__law_is_tag {P : Program} {w : World} {K : PySem.W.Frag} {mg : Str → Option Value} {base : Heap} (T : Txt K w mg) : FnOk P w K mg base CX0 1 T.f__law_is_tag T.e__law_is_tag ["_law_term"] (toSp (spTag)) := by
  refine fn_ok T.F__law_is_tag sc__law_is_tag (fun _ => rfl) fun cdv A outer s' H E hr => ?_
  refine ⟨_, (pss_one (ps_ret (pe_and (pe_chain opLe opLe pe_int (pe_callB (lenA K) (by rfl) T.n_len (by decide +kernel) (pa_cons (pv 0) pa_nil)) pe_int) (pe_one (pe_cmpR (eqL0A K hr.units) (pe_lc (own := [("_law_sign", 1)]) rfl sc__law_is_tag.nd (piR K (pv 0)) (blkOk_by (own := [("_law_sign", 1)]) (N := N__law_is_tag) (sc := (defScope s__law_is_tag)) (by decide +kernel)) (fun _ _ _ _ _ => pg_name (i := 1) sc__law_is_tag.nd rfl (Or.inl rfl)) (fun _ _ _ _ _ => pts_one (pt_cmpR (ninA K) (pv 1) pe_str (by rfl))) (fun _ _ _ _ _ => (pv 1))) (pe_lst pa_nil) (nomark _)))))), fun x hx => ?_⟩
  obtain ⟨l, rfl⟩ : ∃ l' : List Nat, l' = x := ⟨x, rfl⟩
  have hz : l.length ≤ 15000 := hx
  refine ds_ret (Ev.dl (ev_andV (a := decide (1 ≤ l.length) && decide (l.length ≤ 8)) (b := l.all letterC) (ev_chain (p := decide (1 ≤ l.length)) (q := decide (l.length ≤ 8)) ev_int (ev_lenS (ev_var rfl) (by rw [tx_len]; exact small (by omega))) (fun _ => ev_int) (le_b (by rw [tx_len]; exact decide_eq_decide.mpr (by omega))) fun _ => le_b (by rw [tx_len]; exact decide_eq_decide.mpr (by omega))) fun _ => ev_eqL0 (evn_lc (xs := l) (c := fun c => .str (ch c)) (p := fun c => !letterC c) (f := fun c => .str (ch c)) ?it (by omega) fun c hc => ⟨[1], _, dg_name, fun i hi => hi, evt_test (ev_op (ev_var rfl) ev_str ?nc), fun _ => ev_var rfl⟩) (evn_lst eva_nil (Nat.zero_le _)).ev ?em) rfl)
  case it =>
    have := ej_str (K := K) (ta := tVar 0) (Γ := Gz0 2 (spTag.args l)) (x := tx l) (ev_var rfl)
    rw [signs_tx, List.map_map] at this
    exact this
  case nc => rw [lettersS]; exact nin_code
  case em =>
    rw [filter_no]
    congr 1
    funext c
    rw [Bool.not_not]
end K31

namespace K31
open PySem PySem.Spec PyProof.Rows L2 Dw
variable [Tabs0]
theorem nn_D {K : PySem.W.Frag} (r : List (Option (Nat × Nat))) : DR2 (rInD K) .non (.lst (r.map prP)) (.bl (decide (none ∈ r))) := dr2_flat fun W u v Q a b k => by
  have t0 : dOk 1 .non = true := rfl
  have t1 : dOk 2 (.lst (r.map prP)) = true := dOks_map fun o _ => by cases o <;> rfl
  obtain ⟨h1, h2⟩ := dOk_shaped t0 (by decide)
  obtain ⟨h3, h4⟩ := dOk_shaped t1 (by decide)
  refine ⟨_, _, dp_of _ u h1 a, dp_of _ v h3 b, h2, h4, k _ ?_⟩
  show V.bl _ = V.bl _
  congr 1
  clear h3 h4 t1 k b
  induction r with
  | nil => rfl
  | cons o r ih =>
    show (PyData.eqv (py (prP o)) (py .non) || (pys (r.map prP)).any _) = _
    rw [ih, Bool.eq_iff_iff, Bool.or_eq_true, decide_eq_true_eq, decide_eq_true_eq, List.mem_cons]
    cases o with
    | none => exact ⟨fun _ => .inl rfl, fun _ => .inl rfl⟩
    | some k => exact ⟨fun h => h.elim (fun z => absurd z (by show ¬ false = true; decide)) .inr, fun h => h.elim (fun z => nomatch z) .inr⟩
theorem at_last {l : List D} (h : 0 < l.length) : atI l (-1) = l[l.length - 1]? := by
  unfold atI
  have e : ixN l.length (-1) = some (l.length - 1) := by
    unfold ixN
    rw [if_neg (by decide)]
    split
    · exact congrArg some (by omega)
    · omega
  show (ixN l.length (-1)).bind _ = _
  rw [e]; rfl
theorem up_no {b : Bool} {ps : List Prt} {i : Nat} (hi : i < ps.length) (h : stB b ps i = false) : upB b ps = false := by
  cases e : upB b ps with
  | false => rfl
  | true => rw [List.all_eq_true.mp e i (List.mem_range.mpr hi)] at h; cases h
theorem st_no {b : Bool} {l : List Nat} {i : Nat} (hi : i < (partsL l).length) (h : stB b (partsL l) i = false) : D.non = rdD b l := by
  refine rd_no ?_
  rw [rd_up, up_no hi h]; rfl
theorem none_mark {l : List Nat} {b : Bool} (h : none ∈ (dashL l).map markW) : pW b l = none := by
  cases e : dashC l with
  | none =>
    have h45 := dashC_none.mp e
    rw [dash_no h45] at h
    have hm : markW l = none := (List.mem_singleton.mp (show none ∈ [markW l] from h)).symm
    cases b
    · rw [pW_f, hm]; rfl
    · rw [pW_t, strW_no h45, hm]; rfl
  | some x =>
    obtain ⟨p, q⟩ := x
    have hl : 45 ∈ l := by rw [(dashC_some e).1]; simp
    cases b
    · rw [pW_f, dash_mark hl]; rfl
    · rw [pW_t, strW_at e]
      rw [dash_some e, List.map_cons] at h
      unfold twoW
      rcases List.mem_cons.mp h with h | h
      · rw [← h]
      · cases e2 : dashC q with
        | none =>
          rw [dash_no (dashC_none.mp e2)] at h
          have hm : markW q = none := (List.mem_singleton.mp (show none ∈ [markW q] from h)).symm
          rw [hm]
          cases markW p <;> rfl
        | some y =>
          have hq : 45 ∈ q := by rw [(dashC_some (p := y.1) (q := y.2) e2).1]; simp
          rw [dash_mark hq]
          cases markW p <;> rfl
end K31

namespace K31
open PySem PySem.Spec PyProof.Rows L2 Dw
variable [Tabs0]
theorem d__law_stretch {P : Program} {w : World} {K : PySem.W.Frag} {mg : Str → Option Value} {base : Heap} (T : Txt K w mg) : FnOk P w K mg base CX0 2 T.f__law_stretch T.e__law_stretch ["_law_term", "_law_is_veil"] (toSp (spStr)) := by
  refine fn_ok T.F__law_stretch sc__law_stretch (fun _ => rfl) fun cdv A outer s' H E hr => ?_
  refine ⟨_, (pss_cons (ps_setLc (i := 2) (own := [("_law_each", 3)]) rfl sc__law_stretch.nd rfl rfl (sw_true rfl rfl rfl (by decide +kernel)) (piR K (pe_split (pv 0) pe_str)) (blkOk_by (own := [("_law_each", 3)]) (N := N__law_stretch) (sc := (defScope s__law_stretch)) (by decide +kernel)) (fun _ _ _ _ _ => pg_name (i := 3) sc__law_stretch.nd rfl (Or.inl rfl)) (fun _ _ _ _ _ => pts_nil) (fun _ _ _ _ _ => (pe_call (d__law_figure T) (hr.mono (by decide)) (by rfl) T.m__law_figure T.F__law_figure.kp T.b__law_figure .nil pass0 (pa_cons (pv 3) (pa_cons pe_int pa_nil))))) (pss_cons (ps_if (PW.pt (pw_or (pt_cmpR (inA K) pe_non (pv 2) (by rfl)) (pw_or (pt_cmpR opGt (pe_callB (lenA K) (by rfl) T.n_len (by decide +kernel) (pa_cons (pv 2) pa_nil)) (pe_ifExp (truA K (pv 1)) pe_int pe_int) (nomark _)) (pw_or1 (PW.pt (pw_and (pt_cmpR (eqA K hr.units) (pe_callB (lenA K) (by rfl) T.n_len (by decide +kernel) (pa_cons (pv 2) pa_nil)) pe_int (nomark _)) (pw_and1 (pt_cmpR opGe (pe_ix (ixA K) (pv 2) pe_int (fun _ _ => rfl)) (pe_ix (ixA K) (pv 2) pe_int (fun _ _ => rfl)) (nomark _))))))))) (pss_one (ps_ret pe_non)) pss_nil) (pss_one (ps_ret (pe_tup (pa_cons (pe_ix (ixA K) (pv 2) pe_int (fun _ _ => rfl)) (pa_cons (pe_ix (ixA K) (pv 2) (pe_un un_neg pe_int) (fun _ _ => rfl)) pa_nil))))))), fun x hx => ?_⟩
  obtain ⟨b, l⟩ := x
  have hz : l.length ≤ 15000 := hx
  have dl := spl_len [45] 0 [] l
  have ds := spl_sub [45] 0 [] l
  have dl : (dashL l).length ≤ l.length + 1 := dl
  refine ds_seq (ds_asg (Ev.dl (ev_cast (d' := .lst (((dashL l).map markW).map optN)) (by rw [List.map_map]; rfl) (EvN.ev (evn_lc1 (xs := dashL l) (c := fun p => .str (tx p)) (f := fun p => optN (markW p)) ?it0 (by omega) fun p hp => ⟨[3], _, dg_name, fun i hi => hi, evt_yes, ev_call (s := spFig) (x := p) (eva_cons (ev_var rfl) (eva_cons ev_int eva_nil)) rfl ?le fun d h => h⟩))) ?_))
  case it0 =>
    have := ej_list (K := K) (EvN.b (evn_split (Γ := Gz0 4 (spStr.args (b, l))) (a := tx l) (b := Str.ofString "-") (ta := tVar 0) (tb := tC (.str "-")) (ev_var rfl) ev_str (by decide +kernel) (by rw [tx_len]; exact small (by omega))))
    rw [dashS_split, List.map_map] at this
    exact this
  case le =>
    have := (ds p hp).1
    show p.length ≤ 15000
    simp at this
    omega
  show Ds _ [.val (.str (tx l)), .val (.bl b), .val (.lst (((dashL l).map markW).map optN)), .unset] _
  obtain ⟨es, hes⟩ : ∃ es, es = (dashL l).map markW := ⟨_, rfl⟩
  rw [← hes]
  obtain ⟨lim, hlim⟩ : ∃ lim : Nat, lim = if b = true then 2 else 1 := ⟨_, rfl⟩
  have le : (es.map optN).length = es.length := List.length_map ..
  have elim : ∀ {Γ : Gam}, Γ[1]? = some (.val (.bl b)) → Ev (tIf (tTru K (tVar 1)) (tC (.int 2)) (tC (.int 1))) Γ (.int (lim : Nat)) := fun h => ev_cast (by rw [hlim]; cases b <;> rfl) (ev_if (a := b) (d1 := .int 2) (d2 := .int 1) (evt_tru_bl (ev_var h)) (fun _ => ev_int) fun _ => ev_int)
  have ixn : ∀ {Γ : Gam} {k : Nat} {o : Option Nat}, Γ[2]? = some (.val (.lst (es.map optN))) → es[k]? = some o → Ev (tOp (rIx K) (tVar 2) (tC (.int (k : Nat)))) Γ (optN o) := fun h hk => ev_ix (ev_var h).b ev_int (atI_nat (by rw [List.getElem?_map, hk]; rfl))
  -- the third test
  obtain ⟨c3, hc3, h3⟩ : ∃ c3 : Bool, (∀ {Γ : Gam}, Γ[2]? = some (.val (.lst (es.map optN))) → none ∉ es → es.length ≤ 2 → EvT (tAnd (tTest (tOp (rEqX K) (tCB (Dw.rLen K) (tCons (tVar 2) tNil)) (tC (.int 2)))) (tTest (tOp (rI0 fun i j => .bl (decide (j ≤ i))) (tOp (rIx K) (tVar 2) (tC (.int 0))) (tOp (rIx K) (tVar 2) (tC (.int 1)))))) Γ c3) ∧ (none ∉ es → es.length ≤ lim → pW b l = if c3 = true then none else some ((es.headD none).getD 0, (es.getLastD none).getD 0)) := by
    cases e : dashC l with
    | none =>
      have h45 := dashC_none.mp e
      have e1 : es = [markW l] := by rw [hes, dash_no h45]; rfl
      refine ⟨false, fun {Γ} h hn hl => ?_, fun hn hl => ?_⟩
      · refine evt_and (a := false) (b := false) (evt_test (ev_op (ev_len (ds := es.map optN) (ev_var h).b) ev_int (eq_ib (by rw [le, e1]; rfl)))) fun h => ?_
        exact nomatch h
      · rw [e1] at hn ⊢
        cases em : markW l with
        | none => rw [em] at hn; exact absurd hn (by simp)
        | some k =>
          cases b
          · rw [pW_f, em]; rfl
          · rw [pW_t, strW_no h45, em]; rfl
    | some x =>
      obtain ⟨p, q⟩ := x
      have hl45 : 45 ∈ l := by rw [(dashC_some e).1]; simp
      have e1 : es = markW p :: (dashL q).map markW := by rw [hes, dash_some e]; rfl
      cases e2 : dashC q with
      | some y =>
        have hq : 45 ∈ q := by rw [(dashC_some (p := y.1) (q := y.2) e2).1]; simp
        have l3 : 3 ≤ es.length := by
          have h2 : 2 ≤ (dashL q).length := dash_two [] q hq
          rw [e1, List.length_cons, List.length_map]; omega
        refine ⟨false, fun {Γ} h hn hl => absurd hl (by omega), fun hn hl => absurd hl ?_⟩
        rw [hlim]
        cases b
        · show ¬ es.length ≤ 1; omega
        · show ¬ es.length ≤ 2; omega
      | none =>
        have e3 : es = [markW p, markW q] := by rw [e1, dash_no (dashC_none.mp e2)]; rfl
        cases em : markW p with
        | none => exact ⟨false, fun {Γ} h hn _ => absurd hn (by rw [e3, em]; simp), fun hn _ => absurd hn (by rw [e3, em]; simp)⟩
        | some x =>
          cases en : markW q with
          | none => exact ⟨false, fun {Γ} h hn _ => absurd hn (by rw [e3, en]; simp), fun hn _ => absurd hn (by rw [e3, en]; simp)⟩
          | some y =>
            rw [em, en] at e3
            refine ⟨true && !decide (x < y), fun {Γ} h hn hl => ?_, fun hn hl => ?_⟩
            · refine evt_and (a := true) (b := !decide (x < y)) (evt_test (ev_op (ev_len (ds := es.map optN) (ev_var h).b) ev_int (eq_ib (by rw [le, e3]; rfl)))) fun _ => evt_test (ev_op (ev_cast (d' := .int (x : Nat)) rfl (ixn (k := 0) (o := some x) h (by rw [e3]; rfl))) (ev_cast (d' := .int (y : Nat)) rfl (ixn (k := 1) (o := some y) h (by rw [e3]; rfl))) (ge_b ?_))
              rw [← decide_not]; exact decide_eq_decide.mpr (by omega)
            · cases b
              · rw [hlim, e3] at hl
                exact absurd (show (2 : Nat) ≤ 1 from hl) (by decide)
              · rw [pW_t, strW_at e]
                unfold twoW
                rw [em, en, e3]
                show (if decide (x < y) = true then some (x, y) else none) = if (true && !decide (x < y)) = true then none else some (x, y)
                cases decide (x < y) <;> rfl
  by_cases hn : none ∈ es
  · refine ds_seq (ds_if (EvT.dl (b := true || false) ?k1 ⟨fun _ => ds_ret (Ev.dl ev_non ?_), fun h => (nomatch h)⟩))
    case k1 =>
      refine evt_or (a := true) (b := false) (evt_test (ev_cast (congrArg D.bl ((inV_opt es).trans (decide_eq_true hn))) (ev_in (K := K) (neg := false) (r' := rInS) (d := .non) (ds := es.map optN) ev_non (ev_var rfl).b rfl (sc_opt _)))) fun h => ?_
      exact nomatch h
    show _ = prP (pW b l)
    rw [none_mark (hes ▸ hn)]; rfl
  · by_cases hl : es.length ≤ lim
    · have hl2 : es.length ≤ 2 := by
        rw [hlim] at hl
        cases b
        · have : es.length ≤ 1 := hl
          omega
        · exact hl
      have hp := h3 hn hl
      have hne : 0 < es.length := by rw [hes, List.length_map]; exact List.length_pos_iff.mpr (spl_ne [45] 0 [] l)
      refine ds_seq (ds_if (EvT.dl (b := false || (false || c3)) ?k2 ⟨fun h => ds_ret (Ev.dl ev_non ?_), fun h => ds_next ?_⟩))
      case k2 =>
        refine evt_or (a := false) (b := false || c3) (evt_test (ev_cast (congrArg D.bl ((inV_opt es).trans (decide_eq_false hn))) (ev_in (K := K) (neg := false) (r' := rInS) (d := .non) (ds := es.map optN) ev_non (ev_var rfl).b rfl (sc_opt _)))) fun _ => ?_
        exact evt_or (a := false) (b := c3) (evt_test (ev_op (ev_len (ds := es.map optN) (ev_var rfl).b) (elim rfl) (gt_b (by rw [le]; exact decide_eq_false (by omega))))) fun _ => hc3 rfl hn hl2
      · have h : c3 = true := by simpa using h
        show _ = prP (pW b l)
        rw [hp, if_pos h]; rfl
      · have h : ¬ c3 = true := by simpa using h
        rw [if_neg h] at hp
        obtain ⟨x, y, hx0, hy0⟩ : ∃ x y : Nat, es[0]? = some (some x) ∧ es[es.length - 1]? = some (some y) := by
          have some_of : ∀ i (hi : i < es.length), ∃ x : Nat, es[i]? = some (some x) := fun i hi => by
            cases eo : es[i] with
            | none => exact absurd (eo ▸ List.getElem_mem hi) hn
            | some x => exact ⟨x, by rw [List.getElem?_eq_getElem hi, eo]⟩
          obtain ⟨x, hx0⟩ := some_of 0 hne
          obtain ⟨y, hy0⟩ := some_of (es.length - 1) (by omega)
          exact ⟨x, y, hx0, hy0⟩
        refine ds_ret (Ev.dl (ev_tup (eva_cons (ixn (k := 0) (o := some x) rfl hx0) (eva_cons (ev_ix (d := optN (some y)) (ev_var (d := .lst (es.map optN)) rfl).b (ev_neg ev_int) (by rw [at_last (by rw [le]; exact hne), le, List.getElem?_map, hy0]; rfl)) eva_nil)) (small (by simp))) ?_)
        show _ = prP (pW b l)
        rw [hp]
        have ex : (es.headD none).getD 0 = x := by
          cases es with
          | nil => exact absurd hne (by simp)
          | cons a r =>
            have : a = some x := by simpa using hx0
            rw [this]; rfl
        have ey : (es.getLastD none).getD 0 = y := by
          have : es.getLast? = some (some y) := by rw [List.getLast?_eq_getElem?]; exact hy0
          rw [List.getLastD_eq_getLast?, this]; rfl
        rw [ex, ey]; rfl
    · refine ds_seq (ds_if (EvT.dl (b := false || (true || false)) ?k3 ⟨fun _ => ds_ret (Ev.dl ev_non ?_), fun h => (nomatch h)⟩))
      case k3 =>
        refine evt_or (a := false) (b := true || false) (evt_test (ev_cast (congrArg D.bl ((inV_opt es).trans (decide_eq_false hn))) (ev_in (K := K) (neg := false) (r' := rInS) (d := .non) (ds := es.map optN) ev_non (ev_var rfl).b rfl (sc_opt _)))) fun _ => ?_
        refine evt_or (a := true) (b := false) (evt_test (ev_op (ev_len (ds := es.map optN) (ev_var rfl).b) (elim rfl) (gt_b (by rw [le]; exact decide_eq_true (by omega))))) fun h => ?_
        exact nomatch h
      show _ = prP (pW b l)
      have e2 : pW b l = none := by
        have hle : (dashL l).length = es.length := by rw [hes, List.length_map]
        cases e : dashC l with
        | none =>
          rw [dash_no (dashC_none.mp e)] at hle
          have : es.length = 1 := hle.symm
          rw [hlim] at hl
          cases b
          · exact absurd (show es.length ≤ 1 by omega) hl
          · exact absurd (show es.length ≤ 2 by omega) hl
        | some x =>
          obtain ⟨p, q⟩ := x
          have hl45 : 45 ∈ l := by rw [(dashC_some e).1]; simp
          cases b
          · rw [pW_f, dash_mark hl45]; rfl
          · rw [pW_t, strW_at e]
            cases e2 : dashC q with
            | none =>
              rw [dash_some e, dash_no (dashC_none.mp e2)] at hle
              have : es.length = 2 := hle.symm
              rw [hlim] at hl
              exact absurd (show es.length ≤ 2 by omega) hl
            | some y =>
              have hq : 45 ∈ q := by rw [(dashC_some (p := y.1) (q := y.2) e2).1]; simp
              unfold twoW
              rw [dash_mark hq]
              cases markW p <;> rfl
      rw [e2]; rfl
end K31

namespace K31
open PySem PySem.Spec PyProof.Rows L2 Dw
variable [Tabs0]
theorem d__law_read {P : Program} {w : World} {K : PySem.W.Frag} {mg : Str → Option Value} {base : Heap} (T : Txt K w mg) : FnOk P w K mg base CX0 3 T.f__law_read T.e__law_read ["_law_page", "_law_is_veil"] (toSp (spLRead)) := by
  refine fn_ok T.F__law_read sc__law_read (fun _ => rfl) fun cdv A outer s' H E hr => ?_
  refine ⟨_, (pss_cons (ps_set (i := 2) sc__law_read.nd rfl (Or.inl rfl) (pe_lst pa_nil)) (pss_cons (ps_for PassesOwn.never rfl (piR K (pe_split (pv 0) pe_str)) (pg_name (i := 3) sc__law_read.nd rfl (Or.inl rfl)) (pss_cons (ps_set (i := 4) sc__law_read.nd rfl (Or.inl rfl) (pe_split (pv 3) pe_str)) (pss_cons (ps_setLc (i := 5) (own := [("_law_term", 6)]) rfl sc__law_read.nd rfl rfl (sw_true rfl rfl rfl (by decide +kernel)) (piR K (pe_slice (slXA K) (pv 4) (po_some pe_int) po_none)) (blkOk_by (own := [("_law_term", 6)]) (N := N__law_read) (sc := (defScope s__law_read)) (by decide +kernel)) (fun _ _ _ _ _ => pg_name (i := 6) sc__law_read.nd rfl (Or.inl rfl)) (fun _ _ _ _ _ => pts_nil) (fun _ _ _ _ _ => (pe_call (d__law_stretch T) (hr.mono (by decide)) (by rfl) T.m__law_stretch T.F__law_stretch.kp T.b__law_stretch .nil pass0 (pa_cons (pv 6) (pa_cons (pv 1) pa_nil))))) (pss_cons (ps_if (PW.pt (pw_or (pt_not (truA K (pe_call (d__law_is_tag T) (hr.mono (by decide)) (by rfl) T.m__law_is_tag T.F__law_is_tag.kp T.b__law_is_tag .nil pass0 (pa_cons (pe_ix (ixA K) (pv 4) pe_int (fun _ _ => rfl)) pa_nil)))) (pw_or (pt_cmpR (inDA K hr) pe_non (pv 5) (by rfl)) (pw_or1 (pt_not (pt_chain opLe opLe pe_int (pe_callB (lenA K) (by rfl) T.n_len (by decide +kernel) (pa_cons (pv 5) pa_nil)) pe_int)))))) (pss_one (ps_ret pe_non)) pss_nil) (pss_cons (ps_if (PW.pt (pw_and (pt_cmpR (neL0A K hr.units) (pv 2) (pe_lst pa_nil) (nomark _)) (pw_and1 (PW.pt (pw_or (pt_cmpR opGeS (pe_ix (ixA K) (pe_ix (ixA K) (pv 2) (pe_un un_neg pe_int) (fun _ _ => rfl)) pe_int (fun _ _ => rfl)) (pe_ix (ixA K) (pv 4) pe_int (fun _ _ => rfl)) (nomark _)) (pw_or1 (pt_cmpR (neA K hr.units) (pe_callB (lenA K) (by rfl) T.n_len (by decide +kernel) (pa_cons (pe_ix (ixA K) (pe_ix (ixA K) (pv 2) pe_int (fun _ _ => rfl)) pe_int (fun _ _ => rfl)) pa_nil)) (pe_callB (lenA K) (by rfl) T.n_len (by decide +kernel) (pa_cons (pv 5) pa_nil)) (nomark _)))))))) (pss_one (ps_ret pe_non)) pss_nil) (pss_one (ps_expr (bmA K PySem.F.plainAttrs_list PySem.F.slot_list_append PySem.F.type_list_append mt_append (pv 2) (pa_cons (pe_tup (pa_cons (pe_ix (ixA K) (pv 4) pe_int (fun _ _ => rfl)) (pa_cons (pe_callTy (tupleA K) (by rfl) T.n_tuple (by decide +kernel) (pa_cons (pv 5) pa_nil)) pa_nil))) pa_nil))))))))) (pss_one (ps_ret (pe_ifExp (pt_chain opLe opLe pe_int (pe_callB (lenA K) (by rfl) T.n_len (by decide +kernel) (pa_cons (pv 2) pa_nil)) pe_int) (pv 2) pe_non))))), fun x hx => ?_⟩
  obtain ⟨b, l⟩ := x
  have hz : l.length ≤ 15000 := hx
  have pn := parts_ne l
  have pl := parts_len l
  have pw := parts_word l
  have sl := spl_sub [59, 32] 0 [] l
  have lp : (partsL l).length = (semiL l).length := List.length_map ..
  refine ds_seq (ds_asg_own (evn_lst eva_nil (Nat.zero_le _)) ?_)
  refine ds_seq (ds_for (fun xs i Γ' => xs = (semiL l).map (fun p => D.str (tx p)) ∧ (List.range i).all (stB b (partsL l)) = true ∧ ∃ s3 s4 s5 : Sl, Γ' = [.val (.str (tx l)), .val (.bl b), .own (((partsL l).take i).map (fD b)), s3, s4, s5, .unset])
    (dj_list (Ev.dl (ev_cast (d' := .lst ((semiL l).map fun p => D.str (tx p))) (by rw [semiS_split, List.map_map]; rfl) (EvN.ev (evn_split (a := tx l) (ev_var rfl) ev_str (by decide +kernel) (by rw [tx_len]; exact small (by omega))))) ⟨_, rfl, ⟨rfl, rfl, _, _, _, rfl⟩, fun i x Γ' hx' ⟨exs, hall, s3, s4, s5, e⟩ => ?_, fun Γ' ⟨exs, hall, s3, s4, s5, e⟩ => ?_⟩)))
  · subst e
    rw [exs] at hx'
    have hil : i < (semiL l).length := by
      have := (List.getElem?_eq_some_iff.mp hx').1
      rw [List.length_map] at this; exact this
    obtain ⟨p, hp⟩ : ∃ p, p = (semiL l)[i] := ⟨_, rfl⟩
    obtain rfl : x = .str (tx p) := by
      rw [List.getElem?_map, List.getElem?_eq_getElem hil] at hx'
      rw [hp]; exact (Option.some.inj hx').symm
    have hpm : p ∈ semiL l := hp ▸ List.getElem_mem hil
    have hws : (partsL l).getD i [] = splitL p := by
      rw [getD_at (by omega), hp]
      unfold partsL
      rw [List.getElem_map]
    obtain ⟨ws, ew⟩ : ∃ ws, ws = (partsL l).getD i [] := ⟨_, rfl⟩
    have hwm : ws ∈ partsL l := by rw [ew, getD_at (by omega)]; exact List.getElem_mem _
    have hne := pn ws hwm
    obtain ⟨wl, wwl⟩ := pw ws hwm
    refine ⟨[3], _, dg_name, ds_seq (ds_asg (Ev.dl (ev_cast (d' := .lst (nameD ws)) (by rw [ew, hws, splitS, nameD_map]) (EvN.ev (evn_split (a := tx p) (ev_var rfl) ev_str (by decide +kernel) ?z1))) ?_))⟩
    case z1 =>
      have := (sl p hpm).1
      rw [tx_len]
      exact small (by simp at this; omega)
    refine ds_seq (ds_asg (Ev.dl (ev_cast (d := .lst ((ws.drop 1).map fun w => prP (pW b w))) (d' := .lst ((pO b ws).map prP)) (by unfold pO; rw [List.map_map]; rfl) (EvN.ev (evn_lc1 (xs := ws.drop 1) (c := fun w => .str (tx w)) (f := fun w => prP (pW b w)) ?sl (by rw [List.length_drop]; omega) fun w hw => ⟨[6], _, dg_name, fun i hi => hi, evt_yes, ev_call (s := spStr) (x := (b, w)) (eva_cons (ev_var rfl) (eva_cons (ev_var rfl) eva_nil)) rfl ?lw fun d h => h⟩))) ?_))
    case sl =>
      have e : Dw.cutD (nameD ws) (some 1) none = (ws.drop 1).map fun w => D.str (tx w) := by
        rw [cut_tail]
        unfold nameD
        rw [List.map_drop]
      exact e ▸ ej_list (EvN.b (evn_sliceY (ds := nameD ws) (ev_var rfl).b (eo_some ev_int) eo_none))
    case lw =>
      have := (wwl w (List.mem_of_mem_drop hw)).1
      show w.length ≤ 15000
      omega
    show Ds _ [.val (.str (tx l)), .val (.bl b), .own (((partsL l).take i).map (fD b)), .val (.str (tx p)), .val (.lst (nameD ws)), .val (.lst ((pO b ws).map prP)), .unset] _
    have hhl : (ws.headD []).length ≤ 15000 := by
      have hm : ws.headD [] ∈ ws := by
        cases ws with
        | nil => exact absurd rfl hne
        | cons a r => exact List.mem_cons_self
      have := (wwl _ hm).1
      omega
    have eb : (!c1B b ws) = (!nmC (ws.headD []) || (decide (none ∈ pO b ws) || !(decide (1 ≤ (pO b ws).length) && decide ((pO b ws).length ≤ 8)))) := by
      unfold c1B
      cases nmC (ws.headD []) <;> cases decide (none ∈ pO b ws) <;> cases decide (1 ≤ (pO b ws).length) <;> cases decide ((pO b ws).length ≤ 8) <;> rfl
    have lm : ((pO b ws).map prP).length = (pO b ws).length := List.length_map ..
    have hi2 : i < (partsL l).length := by omega
    refine ds_seq (ds_if (EvT.dl (b := !c1B b ws) ?t1 ⟨fun h1 => ds_ret (Ev.dl ev_non (st_no hi2 ?n1)), fun h1 => ds_next ?_⟩))
    case t1 =>
      rw [eb]
      exact evt_or (evt_not (evt_tru_bl (ev_call (s := spTag) (x := ws.headD []) (eva_cons (ev_ix (ds := nameD ws) (ev_var rfl).b ev_int (atI_nat (j := 0) (headD_at hne))) eva_nil) rfl hhl fun d h => h))) fun _ => evt_or (evt_test (ev_op ev_non (ev_var rfl) (nn_D _))) fun _ => evt_not (evt_chain (p := decide (1 ≤ (pO b ws).length)) (q := decide ((pO b ws).length ≤ 8)) ev_int (ev_len (ds := (pO b ws).map prP) (ev_var rfl).b) (fun _ => ev_int) (le_b (by rw [lm]; exact decide_eq_decide.mpr (by omega))) fun _ => le_b (by rw [lm]; exact decide_eq_decide.mpr (by omega)))
    case n1 =>
      rw [Bool.not_eq_true'] at h1
      unfold stB
      rw [← ew, h1]; rfl
    rw [Bool.not_eq_false'] at h1
    have tl : (((partsL l).take i).map (fD b)).length = i := by rw [List.length_map, List.length_take]; omega
    have eb2 : (!c2B b (partsL l) i) = (!decide (i = 0) && (!decide (((partsL l).getD (i - 1) []).headD [] < ws.headD []) || !decide ((pO b ((partsL l).getD 0 [])).length = (pO b ws).length))) := by
      unfold c2B
      rw [← ew, Bool.not_or, Bool.not_and]
    refine ds_seq (ds_if (EvT.dl (b := !c2B b (partsL l) i) ?t2 ⟨fun h2 => ds_ret (Ev.dl ev_non (st_no hi2 ?n2)), fun h2 => ds_next ?_⟩))
    case t2 =>
      rw [eb2]
      have at_ : ∀ j, j < i → (((partsL l).take i).map (fD b))[j]? = some (fD b ((partsL l).getD j [])) := fun j hj => by
        rw [List.getElem?_map, List.getElem?_take, if_pos hj, getD_at (show j < (partsL l).length by omega), List.getElem?_eq_getElem (by omega)]; rfl
      refine evt_lend 2 rfl (evt_and (evt_test (ev_op (ev_var (d := .lst (((partsL l).take i).map (fD b))) rfl) (evn_lst eva_nil (Nat.zero_le _)).ev ?ne)) fun h0 => evt_or (evt_test (ev_op (ev_ixT (ev_ix (ds := ((partsL l).take i).map (fD b)) (d := fD b ((partsL l).getD (i - 1) [])) (ev_var rfl).b (ev_neg ev_int) ?la) ev_int (atI_nat (j := 0) rfl)) (ev_ix (ds := nameD ws) (ev_var rfl).b ev_int (atI_nat (j := 0) (headD_at hne))) ge_txS)) fun _ => evt_test (ev_op (ev_lenT (ds := (pO b ((partsL l).getD 0 [])).map prP) (ev_ixT (ev_ix (ds := ((partsL l).take i).map (fD b)) (d := fD b ((partsL l).getD 0 [])) (ev_var rfl).b ev_int (atI_nat (j := 0) ?fi)) ev_int (atI_nat (j := 1) rfl))) (ev_len (ds := (pO b ws).map prP) (ev_var rfl).b) ?nl))
      case ne =>
        have e : (((partsL l).take i).map (fD b)).isEmpty = decide (i = 0) := by
          rw [Bool.eq_iff_iff, decide_eq_true_eq, List.isEmpty_iff]
          constructor
          · intro z
            rw [← tl, z]; rfl
          · intro z
            exact List.length_eq_zero_iff.mp (tl.trans z)
        rw [← e]
        exact ne_L0
      case la =>
        have h0 : i ≠ 0 := by rw [Bool.not_eq_true', decide_eq_false_iff_not] at h0; exact h0
        rw [at_last (by omega), tl]
        exact at_ (i - 1) (by omega)
      case fi =>
        have h0 : i ≠ 0 := by rw [Bool.not_eq_true', decide_eq_false_iff_not] at h0; exact h0
        exact at_ 0 (by omega)
      case nl =>
        have e := ne_int' (K := K) (i := ((((pO b ((partsL l).getD 0 [])).map prP).length : Nat) : Int)) (j := ((((pO b ws).map prP).length : Nat) : Int))
        rw [show decide (((((pO b ((partsL l).getD 0 [])).map prP).length : Nat) : Int) = ((((pO b ws).map prP).length : Nat) : Int)) = decide ((pO b ((partsL l).getD 0 [])).length = (pO b ws).length) from decide_eq_decide.mpr (by rw [List.length_map, List.length_map]; omega)] at e
        exact e
    case n2 =>
      rw [Bool.not_eq_true'] at h2
      unfold stB
      rw [h2, Bool.and_false]
    rw [Bool.not_eq_false'] at h2
    have hst : stB b (partsL l) i = true := by
      unfold stB
      rw [← ew, h1, h2]; rfl
    refine ds_drop (dl_append ⟨_, rfl⟩ (dla_cons (Ev.dl (ev_tup (eva_cons (ev_ix (ds := nameD ws) (ev_var rfl).b ev_int (atI_nat (j := 0) (headD_at hne))) (eva_cons (ev_tuple (ds := (pO b ws).map prP) (ev_var rfl).b) eva_nil)) (small (by simp))) (dla_nil ⟨_, _, rfl, rfl, ?lt, exs, ?al, .val (.str (tx p)), .val (.lst (nameD ws)), .val (.lst ((pO b ws).map prP)), ?ge⟩))))
    case lt =>
      rw [tl]
      exact Nat.lt_of_lt_of_le (show i < 100000 by omega) (by decide)
    case al =>
      rw [List.range_succ, List.all_append, hall, Bool.true_and, List.all_cons, hst]; rfl
    case ge =>
      have e : ((partsL l).take i).map (fD b) ++ [D.tup [.str (tx (ws.headD [])), .tup ((pO b ws).map prP)]] = ((partsL l).take (i + 1)).map (fD b) := by
        rw [List.take_add_one, List.getElem?_eq_getElem hi2, List.map_append, ← getD_at hi2, ← ew]; rfl
      rw [← e]; rfl
  · subst e
    have hi : ((semiL l).map fun p => D.str (tx p)).length = (partsL l).length := by rw [List.length_map, lp]
    rw [exs, hi] at hall
    rw [exs, hi, List.take_length]
    have hup : upB b (partsL l) = true := hall
    have lf : ((partsL l).map (fD b)).length = (partsL l).length := List.length_map ..
    refine ds_freeze 2 rfl (ds_ret (Ev.dl (ev_if (a := decide (2 ≤ (partsL l).length) && decide ((partsL l).length ≤ 8)) (d1 := .lst ((partsL l).map (fD b))) (d2 := .non) (evt_chain (p := decide (2 ≤ (partsL l).length)) (q := decide ((partsL l).length ≤ 8)) ev_int (ev_len (ds := (partsL l).map (fD b)) (ev_var rfl).b) (fun _ => ev_int) (le_b (by rw [lf]; exact decide_eq_decide.mpr (by omega))) fun _ => le_b (by rw [lf]; exact decide_eq_decide.mpr (by omega))) (fun _ => ev_var rfl) fun _ => ev_non) ?_))
    show _ = rdD b l
    unfold rdD
    rw [rd_up, hup, Bool.true_and]
end K31

namespace K31
open PySem PySem.Spec PyProof.Rows L2 Dw
variable [Tabs0]
open LamX L2H in
/-- e.f of the held error, whose class is told by the reading -/
theorem pe_xfA {X : Cx} {a D0 : Addr} {oe : Obj} {cls : Value} {ed : Option Addr} {e : Expr} {te : TE} {pos : Pos} {n : Str} (hp : (a, oe) ∈ X.pn) (T : XfC X.K D0) (hno : PySem.W.findIn X.K (.ref D0) n = some none) (hz : Zc cls ed oe) (hf : ∃ vs, oe.data = .fields vs) (he : PE X e te)
    (hb : attributeBase e n X.env (eval e X.env) = eval e X.env := by rfl) : PE X (.Attribute e n pos) (tXf a cls ed D0 n te) := by
  refine ⟨fun pins s σ H Q I h => ?_⟩
  refine attr_of hb (thn (he.run pins s σ H _ I h) fun u s1 ⟨x, H1, I1, rx, ex, ec, dd, fs, v, edd, ea, l, q⟩ => ?_)
  subst ex edd ec
  obtain rfl : u = Value.ref a := rx
  have hget := (I1.pin (a, oe) (List.mem_append_left _ hp)).1
  have hx : ObjOk X.prog X.w H1 s1.heap dd (.xd fs) := I1.hok dd _ ea
  obtain ⟨mA, hns, hr⟩ := hx
  obtain ⟨od, ho, hl⟩ := lookIn_ns hns
  have hn := hr n
  rw [l] at hn
  obtain ⟨w', hw, rw'⟩ := RelO.some_of hn
  exact HandSPX.exc_get I1.kIn (inst_some hz hf hget ho) T.ga T.gg T.exC (PySem.W.findObj_own T.hdC hno rfl (by rw [hl, hw])) (handed_of rw') ⟨v, H1, I1.tok _, rw', q⟩
def tsMade (K : PySem.W.Frag) (C : Addr) : Addr → Value → Option Addr → TS := fun a cls ed => tRet (tIf (tTest (tOp (rEqX K) (tCB (rReprY K) (tCons (tXf a cls ed C "given" (tVar 2)) tNil)) (tCB (rReprY K) (tCons (tVar 1) tNil)))) (tC .non) (tC (.str "odd")))
theorem evh_ifH {Γ : Gam} {x : Exn} {ed : Option Addr} {tc ta tb : TE} {d : D} (hc : EvH tc Γ x ed (.bl true)) (h : EvH ta Γ x ed d) : EvH (tIf (tTest tc) ta tb) Γ x ed d := fun F σ W Q g hx k => hc F σ W _ g hx fun v H1 s1 l => ⟨true, l, h F σ (W.at H1) Q (g.same s1) (hx.same s1) fun v H s r => k v H (Same.trans s1 s) r⟩
theorem suitM {K : PySem.W.Frag} {C : Addr} {d : D} {z : Str} (h : RpD d z) (a : Addr) (ed : Option Addr) : RtS (tsMade K C a (.ref C) ed) [.unset, .val (.tag d), .val (.raw (.ref a))] ⟨C, [("given", d)]⟩ ed .non :=
  rts_ret (evh_ifH (evh_op (evh_reprY (evh_xf (x := ⟨C, [("given", d)]⟩) (ev_var rfl) rfl) h) (evh_reprY (Ev.held (ev_untag (ev_var rfl))) h) (eq_sb (decide_eq_true rfl))) (Ev.held ev_non))
end K31

namespace K31
open PySem PySem.Spec PyProof.Rows L2 Dw
variable [Tabs0]
theorem made_gv {X : Cx} (T : Txt X.K X.w X.mg) (cdg : Value) {q : Str} (hr : Room 3 X.A) (hG : X.A.guards = some []) :
    GivesTo2 X N__law_made_of "_law_made_of" (defScope s__law_made_of) T.f__law_made_of cdg (defBody s__law_made_of) "_law_act" q (TMade X.K (.ref T.C_InvalidText) N__law_made_of 2 (tsMade X.K T.C_InvalidText)) := by
  refine made_gives (Ng := N__law_made_of) (ie := 2) sc__law_made_of.nd rfl rfl rfl T.m_InvalidText rfl (fun _ _ => rfl) fun s H a oe cls d pn hz hf => ?_
  have hr0 := L2H.RoomH.deeper (L2H.roomH_of hr) (envOfC "_law_made_of" (defScope s__law_made_of) s.heap.objs.size T.f__law_made_of cdg)
  have hrH : L2H.RoomH (3 - 1) ((X.A.deeper (envOfC "_law_made_of" (defScope s__law_made_of) s.heap.objs.size T.f__law_made_of cdg)).mark (some (.ref a))) := ⟨hr0.dp, hr0.un⟩
  exact pss_one (ps_ret (pe_ifExp (pt_cmpR (eqA X.K hrH.units) (pe_callB (reprHY X.K hrH hG) (by rfl) T.n_repr (by decide +kernel) (pa_cons (pe_xfA List.mem_cons_self T.xf_InvalidText T.xn_InvalidText_given hz hf (pv 2)) pa_nil)) (pe_callB (reprHY X.K hrH hG) (by rfl) T.n_repr (by decide +kernel) (pa_cons (pv 1) pa_nil)) (nomark _)) pe_non pe_str))

end K31

namespace K31
open PySem PySem.Spec PyProof.Rows L2 Dw
variable [Tabs0]
/-! what the law asks of a page, or of a thing that is none -/
inductive PgD : D → Prop
  | str (l : List Nat) (h : PgOk l 15000) : PgD (.str (tx l))
  | odd (d : D) (h : AnyOk d) (hs : isStrB d = false) (z : Str) (hz : RpD d z) : PgD d
theorem rp_str {l : List Nat} (h : PgOk l 15000) : RpD (.str (tx l)) (PyData.shown (py (.str (tx l)))) := by
  have := h.len
  refine .inl ⟨0, by decide, okS_tx fun c hc => by have := h.all c hc; omega, rfl, ?_, rfl⟩
  show 10 * (tx l).length + 2 ≤ sizeLine
  rw [tx_len]
  exact Nat.le_trans (show 10 * l.length + 2 ≤ 150002 by omega) (by decide)
theorem PgD.any {d : D} (h : PgD d) : AnyOk d := by
  cases h with
  | str l h => exact pg_any h (Nat.le_refl _)
  | odd d h _ _ _ => exact h
theorem PgD.rp {d : D} (h : PgD d) : ∃ z, RpD d z := by
  cases h with
  | str l h => exact ⟨_, rp_str h⟩
  | odd d _ _ z hz => exact ⟨z, hz⟩
def spIsRight : Spc where
  ty := D
  args := fun d => [.tag d]
  ok := PgD
  rel := fun _ d => d = .bl true
theorem gnone {α : Type} {l : List (Option α)} (h : none ∉ l) (a : α) (f : α → D) (g : Option α → D) (hg : ∀ x, g (some x) = f x) : l.map g = (l.map fun o => o.getD a).map f := by
  rw [List.map_map]
  refine List.map_congr_left fun o ho => ?_
  cases o with
  | none => exact absurd ho h
  | some x => exact hg x
structure VOk (c : VeilV) : Prop where
  names : NamesOk c.1
  same : c.2.1.length = c.1.length
  wide : ∀ m ∈ c.2.1, m.length ≤ 8
  marks : ∀ m ∈ c.2.1, ∀ p ∈ m, p.1 < 100 ∧ p.2 < 100
theorem veil_some {l : List Nat} {c : VeilV} (h : veilQ l = some c) : c = (headsL (partsL l), strN (partsL l), manyL (partsL l)) ∧ (partsL l).length ≤ 8 ∧ rdD true l = .lst ((partsL l).map (fD true)) ∧ VOk c ∧ (partsL l).map (fun ws => D.tup ((pO true ws).map prP)) = vsD c.2.1 := by
  rw [veil_rd] at h
  by_cases hb : rdQ true l = true
  · rw [if_pos hb] at h
    have hr : rdD true l = .lst ((partsL l).map (fD true)) := by unfold rdD; rw [if_pos hb]
    unfold rdQ candB wideB allPB at hb
    rw [Bool.and_eq_true, Bool.and_eq_true, Bool.and_eq_true, Bool.and_eq_true, Bool.and_eq_true, Bool.and_eq_true, decide_eq_true_eq, decide_eq_true_eq, decide_eq_true_eq, decide_eq_true_eq, List.all_eq_true, List.all_eq_true] at hb
    obtain ⟨⟨⟨a1, a2⟩, a3⟩, ⟨⟨b1, b2⟩, b3⟩, b4⟩ := hb
    have ep : ∀ ws : Prt, pO true ws = strO ws := fun ws => rfl
    have hno : ∀ ws ∈ partsL l, none ∉ strO ws := fun ws hw => by
      have := b4 ws hw
      rw [ep] at this
      simpa using this
    have lh : (headsL (partsL l)).length = (partsL l).length := List.length_map ..
    refine ⟨(Option.some.inj h).symm, a2, hr, ?_, ?_⟩
    · rw [← Option.some.inj h]
      refine ⟨names_some (fun e => by have e : headsL (partsL l) = [] := e; rw [e] at lh; have : (partsL l).length = 0 := lh.symm; omega) (show (headsL (partsL l)).length ≤ 8 by omega) a3, ?_, fun m hm => ?_, fun m hm p hp => ?_⟩
      · show (strN (partsL l)).length = (headsL (partsL l)).length
        rw [lh]; exact List.length_map ..
      · obtain ⟨ws, hw, rfl⟩ := List.mem_map.mp hm
        have := of_decide_eq_true (b3 ws hw)
        rw [List.length_map]
        unfold strO
        rw [List.length_map, List.length_drop]; omega
      · obtain ⟨ws, hw, rfl⟩ := List.mem_map.mp hm
        obtain ⟨o, ho, rfl⟩ := List.mem_map.mp hp
        cases o with
        | none => exact absurd ho (hno ws hw)
        | some p =>
          obtain ⟨w, _, e⟩ := List.mem_map.mp ho
          exact strW_lt e
    · rw [← Option.some.inj h]
      show _ = (strN (partsL l)).map fun m => D.tup (m.map prD)
      unfold strN
      rw [List.map_map]
      refine List.map_congr_left fun ws hw => ?_
      exact congrArg D.tup (gnone (hno ws hw) (0, 0) prD prP fun _ => rfl)
  · rw [if_neg hb] at h; cases h
def dueV (n : Nat) : Str := Str.ofString "Veil of " ++ Str.ofString (toString (n : Int)) ++ Str.ofString " candidates"
theorem due_reprV : ∀ n : Nat, n < 9 → reprV n = dueV n ∧ PyData.strOk (dueV n) = true ∧ (Str.ofString "Veil of ").length + (Str.ofString (toString (n : Int))).length ≤ 100 ∧ (Str.ofString "Veil of " ++ Str.ofString (toString (n : Int))).length + (Str.ofString " candidates").length ≤ 100 ∧ (dueV n).length ≤ 100 := by decide +kernel
def toldV (l : List Nat) (c : VeilV) (z : D) : D := .lst [.str (tx l), .str (tx l), .str (dueV c.1.length), z, .tup (vsD c.2.1), .bl true]
theorem names_sh {ls : List (List Nat)} (h : ∀ l ∈ ls, NameOk l) (h8 : ls.length ≤ 8) : dOks 2 (nameD ls) = true ∧ shOks (nameD ls) = true ∧ shBs (nameD ls) ≤ 90 * ls.length := by
  clear h8
  induction ls with
  | nil => exact ⟨rfl, rfl, Nat.zero_le _⟩
  | cons a r ih =>
    obtain ⟨i1, i2, i3⟩ := ih fun l hl => h l (List.mem_cons_of_mem _ hl)
    have ha := h a List.mem_cons_self
    have h8 := ha.hi
    refine ⟨?_, ?_, ?_⟩
    · show (dOk 2 (.str (tx a)) && dOks 2 (nameD r)) = true
      rw [i1, show dOk 2 (.str (tx a)) = true from okS_tx fun c hc => by have := ha.all c hc; omega]; rfl
    · show (shOk (.str (tx a)) && shOks (nameD r)) = true
      rw [i2]; rfl
    · show 10 * (tx a).length + 2 + 2 + shBs (nameD r) ≤ 90 * (r.length + 1)
      rw [tx_len]; omega
theorem int_sh : ∀ k : Nat, k < 100 → shOk (.int (k : Nat)) = true ∧ shB (.int (k : Nat)) ≤ 10 := by decide +kernel
theorem prs_sh {o : List (Nat × Nat)} (h : ∀ p ∈ o, p.1 < 100 ∧ p.2 < 100) : dOks 1 (o.map prD) = true ∧ shOks (o.map prD) = true ∧ shBs (o.map prD) ≤ 32 * o.length := by
  induction o with
  | nil => exact ⟨rfl, rfl, Nat.zero_le _⟩
  | cons a r ih =>
    obtain ⟨i1, i2, i3⟩ := ih fun l hl => h l (List.mem_cons_of_mem _ hl)
    obtain ⟨h1, h2⟩ := h a List.mem_cons_self
    obtain ⟨s1, s2⟩ := int_sh a.1 h1
    obtain ⟨t1, t2⟩ := int_sh a.2 h2
    refine ⟨?_, ?_, ?_⟩
    · show ((true && (true && true)) && dOks 1 (r.map prD)) = true
      rw [i1]; rfl
    · show ((shOk (.int (a.1 : Nat)) && (shOk (.int (a.2 : Nat)) && true)) && shOks (r.map prD)) = true
      rw [i2, s1, t1]; rfl
    · show (shB (.int (a.1 : Nat)) + 2 + (shB (.int (a.2 : Nat)) + 2 + 0)) + 4 + 2 + shBs (r.map prD) ≤ 32 * (r.length + 1)
      omega
theorem vs_sh {ms : List (List (Nat × Nat))} (h : ∀ m ∈ ms, ∀ k ∈ m, k.1 < 100 ∧ k.2 < 100) (h8 : ∀ m ∈ ms, m.length ≤ 8) : dOks 2 (vsD ms) = true ∧ shOks (vsD ms) = true ∧ shBs (vsD ms) ≤ 300 * ms.length := by
  induction ms with
  | nil => exact ⟨rfl, rfl, Nat.zero_le _⟩
  | cons a r ih =>
    obtain ⟨i1, i2, i3⟩ := ih (fun l hl => h l (List.mem_cons_of_mem _ hl)) fun l hl => h8 l (List.mem_cons_of_mem _ hl)
    obtain ⟨s0, s1, s2⟩ := prs_sh (h a List.mem_cons_self)
    have h8 := h8 a List.mem_cons_self
    refine ⟨?_, ?_, ?_⟩
    · show (dOks 1 (a.map prD) && dOks 2 (vsD r)) = true
      rw [i1, s0]; rfl
    · show (shOks (a.map prD) && shOks (vsD r)) = true
      rw [i2, s1]; rfl
    · show shBs (a.map prD) + 4 + 2 + shBs (vsD r) ≤ 300 * (r.length + 1)
      omega
theorem told_sh {l : List Nat} {c : VeilV} {z : D} (hl : PgOk l 15000) (ho : VOk c) (hz : z = .tupN (nameD c.1) ∨ z = .tup (nameD c.1)) : RpD (toldV l c z) (PyData.shown (py (toldV l c (.tup (nameD c.1))))) := by
  have h8 := ho.names.hi
  obtain ⟨n1, n2, n3⟩ := names_sh ho.names.all h8
  obtain ⟨m1, m2, m3⟩ := vs_sh ho.marks ho.wide
  obtain ⟨d1, d2, d3, d4, d5⟩ := due_reprV c.1.length (by omega)
  have hs : PyData.strOk (tx l) = true := okS_tx fun c hc => by have := hl.all c hc; omega
  have hn := hl.len
  have hm8 := ho.same
  have ez : dOk 3 z = true ∧ shOk z = true ∧ shB z = shBs (nameD c.1) + 4 ∧ py z = py (.tup (nameD c.1)) := by
    rcases hz with rfl | rfl
    · exact ⟨n1, n2, rfl, rfl⟩
    · exact ⟨n1, n2, rfl, rfl⟩
  obtain ⟨z1, z2, z3, z4⟩ := ez
  refine .inl ⟨4, by decide, ?_, ?_, ?_, ?_⟩
  · show (dOk 3 (.str (tx l)) && (dOk 3 (.str (tx l)) && (dOk 3 (.str (dueV c.1.length)) && (dOk 3 z && (dOks 2 (vsD c.2.1) && (true && true)))))) = true
    rw [show dOk 3 (.str (tx l)) = true from hs, show dOk 3 (.str (dueV c.1.length)) = true from d2, z1, m1]; rfl
  · show (true && (true && (true && (shOk z && (shOks (vsD c.2.1) && (true && true)))))) = true
    rw [z2, m2]; rfl
  · show (10 * (tx l).length + 2) + 2 + ((10 * (tx l).length + 2) + 2 + ((10 * (dueV c.1.length).length + 2) + 2 + (shB z + 2 + ((shBs (vsD c.2.1) + 4) + 2 + (5 + 2 + 0))))) + 4 ≤ sizeLine
    rw [tx_len, z3]
    exact Nat.le_trans (show _ ≤ 400000 by omega) (by decide)
  · unfold toldV
    show PyData.shown (.list [py (.str (tx l)), py (.str (tx l)), py (.str (dueV c.1.length)), py (.tup (nameD c.1)), py (.tup (vsD c.2.1)), py (.bl true)]) = PyData.shown (.list [py (.str (tx l)), py (.str (tx l)), py (.str (dueV c.1.length)), py z, py (.tup (vsD c.2.1)), py (.bl true)])
    rw [z4]
end K31

namespace K31
open PySem PySem.Spec PyProof.Rows L2 Dw
variable [Tabs0]
theorem isN_non {d : D} (h : d = .non) : DR2 rIsNone d .non (.bl true) := dr2_isN fun W v r => by rw [h] at r; exact decide_eq_true r
theorem isN_lst {ds : List D} : DR2 rIsNone (.lst ds) .non (.bl false) := dr2_isN fun W v ⟨p, vs, e, _⟩ => by rw [e]; exact decide_eq_false fun h => nomatch h
theorem isN_obj {C : Addr} {ns : List Str} {ds : List D} : DR2 rIsNone (.obj C ns ds) .non (.bl false) := dr2_isN fun W v ⟨p, dx, vs, e, _⟩ => by rw [e]; exact decide_eq_false fun h => nomatch h
theorem names_eq (l : List Nat) : (partsL l).map (fun ws => D.str (tx (ws.headD []))) = nameD (headsL (partsL l)) := by
  unfold nameD headsL
  rw [List.map_map]; rfl
theorem isnt_non {d : D} (h : d = .non) : DR2 (fun x y H Q => y = V.non ∧ Q (.bl (!decide (x = V.non))) H) d .non (.bl false) := dr2_flat fun W u v Q r1 r2 k => ⟨r2, by
  rw [h] at r1
  rw [show u = V.non from r1]; exact k _ rfl⟩
theorem isnt_lst {ds : List D} : DR2 (fun x y H Q => y = V.non ∧ Q (.bl (!decide (x = V.non))) H) (.lst ds) .non (.bl true) := dr2_flat fun W u v Q ⟨p, vs, e, _⟩ r2 k => ⟨r2, by
  rw [decide_eq_false (show ¬ u = V.non by rw [e]; exact fun h => nomatch h)]; exact k _ rfl⟩
end K31

namespace K31
open PySem PySem.Spec PyProof.Rows L2 Dw
variable [Tabs0]
theorem d__law_is_right {P : Program} {w : World} {K : PySem.W.Frag} {mg : Str → Option Value} {base : Heap} (T : Txt K w mg) (TB__law_is_right : LamX.TabB base mg T.lc__law_is_right T.lt__law_is_right) : FnG P w K mg base 10 T.f__law_is_right T.e__law_is_right ["_law_page"] (spIsRight) := by
  obtain ⟨oc, od, kV, doc, pm, an, cdvT, ct, osl, eT, lkT, cdT⟩ := T.F__law_made_of.ex
  have bT := T.b__law_made_of
  rw [eT] at lkT bT
  refine fnGC_ok T.FC__law_is_right sc__law_is_right (fun _ => rfl) fun A outer s' H E hr hG => ?_
  refine ⟨_, (pss_cons (ps_set (i := 1) sc__law_is_right.nd rfl (Or.inl rfl) (pe_ifExp (truA K (pe_callB (isiA K) (by rfl) T.n_isinstance (by decide +kernel) (pa_cons (pv 0) (pa_cons (pe_bltn (v := .ty "str") (by rfl) T.n_str (by decide +kernel) rfl) pa_nil)))) (pe_call (d__law_read T) (hr.mono (by decide)) (by rfl) T.m__law_read T.F__law_read.kp T.b__law_read .nil pass0 (pa_cons (pv 0) (pa_cons pe_bl pa_nil))) pe_non)) (pss_cons (ps_set (i := 2) sc__law_is_right.nd rfl (Or.inl rfl) (pe_lamcall5 (T := T.tts) (c := T.lc__law_is_right) (P := T.lt__law_is_right) (k := 7) (j := 0) (by rfl) T.m__law_made_of T.F__law_made_of.kp lkT cdT bT sc__law_made_of rfl (Or.inl rfl) (made_gv (X := (cxOf CX0 P w K mg base N__law_is_right "_law_is_right" (defScope s__law_is_right) T.f__law_is_right (.ref T.lc__law_is_right) A outer s' H E).nox) T cdvT (hr.mono (by decide)) hG) (pa_cons (pv 0) pa_nil) TB__law_is_right rfl T.hm__law_is_right (T.tabs.uniq T.hm__law_is_right) (hr.mono (by decide)) (show LamX.LamS (defScope s__law_is_right) _ from LamX.lamS_by (by decide +kernel)) rfl (fun _ _ _ _ _ => rfl) (fun A1 outer1 s1 H1 E f1 c1 hr => (pe_make (E := E) T.mk_Veil (d_Veil___init__ T) (hr.mono (by decide)) (by rfl) T.m_Veil T.b_Veil___init__ .nil (passes_call (takes_of rfl rfl rfl rfl) fun _ _ _ _ h => h) (pa_cons (pv 0) pa_nil))))) (pss_cons (ps_if (PW.pt (pw_or (pt_cmpR op_isN (pv 1) pe_non (nomark _)) (pw_or1 (pt_cmpR op_isN (pv 2) pe_non (nomark _))))) (pss_one (ps_ret (pe_and (pe_cmpR op_isN (pv 1) pe_non (nomark _)) (pe_one (pe_cmpR op_isN (pv 2) pe_non (nomark _)))))) pss_nil) (pss_cons (ps_set (i := 3) sc__law_is_right.nd rfl (Or.inl rfl) (pe_lst (pa_cons (pe_prop (pv 2) T.cl_Veil T.p_Veil_text (d_Veil_text T) (hr.mono (by decide)) T.b_Veil_text .nil pass0 rfl) (pa_cons (pe_callTy (cr_strOwn (d_Veil___str__ T) (hr.mono (by decide)) T.os_Veil T.is_Veil T.b_Veil___str__) (by rfl) T.n_str (by decide +kernel) (pa_cons (pv 2) pa_nil)) (pa_cons (pe_callB (cr_reprOwn (d_Veil___repr__ T) (hr.mono (by decide)) T.or_Veil T.ir_Veil T.b_Veil___repr__) (by rfl) T.n_repr (by decide +kernel) (pa_cons (pv 2) pa_nil)) (pa_cons (pe_prop (pv 2) T.cl_Veil T.p_Veil_names (d_Veil_names T) (hr.mono (by decide)) T.b_Veil_names .nil pass0 rfl) (pa_cons (pe_prop (pv 2) T.cl_Veil T.p_Veil_marks (d_Veil_marks T) (hr.mono (by decide)) T.b_Veil_marks .nil pass0 rfl) (pa_cons (pe_callTy (cr_boolOwn T.ob_Veil T.ol_Veil) (by rfl) T.n_bool (by decide +kernel) (pa_cons (pv 2) pa_nil)) pa_nil)))))))) (pss_cons (ps_set (i := 4) sc__law_is_right.nd rfl (Or.inl rfl) (pe_lst (pa_cons (pv 0) (pa_cons (pv 0) (pa_cons (pe_op (plusE K) (pe_op (plusE K) pe_str (pe_callTy call_str_int (by rfl) T.n_str (by decide +kernel) (pa_cons (pe_callB (lenA K) (by rfl) T.n_len (by decide +kernel) (pa_cons (pv 1) pa_nil)) pa_nil))) pe_str) (pa_cons (pe_callTy (tupleA K) (by rfl) T.n_tuple (by decide +kernel) (pa_cons (pe_lc (own := [("_law_tag", 5), ("_law_pairs", 6)]) rfl sc__law_is_right.nd (piR K (pv 1)) (blkOk_by (own := [("_law_tag", 5), ("_law_pairs", 6)]) (N := N__law_is_right) (sc := (defScope s__law_is_right)) (by decide +kernel)) (fun _ _ _ _ _ => tupA K 2 rfl (pgs_cons (pg_name (i := 5) sc__law_is_right.nd rfl (Or.inl rfl)) (pgs_cons (pg_name (i := 6) sc__law_is_right.nd rfl (Or.inl rfl)) pgs_nil))) (fun _ _ _ _ _ => pts_nil) (fun _ _ _ _ _ => (pv 5))) pa_nil)) pa_nil)))))) (pss_cons (ps_if (PW.pt (pw_and (pt_cmpR op_notN (pe_call (d__law_read T) (hr.mono (by decide)) (by rfl) T.m__law_read T.F__law_read.kp T.b__law_read .nil pass0 (pa_cons (pv 0) (pa_cons pe_bl pa_nil))) pe_non (nomark _)) (pw_and1 (PW.pt (pw_or (pt_cmpR (op_eqOwnO (d_Veil___eq__ T) (hr.mono (by decide)) T.oe_Veil T.ie_Veil T.b_Veil___eq__) (pv 2) (pe_make (E := fun _ _ _ => False) T.mk_Case (d_Case___init__ T) (hr.mono (by decide)) (by rfl) T.m_Case T.b_Case___init__ .nil (passes_call LamX.takes0 fun _ _ _ _ h => h) (pa_cons (pv 0) pa_nil)) (nomark _)) (pw_or1 (pt_cmpR (op_eqOwnO (d_Case___eq__ T) (hr.mono (by decide)) T.oe_Case T.ie_Case T.b_Case___eq__) (pe_make (E := fun _ _ _ => False) T.mk_Case (d_Case___init__ T) (hr.mono (by decide)) (by rfl) T.m_Case T.b_Case___init__ .nil (passes_call LamX.takes0 fun _ _ _ _ h => h) (pa_cons (pv 0) pa_nil)) (pv 2) (nomark _)))))))) (pss_one (ps_ret pe_bl)) pss_nil) (pss_one (ps_ret (pe_cmpR (eqA K hr.units) (pe_callB (reprY K hr hG) (by rfl) T.n_repr (by decide +kernel) (pa_cons (pv 3) pa_nil)) (pe_callB (reprY K hr hG) (by rfl) T.n_repr (by decide +kernel) (pa_cons (pe_op (plusE K) (pv 4) (pe_lst (pa_cons (pe_callTy (tupleA K) (by rfl) T.n_tuple (by decide +kernel) (pa_cons (pe_lc (own := [("_law_tag", 5), ("_law_pairs", 6)]) rfl sc__law_is_right.nd (piR K (pv 1)) (blkOk_by (own := [("_law_tag", 5), ("_law_pairs", 6)]) (N := N__law_is_right) (sc := (defScope s__law_is_right)) (by decide +kernel)) (fun _ _ _ _ _ => tupA K 2 rfl (pgs_cons (pg_name (i := 5) sc__law_is_right.nd rfl (Or.inl rfl)) (pgs_cons (pg_name (i := 6) sc__law_is_right.nd rfl (Or.inl rfl)) pgs_nil))) (fun _ _ _ _ _ => pts_nil) (fun _ _ _ _ _ => (pv 6))) pa_nil)) (pa_cons pe_bl pa_nil)))) pa_nil)) (nomark _)))))))))), fun x hx => ?_⟩
  obtain ⟨d, rfl⟩ : ∃ e : D, e = x := ⟨x, rfl⟩
  have hd : PgD d := hx
  have ha := hd.any
  obtain ⟨z, hz⟩ := hd.rp
  cases hc : veilOf d with
  | none =>
    refine ds_seq (ds_asg (Ev.dl (d := .non) ?fk ?_))
    case fk =>
      cases hd with
      | str l h =>
        have e : rdD true l = .non := by
          rw [veilOf_t, veil_rd] at hc
          refine (rd_no ?_).symm
          cases q : rdQ true l with
          | false => rfl
          | true => rw [q] at hc; cases hc
        refine ev_cast (d := if true = true then rdD true l else .non) e (ev_if (a := true) (evt_tru_bl (ev_isi (ev_untag (ev_var rfl)) ev_raw (.inl rfl) (.ty "str") rfl)) (fun _ => ev_call (s := spLRead) (x := (true, l)) (eva_cons (ev_untag (ev_var rfl)) (eva_cons ev_bl eva_nil)) rfl h.len fun d h => h) fun h => ?_)
        exact nomatch h
      | odd d h hs z hz =>
        refine ev_cast (d := if false = true then .non else .non) rfl (ev_if (a := false) (evt_tru_bl (ev_isi (ev_untag (ev_var rfl)) ev_raw (.inl h.1) (.ty "str") (by rw [kit_str h.1, hs]))) (fun h => ?_) fun _ => ev_non)
        exact nomatch h
    show Ds _ [.val (.tag d), .val .non, .unset, .unset, .unset, .unset, .unset] _
    refine ds_seq (ds_asg (dl_made_exc (i := 0) (x := ⟨T.C_InvalidText, [("given", d)]⟩) (d := .non) T.tabs T.hm__law_is_right rfl TgS.tag rfl (fun E => ert_make (sx := spVInX T.C_InvalidText) (x := d) (eva_cons (ev_untag (ev_var rfl)) eva_nil) ⟨ha, hc⟩ fun ed H' h => h) T.xe_InvalidText (fun _ _ => rfl) (suitM hz) ?_))
    refine ds_seq (ds_if (EvT.dl (b := true || false) (evt_or (a := true) (b := false) (evt_test (ev_op (ev_var (d := .non) rfl) ev_non (isN_non rfl))) fun h => nomatch h) ⟨fun _ => ds_ret (Ev.dl (ev_andV (a := true) (b := true) (ev_op (ev_var (d := .non) rfl) ev_non (isN_non rfl)) fun _ => ev_op (ev_var (d := .non) rfl) ev_non (isN_non rfl)) rfl), fun h => (nomatch h)⟩))
  | some c =>
    cases hd with
    | odd d h hs z hz => rw [veil_no hs] at hc; cases hc
    | str l h =>
      have hq : veilQ l = some c := by rw [veilOf_t] at hc; exact hc
      obtain ⟨ec, p8, er, ho, em⟩ := veil_some hq
      have e1 : c.1 = headsL (partsL l) := by rw [ec]
      have c8 : c.1.length = (partsL l).length := by rw [e1]; exact List.length_map ..
      obtain ⟨d1, d2, d3, d4, d5⟩ := due_reprV c.1.length (by omega)
      refine ds_seq (ds_asg (Ev.dl (d := .lst ((partsL l).map (fD true))) ?fk2 ?_))
      case fk2 =>
        refine ev_cast (d := if true = true then rdD true l else .non) er (ev_if (a := true) (evt_tru_bl (ev_isi (ev_untag (ev_var rfl)) ev_raw (.inl rfl) (.ty "str") rfl)) (fun _ => ev_call (s := spLRead) (x := (true, l)) (eva_cons (ev_untag (ev_var rfl)) (eva_cons ev_bl eva_nil)) rfl h.len fun d h => h) fun h => ?_)
        exact nomatch h
      refine ds_seq (ds_asg (dl_made_dl (i := 0) T.tabs T.hm__law_is_right rfl TgS.tag rfl (fun E => dl_make_or (ns := ["_text", "_names", "_marks"]) (s := spVIn) (dla_cons (Ev.dl (ev_untag (ev_var rfl)) (dla_nil ⟨(l, c), rfl, ⟨ha, hq⟩, fun es he => ?_⟩))))))
      have he : D.tup es = .tup [.str (tx l), .tupN (nameD c.1), .tup (vsD c.2.1)] := he
      injection he with he
      subst he
      show Ds _ [.val (.tag (.str (tx l))), .val (.lst ((partsL l).map (fD true))), .val (vasO T.C_Veil (l, c)), .unset, .unset, .unset, .unset] _
      refine ds_seq (ds_if (EvT.dl (b := false || false) (evt_or (a := false) (b := false) (evt_test (ev_op (ev_var (d := .lst ((partsL l).map (fD true))) rfl) ev_non isN_lst)) fun _ => evt_test (ev_op (ev_var (d := vasO T.C_Veil (l, c)) rfl) ev_non isN_obj)) ⟨fun h => (nomatch h), fun _ => ds_next ?_⟩))
      refine ds_seq (ds_asg (Ev.dl (d := toldV l c (.tupN (nameD c.1))) (EvN.ev (evn_lst (eva_cons (ev_prop (s := spWText T.C_Veil) (x := (l, c)) (ev_var rfl) rfl (np_vasO (r := []) rfl) trivial fun d h => h) (eva_cons (ev_own1 (s := spWText T.C_Veil) (x := (l, c)) (ev_var rfl) rfl (np_vasO (r := []) rfl) trivial fun d h => h) (eva_cons (ev_cast (congrArg D.str d1) (ev_own1 (s := spWRepr T.C_Veil) (x := (l, c)) (ev_var rfl) rfl (np_vasO (r := []) rfl) (by show c.1.length ≤ 8; omega) fun d h => h)) (eva_cons (ev_prop (s := spWNames T.C_Veil) (x := (l, c)) (ev_var rfl) rfl (np_vasO (r := []) rfl) trivial fun d h => h) (eva_cons (ev_prop (s := spWMarks T.C_Veil) (x := (l, c)) (ev_var rfl) rfl (np_vasO (r := []) rfl) trivial fun d h => h) (eva_cons (ev_boolOwn (ev_var rfl)) eva_nil)))))) (small (by simp)))) ?_))
      show Ds _ [.val (.tag (.str (tx l))), .val (.lst ((partsL l).map (fD true))), .val (vasO T.C_Veil (l, c)), .val (toldV l c (.tupN (nameD c.1))), .unset, .unset, .unset] _
      have lg : ((partsL l).map (fD true)).length = c.1.length := by rw [List.length_map, c8]
      have hzl : ((c.1.length : Nat) : Int).natAbs.log2 < 1920 := by
        rw [Int.natAbs_natCast]
        exact Nat.lt_of_le_of_lt (Nat.log2_le_self _) (by omega)
      refine ds_seq (ds_asg (Ev.dl (d := .lst [.str (tx l), .str (tx l), .str (dueV c.1.length), .tup (nameD c.1)]) (EvN.ev (evn_lst (eva_cons (ev_untag (ev_var rfl)) (eva_cons (ev_untag (ev_var rfl)) (eva_cons (ev_op (ev_op ev_str (ev_strK (ev_cast (congrArg (fun k : Nat => D.int k) lg) (ev_len (ds := (partsL l).map (fD true)) (ev_var rfl).b)) hzl) (pl_str (small (by omega)))) ev_str (pl_str (small (by omega)))) (eva_cons (ev_cast (congrArg D.tup (show (partsL l).map (fun ws => D.str (tx (ws.headD []))) = nameD c.1 by rw [e1]; exact names_eq l)) (ev_tuple (EvN.b (evn_lc1 (xs := partsL l) (c := fD true) (f := fun ws => .str (tx (ws.headD []))) (ej_list (ev_var rfl).b) (by omega) fun ws hw => ⟨[5] ++ [6], _, dg_tup2 dg_name dg_name, by decide, evt_yes, ev_var rfl⟩)))) eva_nil)))) (small (by simp)))) ?_))
      obtain ⟨du, edu⟩ : ∃ du : List D, du = [.str (tx l), .str (tx l), .str (dueV c.1.length), .tup (nameD c.1)] := ⟨_, rfl⟩
      show Ds _ [.val (.tag (.str (tx l))), .val (.lst ((partsL l).map (fD true))), .val (vasO T.C_Veil (l, c)), .val (toldV l c (.tupN (nameD c.1))), .val (.lst [.str (tx l), .str (tx l), .str (dueV c.1.length), .tup (nameD c.1)]), .unset, .unset] _
      cases q : rdQ false l with
      | false =>
        refine ds_seq (ds_if (EvT.dl (b := false && false) (evt_and (a := false) (b := false) (evt_test (ev_op (ev_call (s := spLRead) (x := (false, l)) (eva_cons (ev_untag (ev_var rfl)) (eva_cons ev_bl eva_nil)) rfl h.len fun d h => h) ev_non (isnt_non (rd_no q).symm))) fun h => nomatch h) ⟨fun h => (nomatch h), fun _ => ds_next ?_⟩))
        exact ds_ret (Ev.dl (ev_op (ev_reprY (ev_var rfl) (told_sh h ho (.inl rfl))) (ev_reprY (d := toldV l c (.tup (nameD c.1))) (EvN.ev (pl_evn (ds := [.str (tx l), .str (tx l), .str (dueV c.1.length), .tup (nameD c.1)]) (es := [.tup (vsD c.2.1), .bl true]) (ev_var rfl).b (EvN.b (evn_lst (eva_cons (ev_cast (congrArg D.tup em) (ev_tuple (EvN.b (evn_lc1 (xs := partsL l) (c := fD true) (f := fun ws => .tup ((pO true ws).map prP)) (ej_list (ev_var rfl).b) (by omega) fun ws hw => ⟨[5] ++ [6], _, dg_tup2 dg_name dg_name, by decide, evt_yes, ev_var rfl⟩)))) (eva_cons ev_bl eva_nil)) (small (by simp)))) (small (by simp)))) (told_sh h ho (.inr rfl))) (eq_sb (decide_eq_true rfl))) rfl)
      | true =>
        obtain ⟨c', hq'⟩ : ∃ c', caseQ l = some c' := Option.isSome_iff_exists.mp (by rw [case_rd, q])
        have erf : rdD false l = .lst ((partsL l).map (fD false)) := by unfold rdD; rw [if_pos q]
        have np1 : noPs [vasO T.C_Veil (l, c), casO T.C_Case (l, c')] = true := np_vasO (np_casO rfl)
        have np2 : noPs [casO T.C_Case (l, c'), vasO T.C_Veil (l, c)] = true := np_casO (np_vasO rfl)
        refine ds_seq (ds_if (dlt_and (EvT.dl (b := true) (evt_test (ev_op (ev_cast erf (ev_call (s := spLRead) (x := (false, l)) (eva_cons (ev_untag (ev_var rfl)) (eva_cons ev_bl eva_nil)) rfl h.len fun d h => h)) ev_non isnt_lst)) ⟨fun _ => dlt_or (dlt_test (dl_eqOwnO (s := spWEq K T.C_Veil) (Ev.dl (ev_var (d := vasO T.C_Veil (l, c)) rfl) ⟨_, _, rfl, dl_make_or (ns := ["_text", "_names", "_marks"]) (s := spCIn) (dla_cons (Ev.dl (ev_untag (ev_var rfl)) (dla_nil ⟨(l, c'), rfl, ⟨ha, hq'⟩, fun es he => ?_⟩)))⟩))), fun h => (nomatch h)⟩)))
        have he : D.tup es = .tup [.str (tx l), .tupN (nameD c'.1), .tup (msD c'.2.1)] := he
        injection he with he
        subst he
        refine ⟨.inr ⟨_, _, _, rfl, T.sub_CV⟩, ((l, c), casO T.C_Case (l, c'), false), false, rfl, np1, .oth _ _ _ T.ins_Case (kit_noC T.cl_Veil.hd T.ct_Veil T.sub_CV T.ne_CV), fun d h => h, false, rfl, fun _ => ?_, fun h => (nomatch h)⟩
        refine dlt_test (dl_eqOwnO (s := spOEq K T.C_Case) (dl_make_or (ns := ["_text", "_names", "_marks"]) (s := spCIn) (dla_cons (Ev.dl (ev_untag (ev_var rfl)) (dla_nil ⟨(l, c'), rfl, ⟨ha, hq'⟩, fun es he => ?_⟩)))))
        have he : D.tup es = .tup [.str (tx l), .tupN (nameD c'.1), .tup (msD c'.2.1)] := he
        injection he with he
        subst he
        refine ⟨_, _, rfl, Ev.dl (ev_var (d := vasO T.C_Veil (l, c)) rfl) ⟨.inr ⟨_, _, _, rfl, T.sub_VC⟩, ((l, c'), vasO T.C_Veil (l, c), false), false, rfl, np2, .oth _ _ _ T.ins_Veil (kit_noC T.cl_Case.hd T.ct_Case T.sub_VC T.ne_VC), fun d h => h, false, rfl, (fun h => nomatch h), fun _ => ds_next ?_⟩⟩
        exact ds_ret (Ev.dl (ev_op (ev_reprY (ev_var rfl) (told_sh h ho (.inl rfl))) (ev_reprY (d := toldV l c (.tup (nameD c.1))) (EvN.ev (pl_evn (ds := [.str (tx l), .str (tx l), .str (dueV c.1.length), .tup (nameD c.1)]) (es := [.tup (vsD c.2.1), .bl true]) (ev_var rfl).b (EvN.b (evn_lst (eva_cons (ev_cast (congrArg D.tup em) (ev_tuple (EvN.b (evn_lc1 (xs := partsL l) (c := fD true) (f := fun ws => .tup ((pO true ws).map prP)) (ej_list (ev_var rfl).b) (by omega) fun ws hw => ⟨[5] ++ [6], _, dg_tup2 dg_name dg_name, by decide, evt_yes, ev_var rfl⟩)))) (eva_cons ev_bl eva_nil)) (small (by simp)))) (small (by simp)))) (told_sh h ho (.inr rfl))) (eq_sb (decide_eq_true rfl))) rfl)
end K31

namespace K31
open PySem PySem.Spec PyProof.Rows L2 Dw
variable [Tabs0]
/-! a page with something otherwise: only that it is a text, not much longer -/
def tot (ws : List (List Nat)) : Nat := (ws.map fun w => w.length + 1).sum
theorem tot_app (a b : List (List Nat)) : tot (a ++ b) = tot a + tot b := by unfold tot; rw [List.map_append, List.sum_append]
theorem tot_cut (ws : List (List Nat)) (k : Nat) : tot (ws.take k) + tot (ws.drop k) = tot ws := by rw [← tot_app, List.take_append_drop]
theorem tot_drop (ws : List (List Nat)) (k : Nat) : tot (ws.drop (k + 1)) ≤ tot (ws.drop k) := by
  have h := tot_cut (ws.drop k) 1
  rw [List.drop_drop] at h
  omega
theorem tot_one {ws : List (List Nat)} {w : List Nat} (h : w ∈ ws) : w.length + 1 ≤ tot ws := by
  induction ws with
  | nil => cases h
  | cons a r ih =>
    have e : tot (a :: r) = a.length + 1 + tot r := rfl
    rcases List.mem_cons.mp h with rfl | h
    · omega
    · have := ih h; omega
theorem tot_set : ∀ (ws : List (List Nat)) (a : Nat) (h : a < ws.length) (x : List Nat), tot (ws.set a x) + (ws[a].length + 1) = tot ws + (x.length + 1)
  | [], a, h, _ => absurd h (by simp)
  | w :: r, 0, _, x => by
    show x.length + 1 + tot r + (w.length + 1) = w.length + 1 + tot r + (x.length + 1)
    omega
  | w :: r, a + 1, h, x => by
    have h' : a < r.length := by simpa using h
    have ih := tot_set r a h' x
    show w.length + 1 + tot (r.set a x) + (r[a].length + 1) = w.length + 1 + tot r + (x.length + 1)
    omega
theorem tot_swap {ws : List (List Nat)} {a b : Nat} (ha : a < ws.length) (hb : b < ws.length) : tot ((ws.set a ws[b]).set b ws[a]) = tot ws := by
  have h1 := tot_set ws a ha ws[b]
  have hb' : b < (ws.set a ws[b]).length := by rw [List.length_set]; exact hb
  have h2 := tot_set (ws.set a ws[b]) b hb' ws[a]
  have e : (ws.set a ws[b])[b]'hb' = ws[b] := by
    by_cases q : a = b
    · subst q; rw [List.getElem_set_self]
    · rw [List.getElem_set_ne q]
  rw [e] at h2
  omega
theorem tot_spl (S : List Nat) : ∀ (k : Nat) (acc l : List Nat), tot (TL.spl S k acc l) ≤ acc.length + l.length + 1
  | k, acc, [] => by rw [TL.spl_nil]; exact Nat.le_refl _
  | 0, acc, c :: r => by
    cases h : TL.pre S (c :: r) with
    | true =>
      rw [TL.spl_hit h]
      have := tot_spl S (S.length - 1) [] r
      show acc.length + 1 + tot (TL.spl S (S.length - 1) [] r) ≤ acc.length + (r.length + 1) + 1
      simp at this
      omega
    | false =>
      rw [TL.spl_miss h]
      have := tot_spl S 0 (acc ++ [c]) r
      rw [List.length_append] at this
      show _ ≤ acc.length + (r.length + 1) + 1
      simp at this
      omega
  | k + 1, acc, c :: r => by
    have := tot_spl S k acc r
    show tot (TL.spl S k acc r) ≤ acc.length + (r.length + 1) + 1
    omega
theorem tot_len (ws : List (List Nat)) : ws.length ≤ tot ws := by
  induction ws with
  | nil => exact Nat.zero_le _
  | cons a r ih =>
    show r.length + 1 ≤ a.length + 1 + tot r
    omega
theorem tot_sum (ws : List (List Nat)) : ((ws.map tx).map (·.length)).sum ≤ tot ws := by
  induction ws with
  | nil => exact Nat.zero_le _
  | cons a r ih =>
    show (tx a).length + ((r.map tx).map (·.length)).sum ≤ a.length + 1 + tot r
    rw [tx_len]; omega
theorem join_tot {sep : List Nat} (hs : sep.length ≤ 2) : ∀ ws : List (List Nat), (TL.joinL sep ws).length ≤ 2 * tot ws
  | [] => Nat.zero_le _
  | [p] => by
    show p.length ≤ 2 * (p.length + 1 + 0)
    omega
  | p :: q :: r => by
    have ih := join_tot hs (q :: r)
    show (p ++ (sep ++ TL.joinL sep (q :: r))).length ≤ 2 * (p.length + 1 + tot (q :: r))
    rw [List.length_append, List.length_append]
    omega
theorem join_mem {sep : List Nat} {c : Nat} : ∀ ws : List (List Nat), c ∈ TL.joinL sep ws → c ∈ sep ∨ ∃ w ∈ ws, c ∈ w
  | [], h => absurd h (by simp [TL.joinL])
  | [p], h => .inr ⟨p, List.mem_cons_self, h⟩
  | p :: q :: r, h => by
    have h : c ∈ p ++ (sep ++ TL.joinL sep (q :: r)) := h
    rcases List.mem_append.mp h with h | h
    · exact .inr ⟨p, List.mem_cons_self, h⟩
    · rcases List.mem_append.mp h with h | h
      · exact .inl h
      · rcases join_mem (q :: r) h with h | ⟨w, hw, h⟩
        · exact .inl h
        · exact .inr ⟨w, List.mem_cons_of_mem _ hw, h⟩
/-- words of plain signs -/
def Pls (ws : List (List Nat)) : Prop := ∀ w ∈ ws, ∀ c ∈ w, c < 128
theorem Pls.app {a b : List (List Nat)} (h1 : Pls a) (h2 : Pls b) : Pls (a ++ b) := fun w hw => (List.mem_append.mp hw).elim (h1 w) (h2 w)
theorem Pls.take {a : List (List Nat)} (h : Pls a) (k : Nat) : Pls (a.take k) := fun w hw => h w (List.mem_of_mem_take hw)
theorem Pls.drop {a : List (List Nat)} (h : Pls a) (k : Nat) : Pls (a.drop k) := fun w hw => h w (List.mem_of_mem_drop hw)
theorem Pls.set {a : List (List Nat)} (h : Pls a) (k : Nat) {x : List Nat} (hx : ∀ c ∈ x, c < 128) : Pls (a.set k x) := fun w hw => (List.mem_or_eq_of_mem_set hw).elim (h w) fun e => by rw [e]; exact hx
theorem pls_spl {S l : List Nat} {m : Nat} (h : PgOk l m) : Pls (TL.spl S 0 [] l) := fun w hw c hc => h.all c (by simpa using (spl_sub S 0 [] l w hw).2 c hc)
theorem pg_join {sep : List Nat} {ws : List (List Nat)} {B : Nat} (hs : sep.length ≤ 2) (hc : ∀ c ∈ sep, c < 128) (h : Pls ws) (ht : 2 * tot ws ≤ B) : PgOk (TL.joinL sep ws) B :=
  ⟨Nat.le_trans (join_tot hs ws) ht, fun c hm => (join_mem ws hm).elim (hc c) fun ⟨w, hw, q⟩ => h w hw c q⟩
def spBentC : Spc where
  ty := List Nat × Nat
  args := fun x => [.purse, .str (tx x.1)]
  ok := fun x => PgOk x.1 x.2 ∧ x.2 ≤ 3000
  rel := fun x d => ∃ l, d = .str (tx l) ∧ PgOk l (4 * x.2 + 40)
theorem spaceJ : Str.ofString " " = tx [32] := by decide +kernel
/-- sep.join(words) -/
theorem ev_joinW {Γ : Gam} {ta tb : TE} {sep : List Nat} {K : PySem.W.Frag} {ws : List (List Nat)} {s : Str} (es : s = tx sep) (hs : sep.length ≤ 2) (h0 : Ev ta Γ (.str s)) (h : EvB tb Γ (nameD ws)) (ht : tot ws ≤ 1000000) : Ev (tM1 (rJoin K) ta tb) Γ (.str (tx (TL.joinL sep ws))) := by
  have e : Txt.join s (ws.map tx) = tx (TL.joinL sep ws) := by rw [es]; exact join_tx sep ws
  rw [← e]
  refine ev_join (ys := ws.map tx) h0 (by rw [nameD_map]; exact h) ?_
  have h1 := tot_sum ws
  have h2 := tot_len ws
  rw [List.length_map, es, tx_len]
  have : ws.length * sep.length ≤ ws.length * 2 := Nat.mul_le_mul_left _ hs
  omega
theorem nmD_take (ws : List (List Nat)) (k : Nat) : Dw.cutD (nameD ws) none (some (k : Int)) = nameD (ws.take k) := by rw [cut_take]; unfold nameD; rw [List.map_take]
theorem nmD_drop (ws : List (List Nat)) (k : Nat) : Dw.cutD (nameD ws) (some (k : Int)) none = nameD (ws.drop k) := by rw [cut_drop]; unfold nameD; rw [List.map_drop]
theorem nmD_set (ws : List (List Nat)) (k : Nat) (x : List Nat) : (nameD ws).set k (.str (tx x)) = nameD (ws.set k x) := by unfold nameD; rw [List.map_set]
theorem nmD_app (a b : List (List Nat)) : nameD a ++ nameD b = nameD (a ++ b) := by unfold nameD; rw [List.map_append]
theorem nmD_at {ws : List (List Nat)} {k : Nat} (h : k < ws.length) : atI (nameD ws) (k : Int) = some (.str (tx ws[k])) := atI_nat (by unfold nameD; rw [List.getElem?_map, List.getElem?_eq_getElem h]; rfl)
def sgL : List Nat := [32, 59, 48, 97, 57, 45, 122, 49]
theorem sgL_S : Str.ofString " ;0a9-z1" = tx sgL := by decide +kernel
theorem sgL_lt : ∀ q < 8, sgn sgL q < 128 := by decide +kernel
def smS : List Str := ["0", "99", "100", "07", "1-2", "2-1", "3-3", "-1", "1-", "zzz", "none", "", "0-99", "1-2-3", "A", "1;"]
def smL : List (List Nat) := smS.map fun s => s.cps.toList
theorem smL_D : smS.map D.str = nameD smL := by
  unfold nameD smL
  rw [List.map_map]
  exact List.map_congr_left fun s _ => congrArg D.str (of_tx s)
theorem smL_ok : ∀ w ∈ smL, w.length ≤ 5 ∧ ∀ c ∈ w, c < 128 := by decide +kernel
end K31

namespace K31
open PySem PySem.Spec PyProof.Rows L2 Dw
variable [Tabs0]
theorem d__law_bent_page {P : Program} {w : World} {K : PySem.W.Frag} {mg : Str → Option Value} {base : Heap} (T : Txt K w mg) : FnOk P w K mg base CX0 2 T.f__law_bent_page T.e__law_bent_page ["_law_jar", "_law_page"] (toSp (spBentC)) := by
  refine fn_ok T.F__law_bent_page sc__law_bent_page (fun _ => rfl) fun cdv A outer s' H E hr => ?_
  refine ⟨_, (pss_cons (ps_par (i := 2) (j := 3) (by rfl) sc__law_bent_page.nd rfl rfl (by decide) rfl rfl (pa_cons (pe_call (d__law_dip T) (hr.mono (by decide)) (by rfl) T.m__law_dip T.F__law_dip.kp T.b__law_dip .nil pass0 (pa_cons (pv 0) (pa_cons pe_int pa_nil))) (pa_cons (pe_call (d__law_dip T) (hr.mono (by decide)) (by rfl) T.m__law_dip T.F__law_dip.kp T.b__law_dip .nil pass0 (pa_cons (pv 0) (pa_cons (pe_op (plusE K) (pe_callB (lenA K) (by rfl) T.n_len (by decide +kernel) (pa_cons (pv 1) pa_nil)) pe_int) pa_nil))) pa_nil)) (by rfl)) (pss_cons (ps_set (i := 4) sc__law_bent_page.nd rfl (Or.inl rfl) (pe_ix (ixA K) pe_str (pe_call (d__law_dip T) (hr.mono (by decide)) (by rfl) T.m__law_dip T.F__law_dip.kp T.b__law_dip .nil pass0 (pa_cons (pv 0) (pa_cons pe_int pa_nil))) (fun _ _ => rfl))) (pss_cons (ps_if (pt_cmpR opLt (pv 2) pe_int (nomark _)) (pss_one (ps_ret (pe_op (plusE K) (pe_op (plusE K) (pe_slice sl_str (pv 1) po_none (po_some (pv 3))) (pe_ifExp (pt_cmpR (eqA K hr.units) (pv 2) pe_int (nomark _)) pe_str (pv 4))) (pe_slice sl_str (pv 1) (po_some (pe_op (plusE K) (pv 3) (pe_ix (ixA K) (pe_lst (pa_cons pe_int (pa_cons pe_int (pa_cons pe_int pa_nil)))) (pv 2) (fun _ _ => rfl)))) po_none)))) pss_nil) (pss_cons (ps_set (i := 5) sc__law_bent_page.nd rfl (Or.inl rfl) (pe_split (pv 1) pe_str)) (pss_cons (ps_par (i := 6) (j := 7) (by rfl) sc__law_bent_page.nd rfl rfl (by decide) rfl rfl (pa_cons (pe_call (d__law_dip T) (hr.mono (by decide)) (by rfl) T.m__law_dip T.F__law_dip.kp T.b__law_dip .nil pass0 (pa_cons (pv 0) (pa_cons (pe_callB (lenA K) (by rfl) T.n_len (by decide +kernel) (pa_cons (pv 5) pa_nil)) pa_nil))) (pa_cons (pe_call (d__law_dip T) (hr.mono (by decide)) (by rfl) T.m__law_dip T.F__law_dip.kp T.b__law_dip .nil pass0 (pa_cons (pv 0) (pa_cons (pe_callB (lenA K) (by rfl) T.n_len (by decide +kernel) (pa_cons (pv 5) pa_nil)) pa_nil))) pa_nil)) (by rfl)) (pss_cons (ps_if (pt_cmpR (eqA K hr.units) (pv 2) pe_int (nomark _)) (pss_one (ps_ret (joinA K pe_str (pe_op (plusE K) (pe_slice (slXA K) (pv 5) po_none (po_some (pv 6))) (pe_slice (slXA K) (pv 5) (po_some (pe_op (plusE K) (pv 6) pe_int)) po_none))))) pss_nil) (pss_cons (ps_if (pt_cmpR (eqA K hr.units) (pv 2) pe_int (nomark _)) (pss_one (ps_ret (joinA K pe_str (pe_op (plusE K) (pe_op (plusE K) (pe_slice (slXA K) (pv 5) po_none (po_some (pv 6))) (pe_lst (pa_cons (pe_ix (ixA K) (pv 5) (pv 7) (fun _ _ => rfl)) pa_nil))) (pe_slice (slXA K) (pv 5) (po_some (pv 6)) po_none))))) pss_nil) (pss_cons (ps_if (pt_cmpR (eqA K hr.units) (pv 2) pe_int (nomark _)) (pss_cons (ps_asg (pe_tup (pa_cons (pe_ix (ixA K) (pv 5) (pv 7) (fun _ _ => rfl)) (pa_cons (pe_ix (ixA K) (pv 5) (pv 6) (fun _ _ => rfl)) pa_nil))) (tupA K 2 rfl (pgs_cons (pg_sub (pv 5) (pv 6) set_list) (pgs_cons (pg_sub (pv 5) (pv 7) set_list) pgs_nil)))) (pss_one (ps_ret (joinA K pe_str (pv 5))))) pss_nil) (pss_cons (ps_set (i := 8) sc__law_bent_page.nd rfl (Or.inl rfl) (pe_split (pv 1) pe_str)) (pss_cons (ps_set (i := 6) sc__law_bent_page.nd rfl (Or.inl rfl) (pe_call (d__law_dip T) (hr.mono (by decide)) (by rfl) T.m__law_dip T.F__law_dip.kp T.b__law_dip .nil pass0 (pa_cons (pv 0) (pa_cons (pe_callB (lenA K) (by rfl) T.n_len (by decide +kernel) (pa_cons (pv 8) pa_nil)) pa_nil)))) (pss_cons (ps_set (i := 9) sc__law_bent_page.nd rfl (Or.inl rfl) (pe_lst (pa_cons pe_str (pa_cons pe_str (pa_cons pe_str (pa_cons pe_str (pa_cons pe_str (pa_cons pe_str (pa_cons pe_str (pa_cons pe_str (pa_cons pe_str (pa_cons pe_str (pa_cons pe_str (pa_cons pe_str (pa_cons pe_str (pa_cons pe_str (pa_cons pe_str (pa_cons pe_str pa_nil)))))))))))))))))) (pss_cons (ps_if (pt_cmpR (eqA K hr.units) (pv 2) pe_int (nomark _)) (pss_one (ps_ret (joinA K pe_str (pe_op (plusE K) (pe_slice (slXA K) (pv 8) po_none (po_some (pv 6))) (pe_slice (slXA K) (pv 8) (po_some (pe_op (plusE K) (pv 6) pe_int)) po_none))))) pss_nil) (pss_one (ps_ret (pe_ifExp (pt_cmpR opLt (pv 2) pe_int (nomark _)) (joinA K pe_str (pe_op (plusE K) (pe_op (plusE K) (pe_slice (slXA K) (pv 8) po_none (po_some (pv 6))) (pe_lst (pa_cons (pe_ix (ixA K) (pv 9) (pe_call (d__law_dip T) (hr.mono (by decide)) (by rfl) T.m__law_dip T.F__law_dip.kp T.b__law_dip .nil pass0 (pa_cons (pv 0) (pa_cons pe_int pa_nil))) (fun _ _ => rfl)) pa_nil))) (pe_slice (slXA K) (pv 8) (po_some (pe_op op_sub (pe_op (plusE K) (pv 6) (pv 2)) pe_int)) po_none))) (pv 1)))))))))))))))), fun x hx => ?_⟩
  obtain ⟨l, m⟩ := x
  obtain ⟨h, hm⟩ := hx
  have h : PgOk l m := h
  have hm : m ≤ 3000 := hm
  have hl := h.len
  have hzs : (tx l).length ≤ sizeLine := by rw [tx_len]; exact small (by omega)
  have drw : ∀ {Γ : Gam} {ta : TA} {n : Nat} {Q : D → Gam → Prop}, (EvA ta Γ [.purse, .int n]) → 0 < n → n < 100000 → (∀ r : Nat, r < n → Q (.int r) Γ) → Dl (tCall (toSp spDraw) [] E0 ta) Γ Q := fun {Γ ta n Q} he h1 h2 hq => dl_call (s := spDraw) (EvA.dl he ⟨n, rfl, ⟨h1, h2⟩, fun d hd => by obtain ⟨r, hr, rfl⟩ := hd; exact hq r hr⟩)
  have e10 : (tx l).length = l.length := tx_len l
  refine ds_seq (ds_par (dla_cons (drw (n := 10) (eva_cons (ev_var rfl) (eva_cons ev_int eva_nil)) (by decide) (by decide) fun way hway => dla_cons (drw (n := l.length + 1) (eva_cons (ev_var rfl) (eva_cons (ev_cast (d' := .int ((l.length + 1 : Nat) : Int)) (congrArg D.int (by rw [e10]; rfl)) (ev_op (ev_lenS (ev_var rfl) hzs) ev_int pl_int)) eva_nil)) (by omega) (by omega) fun at_ hat => dla_nil ⟨_, _, rfl, ?_⟩))))
  show Ds _ [.val .purse, .val (.str (tx l)), .val (.int (way : Nat)), .val (.int (at_ : Nat)), .unset, .unset, .unset, .unset, .unset, .unset] _
  refine ds_seq (ds_asg (dl_op (Ev.dl (ev_cast (congrArg D.str sgL_S) ev_str) (drw (n := 8) (eva_cons (ev_var rfl) (eva_cons ev_int eva_nil)) (by decide) (by decide) fun q hq => ⟨.str (ch (sgn sgL q)), dr2_ixS (by decide +kernel) (sgn_at (l := sgL) (k := q) rfl hq), ?_⟩))))
  obtain ⟨c, ec⟩ : ∃ c, c = sgn sgL q := ⟨_, rfl⟩
  have hc : c < 128 := by rw [ec]; exact sgL_lt q hq
  rw [← ec]
  show Ds _ [.val .purse, .val (.str (tx l)), .val (.int (way : Nat)), .val (.int (at_ : Nat)), .val (.str (ch c)), .unset, .unset, .unset, .unset, .unset] _
  refine ds_seq (ds_if (EvT.dl (b := decide (way < 3)) (evt_test (ev_op (ev_var rfl) ev_int (lt_b (decide_eq_decide.mpr (by omega))))) ⟨fun h3 => ?a3, fun h3 => ds_next ?_⟩))
  case a3 =>
    have h3 : way < 3 := of_decide_eq_true h3
    obtain ⟨t, et, t1⟩ : ∃ t : Nat, [D.int 1, .int 0, .int 1][way]? = some (.int (t : Nat)) ∧ t ≤ 1 := by
      match way, h3 with
      | 0, _ => exact ⟨1, rfl, by decide⟩
      | 1, _ => exact ⟨0, rfl, by decide⟩
      | 2, _ => exact ⟨1, rfl, by decide⟩
    obtain ⟨s, es, s1, s2⟩ : ∃ s : List Nat, (if decide (way = 0) = true then D.str (Str.ofString "") else D.str (ch c)) = .str (tx s) ∧ s.length ≤ 1 ∧ ∀ z ∈ s, z < 128 := by
      by_cases h0 : way = 0
      · exact ⟨[], by rw [if_pos (decide_eq_true h0)]; exact congrArg D.str (show Str.ofString "" = tx [] by decide +kernel), by decide, fun z hz => nomatch hz⟩
      · exact ⟨[c], by rw [if_neg (by rw [decide_eq_true_eq]; exact h0)]; rfl, Nat.le_refl _, fun z hz => by rw [List.mem_singleton.mp hz]; exact hc⟩
    have lt : (l.take at_).length ≤ l.length := by rw [List.length_take]; omega
    have ld : (l.drop (at_ + t)).length ≤ l.length := by rw [List.length_drop]; omega
    have ls : (l.take at_).length + (l.drop (at_ + t)).length ≤ l.length := by rw [List.length_take, List.length_drop]; omega
    refine ds_ret (Ev.dl (ev_cast (d' := .str (tx ((l.take at_ ++ s) ++ l.drop (at_ + t)))) ?c1 (ev_op (ev_op (ev_cast (congrArg D.str (cutS_take l at_)) (ev_sliceS (ev_var rfl) hzs eo_none (eo_some (ev_var rfl)))) (ev_cast es (ev_if (a := decide (way = 0)) (evt_test (ev_op (ev_var rfl) ev_int (eq_ib (decide_eq_decide.mpr (by omega))))) (fun _ => ev_str) fun _ => ev_var rfl)) (pl_str ?z1)) (ev_cast (congrArg D.str (cutS_drop l (at_ + t))) (ev_sliceS (ev_var rfl) hzs (eo_some (ev_cast (d' := .int ((at_ + t : Nat) : Int)) rfl (ev_op (ev_var rfl) (ev_ix (ds := [.int 1, .int 0, .int 1]) (EvN.b (evn_lst (eva_cons ev_int (eva_cons ev_int (eva_cons ev_int eva_nil))) (small (by simp)))) (ev_var rfl) (atI_nat et)) pl_int))) eo_none)) (pl_str ?z2))) ⟨_, rfl, ?_⟩)
    case c1 => rw [tx_append, tx_append]
    case z1 => rw [tx_len, tx_len]; exact small (by omega)
    case z2 => rw [tx_append, tx_len, tx_len, List.length_append]; exact small (by omega)
    refine ⟨by rw [List.length_append, List.length_append]; omega, fun z hz => ?_⟩
    rcases List.mem_append.mp hz with hz | hz
    · rcases List.mem_append.mp hz with hz | hz
      · exact h.all z (List.mem_of_mem_take hz)
      · exact s2 z hz
    · exact h.all z (List.mem_of_mem_drop hz)
  have h3 : ¬ way < 3 := of_decide_eq_false h3
  -- the parts
  obtain ⟨ps, eps⟩ : ∃ ps, ps = semiL l := ⟨_, rfl⟩
  have pl : Pls ps := by rw [eps]; exact pls_spl h
  have pt : tot ps ≤ l.length + 1 := by
    have := tot_spl [59, 32] 0 [] l
    rw [eps]
    show tot (TL.spl [59, 32] 0 [] l) ≤ _
    simpa using this
  have pn : 0 < ps.length := by rw [eps]; exact List.length_pos_iff.mpr (spl_ne [59, 32] 0 [] l)
  have pz := tot_len ps
  have nl : ∀ ws : List (List Nat), (nameD ws).length = ws.length := fun ws => List.length_map ..
  refine ds_seq (ds_asg_own (i := 5) (ds := nameD ps) ?sp ?_)
  case sp =>
    have := evn_split (Γ := [.val .purse, .val (.str (tx l)), .val (.int (way : Nat)), .val (.int (at_ : Nat)), .val (.str (ch c)), .unset, .unset, .unset, .unset, .unset]) (a := tx l) (b := Str.ofString "; ") (ta := tVar 1) (tb := tC (.str "; ")) (ev_var rfl) ev_str (by decide +kernel) (by rw [tx_len]; exact small (by omega))
    rw [semiS_split, nameD_map, ← eps] at this
    exact this
  show Ds _ [.val .purse, .val (.str (tx l)), .val (.int (way : Nat)), .val (.int (at_ : Nat)), .val (.str (ch c)), .own (nameD ps), .unset, .unset, .unset, .unset] _
  have ob : ∀ {Γ : Gam} {ws : List (List Nat)}, Γ[5]? = some (.own (nameD ws)) → EvB (tVar 5) Γ (nameD ws) := fun h => evb_own h
  refine ds_seq (ds_par (dla_cons (drw (n := ps.length) (eva_cons (ev_var rfl) (eva_cons (ev_cast (congrArg (fun k : Nat => D.int k) (nl ps)) (ev_len (ds := nameD ps) (ob rfl))) eva_nil)) pn (by omega) fun k hk => dla_cons (drw (n := ps.length) (eva_cons (ev_var rfl) (eva_cons (ev_cast (congrArg (fun k : Nat => D.int k) (nl ps)) (ev_len (ds := nameD ps) (ob rfl))) eva_nil)) pn (by omega) fun j hj => dla_nil ⟨_, _, rfl, ?_⟩))))
  show Ds _ [.val .purse, .val (.str (tx l)), .val (.int (way : Nat)), .val (.int (at_ : Nat)), .val (.str (ch c)), .own (nameD ps), .val (.int (k : Nat)), .val (.int (j : Nat)), .unset, .unset] _
  have sm : ∀ z ∈ ([59, 32] : List Nat), z < 128 := by decide
  have sp1 : ∀ z ∈ ([32] : List Nat), z < 128 := by decide
  have cut := tot_cut ps k
  have cdr := tot_drop ps k
  refine ds_seq (ds_if (EvT.dl (b := decide (way = 3)) (evt_test (ev_op (ev_var rfl) ev_int (eq_ib (decide_eq_decide.mpr (by omega))))) ⟨fun _ => ?a4, fun g4 => ds_next ?_⟩))
  case a4 =>
    refine ds_ret (Ev.dl (ev_joinW (sep := [59, 32]) (ws := ps.take k ++ ps.drop (k + 1)) semiS (by decide) ev_str (EvN.b ?ev3) (by rw [tot_app]; omega)) ⟨_, rfl, pg_join (by decide) sm ((pl.take k).app (pl.drop (k + 1))) (by rw [tot_app]; omega)⟩)
    rw [← nmD_app, ← nmD_take, ← nmD_drop]
    exact pl_evn (EvN.b (evn_sliceY (ob rfl) eo_none (eo_some (ev_var rfl)))) (EvN.b (evn_sliceY (ob rfl) (eo_some (ev_cast (d' := .int ((k + 1 : Nat) : Int)) rfl (ev_op (ev_var rfl) ev_int pl_int))) eo_none)) (by rw [nmD_take, nmD_drop, nl, nl, List.length_take, List.length_drop]; exact small (by omega))
  refine ds_seq (ds_if (EvT.dl (b := decide (way = 4)) (evt_test (ev_op (ev_var rfl) ev_int (eq_ib (decide_eq_decide.mpr (by omega))))) ⟨fun _ => ?a5, fun g5 => ds_next ?_⟩))
  case a5 =>
    have hjt := tot_one (List.getElem_mem hj)
    have e1 : tot [ps[j]] = ps[j].length + 1 := rfl
    refine ds_ret (Ev.dl (ev_joinW (sep := [59, 32]) (ws := (ps.take k ++ [ps[j]]) ++ ps.drop k) semiS (by decide) ev_str (EvN.b ?ev4) (by rw [tot_app, tot_app]; omega)) ⟨_, rfl, pg_join (by decide) sm (((pl.take k).app fun w hw => by rw [List.mem_singleton.mp hw]; exact pl _ (List.getElem_mem hj)).app (pl.drop k)) (by rw [tot_app, tot_app]; omega)⟩)
    rw [← nmD_app, ← nmD_app, ← nmD_take, ← nmD_drop]
    refine pl_evn (EvN.b (pl_evn (EvN.b (evn_sliceY (ob rfl) eo_none (eo_some (ev_var rfl)))) (EvN.b (evn_lst (eva_cons (ev_ix (ob rfl) (ev_var rfl) (nmD_at hj)) eva_nil) (small (show 1 ≤ 100000 by decide)))) ?s1)) (EvN.b (evn_sliceY (ob rfl) (eo_some (ev_var rfl)) eo_none)) ?s2
    · rw [nmD_take, nl, List.length_take]
      exact small (show _ + 1 ≤ 100000 by omega)
    · rw [List.length_append, nmD_take, nmD_drop, nl, nl, nl, List.length_take, List.length_drop]
      exact small (show _ + 1 + _ ≤ 100000 by omega)
  refine ds_seq (ds_if (EvT.dl (b := decide (way = 5)) (evt_test (ev_op (ev_var rfl) ev_int (eq_ib (decide_eq_decide.mpr (by omega))))) ⟨fun _ => ?a6, fun g6 => ds_next ?_⟩))
  case a6 =>
    refine ds_seq (ds_swap (i := 5) (a := k) (b := j) (d1 := .str (tx ps[j])) (d2 := .str (tx ps[k])) rfl (by simp) (fun _ => ev_var rfl) (fun _ => ev_var rfl) (nmD_at hj) (nmD_at hk) (by rw [nl]; exact hk) (by rw [nl]; exact hj) ?_)
    rw [nmD_set, nmD_set]
    have es := tot_swap hk hj
    exact ds_ret (Ev.dl (ev_joinW (sep := [59, 32]) (ws := (ps.set k ps[j]).set j ps[k]) semiS (by decide) ev_str (ob rfl) (by omega)) ⟨_, rfl, pg_join (by decide) sm ((pl.set k (pl _ (List.getElem_mem hj))).set j (pl _ (List.getElem_mem hk))) (by omega)⟩)
  -- the words
  obtain ⟨ws, ews⟩ : ∃ ws, ws = TL.spl [32] 0 [] l := ⟨_, rfl⟩
  have wl : Pls ws := by rw [ews]; exact pls_spl h
  have wt : tot ws ≤ l.length + 1 := by
    have := tot_spl [32] 0 [] l
    rw [ews]
    simpa using this
  have wn : 0 < ws.length := by rw [ews]; exact List.length_pos_iff.mpr (spl_ne [32] 0 [] l)
  have wz := tot_len ws
  refine ds_seq (ds_asg (Ev.dl (d := .lst (nameD ws)) (EvN.ev ?sw) ?_))
  case sw =>
    have := evn_split (Γ := [.val .purse, .val (.str (tx l)), .val (.int (way : Nat)), .val (.int (at_ : Nat)), .val (.str (ch c)), .own (nameD ps), .val (.int (k : Nat)), .val (.int (j : Nat)), .unset, .unset]) (a := tx l) (b := Str.ofString " ") (ta := tVar 1) (tb := tC (.str " ")) (ev_var rfl) ev_str (by decide +kernel) (by rw [tx_len]; exact small (by omega))
    rw [show Txt.split (tx l) (Str.ofString " ") = ws.map tx by rw [ews, spaceJ]; exact SX.split_S (a := l) (b := [32]) (by simp) (by decide), nameD_map] at this
    exact this
  refine ds_seq (ds_asg (drw (n := ws.length) (eva_cons (ev_var rfl) (eva_cons (ev_cast (congrArg (fun k : Nat => D.int k) (nl ws)) (ev_len (ds := nameD ws) (ev_var rfl).b)) eva_nil)) wn (by omega) fun k2 hk2 => ?_))
  refine ds_seq (ds_asg (Ev.dl (d := .lst (nameD smL)) (ev_cast (congrArg D.lst smL_D) (EvN.ev (evn_lst (eva_cons ev_str (eva_cons ev_str (eva_cons ev_str (eva_cons ev_str (eva_cons ev_str (eva_cons ev_str (eva_cons ev_str (eva_cons ev_str (eva_cons ev_str (eva_cons ev_str (eva_cons ev_str (eva_cons ev_str (eva_cons ev_str (eva_cons ev_str (eva_cons ev_str (eva_cons ev_str eva_nil)))))))))))))))) (small (by decide))))) ?_))
  show Ds _ [.val .purse, .val (.str (tx l)), .val (.int (way : Nat)), .val (.int (at_ : Nat)), .val (.str (ch c)), .own (nameD ps), .val (.int (k2 : Nat)), .val (.int (j : Nat)), .val (.lst (nameD ws)), .val (.lst (nameD smL))] _
  have cutw := tot_cut ws k2
  have cdrw := tot_drop ws k2
  refine ds_seq (ds_if (EvT.dl (b := decide (way = 6)) (evt_test (ev_op (ev_var rfl) ev_int (eq_ib (decide_eq_decide.mpr (by omega))))) ⟨fun _ => ?a7, fun h6 => ds_next ?_⟩))
  case a7 =>
    refine ds_ret (Ev.dl (ev_joinW (sep := [32]) (ws := ws.take k2 ++ ws.drop (k2 + 1)) spaceJ (by decide) ev_str (EvN.b ?ev6) (by rw [tot_app]; omega)) ⟨_, rfl, pg_join (by decide) sp1 ((wl.take k2).app (wl.drop (k2 + 1))) (by rw [tot_app]; omega)⟩)
    rw [← nmD_app, ← nmD_take, ← nmD_drop]
    exact pl_evn (EvN.b (evn_sliceY (ev_var rfl).b eo_none (eo_some (ev_var rfl)))) (EvN.b (evn_sliceY (ev_var rfl).b (eo_some (ev_cast (d' := .int ((k2 + 1 : Nat) : Int)) rfl (ev_op (ev_var rfl) ev_int pl_int))) eo_none)) (by rw [nmD_take, nmD_drop, nl, nl, List.length_take, List.length_drop]; exact small (by omega))
  have g4 : ¬ way = 3 := of_decide_eq_false g4
  have g5 : ¬ way = 4 := of_decide_eq_false g5
  have g6 : ¬ way = 5 := of_decide_eq_false g6
  have h6 : ¬ way = 6 := of_decide_eq_false h6
  obtain ⟨t, ht⟩ : ∃ t : Nat, t = k2 + (way - 7) := ⟨_, rfl⟩
  refine ds_ret (dl_if (EvT.dl (b := decide (way < 9)) (evt_test (ev_op (ev_var rfl) ev_int (lt_b (decide_eq_decide.mpr (by omega))))) ⟨fun h9 => ?b1, fun _ => Ev.dl (ev_var rfl) ⟨l, rfl, ⟨by show l.length ≤ 4 * m + 40; omega, h.all⟩⟩⟩))
  have h9 : way < 9 := of_decide_eq_true h9
  have tdr : tot (ws.drop t) ≤ tot (ws.drop k2) := by
    by_cases e : way = 7
    · rw [ht, e]; exact Nat.le_refl _
    · rw [ht, show way - 7 = 1 by omega]; exact cdrw
  have l16 : smL.length = 16 := rfl
  refine dl_join (x := Str.ofString " ") ev_str (dl_op (dl_op (Ev.dl (ev_cast (congrArg D.lst (nmD_take ws k2)) (EvN.ev (evn_sliceY (ev_var rfl).b eo_none (eo_some (ev_var rfl))))) (dl_lst (dla_cons (dl_op (Ev.dl (ev_var (d := .lst (nameD smL)) rfl) (drw (n := 16) (eva_cons (ev_var rfl) (eva_cons ev_int eva_nil)) (by decide) (by decide) fun r hr => ⟨.str (tx (smL[r]'(by rw [l16]; exact hr))), dr2_ixL (nmD_at (by rw [l16]; exact hr)), dla_nil ⟨small (show 1 ≤ 100000 by decide), _, pl_lst ?u1, ?_⟩⟩))))))))
  case u1 =>
    rw [nl, List.length_take]
    exact small (show _ + 1 ≤ 100000 by omega)
  obtain ⟨w, ew⟩ : ∃ w, w = smL[r]'(by rw [l16]; exact hr) := ⟨_, rfl⟩
  have hw := smL_ok w (by rw [ew]; exact List.getElem_mem _)
  rw [← ew]
  have e1 : tot [w] = w.length + 1 := rfl
  have tt : tot ((ws.take k2 ++ [w]) ++ ws.drop t) ≤ tot ws + 6 := by
    rw [tot_app, tot_app, e1]; omega
  refine Ev.dl (ev_cast (congrArg D.lst (nmD_drop ws t)) (EvN.ev (evn_sliceY (ev_var rfl).b (eo_some (ev_cast (d' := .int (t : Nat)) (congrArg D.int (show (k2 : Int) + (way : Int) - 7 = ((t : Nat) : Int) by omega)) (ev_op (ev_op (ev_var rfl) (ev_var rfl) pl_int) ev_int dr2_sub))) eo_none))) ⟨_, pl_lst ?u2, ((ws.take k2 ++ [w]) ++ ws.drop t).map tx, ?l1, ?l2, TL.joinL [32] ((ws.take k2 ++ [w]) ++ ws.drop t), ?l3, ?l4⟩
  case u2 =>
    rw [List.length_append, nl, nl, List.length_take, List.length_drop]
    exact small (show _ + 1 + _ ≤ 100000 by omega)
  case l1 =>
    rw [nameD_map, ← nmD_app, ← nmD_app]; rfl
  case l2 =>
    have h1 := tot_sum ((ws.take k2 ++ [w]) ++ ws.drop t)
    have h2 := tot_len ((ws.take k2 ++ [w]) ++ ws.drop t)
    rw [List.length_map, spaceJ, tx_len]
    show _ + _ * 1 ≤ _
    omega
  case l3 =>
    rw [spaceJ]
    exact congrArg D.str (join_tx _ _)
  case l4 => exact pg_join (by decide) sp1 (((wl.take k2).app fun v hv => by rw [List.mem_singleton.mp hv]; exact hw.2).app (wl.drop t)) (by show _ ≤ 4 * m + 40; omega)
end K31

namespace K31
open PySem PySem.Spec PyProof.Rows L2 Dw
variable [Tabs0]
/-! veils that are drawn, and told -/
abbrev FV := List Nat × List (Nat × Nat)
def vpD (f : FV) : D := .tup [.str (tx f.1), .tup (f.2.map prD)]
structure FVOk (f : FV) : Prop where
  name : NameOk f.1
  len : f.2.length ≤ 8
  lt : ∀ p ∈ f.2, p.1 < 100 ∧ p.2 < 100
def spVeiled : Spc where
  ty := Nat × Nat × Nat
  args := fun x => [.purse, .int x.1, .int x.2.1, .int x.2.2]
  ok := fun x => 1 ≤ x.1 ∧ x.1 ≤ 8 ∧ 2 ≤ x.2.1 ∧ x.2.1 ≤ x.2.2 ∧ x.2.2 ≤ 8
  rel := fun x d => ∃ fs : List FV, d = .lst (fs.map vpD) ∧ fs.length ≤ 8 ∧ ∀ f ∈ fs, FVOk f
def pT (p : Nat × Nat) : List Nat := if p.1 = p.2 then TL.numL p.1 else (TL.numL p.1 ++ [45]) ++ TL.numL p.2
def wdsV (f : FV) : List (List Nat) := f.1 :: f.2.map pT
def pageV (fs : List FV) : List Nat := TL.joinL [59, 32] (fs.map fun f => TL.joinL [32] (wdsV f))
def spVPage : Spc where
  ty := List FV
  args := fun fs => [.lst (fs.map vpD)]
  ok := fun fs => fs.length ≤ 8 ∧ ∀ f ∈ fs, FVOk f
  rel := fun fs d => d = .str (tx (pageV fs))
theorem pT_ok {p : Nat × Nat} (h : p.1 < 100 ∧ p.2 < 100) : (pT p).length ≤ 8 ∧ ∀ c ∈ pT p, c < 128 := by
  have n1 := num_ok h.1
  have n2 := num_ok h.2
  have l1 := n1.hi
  have l2 := n2.hi
  have d1 : ∀ c ∈ TL.numL p.1, c < 128 := fun c hc => by have := n1.dig c hc; omega
  have d2 : ∀ c ∈ TL.numL p.2, c < 128 := fun c hc => by have := n2.dig c hc; omega
  unfold pT
  split
  · exact ⟨by omega, d1⟩
  · refine ⟨by rw [List.length_append, List.length_append]; show _ + 1 + _ ≤ 8; omega, fun c hc => ?_⟩
    rcases List.mem_append.mp hc with hc | hc
    · rcases List.mem_append.mp hc with hc | hc
      · exact d1 c hc
      · rw [List.mem_singleton.mp hc]; decide
    · exact d2 c hc
theorem wdsV_ok {f : FV} (h : FVOk f) : (∀ w ∈ wdsV f, w.length ≤ 8) ∧ Pls (wdsV f) ∧ (wdsV f).length ≤ 9 := by
  have hl := h.len
  refine ⟨fun w hw => ?_, fun w hw => ?_, by unfold wdsV; rw [List.length_cons, List.length_map]; omega⟩
  · rcases List.mem_cons.mp hw with rfl | hw
    · exact h.name.hi
    · obtain ⟨p, hp, rfl⟩ := List.mem_map.mp hw
      exact (pT_ok (h.lt p hp)).1
  · rcases List.mem_cons.mp hw with rfl | hw
    · exact fun c hc => by have := h.name.all c hc; omega
    · obtain ⟨p, hp, rfl⟩ := List.mem_map.mp hw
      exact (pT_ok (h.lt p hp)).2
theorem partV_len {f : FV} (h : FVOk f) : (TL.joinL [32] (wdsV f)).length ≤ 81 := by
  obtain ⟨w1, _, w3⟩ := wdsV_ok h
  have := joinL_lenB (m := 8) [32] (wdsV f) w1
  have : (wdsV f).length * (8 + [32].length) ≤ 9 * 9 := Nat.mul_le_mul w3 (by decide)
  omega
theorem pageV_ok {fs : List FV} (h8 : fs.length ≤ 8) (h : ∀ f ∈ fs, FVOk f) : PgOk (pageV fs) 664 := by
  refine ⟨?_, fun c hc => ?_⟩
  · have h1 := joinL_lenB (m := 81) [59, 32] (fs.map fun f => TL.joinL [32] (wdsV f)) fun p hp => by
      obtain ⟨f, hf, rfl⟩ := List.mem_map.mp hp
      exact partV_len (h f hf)
    rw [List.length_map] at h1
    have h2 : fs.length * (81 + [59, 32].length) ≤ 8 * 83 := Nat.mul_le_mul h8 (by decide)
    unfold pageV
    omega
  · rcases join_mem _ hc with hc | ⟨w, hw, hc⟩
    · have : ∀ z ∈ ([59, 32] : List Nat), z < 128 := by decide
      exact this c hc
    · obtain ⟨f, hf, rfl⟩ := List.mem_map.mp hw
      rcases join_mem _ hc with hc | ⟨v, hv, hc⟩
      · rw [List.mem_singleton.mp hc]; decide
      · exact (wdsV_ok (h f hf)).2.1 v hv c hc
theorem drl_min2 {i j : Int} : DRL (fun xs H Q => ∃ i j, xs = [.int i, .int j] ∧ Q (.int (if j < i then j else i)) H) [.int i, .int j] (.int (if j < i then j else i)) := fun W us Q dom r k => by
  obtain ⟨v, _, rfl, rv, v', _, rfl, rv', rfl⟩ := r
  exact ⟨i, j, by rw [show v = V.int i from rv, show v' = V.int j from rv'], k _ _ (Same.refl _) rfl⟩
theorem dl_imp {t : TE} {Γ : Gam} {Q Q' : D → Gam → Prop} (h : Dl t Γ Q) (i : ∀ d Γ', Q d Γ' → Q' d Γ') : Dl t Γ Q' := fun F σ W R g k => h F σ W R g fun v W' d Γ' st g' r q => k v W' d Γ' st g' r (i d Γ' q)
end K31

namespace K31
open PySem PySem.Spec PyProof.Rows L2 Dw
variable [Tabs0]
theorem d__law_veiled {P : Program} {w : World} {K : PySem.W.Frag} {mg : Str → Option Value} {base : Heap} (T : Txt K w mg) : FnOk P w K mg base CX0 4 T.f__law_veiled T.e__law_veiled ["_law_jar", "_law_many", "_law_least", "_law_most"] (toSp (spVeiled)) := by
  refine fn_ok T.F__law_veiled sc__law_veiled (fun _ => rfl) fun cdv A outer s' H E hr => ?_
  refine ⟨_, (pss_cons (ps_set (i := 4) sc__law_veiled.nd rfl (Or.inl rfl) (pe_lst pa_nil)) (pss_cons (ps_for PassesOwn.never rfl (piR K (pe_call (d__law_folk T) (hr.mono (by decide)) (by rfl) T.m__law_folk T.F__law_folk.kp T.b__law_folk .nil pass0 (pa_cons (pv 0) (pa_cons (pv 1) (pa_cons (pv 2) (pa_cons (pv 3) pa_nil)))))) (tupA K 2 rfl (pgs_cons (pg_name (i := 5) sc__law_veiled.nd rfl (Or.inl rfl)) (pgs_cons (pg_name (i := 6) sc__law_veiled.nd rfl (Or.inl rfl)) pgs_nil))) (pss_cons (ps_set (i := 7) sc__law_veiled.nd rfl (Or.inl rfl) (pe_lst pa_nil)) (pss_cons (ps_for PassesOwn.never rfl (piR K (pv 6)) (pg_name (i := 8) sc__law_veiled.nd rfl (Or.inl rfl)) (pss_cons (ps_set (i := 9) sc__law_veiled.nd rfl (Or.inl rfl) (pe_ifExp (pt_cmpR (eqA K hr.units) (pe_call (d__law_dip T) (hr.mono (by decide)) (by rfl) T.m__law_dip T.F__law_dip.kp T.b__law_dip .nil pass0 (pa_cons (pv 0) (pa_cons pe_int pa_nil))) pe_int (nomark _)) (pe_callB (call_min2 rfl) (by rfl) T.n_min (by decide +kernel) (pa_cons (pe_op op_sub pe_int (pv 8)) (pa_cons (pe_op (plusE K) pe_int (pe_call (d__law_dip T) (hr.mono (by decide)) (by rfl) T.m__law_dip T.F__law_dip.kp T.b__law_dip .nil pass0 (pa_cons (pv 0) (pa_cons pe_int pa_nil)))) pa_nil))) pe_int)) (pss_one (ps_expr (bmA K PySem.F.plainAttrs_list PySem.F.slot_list_append PySem.F.type_list_append mt_append (pv 7) (pa_cons (pe_tup (pa_cons (pv 8) (pa_cons (pe_op (plusE K) (pv 8) (pv 9)) pa_nil))) pa_nil)))))) (pss_one (ps_expr (bmA K PySem.F.plainAttrs_list PySem.F.slot_list_append PySem.F.type_list_append mt_append (pv 4) (pa_cons (pe_tup (pa_cons (pv 5) (pa_cons (pe_callTy (tupleA K) (by rfl) T.n_tuple (by decide +kernel) (pa_cons (pv 7) pa_nil)) pa_nil))) pa_nil))))))) (pss_one (ps_ret (pv 4))))), fun x hx => ?_⟩
  obtain ⟨n, lo, hi⟩ := x
  refine ds_seq (ds_asg_own (evn_lst eva_nil (Nat.zero_le _)) ?_)
  refine ds_seq (ds_for (fun xs i Γ' => ∃ (ls ms : List (List Nat)) (n' : Nat) (fs : List FV) (s5 s6 s7 s8 s9 : Sl), xs = folkD ls ms ∧ CaseOk ls ms n' ∧ Γ' = [.val .purse, .val (.int (n : Nat)), .val (.int (lo : Nat)), .val (.int (hi : Nat)), .own (fs.map vpD), s5, s6, s7, s8, s9] ∧ fs.length = i ∧ ∀ f ∈ fs, FVOk f)
    (dj_list (dl_call (s := spFolk) (dla_cons (Ev.dl (ev_var rfl) (dla_cons (Ev.dl (ev_var rfl) (dla_cons (Ev.dl (ev_var rfl) (dla_cons (Ev.dl (ev_var rfl) (dla_nil ⟨(n, lo, hi), rfl, hx, fun d hd => ?_⟩))))))))))))
  obtain ⟨ls, ms, rfl, hc, _, _⟩ := hd
  refine ⟨_, rfl, ⟨ls, ms, n, [], _, _, _, _, _, rfl, hc, rfl, rfl, fun f h => absurd h (by simp)⟩, fun i x Γ' hx' ⟨ls, ms, n', fs, s5, s6, s7, s8, s9, exs, hc, e, fl, fk⟩ => ?_, fun Γ' ⟨ls, ms, n', fs, s5, s6, s7, s8, s9, exs, hc, e, fl, fk⟩ => ?_⟩
  · subst e
    rw [exs] at hx'
    have hil : i < (ls.zip ms).length := by
      have := (List.getElem?_eq_some_iff.mp hx').1
      unfold folkD at this
      rw [List.length_map] at this; exact this
    obtain ⟨p, hp⟩ : ∃ p, p = (ls.zip ms)[i] := ⟨_, rfl⟩
    obtain rfl : x = .tup [.str (tx p.1), .tup (ordD p.2)] := by
      unfold folkD at hx'
      rw [List.getElem?_map, List.getElem?_eq_getElem hil] at hx'
      rw [hp]; exact (Option.some.inj hx').symm
    have hz := hc.zip (hp ▸ List.getElem_mem hil)
    have n8 := hc.hi
    have h8 := hc.names.hi
    have hi8 : i < 8 := by have := hc.zl; omega
    refine ⟨[5] ++ [6], _, dg_tup2 dg_name dg_name, ds_seq (ds_asg_own (evn_lst eva_nil (Nat.zero_le _)) ?_)⟩
    refine ds_seq (ds_for (fun xs j Γ' => xs = ordD p.2 ∧ ∃ (vs : List (Nat × Nat)) (s8 s9 : Sl), Γ' = [.val .purse, .val (.int (n : Nat)), .val (.int (lo : Nat)), .val (.int (hi : Nat)), .own (fs.map vpD), .val (.str (tx p.1)), .val (.tup (ordD p.2)), .own (vs.map prD), s8, s9] ∧ vs.length = j ∧ ∀ q ∈ vs, q.1 < 100 ∧ q.2 < 100)
      (dj_tup (Ev.dl (ev_var rfl) ⟨_, rfl, ⟨rfl, [], _, _, rfl, rfl, fun q h => absurd h (by simp)⟩, fun j y Γ' hy ⟨eys, vs, s8, s9, e, vl, vk⟩ => ?_, fun Γ' ⟨eys, vs, s8, s9, e, vl, vk⟩ => ?_⟩)))
    · subst e
      rw [eys] at hy
      have hjl : j < p.2.length := by
        have := (List.getElem?_eq_some_iff.mp hy).1
        unfold ordD at this
        rw [List.length_map] at this; exact this
      obtain ⟨k, hk⟩ : ∃ k, k = p.2[j] := ⟨_, rfl⟩
      obtain rfl : y = .int (k : Nat) := by
        unfold ordD at hy
        rw [List.getElem?_map, List.getElem?_eq_getElem hjl] at hy
        rw [hk]; exact (Option.some.inj hy).symm
      have hk100 := hz.2.2 k (hk ▸ List.getElem_mem hjl)
      have hpl := hz.2.1
      have drw : ∀ {Γ : Gam} {ta : TA} {n : Nat} {Q : D → Gam → Prop}, (EvA ta Γ [.purse, .int n]) → 0 < n → n < 100000 → (∀ r : Nat, r < n → Q (.int r) Γ) → Dl (tCall (toSp spDraw) [] E0 ta) Γ Q := fun {Γ ta n Q} he h1 h2 hq => dl_call (s := spDraw) (EvA.dl he ⟨n, rfl, ⟨h1, h2⟩, fun d hd => by obtain ⟨r, hr, rfl⟩ := hd; exact hq r hr⟩)
      refine ⟨[8], _, dg_name, ds_seq (ds_asg (dl_imp (Q := fun d Γ1 => Γ1 = [.val .purse, .val (.int (n : Nat)), .val (.int (lo : Nat)), .val (.int (hi : Nat)), .own (fs.map vpD), .val (.str (tx p.1)), .val (.tup (ordD p.2)), .own (vs.map prD), .val (.int (k : Nat)), s9] ∧ ∃ t : Nat, t ≤ 99 - k ∧ d = .int (t : Nat)) ?b0 fun d Γ1 hq => ?_))⟩
      case b0 =>
        refine dl_if (dlt_test (dl_op (drw (n := 6) (eva_cons (ev_var rfl) (eva_cons ev_int eva_nil)) (by decide) (by decide) fun r hr => Ev.dl ev_int ⟨.bl (decide ((r : Int) = 0)), eq_ib rfl, _, rfl, fun _ => ?b1, fun _ => Ev.dl ev_int ⟨rfl, 0, Nat.zero_le _, rfl⟩⟩)))
        refine dl_cb (dla_cons (Ev.dl (ev_op ev_int (ev_var rfl) dr2_sub) (dla_cons (dl_op (Ev.dl ev_int (drw (n := 3) (eva_cons (ev_var rfl) (eva_cons ev_int eva_nil)) (by decide) (by decide) fun r2 hr2 => ⟨_, pl_int, dla_nil ⟨_, drl_min2, rfl, ?b3⟩⟩))))))
        by_cases h : (1 : Int) + (r2 : Int) < 99 - (k : Int)
        · exact ⟨1 + r2, by omega, by rw [if_pos h]; exact congrArg D.int (by omega)⟩
        · exact ⟨99 - k, Nat.le_refl _, by rw [if_neg h]; exact congrArg D.int (by omega)⟩
      obtain ⟨rfl, t, ht, rfl⟩ := hq
      show Ds _ [.val .purse, .val (.int (n : Nat)), .val (.int (lo : Nat)), .val (.int (hi : Nat)), .own (fs.map vpD), .val (.str (tx p.1)), .val (.tup (ordD p.2)), .own (vs.map prD), .val (.int (k : Nat)), .val (.int (t : Nat))] _
      refine ds_drop (dl_append ⟨_, rfl⟩ (dla_cons (Ev.dl (ev_tup (ds := [.int (k : Nat), .int ((k + t : Nat) : Int)]) (eva_cons (ev_var rfl) (eva_cons (ev_cast (d' := .int ((k + t : Nat) : Int)) rfl (ev_op (ev_var rfl) (ev_var rfl) pl_int)) eva_nil)) (small (show 2 ≤ 100000 by decide))) (dla_nil ⟨_, _, rfl, rfl, ?lt0, eys, vs ++ [(k, k + t)], .val (.int (k : Nat)), .val (.int (t : Nat)), ?ge0, ?gl0, ?gk0⟩))))
      case lt0 => rw [List.length_map]; exact Nat.lt_of_lt_of_le (show vs.length < 100 by omega) (by decide)
      case ge0 => rw [List.map_append]; rfl
      case gl0 => rw [List.length_append]; show vs.length + 1 = j + 1; omega
      case gk0 =>
        intro q hq
        rcases List.mem_append.mp hq with hq | hq
        · exact vk q hq
        · rw [List.mem_singleton.mp hq]
          exact ⟨hk100, by show k + t < 100; omega⟩
    · subst e
      have lo' : (ordD p.2).length = p.2.length := List.length_map ..
      rw [eys, lo'] at vl
      refine ds_drop (dl_append ⟨_, rfl⟩ (dla_cons (Ev.dl (ev_tup (ds := [.str (tx p.1), .tup (vs.map prD)]) (eva_cons (ev_var rfl) (eva_cons (ev_tuple (evb_own rfl)) eva_nil)) (small (show 2 ≤ 100000 by decide))) (dla_nil ⟨_, _, rfl, rfl, ?lt, ls, ms, n', fs ++ [(p.1, vs)], .val (.str (tx p.1)), .val (.tup (ordD p.2)), .own (vs.map prD), s8, s9, exs, hc, ?ge, ?gl, ?gk⟩))))
      case lt => rw [List.length_map]; exact Nat.lt_of_lt_of_le (show fs.length < 100 by omega) (by decide)
      case ge => rw [List.map_append]; rfl
      case gl => rw [List.length_append]; show fs.length + 1 = i + 1; omega
      case gk =>
        intro f hf
        rcases List.mem_append.mp hf with hf | hf
        · exact fk f hf
        · rw [List.mem_singleton.mp hf]
          exact ⟨hz.1, by show vs.length ≤ 8; have := hz.2.1; omega, vk⟩
  · subst e
    have h8 := hc.names.hi
    have zl := hc.zl
    have : (folkD ls ms).length = (ls.zip ms).length := List.length_map ..
    rw [exs, this] at fl
    exact ds_ret_own (i := 4) rfl ⟨fs, rfl, by omega, fk⟩
end K31

namespace K31
open PySem PySem.Spec PyProof.Rows L2 Dw
variable [Tabs0]
theorem d__law_veil_page {P : Program} {w : World} {K : PySem.W.Frag} {mg : Str → Option Value} {base : Heap} (T : Txt K w mg) : FnOk P w K mg base CX0 1 T.f__law_veil_page T.e__law_veil_page ["_law_folk_here"] (toSp (spVPage)) := by
  refine fn_ok T.F__law_veil_page sc__law_veil_page (fun _ => rfl) fun cdv A outer s' H E hr => ?_
  refine ⟨_, (pss_cons (ps_set (i := 1) sc__law_veil_page.nd rfl (Or.inl rfl) (pe_lst pa_nil)) (pss_cons (ps_for PassesOwn.never rfl (piR K (pv 0)) (tupA K 2 rfl (pgs_cons (pg_name (i := 2) sc__law_veil_page.nd rfl (Or.inl rfl)) (pgs_cons (pg_name (i := 3) sc__law_veil_page.nd rfl (Or.inl rfl)) pgs_nil))) (pss_cons (ps_setLc (i := 4) (own := [("_law_low", 5), ("_law_high", 6)]) rfl sc__law_veil_page.nd rfl rfl (sw_true rfl rfl rfl (by decide +kernel)) (piR K (pv 3)) (blkOk_by (own := [("_law_low", 5), ("_law_high", 6)]) (N := N__law_veil_page) (sc := (defScope s__law_veil_page)) (by decide +kernel)) (fun _ _ _ _ _ => tupA K 2 rfl (pgs_cons (pg_name (i := 5) sc__law_veil_page.nd rfl (Or.inl rfl)) (pgs_cons (pg_name (i := 6) sc__law_veil_page.nd rfl (Or.inl rfl)) pgs_nil))) (fun _ _ _ _ _ => pts_nil) (fun _ _ _ _ _ => (pe_ifExp (pt_cmpR (eqA K hr.units) (pv 5) (pv 6) (nomark _)) (pe_callTy call_str_int (by rfl) T.n_str (by decide +kernel) (pa_cons (pv 5) pa_nil)) (pe_op (plusE K) (pe_op (plusE K) (pe_callTy call_str_int (by rfl) T.n_str (by decide +kernel) (pa_cons (pv 5) pa_nil)) pe_str) (pe_callTy call_str_int (by rfl) T.n_str (by decide +kernel) (pa_cons (pv 6) pa_nil)))))) (pss_one (ps_expr (bmA K PySem.F.plainAttrs_list PySem.F.slot_list_append PySem.F.type_list_append mt_append (pv 1) (pa_cons (joinA K pe_str (pe_op (plusE K) (pe_lst (pa_cons (pv 2) pa_nil)) (pv 4))) pa_nil)))))) (pss_one (ps_ret (joinA K pe_str (pv 1)))))), fun x hx => ?_⟩
  obtain ⟨fs, rfl⟩ : ∃ f : List FV, f = x := ⟨x, rfl⟩
  obtain ⟨h8, hk⟩ := hx
  have h8 : fs.length ≤ 8 := h8
  have hk : ∀ f ∈ fs, FVOk f := hk
  refine ds_seq (ds_asg_own (evn_lst eva_nil (Nat.zero_le _)) ?_)
  refine ds_seq (ds_for (fun xs i Γ' => xs = fs.map vpD ∧ ∃ (s2 s3 s4 : Sl), Γ' = [.val (.lst (fs.map vpD)), .own (nameD ((fs.take i).map fun f => TL.joinL [32] (wdsV f))), s2, s3, s4, .unset, .unset])
    (dj_list (Ev.dl (ev_var rfl) ⟨_, rfl, ⟨rfl, _, _, _, rfl⟩, fun i x Γ' hx' ⟨exs, s2, s3, s4, e⟩ => ?_, fun Γ' ⟨exs, s2, s3, s4, e⟩ => ?_⟩)))
  · subst e
    rw [exs] at hx'
    have hil : i < fs.length := by
      have := (List.getElem?_eq_some_iff.mp hx').1
      rw [List.length_map] at this; exact this
    obtain ⟨f, hf⟩ : ∃ f, f = fs[i] := ⟨_, rfl⟩
    obtain rfl : x = .tup [.str (tx f.1), .tup (f.2.map prD)] := by
      rw [List.getElem?_map, List.getElem?_eq_getElem hil] at hx'
      rw [hf]; exact (Option.some.inj hx').symm
    have fo := hk f (hf ▸ List.getElem_mem hil)
    have hl := fo.len
    obtain ⟨w1, w2, w3⟩ := wdsV_ok fo
    have strN_ : ∀ {Γ : Gam} {t : TE} {k : Nat}, k < 100 → Ev t Γ (.int (k : Nat)) → Ev (tCB (fun xs H Q => ∃ i, xs = [.int i] ∧ i.natAbs.log2 < 1920 ∧ Q (.str (toString i)) H) (tCons t tNil)) Γ (.str (tx (TL.numL k))) := fun {Γ t k} hk h => ev_cast (congrArg D.str (SX.num_S k)) (ev_strK h (show k.log2 < 1920 from Nat.lt_of_le_of_lt (Nat.log2_le_self k) (by omega)))
    refine ⟨[2] ++ [3], _, dg_tup2 dg_name dg_name, ds_seq (ds_asg (Ev.dl (d := .lst (nameD (f.2.map pT))) (ev_cast (d := .lst (f.2.map fun p => D.str (tx (pT p)))) (by unfold nameD; rw [List.map_map]; rfl) (EvN.ev (evn_lc1 (xs := f.2) (c := prD) (f := fun p => .str (tx (pT p))) (ej_tup (ev_var rfl)) (by omega) fun p hp => ⟨[5] ++ [6], _, dg_tup2 dg_name dg_name, by decide, evt_yes, ?el⟩))) ?_))⟩
    case el =>
      obtain ⟨p1, p2⟩ := fo.lt p hp
      have n1 := (num_ok p1).hi
      have n2 := (num_ok p2).hi
      refine ev_cast (d := if decide (p.1 = p.2) = true then .str (tx (TL.numL p.1)) else .str (tx (TL.numL p.1) ++ tx [45] ++ tx (TL.numL p.2))) ?ec (ev_if (a := decide (p.1 = p.2)) (evt_test (ev_op (ev_var (d := .int (p.1 : Nat)) rfl) (ev_var (d := .int (p.2 : Nat)) rfl) (eq_ib (decide_eq_decide.mpr (by omega))))) (fun _ => strN_ p1 (ev_var rfl)) fun _ => ev_op (ev_op (strN_ p1 (ev_var rfl)) (ev_cast (congrArg D.str (show Str.ofString "-" = tx [45] by decide +kernel)) ev_str) (pl_str (by rw [tx_len, tx_len]; exact small (show _ + 1 ≤ 100000 by omega)))) (strN_ p2 (ev_var rfl)) (pl_str (by rw [tx_append, tx_len, tx_len, List.length_append]; exact small (show _ + 1 + _ ≤ 100000 by omega))))
      case ec =>
        unfold pT
        by_cases h : p.1 = p.2
        · rw [if_pos (decide_eq_true h), if_pos h]
        · rw [if_neg (by rw [decide_eq_true_eq]; exact h), if_neg h, tx_append, tx_append]
    show Ds _ [.val (.lst (fs.map vpD)), .own (nameD ((fs.take i).map fun f => TL.joinL [32] (wdsV f))), .val (.str (tx f.1)), .val (.tup (f.2.map prD)), .val (.lst (nameD (f.2.map pT))), .unset, .unset] _
    have tw : tot (wdsV f) ≤ 1000000 := by
      have : ∀ ws : List (List Nat), (∀ w ∈ ws, w.length ≤ 8) → tot ws ≤ 9 * ws.length := fun ws => by
        induction ws with
        | nil => exact fun _ => Nat.zero_le _
        | cons a r ih =>
          intro h
          have h1 := h a List.mem_cons_self
          have h2 := ih fun w hw => h w (List.mem_cons_of_mem _ hw)
          show a.length + 1 + tot r ≤ 9 * (r.length + 1)
          omega
      have := this _ w1
      omega
    refine ds_drop (dl_append ⟨_, rfl⟩ (dla_cons (Ev.dl (ev_joinW (sep := [32]) (ws := wdsV f) spaceJ (by decide) ev_str (EvN.b (pl_evn (ds := [D.str (tx f.1)]) (es := nameD (f.2.map pT)) (EvN.b (evn_lst (eva_cons (ev_var rfl) eva_nil) (small (show 1 ≤ 100000 by decide)))) (ev_var rfl).b ?sz)) tw) (dla_nil ⟨_, _, rfl, rfl, ?lt, exs, .val (.str (tx f.1)), .val (.tup (f.2.map prD)), .val (.lst (nameD (f.2.map pT))), ?ge⟩))))
    case sz =>
      have : (nameD (f.2.map pT)).length = f.2.length := by unfold nameD; rw [List.length_map, List.length_map]
      rw [this]
      exact small (show 1 + _ ≤ 100000 by omega)
    case lt =>
      unfold nameD
      rw [List.length_map, List.length_map, List.length_take]
      exact Nat.lt_of_lt_of_le (show _ < 100 by omega) (by decide)
    case ge =>
      have e : nameD ((fs.take i).map fun f => TL.joinL [32] (wdsV f)) ++ [D.str (tx (TL.joinL [32] (wdsV f)))] = nameD ((fs.take (i + 1)).map fun f => TL.joinL [32] (wdsV f)) := by
        rw [List.take_add_one, List.getElem?_eq_getElem hil, List.map_append, ← nmD_app, ← hf]; rfl
      rw [← e]; rfl
  · subst e
    have hl : (fs.map vpD).length = fs.length := List.length_map ..
    rw [exs, hl, List.take_length]
    have tg : tot (fs.map fun f => TL.joinL [32] (wdsV f)) ≤ 1000000 := by
      have : ∀ gs : List FV, (∀ f ∈ gs, FVOk f) → tot (gs.map fun f => TL.joinL [32] (wdsV f)) ≤ 82 * gs.length := fun gs => by
        induction gs with
        | nil => exact fun _ => Nat.zero_le _
        | cons a r ih =>
          intro h
          have h1 := partV_len (h a List.mem_cons_self)
          have h2 := ih fun w hw => h w (List.mem_cons_of_mem _ hw)
          show (TL.joinL [32] (wdsV a)).length + 1 + tot (r.map fun f => TL.joinL [32] (wdsV f)) ≤ 82 * (r.length + 1)
          omega
      have := this fs hk
      omega
    exact ds_ret (Ev.dl (ev_joinW (sep := [59, 32]) (ws := fs.map fun f => TL.joinL [32] (wdsV f)) semiS (by decide) ev_str (evb_own rfl) tg) rfl)
end K31

namespace K31
open PySem PySem.Spec PyProof.Rows L2 Dw
variable [Tabs0]
/-! the law's things that are no texts of cases; the pages drawn -/
def spRightJ : Spc where
  ty := Unit
  args := fun _ => [.purse]
  ok := fun _ => True
  rel := fun _ d => d = .bl true
def oddT : List Str := ["", "a", "a 1", "a 1; b", "a; b", "a 1;b 2", "a 1;  b 2", "b 1; a 2"]
def odd1 : List D := [.non, .bl true, .int 0, .tup [], .lst [], .dct [] []] ++ oddT.map D.str
def oddD : List D := odd1 ++ [.tup [.str "a 1; b 2"]]
def spOdd : Spc where
  ty := Unit
  args := fun _ => []
  ok := fun _ => True
  rel := fun _ d => d = .lst oddD
theorem pg_of {s : Str} (h1 : s.cps.toList.length ≤ 15000) (h2 : ∀ c ∈ s.cps.toList, c < 128) : PgD (.str s) := by
  rw [of_tx s]
  exact .str _ ⟨h1, h2⟩
theorem oddT_ok : ∀ s ∈ oddT, s.cps.toList.length ≤ 15000 ∧ ∀ c ∈ s.cps.toList, c < 128 := by decide +kernel
theorem odd_ok : ∀ d ∈ oddD, PgD d := by
  intro d hd
  rcases List.mem_append.mp hd with hd | hd
  · rcases List.mem_append.mp hd with hd | hd
    · have one : ∀ d : D, AnyOk d → isStrB d = false → dOk 1 d = true → shOk d = true → shB d ≤ 100 → PgD d := fun d h hs h1 h2 h3 => .odd d h hs _ (.inl ⟨1, by decide, h1, h2, Nat.le_trans h3 (by decide), rfl⟩)
      simp only [List.mem_cons, List.not_mem_nil, or_false] at hd
      rcases hd with rfl | rfl | rfl | rfl | rfl | rfl
      · exact one _ ⟨rfl, rfl, fun h => nomatch h⟩ rfl rfl rfl (by decide)
      · exact one _ ⟨rfl, rfl, fun h => nomatch h⟩ rfl rfl rfl (by decide)
      · exact one _ ⟨rfl, rfl, fun h => nomatch h⟩ rfl rfl (by decide +kernel) (by decide +kernel)
      · exact one _ ⟨rfl, rfl, fun h => nomatch h⟩ rfl rfl rfl (by decide)
      · exact one _ ⟨rfl, rfl, fun h => nomatch h⟩ rfl rfl rfl (by decide)
      · exact .odd _ ⟨rfl, rfl, fun h => nomatch h⟩ rfl "{}" (.inr ⟨rfl, rfl⟩)
    · obtain ⟨s, hs, rfl⟩ := List.mem_map.mp hd
      obtain ⟨h1, h2⟩ := oddT_ok s hs
      exact pg_of h1 h2
  · rw [List.mem_singleton.mp hd]
    exact .odd _ ⟨rfl, rfl, fun h => nomatch h⟩ rfl _ (.inl ⟨1, by decide, by decide +kernel, rfl, by decide +kernel, rfl⟩)
def oddE : List Str := ["a 1-1; b 2", "a 2-1; b 2", "a 1-100; b 2", "a 01-2; b 2", "a 1-2-3; b 2", "a -1; b 2"]
def oddF : List D := oddD ++ oddE.map D.str
theorem oddE_ok : ∀ s ∈ oddE, s.cps.toList.length ≤ 15000 ∧ ∀ c ∈ s.cps.toList, c < 128 := by decide +kernel
theorem odd_okF : ∀ d ∈ oddF, PgD d := by
  intro d hd
  rcases List.mem_append.mp hd with hd | hd
  · exact odd_ok d hd
  · obtain ⟨s, hs, rfl⟩ := List.mem_map.mp hd
    obtain ⟨h1, h2⟩ := oddE_ok s hs
    exact pg_of h1 h2
def bN : Nat → Nat | 0 => 664 | j + 1 => 4 * bN j + 40
theorem bls_rp (bs : List Bool) (h : bs.length ≤ 10) : RpD (.lst (bs.map D.bl)) (PyData.shown (py (.lst (bs.map D.bl)))) := by
  have e1 : ∀ bs : List Bool, dOks 0 (bs.map D.bl) = true ∧ shOks (bs.map D.bl) = true ∧ shBs (bs.map D.bl) = 7 * bs.length := fun bs => by
    induction bs with
    | nil => exact ⟨rfl, rfl, rfl⟩
    | cons b r ih =>
      obtain ⟨i1, i2, i3⟩ := ih
      refine ⟨?_, ?_, ?_⟩
      · show (true && dOks 0 (r.map D.bl)) = true
        rw [i1]; rfl
      · show (true && shOks (r.map D.bl)) = true
        rw [i2]; rfl
      · show 5 + 2 + shBs (r.map D.bl) = 7 * (r.length + 1)
        omega
  obtain ⟨h1, h2, h3⟩ := e1 bs
  refine .inl ⟨1, by decide, h1, h2, ?_, rfl⟩
  show shBs (bs.map D.bl) + 4 ≤ sizeLine
  exact small (by omega)
end K31

namespace K31
open PySem PySem.Spec PyProof.Rows L2 Dw
variable [Tabs0]
theorem d__law_odd_things {P : Program} {w : World} {K : PySem.W.Frag} {mg : Str → Option Value} {base : Heap} (T : Txt K w mg) : FnOk P w K mg base CX0 1 T.f__law_odd_things T.e__law_odd_things [] (toSp (spOdd)) := by
  refine fn_ok T.F__law_odd_things sc__law_odd_things (fun _ => rfl) fun cdv A outer s' H E hr => ?_
  refine ⟨_, (pss_cons (ps_set (i := 0) sc__law_odd_things.nd rfl (Or.inl rfl) (pe_lst (pa_cons pe_non (pa_cons pe_bl (pa_cons pe_int (pa_cons (pe_tup pa_nil) (pa_cons (pe_lst pa_nil) (pa_cons pe_dnewK (pa_cons pe_str (pa_cons pe_str (pa_cons pe_str (pa_cons pe_str (pa_cons pe_str (pa_cons pe_str (pa_cons pe_str (pa_cons pe_str pa_nil)))))))))))))))) (pss_one (ps_ret (pe_op (plusE K) (pv 0) (pe_lst (pa_cons (pe_tup (pa_cons pe_str pa_nil)) pa_nil)))))), fun x hx => ?_⟩
  refine ds_seq (ds_asg (Ev.dl (d := .lst odd1) (EvN.ev (evn_lst (eva_cons ev_non (eva_cons ev_bl (eva_cons ev_int (eva_cons (ev_tup eva_nil (Nat.zero_le _)) (eva_cons (evn_lst eva_nil (Nat.zero_le _)).ev (eva_cons ev_dnew (eva_cons ev_str (eva_cons ev_str (eva_cons ev_str (eva_cons ev_str (eva_cons ev_str (eva_cons ev_str (eva_cons ev_str (eva_cons ev_str eva_nil)))))))))))))) (small (show 14 ≤ 100000 by decide)))) ?_))
  exact ds_ret (Ev.dl (EvN.ev (pl_evn (ds := odd1) (ev_var rfl).b (EvN.b (evn_lst (eva_cons (ev_tup (eva_cons ev_str eva_nil) (small (show 1 ≤ 100000 by decide))) eva_nil) (small (show 1 ≤ 100000 by decide)))) (small (show 14 + 1 ≤ 100000 by decide)))) rfl)
end K31

namespace K31
open PySem PySem.Spec PyProof.Rows L2 Dw
variable [Tabs0]
theorem vq_no {l : List Nat} (h : veilQ l = none) : rdD true l = .non := by
  refine (rd_no ?_).symm
  rw [veil_rd] at h
  cases q : rdQ true l with
  | false => rfl
  | true => rw [q] at h; cases h
end K31

namespace K31
open PySem PySem.Spec PyProof.Rows L2 Dw
variable [Tabs0]
theorem d__law_right {P : Program} {w : World} {K : PySem.W.Frag} {mg : Str → Option Value} {base : Heap} (T : Txt K w mg) (TB__law_is_right : LamX.TabB base mg T.lc__law_is_right T.lt__law_is_right) : FnG P w K mg base 11 T.f__law_right T.e__law_right ["_law_jar"] (spRightJ) := by
  refine fnG_ok T.F__law_right sc__law_right (fun _ => rfl) fun cdv A outer s' H E hr hG => ?_
  refine ⟨_, (pss_cons (ps_par (i := 1) (j := 2) (by rfl) sc__law_right.nd rfl rfl (by decide) rfl rfl (pa_cons (pe_lst pa_nil) (pa_cons (pe_lst pa_nil) pa_nil)) (by rfl)) (pss_cons (ps_for PassesOwn.never rfl (pi_range1 (by rfl) T.n_range (pa_cons pe_int pa_nil)) (pg_name (i := 3) sc__law_right.nd rfl (Or.inl rfl)) (pss_cons (ps_set (i := 4) sc__law_right.nd rfl (Or.inl rfl) (pe_call (d__law_veil_page T) (hr.mono (by decide)) (by rfl) T.m__law_veil_page T.F__law_veil_page.kp T.b__law_veil_page .nil pass0 (pa_cons (pe_call (d__law_veiled T) (hr.mono (by decide)) (by rfl) T.m__law_veiled T.F__law_veiled.kp T.b__law_veiled .nil pass0 (pa_cons (pv 0) (pa_cons (pe_op (plusE K) pe_int (pe_call (d__law_dip T) (hr.mono (by decide)) (by rfl) T.m__law_dip T.F__law_dip.kp T.b__law_dip .nil pass0 (pa_cons (pv 0) (pa_cons pe_int pa_nil)))) (pa_cons pe_int (pa_cons pe_int pa_nil))))) pa_nil))) (pss_cons (ps_for PassesOwn.never rfl (pi_range1 (by rfl) T.n_range (pa_cons (pe_call (d__law_dip T) (hr.mono (by decide)) (by rfl) T.m__law_dip T.F__law_dip.kp T.b__law_dip .nil pass0 (pa_cons (pv 0) (pa_cons pe_int pa_nil))) pa_nil)) (pg_name (i := 5) sc__law_right.nd rfl (Or.inl rfl)) (pss_one (ps_set (i := 4) sc__law_right.nd rfl (Or.inl rfl) (pe_call (d__law_bent_page T) (hr.mono (by decide)) (by rfl) T.m__law_bent_page T.F__law_bent_page.kp T.b__law_bent_page .nil pass0 (pa_cons (pv 0) (pa_cons (pv 4) pa_nil)))))) (pss_cons (ps_if (pt_not (truA K (pe_callG (E := E0) (d__law_is_right T TB__law_is_right) (hr.mono (by decide)) hG (by rfl) T.m__law_is_right T.F__law_is_right.kp T.b__law_is_right (pa_cons (pv 4) pa_nil)))) (pss_one (ps_ret pe_bl)) pss_nil) (pss_one (ps_if (pt_cmpR op_notN (pe_call (d__law_read T) (hr.mono (by decide)) (by rfl) T.m__law_read T.F__law_read.kp T.b__law_read .nil pass0 (pa_cons (pv 4) (pa_cons pe_bl pa_nil))) pe_non (nomark _)) (pss_cons (ps_expr (bmA K PySem.F.plainAttrs_list PySem.F.slot_list_append PySem.F.type_list_append mt_append (pv 1) (pa_cons (pe_makeK0 (E := fun _ _ _ => False) T.mk_Veil (d_Veil___init__ T) (hr.mono (by decide)) (by rfl) T.m_Veil T.kn_Veil (passes_call LamX.takes0 fun _ _ _ _ h => h) (pk_cons (pv 4) pk_nil)) pa_nil))) (pss_one (ps_expr (bmA K PySem.F.plainAttrs_list PySem.F.slot_list_append PySem.F.type_list_append mt_append (pv 2) (pa_cons (pv 4) pa_nil))))) pss_nil)))))) (pss_cons (ps_for PassesOwn.never rfl (pi_range1 (by rfl) T.n_range (pa_cons (pe_callB (lenA K) (by rfl) T.n_len (by decide +kernel) (pa_cons (pv 1) pa_nil)) pa_nil)) (pg_name (i := 6) sc__law_right.nd rfl (Or.inl rfl)) (pss_cons (ps_set (i := 7) sc__law_right.nd rfl (Or.inl rfl) (pe_lst (pa_cons (pe_cmpR (op_eqOwnO (d_Veil___eq__ T) (hr.mono (by decide)) T.oe_Veil T.ie_Veil T.b_Veil___eq__) (pe_ix (ixA K) (pv 1) (pv 6) (fun _ _ => rfl)) (pe_ix (ixA K) (pv 1) pe_int (fun _ _ => rfl)) (nomark _)) (pa_cons (pe_cmpR (op_neOwn (d_Veil___eq__ T) (hr.mono (by decide)) T.om_Veil T.on_Veil T.oe_Veil T.ie_Veil T.b_Veil___eq__) (pe_ix (ixA K) (pv 1) (pv 6) (fun _ _ => rfl)) (pe_ix (ixA K) (pv 1) pe_int (fun _ _ => rfl)) (nomark _)) (pa_cons (pe_cmpR (op_eqOwnO (d_Veil___eq__ T) (hr.mono (by decide)) T.oe_Veil T.ie_Veil T.b_Veil___eq__) (pe_ix (ixA K) (pv 1) (pv 6) (fun _ _ => rfl)) (pe_make (E := fun _ _ _ => False) T.mk_Veil (d_Veil___init__ T) (hr.mono (by decide)) (by rfl) T.m_Veil T.b_Veil___init__ .nil (passes_call LamX.takes0 fun _ _ _ _ h => h) (pa_cons (pe_ix (ixA K) (pv 2) (pv 6) (fun _ _ => rfl)) pa_nil)) (nomark _)) (pa_cons (pe_cmpR (op_eqOwnO (d_Veil___eq__ T) (hr.mono (by decide)) T.oe_Veil T.ie_Veil T.b_Veil___eq__) (pe_ix (ixA K) (pv 1) (pv 6) (fun _ _ => rfl)) (pe_ix (ixA K) (pv 2) (pv 6) (fun _ _ => rfl)) (nomark _)) (pa_cons (pe_cmpR (op_neOwn (d_Veil___eq__ T) (hr.mono (by decide)) T.om_Veil T.on_Veil T.oe_Veil T.ie_Veil T.b_Veil___eq__) (pe_ix (ixA K) (pv 1) (pv 6) (fun _ _ => rfl)) pe_non (nomark _)) pa_nil))))))) (pss_one (ps_if (pt_cmpR (neA K hr.units) (pe_callB (reprY K hr hG) (by rfl) T.n_repr (by decide +kernel) (pa_cons (pv 7) pa_nil)) (pe_callB (reprY K hr hG) (by rfl) T.n_repr (by decide +kernel) (pa_cons (pe_lst (pa_cons (pe_cmpR (eqA K hr.units) (pe_ix (ixA K) (pv 2) (pv 6) (fun _ _ => rfl)) (pe_ix (ixA K) (pv 2) pe_int (fun _ _ => rfl)) (nomark _)) (pa_cons (pe_cmpR (neA K hr.units) (pe_ix (ixA K) (pv 2) (pv 6) (fun _ _ => rfl)) (pe_ix (ixA K) (pv 2) pe_int (fun _ _ => rfl)) (nomark _)) (pa_cons pe_bl (pa_cons pe_bl (pa_cons pe_bl pa_nil)))))) pa_nil)) (nomark _)) (pss_one (ps_ret pe_bl)) pss_nil)))) (pss_cons (ps_set (i := 8) sc__law_right.nd rfl (Or.inl rfl) (pe_op (plusE K) (pe_call0 (d__law_odd_things T) (hr.mono (by decide)) (by rfl) T.m__law_odd_things T.F__law_odd_things.kp T.b__law_odd_things .nil pass0) (pe_lst (pa_cons pe_str (pa_cons pe_str (pa_cons pe_str (pa_cons pe_str (pa_cons pe_str (pa_cons pe_str pa_nil))))))))) (pss_one (ps_ret (pe_cmpR (eqA K hr.units) (pe_lc (own := [("_law_thing", 9)]) rfl sc__law_right.nd (piR K (pv 8)) (blkOk_by (own := [("_law_thing", 9)]) (N := N__law_right) (sc := (defScope s__law_right)) (by decide +kernel)) (fun _ _ _ _ _ => pg_name (i := 9) sc__law_right.nd rfl (Or.inl rfl)) (fun _ _ _ _ _ => pts_one (pt_not (truA K (pe_callG (E := E0) (d__law_is_right T TB__law_is_right) (hr.mono (by decide)) hG (by rfl) T.m__law_is_right T.F__law_is_right.kp T.b__law_is_right (pa_cons (pv 9) pa_nil))))) (fun _ _ _ _ _ => (pv 9))) (pe_lst pa_nil) (nomark _)))))))), fun x hx => ?_⟩
  refine ds_seq (ds_par_oo (evn_lst eva_nil (Nat.zero_le _)) (evn_lst eva_nil (Nat.zero_le _)) ?_)
  refine ds_seq (ds_for (fun xs i Γ' => xs = rng 14 ∧ ∃ (cs : List VeilX) (s3 s4 s5 : Sl), Γ' = [.val .purse, .own (cs.map (vasO T.C_Veil)), .own (cs.map fun x => D.str (tx x.1)), s3, s4, s5, .unset, .unset, .unset, .unset] ∧ cs.length ≤ i ∧ ∀ x ∈ cs, PgOk x.1 15000 ∧ veilQ x.1 = some x.2)
    (di_range (dla_cons (Ev.dl ev_int (dla_nil ⟨14, rfl, by decide, ⟨rfl, [], _, _, _, rfl, Nat.zero_le _, fun x h => absurd h (by simp)⟩, fun i x Γ' hx' ⟨exs, cs, s3, s4, s5, e, cl, ck⟩ => ?_, fun Γ' ⟨exs, cs, s3, s4, s5, e, cl, ck⟩ => ?_⟩)))))
  · subst e
    rw [exs] at hx'
    have hi14 : i < 14 := by
      have := (List.getElem?_eq_some_iff.mp hx').1
      rw [rng_length] at this; exact this
    refine ⟨[3], _, dg_name, ds_seq (ds_asg (dl_call (s := spVPage) (dla_cons (dl_call (s := spVeiled) (dla_cons (Ev.dl (ev_var rfl) (dla_cons (dl_op (Ev.dl ev_int (dl_call (s := spDraw) (dla_cons (Ev.dl (ev_var rfl) (dla_cons (Ev.dl ev_int (dla_nil ⟨(8 : Nat), rfl, ⟨by decide, by decide⟩, fun d hd => ?_⟩)))))))))))))))⟩
    obtain ⟨r, hr, rfl⟩ := hd
    have hr : r < 8 := hr
    refine ⟨.int ((1 + r : Nat) : Int), ?pl, dla_cons (Ev.dl ev_int (dla_cons (Ev.dl ev_int (dla_nil ⟨(1 + r, 2, 8), rfl, ⟨by show 1 ≤ 1 + r; omega, by show 1 + r ≤ 8; omega, Nat.le_refl 2, (show 2 ≤ 8 by decide), Nat.le_refl 8⟩, fun d hd => ?_⟩))))⟩
    case pl =>
      have e := pl_int (K := K) (i := (1 : Int)) (j := (r : Int))
      rw [show (1 : Int) + (r : Int) = ((1 + r : Nat) : Int) by omega] at e
      exact e
    obtain ⟨fv, rfl, fl, fk⟩ := hd
    refine dla_nil ⟨fv, rfl, ⟨fl, fk⟩, fun d hd => ?_⟩
    have hd : d = .str (tx (pageV fv)) := hd
    subst hd
    have hp0 := pageV_ok fl fk
    refine ds_seq (ds_for (fun xs j Γ' => ∃ n, xs = rng n ∧ n < 3 ∧ ∃ (l : List Nat) (s5 : Sl), Γ' = [.val .purse, .own (cs.map (vasO T.C_Veil)), .own (cs.map fun x => D.str (tx x.1)), .val x, .val (.str (tx l)), s5, .unset, .unset, .unset, .unset] ∧ PgOk l (bN j))
      (di_range (dla_cons (dl_call (s := spDraw) (dla_cons (Ev.dl (ev_var rfl) (dla_cons (Ev.dl ev_int (dla_nil ⟨(3 : Nat), rfl, ⟨by decide, by decide⟩, fun d hd => ?_⟩)))))))))
    obtain ⟨n, hn, rfl⟩ := hd
    have hn : n < 3 := hn
    refine dla_nil ⟨n, rfl, by omega, ⟨n, rfl, hn, _, _, rfl, hp0⟩, fun j y Γ' hy ⟨n, ens, hn, l, s5, e, hp⟩ => ?_, fun Γ' ⟨n, ens, hn, l, s5, e, hp⟩ => ?_⟩
    · subst e
      rw [ens] at hy
      have hjn : j < n := by
        have := (List.getElem?_eq_some_iff.mp hy).1
        rw [rng_length] at this; exact this
      have hb : bN j ≤ 3000 := by
        match j, (show j < 2 by omega) with
        | 0, _ => decide
        | 1, _ => decide
      refine ⟨[5], _, dg_name, ds_asg (dl_call (s := spBentC) (dla_cons (Ev.dl (ev_var rfl) (dla_cons (Ev.dl (ev_var rfl) (dla_nil ⟨(l, bN j), rfl, ⟨hp, hb⟩, fun d hd => ?_⟩))))))⟩
      obtain ⟨l2, rfl, hp2⟩ := hd
      exact ⟨n, ens, hn, l2, _, rfl, hp2⟩
    · subst e
      rw [ens, rng_length] at hp
      have hp : PgOk l 15000 := ⟨Nat.le_trans hp.len (by
        match n, hn with
        | 0, _ => decide
        | 1, _ => decide
        | 2, _ => decide), hp.all⟩
      refine ds_seq (ds_if (dlt_not (dlt_tru_bl (dl_call (s := spIsRight) (dla_cons (Ev.dl (ev_tag (i := 0) rfl TgS.purse (ev_var rfl)) (dla_nil ⟨.str (tx l), rfl, .str l hp, fun d hd => ⟨true, hd, (fun h => nomatch h), fun _ => ds_next ?_⟩⟩)))))))
      cases hq : veilQ l with
      | none =>
        refine ds_if (EvT.dl (b := false) (evt_test (ev_op (ev_call (s := spLRead) (x := (true, l)) (eva_cons (ev_var rfl) (eva_cons ev_bl eva_nil)) rfl hp.len fun d h => h) ev_non (isnt_non (vq_no hq)))) ⟨fun h => (nomatch h), fun _ => ds_next ?_⟩)
        exact ⟨exs, cs, _, _, _, rfl, by omega, ck⟩
      | some c =>
        obtain ⟨ec, p8, er, ho, _⟩ := veil_some hq
        have hlen : (cs.map (vasO T.C_Veil)).length < sizeLine := by rw [List.length_map]; exact Nat.lt_of_lt_of_le (show cs.length < 100 by omega) (by decide)
        have hlen2 : (cs.map fun x => D.str (tx x.1)).length < sizeLine := by rw [List.length_map]; exact Nat.lt_of_lt_of_le (show cs.length < 100 by omega) (by decide)
        refine ds_if (EvT.dl (b := true) (evt_test (ev_op (ev_cast er (ev_call (s := spLRead) (x := (true, l)) (eva_cons (ev_var rfl) (eva_cons ev_bl eva_nil)) rfl hp.len fun d h => h)) ev_non isnt_lst)) ⟨fun _ => ?ya, fun h => (nomatch h)⟩)
        refine ds_seq (ds_drop (dl_append ⟨_, rfl⟩ (dla_cons (dl_makeK0 (ns := ["_text", "_names", "_marks"]) (s := spVIn) (x := (l, c)) (fun _ _ => rfl) (eva_cons (ev_var rfl) eva_nil) rfl ⟨pg_any hp (Nat.le_refl _), hq⟩ fun es he => ?_))))
        have he : D.tup es = .tup [.str (tx l), .tupN (nameD c.1), .tup (vsD c.2.1)] := he
        injection he with he
        subst he
        refine dla_nil ⟨vasO T.C_Veil (l, c), _, rfl, rfl, hlen, ?_⟩
        refine ds_drop (dl_append ⟨_, rfl⟩ (dla_cons (Ev.dl (ev_var rfl) (dla_nil ⟨_, _, rfl, rfl, hlen2, exs, cs ++ [(l, c)], .val x, .val (.str (tx l)), s5, ?ge, ?gl, ?gk⟩))))
        case ge =>
          rw [List.map_append, List.map_append]; rfl
        case gl => rw [List.length_append]; show cs.length + 1 ≤ i + 1; omega
        case gk =>
          intro y hy
          rcases List.mem_append.mp hy with hy | hy
          · exact ck y hy
          · rw [List.mem_singleton.mp hy]; exact ⟨hp, hq⟩
  · subst e
    rw [exs, rng_length] at cl
    refine ds_freeze 1 rfl (ds_freeze 2 rfl ?_)
    show Ds _ [.val .purse, .val (.lst (cs.map (vasO T.C_Veil))), .val (.lst (cs.map fun x => D.str (tx x.1))), s3, s4, s5, .unset, .unset, .unset, .unset] _
    have lc : (cs.map (vasO T.C_Veil)).length = cs.length := List.length_map ..
    have am : ∀ k (h : k < cs.length), atI (cs.map (vasO T.C_Veil)) (k : Int) = some (vasO T.C_Veil cs[k]) := fun k h => atI_nat (by rw [List.getElem?_map, List.getElem?_eq_getElem h]; rfl)
    have ap : ∀ k (h : k < cs.length), atI (cs.map fun x => D.str (tx x.1)) (k : Int) = some (.str (tx cs[k].1)) := fun k h => atI_nat (by rw [List.getElem?_map, List.getElem?_eq_getElem h]; rfl)
    refine ds_seq (ds_for (fun xs i Γ' => xs = rng cs.length ∧ ∃ s6 s7 : Sl, Γ' = [.val .purse, .val (.lst (cs.map (vasO T.C_Veil))), .val (.lst (cs.map fun x => D.str (tx x.1))), s3, s4, s5, s6, s7, .unset, .unset])
      (di_range (dla_cons (Ev.dl (ev_cast (congrArg (fun k : Nat => D.int k) lc) (ev_len (ds := cs.map (vasO T.C_Veil)) (ev_var rfl).b)) (dla_nil ⟨cs.length, rfl, by omega, ⟨rfl, _, _, rfl⟩, fun k x Γ' hx' ⟨exs, s6, s7, e⟩ => ?_, fun Γ' ⟨exs, s6, s7, e⟩ => ?_⟩)))))
    · subst e
      rw [exs] at hx'
      obtain ⟨hk, rfl⟩ := rng_get hx'
      have h0 : 0 < cs.length := by omega
      have am0 := am 0 h0
      have ap0 := ap 0 h0
      have amk := am k hk
      have apk := ap k hk
      obtain ⟨x0, e0⟩ : ∃ y, y = cs[0] := ⟨_, rfl⟩
      obtain ⟨xk, ek⟩ : ∃ y, y = cs[k] := ⟨_, rfl⟩
      have ckk := ck cs[k] (List.getElem_mem hk)
      rw [← e0] at am0 ap0
      rw [← ek] at amk apk ckk
      obtain ⟨b, eb⟩ : ∃ b, b = decide (tx xk.1 = tx x0.1) := ⟨_, rfl⟩
      have mk : ∀ {Γ : Gam}, Γ[1]? = some (.val (.lst (cs.map (vasO T.C_Veil)))) → Γ[6]? = some (.val (.int (k : Nat))) → Ev (tOp (rIx K) (tVar 1) (tVar 6)) Γ (vasO T.C_Veil xk) := fun h1 h2 => ev_ix (ev_var h1).b (ev_var h2) amk
      have m0 : ∀ {Γ : Gam}, Γ[1]? = some (.val (.lst (cs.map (vasO T.C_Veil)))) → Ev (tOp (rIx K) (tVar 1) (tC (.int 0))) Γ (vasO T.C_Veil x0) := fun h1 => ev_ix (ev_var h1).b ev_int am0
      have pk : ∀ {Γ : Gam}, Γ[2]? = some (.val (.lst (cs.map fun x => D.str (tx x.1)))) → Γ[6]? = some (.val (.int (k : Nat))) → Ev (tOp (rIx K) (tVar 2) (tVar 6)) Γ (.str (tx xk.1)) := fun h1 h2 => ev_ix (ev_var h1).b (ev_var h2) apk
      have p0 : ∀ {Γ : Gam}, Γ[2]? = some (.val (.lst (cs.map fun x => D.str (tx x.1)))) → Ev (tOp (rIx K) (tVar 2) (tC (.int 0))) Γ (.str (tx x0.1)) := fun h1 => ev_ix (ev_var h1).b ev_int ap0
      have npo : noPs [vasO T.C_Veil xk, vasO T.C_Veil x0] = true := np_vasO (np_vasO rfl)
      have npk : noPs [vasO T.C_Veil xk, vasO T.C_Veil xk] = true := np_vasO (np_vasO rfl)
      have E1 : ∀ {Γ : Gam}, Γ[1]? = some (.val (.lst (cs.map (vasO T.C_Veil)))) → Γ[6]? = some (.val (.int (k : Nat))) → Ev (tOp (rEqOwnO K T.C_Veil (toSp (spWEq K T.C_Veil))) (tOp (rIx K) (tVar 1) (tVar 6)) (tOp (rIx K) (tVar 1) (tC (.int 0)))) Γ (.bl b) := fun h1 h2 => ev_eqOwnO (s := spWEq K T.C_Veil) (x := (xk, vasO T.C_Veil x0, b)) (mk h1 h2) (m0 h1) (.inl rfl) rfl npo (by rw [eb]; exact .own x0) fun d h => h
      have E2 : ∀ {Γ : Gam}, Γ[1]? = some (.val (.lst (cs.map (vasO T.C_Veil)))) → Γ[6]? = some (.val (.int (k : Nat))) → Ev (tOp (rNeOwn K T.C_Veil (toSp (spWEq K T.C_Veil))) (tOp (rIx K) (tVar 1) (tVar 6)) (tOp (rIx K) (tVar 1) (tC (.int 0)))) Γ (.bl (!b)) := fun h1 h2 => ev_neOwn (s := spWEq K T.C_Veil) (x := (xk, vasO T.C_Veil x0, b)) (mk h1 h2) (m0 h1) rfl rfl npo (by rw [eb]; exact .own x0) fun d h => h
      refine ⟨[6], _, dg_name, ds_seq (ds_asg (dl_lst (dla_cons (Ev.dl (E1 rfl rfl) (dla_cons (Ev.dl (E2 rfl rfl) (dla_cons (dl_eqOwnO (s := spWEq K T.C_Veil) (Ev.dl (mk rfl rfl) ⟨_, _, rfl, dl_make_or (ns := ["_text", "_names", "_marks"]) (s := spVIn) (dla_cons (Ev.dl (pk rfl rfl) (dla_nil ⟨xk, rfl, ⟨pg_any ckk.1 (Nat.le_refl _), ckk.2⟩, fun es he => ?_⟩)))⟩)))))))))⟩
      have he : D.tup es = .tup [.str (tx xk.1), .tupN (nameD xk.2.1), .tup (vsD xk.2.2.1)] := he
      injection he with he
      subst he
      refine ⟨.inl rfl, (xk, vasO T.C_Veil xk, decide (tx xk.1 = tx xk.1)), decide (tx xk.1 = tx xk.1), rfl, npk, .own xk, fun d h => h, ?_⟩
      refine dla_cons (Ev.dl (ev_eqOwnO (s := spWEq K T.C_Veil) (x := (xk, .str (tx xk.1), false)) (mk rfl rfl) (pk rfl rfl) (.inl trivial) rfl (np_vasO rfl) (.str _) fun d h => h) (dla_cons (Ev.dl (ev_neOwn (s := spWEq K T.C_Veil) (x := (xk, .non, false)) (mk rfl rfl) ev_non trivial rfl (np_vasO rfl) .non fun d h => h) (dla_nil ⟨small (show 5 ≤ 100000 by decide), ?_⟩))))
      rw [decide_eq_true (show tx xk.1 = tx xk.1 from rfl)]
      show Ds _ [.val .purse, .val (.lst (cs.map (vasO T.C_Veil))), .val (.lst (cs.map fun x => D.str (tx x.1))), s3, s4, s5, .val (.int (k : Nat)), .val (.lst ([b, !b, true, false, true].map D.bl)), .unset, .unset] _
      have rp := bls_rp [b, !b, true, false, true] (by simp)
      refine ds_if (EvT.dl (b := false) (evt_test (ev_op (ev_reprY (ev_var rfl) rp) (ev_reprY (d := .lst ([b, !b, true, false, true].map D.bl)) (EvN.ev (evn_lst (eva_cons (ev_op (pk rfl rfl) (p0 rfl) (eq_sb eb.symm)) (eva_cons (ev_op (pk rfl rfl) (p0 rfl) (ne_sb (congrArg not eb.symm))) (eva_cons ev_bl (eva_cons ev_bl (eva_cons ev_bl eva_nil))))) (small (show 5 ≤ 100000 by decide)))) rp) (ne_sb (by rw [decide_eq_true rfl]; rfl)))) ⟨fun h => (nomatch h), fun _ => ds_next ?_⟩)
      exact ⟨exs, _, _, rfl⟩
    · subst e
      refine ds_seq (ds_asg (dl_op (dl_call (s := spOdd) (dla_nil ⟨(), rfl, trivial, fun d hd => ?_⟩))))
      have hd : d = .lst oddD := hd
      subst hd
      refine Ev.dl (d := .lst (oddE.map D.str)) (EvN.ev (evn_lst (eva_cons ev_str (eva_cons ev_str (eva_cons ev_str (eva_cons ev_str (eva_cons ev_str (eva_cons ev_str eva_nil)))))) (small (show 6 ≤ 100000 by decide)))) ⟨.lst oddF, pl_lst (small (show 15 + 6 ≤ 100000 by decide)), ?_⟩
      show Ds _ [.val .purse, .val (.lst (cs.map (vasO T.C_Veil))), .val (.lst (cs.map fun x => D.str (tx x.1))), s3, s4, s5, s6, s7, .val (.lst oddF), .unset] _
      refine ds_ret (dl_op (dl_lc (dj_list (Ev.dl (ev_var rfl) ⟨oddF, rfl, (show 21 ≤ 1000000 by decide), fun i acc Γ' => Γ' = [.val .purse, .val (.lst (cs.map (vasO T.C_Veil))), .val (.lst (cs.map fun x => D.str (tx x.1))), s3, s4, s5, s6, s7, .val (.lst oddF), .unset] ∧ acc = [], ⟨rfl, rfl⟩, fun i x acc Γ' hx' ⟨e, ea⟩ => ?_, fun acc Γ' ⟨e, ea⟩ => ?_⟩))))
      · subst e
        subst ea
        have hm : x ∈ oddF := List.mem_of_getElem? hx'
        exact ⟨[9], _, dg_name, fun i hi => hi, dlt_not (dlt_tru_bl (dl_call (s := spIsRight) (dla_cons (Ev.dl (ev_tag (i := 0) rfl TgS.purse (ev_var rfl)) (dla_nil ⟨x, rfl, odd_okF x hm, fun d hd => ⟨true, hd, (fun h => nomatch h), fun _ => ⟨rfl, rfl⟩⟩⟩)))))⟩
      · subst e
        subst ea
        exact Ev.dl (EvN.ev (evn_lst eva_nil (Nat.zero_le _))) ⟨.bl true, eq_nil (k := 1) rfl (by decide), rfl⟩
end K31

namespace K31
open PySem PySem.Spec PyProof.Rows L2 Dw
variable [Tabs0]
/-- Veil(text=x): what the call binds -/
theorem kn_of {K : PySem.W.Frag} {f : Addr} {od an : Option Addr} {sl : Array (Option Value)} {oc kV dc pm cd ct : Value} (l : K.lookup f = some ⟨oc, od, .func (PySem.W.fnOf "__init__" "Veil.__init__" (defArgs s_Veil___init__) (defBody s_Veil___init__) (defScope s_Veil___init__) .none kV dc pm an cd ct), sl⟩) :
    KBn K (PySem.W.fnOf "__init__" "Veil.__init__" (defArgs s_Veil___init__) (defBody s_Veil___init__) (defScope s_Veil___init__) .none kV dc pm an cd ct) ["self", "text"] 1 ["text"] (fun us ws => us ++ ws) (fun vs zs => vs ++ zs) := by
  refine ⟨fun s us ws X l1 l2 => ?_, fun {vs us zs ws} r r' => ?_⟩
  · match us, ws, l1, l2 with
    | [a0], [k0], _, _ => exact .of_eq rfl
  · induction r with
    | nil => exact r'
    | cons h _ ih => exact .cons h ih

end K31

namespace K31
open PySem PySem.Spec PyProof.Rows L2 Dw
variable [Tabs0]
def spLaw (K : PySem.W.Frag) : Spc where
  ty := List Int
  args := fun ns => [.scr K (ns.map V.int)]
  ok := fun ns => ns.length ≤ 63 ∧ ∀ z ∈ ns, Builtin.Int.intBits z ≤ 1048576
  rel := fun _ d => d = .bl true
end K31

namespace K31
open PySem PySem.Spec PyProof.Rows L2 Dw
variable [Tabs0]
theorem d_law {P : Program} {w : World} {K : PySem.W.Frag} {mg : Str → Option Value} {base : Heap} (T : Txt K w mg) (TB__law_is_right : LamX.TabB base mg T.lc__law_is_right T.lt__law_is_right) : FnG P w K mg base 12 T.f_law T.e_law ["_law_cells"] (spLaw K) := by
  refine fnG_ok T.F_law sc_law (fun _ => rfl) fun cdv A outer s' H E hr hG => ?_
  refine ⟨_, (pss_one (ps_ret (pe_cmpR (eqA K hr.units) (pe_lc (own := [("_law_k", 1)]) rfl sc_law.nd (pi_range1 (by rfl) T.n_range (pa_cons (pe_callB (call_max2 rfl) (by rfl) T.n_max (by decide +kernel) (pa_cons pe_int (pa_cons (pe_callB (call_min2 rfl) (by rfl) T.n_min (by decide +kernel) (pa_cons (pe_callB (lenA K) (by rfl) T.n_len (by decide +kernel) (pa_cons (pv 0) pa_nil)) (pa_cons pe_int pa_nil))) pa_nil))) pa_nil)) (blkOk_by (own := [("_law_k", 1)]) (N := N_law) (sc := (defScope s_law)) (by decide +kernel)) (fun _ _ _ _ _ => pg_name (i := 1) sc_law.nd rfl (Or.inl rfl)) (fun _ _ _ _ _ => pts_one (pt_not (truA K (pe_callG (E := E0) (d__law_right T TB__law_is_right) (hr.mono (by decide)) hG (by rfl) T.m__law_right T.F__law_right.kp T.b__law_right (pa_cons (pe_call (d__law_well T) (hr.mono (by decide)) (by rfl) T.m__law_well T.F__law_well.kp T.b__law_well .nil pass0 (pa_cons (pe_call (d__law_cell T) (hr.mono (by decide)) (by rfl) T.m__law_cell T.F__law_cell.kp T.b__law_cell .nil pass0 (pa_cons (pv 0) (pa_cons (pv 1) pa_nil))) pa_nil)) pa_nil))))) (fun _ _ _ _ _ => (pv 1))) (pe_lst pa_nil) (nomark _)))), fun x hx => ?_⟩
  obtain ⟨ns, rfl⟩ : ∃ l : List Int, l = x := ⟨x, rfl⟩
  obtain ⟨hn, hbit⟩ := hx
  have hn : ns.length ≤ 63 := hn
  have l0 : (ns.map V.int).length = ns.length := List.length_map ..
  have em : ∃ m : Nat, m ≤ 63 ∧ (if (if (5 : Int) < ((ns.map V.int).length : Int) then (5 : Int) else ((ns.map V.int).length : Int)) > 2 then (if (5 : Int) < ((ns.map V.int).length : Int) then (5 : Int) else ((ns.map V.int).length : Int)) else 2) = (m : Int) := by
    rw [l0]
    by_cases h : (5 : Int) < (ns.length : Int)
    · rw [if_pos h, if_pos (by decide)]; exact ⟨5, by decide, rfl⟩
    · rw [if_neg h]
      by_cases h2 : (ns.length : Int) > 2
      · rw [if_pos h2]; exact ⟨ns.length, by omega, rfl⟩
      · rw [if_neg h2]; exact ⟨2, by decide, rfl⟩
  obtain ⟨m, hm, em⟩ := em
  refine ds_ret (dl_op (dl_lc (di_range (dla_cons (Ev.dl (ev_max2 ev_int (ev_min2 (ev_lenX (ev_var rfl)) ev_int)) (dla_nil ⟨m, ?_, by omega, by rw [rng_length]; omega, fun i acc Γ' => Γ' = [.val (.scr K (ns.map V.int)), .unset] ∧ acc = [], ⟨rfl, rfl⟩, fun i x acc Γ' hx' ⟨e, ea⟩ => ?_, fun acc Γ' ⟨e, ea⟩ => ?_⟩))))))
  · rw [em]
  · subst e
    subst ea
    obtain ⟨hi, rfl⟩ := rng_get hx'
    exact ⟨[1], _, dg_name, fun i hi => hi, dlt_not (dlt_tru_bl (dl_wellT (K := K) (s := spRightJ) (x := ()) rfl trivial (fun d h => h) (dl_call (s := spCell K) (dla_cons (Ev.dl (ev_var rfl) (dla_cons (Ev.dl (ev_var rfl) (dla_nil ⟨(ns, i), rfl, hn, fun d hd => ⟨hd, ⟨0, _, rfl⟩, true, rfl, (fun h => nomatch h), fun _ => ⟨rfl, rfl⟩⟩⟩))))))))⟩
  · subst e
    subst ea
    exact Ev.dl (EvN.ev (evn_lst eva_nil (Nat.zero_le _))) ⟨.bl true, eq_nil (k := 1) rfl (by decide), rfl⟩

end K31

namespace Dw
open PySem PySem.Spec PyProof.Rows L2
/-! the answers of isinstance and of an except clause, from what the written part says -/
theorem kit_cls_of {K : PySem.W.Frag} {D0 C : Addr} {b : Bool} (hd : PySem.W.hasDictIn K C = true) (ht : PySem.W.typeIn K (.ref C) = some (.type "type")) (hs : PySem.W.subIn K (.ref D0) (.ref C) = some b) : PySem.W.kitCls K (.ref D0) (.ref C) = some b := by
  obtain ⟨cd, hc, _⟩ := PySem.W.any_some hd
  show (if ((PySem.W.clsIn K C).isSome && PySem.W.typeIn K (.ref C) == some (.type "type")) = true then PySem.W.subIn K (.ref D0) (.ref C) else none) = some b
  rw [if_pos (by rw [hc, ht]; rfl)]
  exact hs
theorem exm_one1 {K : PySem.W.Frag} {D0 C : Addr} {b : Bool} (s1 : PySem.W.subIn K (.ref C) (.type "BaseException") = some true) (hd : PySem.W.hasDictIn K C = true) (ht : PySem.W.typeIn K (.ref C) = some (.type "type")) (h : PySem.W.subIn K (.ref D0) (.ref C) = some b) : PySem.W.exmOne K (.ref D0) (.ref C) = some b := by
  unfold PySem.W.exmOne
  rw [if_pos (by rw [s1]; rfl)]
  exact kit_cls_of hd ht h
end Dw

namespace K31
open PySem PySem.Spec PyProof.Rows L2 Dw
abbrev qn__law_is_right (f c : Addr) : Str := (envOfC "_law_is_right" (defScope s__law_is_right) 0 f (.ref c)).qual ++ "<lambda>"
theorem all_mk {l : PySem.W.OpenLaw} {q : Program} {w : World} {K : PySem.W.Frag} {h : Heap} {mg : Str → Option Value} {fa : Addr} (X : K.In h) (G : h.Ns mainGlobals mg) (hfa : mg "law" = some (.ref fa)) (tb : ∀ (y : Str) (f : Addr), ((recsOf q).any fun e => e.name == y) = true → mg y = some (.ref f) → TabOf K f h)
    {C_Case : Addr}
    {C_InvalidText : Addr}
    {C_Veil : Addr}
    {xnm_InvalidText : Str} {xq_InvalidText : Str} {xN_InvalidText : Addr} {xbs_InvalidText xbm_InvalidText : List Value} {xw0_InvalidText : List Str} {xw1_InvalidText : List Value} {xw2_InvalidText : Bool} {xw3_InvalidText : Option Bool} {xw4_InvalidText : Option Addr} {xw5_InvalidText xw6_InvalidText xw7_InvalidText xw8_InvalidText xw9_InvalidText : Option Value}
    {f_is_name : Addr} {od_is_name an_is_name : Option Addr} {sl_is_name : Array (Option Value)} {oc_is_name kV_is_name dc_is_name pm_is_name cd_is_name ct_is_name : Value}
    {f_are_names : Addr} {od_are_names an_are_names : Option Addr} {sl_are_names : Array (Option Value)} {oc_are_names kV_are_names dc_are_names pm_are_names cd_are_names ct_are_names : Value}
    {f_is_number : Addr} {od_is_number an_is_number : Option Addr} {sl_is_number : Array (Option Value)} {oc_is_number kV_is_number dc_is_number pm_is_number cd_is_number ct_is_number : Value}
    {f_read_mark : Addr} {od_read_mark an_read_mark : Option Addr} {sl_read_mark : Array (Option Value)} {oc_read_mark kV_read_mark dc_read_mark pm_read_mark cd_read_mark ct_read_mark : Value}
    {f_read_stretch : Addr} {od_read_stretch an_read_stretch : Option Addr} {sl_read_stretch : Array (Option Value)} {oc_read_stretch kV_read_stretch dc_read_stretch pm_read_stretch cd_read_stretch ct_read_stretch : Value}
    {f_read_candidates : Addr} {od_read_candidates an_read_candidates : Option Addr} {sl_read_candidates : Array (Option Value)} {oc_read_candidates kV_read_candidates dc_read_candidates pm_read_candidates cd_read_candidates ct_read_candidates : Value}
    {f_read_case : Addr} {od_read_case an_read_case : Option Addr} {sl_read_case : Array (Option Value)} {oc_read_case kV_read_case dc_read_case pm_read_case cd_read_case ct_read_case : Value}
    {f_read_veil : Addr} {od_read_veil an_read_veil : Option Addr} {sl_read_veil : Array (Option Value)} {oc_read_veil kV_read_veil dc_read_veil pm_read_veil cd_read_veil ct_read_veil : Value}
    {f__law_cell : Addr} {od__law_cell an__law_cell : Option Addr} {sl__law_cell : Array (Option Value)} {oc__law_cell kV__law_cell dc__law_cell pm__law_cell cd__law_cell ct__law_cell : Value}
    {f__law_well : Addr} {od__law_well an__law_well : Option Addr} {sl__law_well : Array (Option Value)} {oc__law_well kV__law_well dc__law_well pm__law_well cd__law_well ct__law_well : Value}
    {f__law_dip : Addr} {od__law_dip an__law_dip : Option Addr} {sl__law_dip : Array (Option Value)} {oc__law_dip kV__law_dip dc__law_dip pm__law_dip cd__law_dip ct__law_dip : Value}
    {f__law_pick : Addr} {od__law_pick an__law_pick : Option Addr} {sl__law_pick : Array (Option Value)} {oc__law_pick kV__law_pick dc__law_pick pm__law_pick cd__law_pick ct__law_pick : Value}
    {f__law_tags : Addr} {od__law_tags an__law_tags : Option Addr} {sl__law_tags : Array (Option Value)} {oc__law_tags kV__law_tags dc__law_tags pm__law_tags cd__law_tags ct__law_tags : Value}
    {f__law_folk : Addr} {od__law_folk an__law_folk : Option Addr} {sl__law_folk : Array (Option Value)} {oc__law_folk kV__law_folk dc__law_folk pm__law_folk cd__law_folk ct__law_folk : Value}
    {f__law_figure : Addr} {od__law_figure an__law_figure : Option Addr} {sl__law_figure : Array (Option Value)} {oc__law_figure kV__law_figure dc__law_figure pm__law_figure cd__law_figure ct__law_figure : Value}
    {f__law_is_tag : Addr} {od__law_is_tag an__law_is_tag : Option Addr} {sl__law_is_tag : Array (Option Value)} {oc__law_is_tag kV__law_is_tag dc__law_is_tag pm__law_is_tag cd__law_is_tag ct__law_is_tag : Value}
    {f__law_stretch : Addr} {od__law_stretch an__law_stretch : Option Addr} {sl__law_stretch : Array (Option Value)} {oc__law_stretch kV__law_stretch dc__law_stretch pm__law_stretch cd__law_stretch ct__law_stretch : Value}
    {f__law_read : Addr} {od__law_read an__law_read : Option Addr} {sl__law_read : Array (Option Value)} {oc__law_read kV__law_read dc__law_read pm__law_read cd__law_read ct__law_read : Value}
    {f__law_bent_page : Addr} {od__law_bent_page an__law_bent_page : Option Addr} {sl__law_bent_page : Array (Option Value)} {oc__law_bent_page kV__law_bent_page dc__law_bent_page pm__law_bent_page cd__law_bent_page ct__law_bent_page : Value}
    {f__law_made_of : Addr} {od__law_made_of an__law_made_of : Option Addr} {sl__law_made_of : Array (Option Value)} {oc__law_made_of kV__law_made_of dc__law_made_of pm__law_made_of cd__law_made_of ct__law_made_of : Value}
    {f__law_odd_things : Addr} {od__law_odd_things an__law_odd_things : Option Addr} {sl__law_odd_things : Array (Option Value)} {oc__law_odd_things kV__law_odd_things dc__law_odd_things pm__law_odd_things cd__law_odd_things ct__law_odd_things : Value}
    {f__law_veiled : Addr} {od__law_veiled an__law_veiled : Option Addr} {sl__law_veiled : Array (Option Value)} {oc__law_veiled kV__law_veiled dc__law_veiled pm__law_veiled cd__law_veiled ct__law_veiled : Value}
    {f__law_veil_page : Addr} {od__law_veil_page an__law_veil_page : Option Addr} {sl__law_veil_page : Array (Option Value)} {oc__law_veil_page kV__law_veil_page dc__law_veil_page pm__law_veil_page cd__law_veil_page ct__law_veil_page : Value}
    {f_Veil_text : Addr} {od_Veil_text an_Veil_text : Option Addr} {sl_Veil_text : Array (Option Value)} {oc_Veil_text kV_Veil_text dc_Veil_text pm_Veil_text cd_Veil_text ct_Veil_text : Value}
    {q_Veil_text : Addr} {rest_Veil_text : List Value}
    {f_Veil_names : Addr} {od_Veil_names an_Veil_names : Option Addr} {sl_Veil_names : Array (Option Value)} {oc_Veil_names kV_Veil_names dc_Veil_names pm_Veil_names cd_Veil_names ct_Veil_names : Value}
    {q_Veil_names : Addr} {rest_Veil_names : List Value}
    {f_Veil_marks : Addr} {od_Veil_marks an_Veil_marks : Option Addr} {sl_Veil_marks : Array (Option Value)} {oc_Veil_marks kV_Veil_marks dc_Veil_marks pm_Veil_marks cd_Veil_marks ct_Veil_marks : Value}
    {q_Veil_marks : Addr} {rest_Veil_marks : List Value}
    {f_InvalidText___init__ : Addr} {od_InvalidText___init__ an_InvalidText___init__ : Option Addr} {sl_InvalidText___init__ : Array (Option Value)} {oc_InvalidText___init__ kV_InvalidText___init__ dc_InvalidText___init__ pm_InvalidText___init__ cd_InvalidText___init__ ct_InvalidText___init__ : Value}
    {f_Veil___init__ : Addr} {od_Veil___init__ an_Veil___init__ : Option Addr} {sl_Veil___init__ : Array (Option Value)} {oc_Veil___init__ kV_Veil___init__ dc_Veil___init__ pm_Veil___init__ cd_Veil___init__ ct_Veil___init__ : Value}
    {f_Case___init__ : Addr} {od_Case___init__ an_Case___init__ : Option Addr} {sl_Case___init__ : Array (Option Value)} {oc_Case___init__ kV_Case___init__ dc_Case___init__ pm_Case___init__ cd_Case___init__ ct_Case___init__ : Value}
    {f_Veil___str__ : Addr} {od_Veil___str__ an_Veil___str__ : Option Addr} {sl_Veil___str__ : Array (Option Value)} {oc_Veil___str__ kV_Veil___str__ dc_Veil___str__ pm_Veil___str__ cd_Veil___str__ ct_Veil___str__ : Value}
    {f_Veil___repr__ : Addr} {od_Veil___repr__ an_Veil___repr__ : Option Addr} {sl_Veil___repr__ : Array (Option Value)} {oc_Veil___repr__ kV_Veil___repr__ dc_Veil___repr__ pm_Veil___repr__ cd_Veil___repr__ ct_Veil___repr__ : Value}
    {f_Veil___eq__ : Addr} {od_Veil___eq__ an_Veil___eq__ : Option Addr} {sl_Veil___eq__ : Array (Option Value)} {oc_Veil___eq__ kV_Veil___eq__ dc_Veil___eq__ pm_Veil___eq__ cd_Veil___eq__ ct_Veil___eq__ : Value}
    {f_Case___eq__ : Addr} {od_Case___eq__ an_Case___eq__ : Option Addr} {sl_Case___eq__ : Array (Option Value)} {oc_Case___eq__ kV_Case___eq__ dc_Case___eq__ pm_Case___eq__ cd_Case___eq__ ct_Case___eq__ : Value}
    {f__law_is_right : Addr} {od__law_is_right an__law_is_right : Option Addr} {sl__law_is_right : Array (Option Value)} {oc__law_is_right kV__law_is_right dc__law_is_right pm__law_is_right ct__law_is_right : Value}
    {lc__law_is_right lt__law_is_right : Addr} {lo__law_is_right : Value} {ld__law_is_right : Option Addr} {lv__law_is_right : Array Value} {ls__law_is_right : Array (Option Value)}
    {f__law_right : Addr} {od__law_right an__law_right : Option Addr} {sl__law_right : Array (Option Value)} {oc__law_right kV__law_right dc__law_right pm__law_right cd__law_right ct__law_right : Value}
    {f_law : Addr} {od_law an_law : Option Addr} {sl_law : Array (Option Value)} {oc_law kV_law dc_law pm_law cd_law ct_law : Value}
    {t_DIGITS : Tok}
    {t_LEAST_CANDIDATES : Tok}
    {t_LETTERS : Tok}
    {t_MOST_CANDIDATES : Tok}
    {t_MOST_LETTERS : Tok}
    {t_MOST_MARKS : Tok}
    {t_MOST_RULES : Tok}
    (cm_Case : PySem.W.nsIn K mainGlobals "Case" = some (some (.ref C_Case)))
    (cpg_Case : PySem.W.plainGet K C_Case Str.empty = true)
    (chd_Case : PySem.W.hasDictIn K C_Case = true)
    (cpo_Case : PySem.W.plainOver K C_Case = true)
    (csa_Case : PySem.W.findIn K (.ref C_Case) "__setattr__" = some (some (.builtin "object.__setattr__")))
    (cmk_Case : PySem.W.makesIn K C_Case = true)
    (ckc_Case : PySem.W.keepIn K (.ref C_Case) = true)
    (cia_Case : PySem.W.findIn K (.ref C_Case) "__class__" = some (some (.builtin "object.__class__")))
    (cim_Case : PySem.W.mroIn K C_Case (.type "object") = some true)
    (cm_InvalidText : PySem.W.nsIn K mainGlobals "InvalidText" = some (some (.ref C_InvalidText)))
    (cm_Veil : PySem.W.nsIn K mainGlobals "Veil" = some (some (.ref C_Veil)))
    (cpg_Veil : PySem.W.plainGet K C_Veil Str.empty = true)
    (chd_Veil : PySem.W.hasDictIn K C_Veil = true)
    (cpo_Veil : PySem.W.plainOver K C_Veil = true)
    (csa_Veil : PySem.W.findIn K (.ref C_Veil) "__setattr__" = some (some (.builtin "object.__setattr__")))
    (cmk_Veil : PySem.W.makesIn K C_Veil = true)
    (ckc_Veil : PySem.W.keepIn K (.ref C_Veil) = true)
    (cia_Veil : PySem.W.findIn K (.ref C_Veil) "__class__" = some (some (.builtin "object.__class__")))
    (cim_Veil : PySem.W.mroIn K C_Veil (.type "object") = some true)
    (xh_InvalidText : PySem.W.hasDictIn K C_InvalidText = true)
    (xt_InvalidText : PySem.W.typeIn K (.ref C_InvalidText) = some (.type "type"))
    (xs_InvalidText : PySem.W.subIn K (.ref C_InvalidText) (.type "BaseException") = some true)
    (xga_InvalidText : PySem.W.findIn K (.ref C_InvalidText) "__getattribute__" = some (some (.builtin "BaseException.__getattribute__")))
    (xgt_InvalidText : PySem.W.findIn K (.ref C_InvalidText) "__getattr__" = some (none))
    (xcl_InvalidText : PySem.W.findIn K (.ref C_InvalidText) "__class__" = some (some (.builtin "object.__class__")))
    (xo_InvalidText : PySem.W.mroIn K C_InvalidText (.type "object") = some true)
    (xp_InvalidText : PySem.W.keepIn K (.ref C_InvalidText) = true)
    (xu_InvalidText_InvalidText : PySem.W.subIn K (.ref C_InvalidText) (.ref C_InvalidText) = some true)
    (xL_InvalidText : K.lookup C_InvalidText = some (PySem.excClassObj xnm_InvalidText xq_InvalidText C_InvalidText xN_InvalidText xbs_InvalidText xbm_InvalidText true xw0_InvalidText xw1_InvalidText xw2_InvalidText xw3_InvalidText xw4_InvalidText xw5_InvalidText xw6_InvalidText xw7_InvalidText xw8_InvalidText xw9_InvalidText "ValueError.__new__"))
    (xR_InvalidText : HandSPX.refsVE xbm_InvalidText = true)
    (xa_InvalidText : PySem.W.findIn K (.ref C_InvalidText) "__setattr__" = some (some (.builtin "object.__setattr__")))
    (xn_InvalidText_given : PySem.W.findIn K (.ref C_InvalidText) "given" = some none)
    (xn_InvalidText_index : PySem.W.findIn K (.ref C_InvalidText) "index" = some none)
    (xn_InvalidText_number : PySem.W.findIn K (.ref C_InvalidText) "number" = some none)
    (xn_InvalidText_told : PySem.W.findIn K (.ref C_InvalidText) "told" = some none)
    (ihn : PySem.W.specialIn K (.builtin "object.__class__") "__get__" = some (some (.builtin "getset_descriptor.__get__")))
    (iht : PySem.W.takesIn K (.builtin "object.__class__") = some true)
    (a_is_name : PySem.W.nsIn K mainGlobals "is_name" = some (some (.ref f_is_name)))
    (l_is_name : K.lookup f_is_name = some ⟨oc_is_name, od_is_name, .func (PySem.W.fnOf "is_name" "is_name" (defArgs s_is_name) (defBody s_is_name) (defScope s_is_name) .none kV_is_name dc_is_name pm_is_name an_is_name cd_is_name ct_is_name), sl_is_name⟩)
    (c_is_name : PySem.W.codeIn K cd_is_name "is_name" = true)
    (k_is_name : PySem.W.keepIn K (.ref f_is_name) = true)
    (a_are_names : PySem.W.nsIn K mainGlobals "are_names" = some (some (.ref f_are_names)))
    (l_are_names : K.lookup f_are_names = some ⟨oc_are_names, od_are_names, .func (PySem.W.fnOf "are_names" "are_names" (defArgs s_are_names) (defBody s_are_names) (defScope s_are_names) .none kV_are_names dc_are_names pm_are_names an_are_names cd_are_names ct_are_names), sl_are_names⟩)
    (c_are_names : PySem.W.codeIn K cd_are_names "are_names" = true)
    (k_are_names : PySem.W.keepIn K (.ref f_are_names) = true)
    (a_is_number : PySem.W.nsIn K mainGlobals "is_number" = some (some (.ref f_is_number)))
    (l_is_number : K.lookup f_is_number = some ⟨oc_is_number, od_is_number, .func (PySem.W.fnOf "is_number" "is_number" (defArgs s_is_number) (defBody s_is_number) (defScope s_is_number) .none kV_is_number dc_is_number pm_is_number an_is_number cd_is_number ct_is_number), sl_is_number⟩)
    (c_is_number : PySem.W.codeIn K cd_is_number "is_number" = true)
    (k_is_number : PySem.W.keepIn K (.ref f_is_number) = true)
    (a_read_mark : PySem.W.nsIn K mainGlobals "read_mark" = some (some (.ref f_read_mark)))
    (l_read_mark : K.lookup f_read_mark = some ⟨oc_read_mark, od_read_mark, .func (PySem.W.fnOf "read_mark" "read_mark" (defArgs s_read_mark) (defBody s_read_mark) (defScope s_read_mark) .none kV_read_mark dc_read_mark pm_read_mark an_read_mark cd_read_mark ct_read_mark), sl_read_mark⟩)
    (c_read_mark : PySem.W.codeIn K cd_read_mark "read_mark" = true)
    (k_read_mark : PySem.W.keepIn K (.ref f_read_mark) = true)
    (a_read_stretch : PySem.W.nsIn K mainGlobals "read_stretch" = some (some (.ref f_read_stretch)))
    (l_read_stretch : K.lookup f_read_stretch = some ⟨oc_read_stretch, od_read_stretch, .func (PySem.W.fnOf "read_stretch" "read_stretch" (defArgs s_read_stretch) (defBody s_read_stretch) (defScope s_read_stretch) .none kV_read_stretch dc_read_stretch pm_read_stretch an_read_stretch cd_read_stretch ct_read_stretch), sl_read_stretch⟩)
    (c_read_stretch : PySem.W.codeIn K cd_read_stretch "read_stretch" = true)
    (k_read_stretch : PySem.W.keepIn K (.ref f_read_stretch) = true)
    (a_read_candidates : PySem.W.nsIn K mainGlobals "read_candidates" = some (some (.ref f_read_candidates)))
    (l_read_candidates : K.lookup f_read_candidates = some ⟨oc_read_candidates, od_read_candidates, .func (PySem.W.fnOf "read_candidates" "read_candidates" (defArgs s_read_candidates) (defBody s_read_candidates) (defScope s_read_candidates) .none kV_read_candidates dc_read_candidates pm_read_candidates an_read_candidates cd_read_candidates ct_read_candidates), sl_read_candidates⟩)
    (c_read_candidates : PySem.W.codeIn K cd_read_candidates "read_candidates" = true)
    (k_read_candidates : PySem.W.keepIn K (.ref f_read_candidates) = true)
    (a_read_case : PySem.W.nsIn K mainGlobals "read_case" = some (some (.ref f_read_case)))
    (l_read_case : K.lookup f_read_case = some ⟨oc_read_case, od_read_case, .func (PySem.W.fnOf "read_case" "read_case" (defArgs s_read_case) (defBody s_read_case) (defScope s_read_case) .none kV_read_case dc_read_case pm_read_case an_read_case cd_read_case ct_read_case), sl_read_case⟩)
    (c_read_case : PySem.W.codeIn K cd_read_case "read_case" = true)
    (k_read_case : PySem.W.keepIn K (.ref f_read_case) = true)
    (a_read_veil : PySem.W.nsIn K mainGlobals "read_veil" = some (some (.ref f_read_veil)))
    (l_read_veil : K.lookup f_read_veil = some ⟨oc_read_veil, od_read_veil, .func (PySem.W.fnOf "read_veil" "read_veil" (defArgs s_read_veil) (defBody s_read_veil) (defScope s_read_veil) .none kV_read_veil dc_read_veil pm_read_veil an_read_veil cd_read_veil ct_read_veil), sl_read_veil⟩)
    (c_read_veil : PySem.W.codeIn K cd_read_veil "read_veil" = true)
    (k_read_veil : PySem.W.keepIn K (.ref f_read_veil) = true)
    (a__law_cell : PySem.W.nsIn K mainGlobals "_law_cell" = some (some (.ref f__law_cell)))
    (l__law_cell : K.lookup f__law_cell = some ⟨oc__law_cell, od__law_cell, .func (PySem.W.fnOf "_law_cell" "_law_cell" (defArgs s__law_cell) (defBody s__law_cell) (defScope s__law_cell) .none kV__law_cell dc__law_cell pm__law_cell an__law_cell cd__law_cell ct__law_cell), sl__law_cell⟩)
    (c__law_cell : PySem.W.codeIn K cd__law_cell "_law_cell" = true)
    (k__law_cell : PySem.W.keepIn K (.ref f__law_cell) = true)
    (a__law_well : PySem.W.nsIn K mainGlobals "_law_well" = some (some (.ref f__law_well)))
    (l__law_well : K.lookup f__law_well = some ⟨oc__law_well, od__law_well, .func (PySem.W.fnOf "_law_well" "_law_well" (defArgs s__law_well) (defBody s__law_well) (defScope s__law_well) .none kV__law_well dc__law_well pm__law_well an__law_well cd__law_well ct__law_well), sl__law_well⟩)
    (c__law_well : PySem.W.codeIn K cd__law_well "_law_well" = true)
    (k__law_well : PySem.W.keepIn K (.ref f__law_well) = true)
    (a__law_dip : PySem.W.nsIn K mainGlobals "_law_dip" = some (some (.ref f__law_dip)))
    (l__law_dip : K.lookup f__law_dip = some ⟨oc__law_dip, od__law_dip, .func (PySem.W.fnOf "_law_dip" "_law_dip" (defArgs s__law_dip) (defBody s__law_dip) (defScope s__law_dip) .none kV__law_dip dc__law_dip pm__law_dip an__law_dip cd__law_dip ct__law_dip), sl__law_dip⟩)
    (c__law_dip : PySem.W.codeIn K cd__law_dip "_law_dip" = true)
    (k__law_dip : PySem.W.keepIn K (.ref f__law_dip) = true)
    (a__law_pick : PySem.W.nsIn K mainGlobals "_law_pick" = some (some (.ref f__law_pick)))
    (l__law_pick : K.lookup f__law_pick = some ⟨oc__law_pick, od__law_pick, .func (PySem.W.fnOf "_law_pick" "_law_pick" (defArgs s__law_pick) (defBody s__law_pick) (defScope s__law_pick) .none kV__law_pick dc__law_pick pm__law_pick an__law_pick cd__law_pick ct__law_pick), sl__law_pick⟩)
    (c__law_pick : PySem.W.codeIn K cd__law_pick "_law_pick" = true)
    (k__law_pick : PySem.W.keepIn K (.ref f__law_pick) = true)
    (a__law_tags : PySem.W.nsIn K mainGlobals "_law_tags" = some (some (.ref f__law_tags)))
    (l__law_tags : K.lookup f__law_tags = some ⟨oc__law_tags, od__law_tags, .func (PySem.W.fnOf "_law_tags" "_law_tags" (defArgs s__law_tags) (defBody s__law_tags) (defScope s__law_tags) .none kV__law_tags dc__law_tags pm__law_tags an__law_tags cd__law_tags ct__law_tags), sl__law_tags⟩)
    (c__law_tags : PySem.W.codeIn K cd__law_tags "_law_tags" = true)
    (k__law_tags : PySem.W.keepIn K (.ref f__law_tags) = true)
    (a__law_folk : PySem.W.nsIn K mainGlobals "_law_folk" = some (some (.ref f__law_folk)))
    (l__law_folk : K.lookup f__law_folk = some ⟨oc__law_folk, od__law_folk, .func (PySem.W.fnOf "_law_folk" "_law_folk" (defArgs s__law_folk) (defBody s__law_folk) (defScope s__law_folk) .none kV__law_folk dc__law_folk pm__law_folk an__law_folk cd__law_folk ct__law_folk), sl__law_folk⟩)
    (c__law_folk : PySem.W.codeIn K cd__law_folk "_law_folk" = true)
    (k__law_folk : PySem.W.keepIn K (.ref f__law_folk) = true)
    (a__law_figure : PySem.W.nsIn K mainGlobals "_law_figure" = some (some (.ref f__law_figure)))
    (l__law_figure : K.lookup f__law_figure = some ⟨oc__law_figure, od__law_figure, .func (PySem.W.fnOf "_law_figure" "_law_figure" (defArgs s__law_figure) (defBody s__law_figure) (defScope s__law_figure) .none kV__law_figure dc__law_figure pm__law_figure an__law_figure cd__law_figure ct__law_figure), sl__law_figure⟩)
    (c__law_figure : PySem.W.codeIn K cd__law_figure "_law_figure" = true)
    (k__law_figure : PySem.W.keepIn K (.ref f__law_figure) = true)
    (a__law_is_tag : PySem.W.nsIn K mainGlobals "_law_is_tag" = some (some (.ref f__law_is_tag)))
    (l__law_is_tag : K.lookup f__law_is_tag = some ⟨oc__law_is_tag, od__law_is_tag, .func (PySem.W.fnOf "_law_is_tag" "_law_is_tag" (defArgs s__law_is_tag) (defBody s__law_is_tag) (defScope s__law_is_tag) .none kV__law_is_tag dc__law_is_tag pm__law_is_tag an__law_is_tag cd__law_is_tag ct__law_is_tag), sl__law_is_tag⟩)
    (c__law_is_tag : PySem.W.codeIn K cd__law_is_tag "_law_is_tag" = true)
    (k__law_is_tag : PySem.W.keepIn K (.ref f__law_is_tag) = true)
    (a__law_stretch : PySem.W.nsIn K mainGlobals "_law_stretch" = some (some (.ref f__law_stretch)))
    (l__law_stretch : K.lookup f__law_stretch = some ⟨oc__law_stretch, od__law_stretch, .func (PySem.W.fnOf "_law_stretch" "_law_stretch" (defArgs s__law_stretch) (defBody s__law_stretch) (defScope s__law_stretch) .none kV__law_stretch dc__law_stretch pm__law_stretch an__law_stretch cd__law_stretch ct__law_stretch), sl__law_stretch⟩)
    (c__law_stretch : PySem.W.codeIn K cd__law_stretch "_law_stretch" = true)
    (k__law_stretch : PySem.W.keepIn K (.ref f__law_stretch) = true)
    (a__law_read : PySem.W.nsIn K mainGlobals "_law_read" = some (some (.ref f__law_read)))
    (l__law_read : K.lookup f__law_read = some ⟨oc__law_read, od__law_read, .func (PySem.W.fnOf "_law_read" "_law_read" (defArgs s__law_read) (defBody s__law_read) (defScope s__law_read) .none kV__law_read dc__law_read pm__law_read an__law_read cd__law_read ct__law_read), sl__law_read⟩)
    (c__law_read : PySem.W.codeIn K cd__law_read "_law_read" = true)
    (k__law_read : PySem.W.keepIn K (.ref f__law_read) = true)
    (a__law_bent_page : PySem.W.nsIn K mainGlobals "_law_bent_page" = some (some (.ref f__law_bent_page)))
    (l__law_bent_page : K.lookup f__law_bent_page = some ⟨oc__law_bent_page, od__law_bent_page, .func (PySem.W.fnOf "_law_bent_page" "_law_bent_page" (defArgs s__law_bent_page) (defBody s__law_bent_page) (defScope s__law_bent_page) .none kV__law_bent_page dc__law_bent_page pm__law_bent_page an__law_bent_page cd__law_bent_page ct__law_bent_page), sl__law_bent_page⟩)
    (c__law_bent_page : PySem.W.codeIn K cd__law_bent_page "_law_bent_page" = true)
    (k__law_bent_page : PySem.W.keepIn K (.ref f__law_bent_page) = true)
    (a__law_made_of : PySem.W.nsIn K mainGlobals "_law_made_of" = some (some (.ref f__law_made_of)))
    (l__law_made_of : K.lookup f__law_made_of = some ⟨oc__law_made_of, od__law_made_of, .func (PySem.W.fnOf "_law_made_of" "_law_made_of" (defArgs s__law_made_of) (defBody s__law_made_of) (defScope s__law_made_of) .none kV__law_made_of dc__law_made_of pm__law_made_of an__law_made_of cd__law_made_of ct__law_made_of), sl__law_made_of⟩)
    (c__law_made_of : PySem.W.codeIn K cd__law_made_of "_law_made_of" = true)
    (k__law_made_of : PySem.W.keepIn K (.ref f__law_made_of) = true)
    (a__law_odd_things : PySem.W.nsIn K mainGlobals "_law_odd_things" = some (some (.ref f__law_odd_things)))
    (l__law_odd_things : K.lookup f__law_odd_things = some ⟨oc__law_odd_things, od__law_odd_things, .func (PySem.W.fnOf "_law_odd_things" "_law_odd_things" (defArgs s__law_odd_things) (defBody s__law_odd_things) (defScope s__law_odd_things) .none kV__law_odd_things dc__law_odd_things pm__law_odd_things an__law_odd_things cd__law_odd_things ct__law_odd_things), sl__law_odd_things⟩)
    (c__law_odd_things : PySem.W.codeIn K cd__law_odd_things "_law_odd_things" = true)
    (k__law_odd_things : PySem.W.keepIn K (.ref f__law_odd_things) = true)
    (a__law_veiled : PySem.W.nsIn K mainGlobals "_law_veiled" = some (some (.ref f__law_veiled)))
    (l__law_veiled : K.lookup f__law_veiled = some ⟨oc__law_veiled, od__law_veiled, .func (PySem.W.fnOf "_law_veiled" "_law_veiled" (defArgs s__law_veiled) (defBody s__law_veiled) (defScope s__law_veiled) .none kV__law_veiled dc__law_veiled pm__law_veiled an__law_veiled cd__law_veiled ct__law_veiled), sl__law_veiled⟩)
    (c__law_veiled : PySem.W.codeIn K cd__law_veiled "_law_veiled" = true)
    (k__law_veiled : PySem.W.keepIn K (.ref f__law_veiled) = true)
    (a__law_veil_page : PySem.W.nsIn K mainGlobals "_law_veil_page" = some (some (.ref f__law_veil_page)))
    (l__law_veil_page : K.lookup f__law_veil_page = some ⟨oc__law_veil_page, od__law_veil_page, .func (PySem.W.fnOf "_law_veil_page" "_law_veil_page" (defArgs s__law_veil_page) (defBody s__law_veil_page) (defScope s__law_veil_page) .none kV__law_veil_page dc__law_veil_page pm__law_veil_page an__law_veil_page cd__law_veil_page ct__law_veil_page), sl__law_veil_page⟩)
    (c__law_veil_page : PySem.W.codeIn K cd__law_veil_page "_law_veil_page" = true)
    (k__law_veil_page : PySem.W.keepIn K (.ref f__law_veil_page) = true)
    (a_Veil_text : PySem.W.findIn K (.ref C_Veil) "text" = some (some (.ref q_Veil_text)))
    (g_Veil_text : PySem.W.specialIn K (.ref q_Veil_text) "__get__" = some (some (.builtin "property.__get__")))
    (t_Veil_text : PySem.W.takesIn K (.ref q_Veil_text) = some true)
    (r_Veil_text : PySem.W.recIn K q_Veil_text "property" = some (.ref f_Veil_text :: rest_Veil_text))
    (l_Veil_text : K.lookup f_Veil_text = some ⟨oc_Veil_text, od_Veil_text, .func (PySem.W.fnOf "text" "Veil.text" (defArgs s_Veil_text) (defBody s_Veil_text) (defScope s_Veil_text) .none kV_Veil_text dc_Veil_text pm_Veil_text an_Veil_text cd_Veil_text ct_Veil_text), sl_Veil_text⟩)
    (c_Veil_text : PySem.W.codeIn K cd_Veil_text "Veil.text" = true)
    (k_Veil_text : PySem.W.keepIn K (.ref f_Veil_text) = true)
    (a_Veil_names : PySem.W.findIn K (.ref C_Veil) "names" = some (some (.ref q_Veil_names)))
    (g_Veil_names : PySem.W.specialIn K (.ref q_Veil_names) "__get__" = some (some (.builtin "property.__get__")))
    (t_Veil_names : PySem.W.takesIn K (.ref q_Veil_names) = some true)
    (r_Veil_names : PySem.W.recIn K q_Veil_names "property" = some (.ref f_Veil_names :: rest_Veil_names))
    (l_Veil_names : K.lookup f_Veil_names = some ⟨oc_Veil_names, od_Veil_names, .func (PySem.W.fnOf "names" "Veil.names" (defArgs s_Veil_names) (defBody s_Veil_names) (defScope s_Veil_names) .none kV_Veil_names dc_Veil_names pm_Veil_names an_Veil_names cd_Veil_names ct_Veil_names), sl_Veil_names⟩)
    (c_Veil_names : PySem.W.codeIn K cd_Veil_names "Veil.names" = true)
    (k_Veil_names : PySem.W.keepIn K (.ref f_Veil_names) = true)
    (a_Veil_marks : PySem.W.findIn K (.ref C_Veil) "marks" = some (some (.ref q_Veil_marks)))
    (g_Veil_marks : PySem.W.specialIn K (.ref q_Veil_marks) "__get__" = some (some (.builtin "property.__get__")))
    (t_Veil_marks : PySem.W.takesIn K (.ref q_Veil_marks) = some true)
    (r_Veil_marks : PySem.W.recIn K q_Veil_marks "property" = some (.ref f_Veil_marks :: rest_Veil_marks))
    (l_Veil_marks : K.lookup f_Veil_marks = some ⟨oc_Veil_marks, od_Veil_marks, .func (PySem.W.fnOf "marks" "Veil.marks" (defArgs s_Veil_marks) (defBody s_Veil_marks) (defScope s_Veil_marks) .none kV_Veil_marks dc_Veil_marks pm_Veil_marks an_Veil_marks cd_Veil_marks ct_Veil_marks), sl_Veil_marks⟩)
    (c_Veil_marks : PySem.W.codeIn K cd_Veil_marks "Veil.marks" = true)
    (k_Veil_marks : PySem.W.keepIn K (.ref f_Veil_marks) = true)
    (a_InvalidText___init__ : PySem.W.findIn K (.ref C_InvalidText) "__init__" = some (some (.ref f_InvalidText___init__)))
    (i_InvalidText___init__ : PySem.W.isFn K (.ref f_InvalidText___init__) = true)
    (xy_InvalidText : PySem.W.typeIn K (.ref f_InvalidText___init__) = some (.type "function"))
    (l_InvalidText___init__ : K.lookup f_InvalidText___init__ = some ⟨oc_InvalidText___init__, od_InvalidText___init__, .func (PySem.W.fnOf "__init__" "InvalidText.__init__" (defArgs s_InvalidText___init__) (defBody s_InvalidText___init__) (defScope s_InvalidText___init__) .none kV_InvalidText___init__ dc_InvalidText___init__ pm_InvalidText___init__ an_InvalidText___init__ cd_InvalidText___init__ ct_InvalidText___init__), sl_InvalidText___init__⟩)
    (c_InvalidText___init__ : PySem.W.codeIn K cd_InvalidText___init__ "InvalidText.__init__" = true)
    (k_InvalidText___init__ : PySem.W.keepIn K (.ref f_InvalidText___init__) = true)
    (a_Veil___init__ : PySem.W.findIn K (.ref C_Veil) "__init__" = some (some (.ref f_Veil___init__)))
    (i_Veil___init__ : PySem.W.isFn K (.ref f_Veil___init__) = true)
    (l_Veil___init__ : K.lookup f_Veil___init__ = some ⟨oc_Veil___init__, od_Veil___init__, .func (PySem.W.fnOf "__init__" "Veil.__init__" (defArgs s_Veil___init__) (defBody s_Veil___init__) (defScope s_Veil___init__) .none kV_Veil___init__ dc_Veil___init__ pm_Veil___init__ an_Veil___init__ cd_Veil___init__ ct_Veil___init__), sl_Veil___init__⟩)
    (c_Veil___init__ : PySem.W.codeIn K cd_Veil___init__ "Veil.__init__" = true)
    (k_Veil___init__ : PySem.W.keepIn K (.ref f_Veil___init__) = true)
    (a_Case___init__ : PySem.W.findIn K (.ref C_Case) "__init__" = some (some (.ref f_Case___init__)))
    (i_Case___init__ : PySem.W.isFn K (.ref f_Case___init__) = true)
    (l_Case___init__ : K.lookup f_Case___init__ = some ⟨oc_Case___init__, od_Case___init__, .func (PySem.W.fnOf "__init__" "Case.__init__" (defArgs s_Case___init__) (defBody s_Case___init__) (defScope s_Case___init__) .none kV_Case___init__ dc_Case___init__ pm_Case___init__ an_Case___init__ cd_Case___init__ ct_Case___init__), sl_Case___init__⟩)
    (c_Case___init__ : PySem.W.codeIn K cd_Case___init__ "Case.__init__" = true)
    (k_Case___init__ : PySem.W.keepIn K (.ref f_Case___init__) = true)
    (a_Veil___str__ : PySem.W.findIn K (.ref C_Veil) "__str__" = some (some (.ref f_Veil___str__)))
    (i_Veil___str__ : PySem.W.isFn K (.ref f_Veil___str__) = true)
    (l_Veil___str__ : K.lookup f_Veil___str__ = some ⟨oc_Veil___str__, od_Veil___str__, .func (PySem.W.fnOf "__str__" "Veil.__str__" (defArgs s_Veil___str__) (defBody s_Veil___str__) (defScope s_Veil___str__) .none kV_Veil___str__ dc_Veil___str__ pm_Veil___str__ an_Veil___str__ cd_Veil___str__ ct_Veil___str__), sl_Veil___str__⟩)
    (c_Veil___str__ : PySem.W.codeIn K cd_Veil___str__ "Veil.__str__" = true)
    (k_Veil___str__ : PySem.W.keepIn K (.ref f_Veil___str__) = true)
    (a_Veil___repr__ : PySem.W.findIn K (.ref C_Veil) "__repr__" = some (some (.ref f_Veil___repr__)))
    (i_Veil___repr__ : PySem.W.isFn K (.ref f_Veil___repr__) = true)
    (l_Veil___repr__ : K.lookup f_Veil___repr__ = some ⟨oc_Veil___repr__, od_Veil___repr__, .func (PySem.W.fnOf "__repr__" "Veil.__repr__" (defArgs s_Veil___repr__) (defBody s_Veil___repr__) (defScope s_Veil___repr__) .none kV_Veil___repr__ dc_Veil___repr__ pm_Veil___repr__ an_Veil___repr__ cd_Veil___repr__ ct_Veil___repr__), sl_Veil___repr__⟩)
    (c_Veil___repr__ : PySem.W.codeIn K cd_Veil___repr__ "Veil.__repr__" = true)
    (k_Veil___repr__ : PySem.W.keepIn K (.ref f_Veil___repr__) = true)
    (a_Veil___eq__ : PySem.W.findIn K (.ref C_Veil) "__eq__" = some (some (.ref f_Veil___eq__)))
    (i_Veil___eq__ : PySem.W.isFn K (.ref f_Veil___eq__) = true)
    (l_Veil___eq__ : K.lookup f_Veil___eq__ = some ⟨oc_Veil___eq__, od_Veil___eq__, .func (PySem.W.fnOf "__eq__" "Veil.__eq__" (defArgs s_Veil___eq__) (defBody s_Veil___eq__) (defScope s_Veil___eq__) .none kV_Veil___eq__ dc_Veil___eq__ pm_Veil___eq__ an_Veil___eq__ cd_Veil___eq__ ct_Veil___eq__), sl_Veil___eq__⟩)
    (c_Veil___eq__ : PySem.W.codeIn K cd_Veil___eq__ "Veil.__eq__" = true)
    (k_Veil___eq__ : PySem.W.keepIn K (.ref f_Veil___eq__) = true)
    (a_Case___eq__ : PySem.W.findIn K (.ref C_Case) "__eq__" = some (some (.ref f_Case___eq__)))
    (i_Case___eq__ : PySem.W.isFn K (.ref f_Case___eq__) = true)
    (l_Case___eq__ : K.lookup f_Case___eq__ = some ⟨oc_Case___eq__, od_Case___eq__, .func (PySem.W.fnOf "__eq__" "Case.__eq__" (defArgs s_Case___eq__) (defBody s_Case___eq__) (defScope s_Case___eq__) .none kV_Case___eq__ dc_Case___eq__ pm_Case___eq__ an_Case___eq__ cd_Case___eq__ ct_Case___eq__), sl_Case___eq__⟩)
    (c_Case___eq__ : PySem.W.codeIn K cd_Case___eq__ "Case.__eq__" = true)
    (k_Case___eq__ : PySem.W.keepIn K (.ref f_Case___eq__) = true)
    (a__law_is_right : PySem.W.nsIn K mainGlobals "_law_is_right" = some (some (.ref f__law_is_right)))
    (l__law_is_right : K.lookup f__law_is_right = some ⟨oc__law_is_right, od__law_is_right, .func (PySem.W.fnOf "_law_is_right" "_law_is_right" (defArgs s__law_is_right) (defBody s__law_is_right) (defScope s__law_is_right) .none kV__law_is_right dc__law_is_right pm__law_is_right an__law_is_right (.ref lc__law_is_right) ct__law_is_right), sl__law_is_right⟩)
    (c__law_is_right : PySem.W.codeIn K (.ref lc__law_is_right) "_law_is_right" = true)
    (k__law_is_right : PySem.W.keepIn K (.ref f__law_is_right) = true)
    (lk__law_is_right : K.lookup lc__law_is_right = some ⟨lo__law_is_right, ld__law_is_right, .fields lv__law_is_right, ls__law_is_right⟩)
    (lp__law_is_right : lv__law_is_right[11]? = some (.ref lt__law_is_right))
    (ln__law_is_right : K.lookup lt__law_is_right = none)
    (lr__law_is_right : ((recsOf q).any fun e => e.name == "_law_is_right") = true)
    (a__law_right : PySem.W.nsIn K mainGlobals "_law_right" = some (some (.ref f__law_right)))
    (l__law_right : K.lookup f__law_right = some ⟨oc__law_right, od__law_right, .func (PySem.W.fnOf "_law_right" "_law_right" (defArgs s__law_right) (defBody s__law_right) (defScope s__law_right) .none kV__law_right dc__law_right pm__law_right an__law_right cd__law_right ct__law_right), sl__law_right⟩)
    (c__law_right : PySem.W.codeIn K cd__law_right "_law_right" = true)
    (k__law_right : PySem.W.keepIn K (.ref f__law_right) = true)
    (a_law : PySem.W.nsIn K mainGlobals "law" = some (some (.ref f_law)))
    (l_law : K.lookup f_law = some ⟨oc_law, od_law, .func (PySem.W.fnOf "law" "law" (defArgs s_law) (defBody s_law) (defScope s_law) .none kV_law dc_law pm_law an_law cd_law ct_law), sl_law⟩)
    (c_law : PySem.W.codeIn K cd_law "law" = true)
    (k_law : PySem.W.keepIn K (.ref f_law) = true)
    (z_abs : PySem.W.nsIn K mainGlobals "abs" = some none)
    (z_all : PySem.W.nsIn K mainGlobals "all" = some none)
    (z_bool : PySem.W.nsIn K mainGlobals "bool" = some none)
    (z_divmod : PySem.W.nsIn K mainGlobals "divmod" = some none)
    (z_int : PySem.W.nsIn K mainGlobals "int" = some none)
    (z_isinstance : PySem.W.nsIn K mainGlobals "isinstance" = some none)
    (z_len : PySem.W.nsIn K mainGlobals "len" = some none)
    (z_max : PySem.W.nsIn K mainGlobals "max" = some none)
    (z_min : PySem.W.nsIn K mainGlobals "min" = some none)
    (z_range : PySem.W.nsIn K mainGlobals "range" = some none)
    (z_repr : PySem.W.nsIn K mainGlobals "repr" = some none)
    (z_sorted : PySem.W.nsIn K mainGlobals "sorted" = some none)
    (z_str : PySem.W.nsIn K mainGlobals "str" = some none)
    (z_tuple : PySem.W.nsIn K mainGlobals "tuple" = some none)
    (z_zip : PySem.W.nsIn K mainGlobals "zip" = some none)
    (v_DIGITS : PySem.W.nsIn K mainGlobals "DIGITS" = some (some (.str "0123456789" t_DIGITS)))
    (v_LEAST_CANDIDATES : PySem.W.nsIn K mainGlobals "LEAST_CANDIDATES" = some (some (.int 2 t_LEAST_CANDIDATES)))
    (v_LETTERS : PySem.W.nsIn K mainGlobals "LETTERS" = some (some (.str "abcdefghijklmnopqrstuvwxyz" t_LETTERS)))
    (v_MOST_CANDIDATES : PySem.W.nsIn K mainGlobals "MOST_CANDIDATES" = some (some (.int 8 t_MOST_CANDIDATES)))
    (v_MOST_LETTERS : PySem.W.nsIn K mainGlobals "MOST_LETTERS" = some (some (.int 8 t_MOST_LETTERS)))
    (v_MOST_MARKS : PySem.W.nsIn K mainGlobals "MOST_MARKS" = some (some (.int 99 t_MOST_MARKS)))
    (v_MOST_RULES : PySem.W.nsIn K mainGlobals "MOST_RULES" = some (some (.int 8 t_MOST_RULES)))
    (nq1 : PySem.W.findIn K (.ref C_Case) "_text" = some none)
    (nq2 : PySem.W.findIn K (.ref C_Case) "_names" = some none)
    (nq3 : PySem.W.findIn K (.ref C_Case) "_marks" = some none)
    (nq7 : PySem.W.typeIn K (.ref C_Case) = some (.type "type"))
    (nv1 : PySem.W.findIn K (.ref C_Veil) "_text" = some none)
    (nv2 : PySem.W.findIn K (.ref C_Veil) "_names" = some none)
    (nv3 : PySem.W.findIn K (.ref C_Veil) "_marks" = some none)
    (nv4 : PySem.W.findIn K (.ref C_Veil) "__bool__" = some none)
    (nv5 : PySem.W.findIn K (.ref C_Veil) "__len__" = some none)
    (nv6 : PySem.W.findIn K (.ref C_Veil) "__ne__" = some (some (.builtin "object.__ne__")))
    (nv7 : PySem.W.typeIn K (.ref C_Veil) = some (.type "type"))
    (nx1 : PySem.W.subIn K (.ref C_Case) (.ref C_Veil) = some false)
    (nx2 : PySem.W.subIn K (.ref C_Veil) (.ref C_Case) = some false)
    (nx3 : (C_Case == C_Veil) = false)
    (nx4 : (C_Veil == C_Case) = false) :
    EndT l w K mg 12 fa "_law_cells" h (spLaw K) := by
  have e := hfa.symm.trans (PySem.W.mg_of X G a_law)
  cases e
  have o__law_is_right := tb "_law_is_right" f__law_is_right lr__law_is_right (PySem.W.mg_of X G a__law_is_right) lc__law_is_right lt__law_is_right _ _ _ _ _ _ l__law_is_right rfl rfl lk__law_is_right lp__law_is_right
  letI I : Tabs0 := ⟨fun a => List.lookup a [(lt__law_is_right, qn__law_is_right f__law_is_right lc__law_is_right)]⟩
  have ok : TabsOk [(lt__law_is_right, qn__law_is_right f__law_is_right lc__law_is_right)] := tabsOk_of (by simp)
  let T : Txt K w mg := {
    C_Case := C_Case,
    m_Case := PySem.W.mg_of X G cm_Case,
    cl_Case := ⟨cpg_Case, chd_Case, cpo_Case, csa_Case⟩,
    C_InvalidText := C_InvalidText,
    m_InvalidText := PySem.W.mg_of X G cm_InvalidText,
    C_Veil := C_Veil,
    m_Veil := PySem.W.mg_of X G cm_Veil,
    cl_Veil := ⟨cpg_Veil, chd_Veil, cpo_Veil, csa_Veil⟩,
    xk_InvalidText := ⟨xga_InvalidText, xgt_InvalidText, xs_InvalidText, xh_InvalidText, xcl_InvalidText, ihn, iht, xo_InvalidText⟩,
    xe_InvalidText := exm_one1 xs_InvalidText xh_InvalidText xt_InvalidText xu_InvalidText_InvalidText,
    xo_InvalidText := ⟨⟨_, _, _, _, _, _, _, _, _, _, _, _, _, _, _, xL_InvalidText, xR_InvalidText⟩, xa_InvalidText, xs_InvalidText, xt_InvalidText, xp_InvalidText⟩,
    xf_InvalidText := ⟨xga_InvalidText, xgt_InvalidText, xs_InvalidText, xh_InvalidText⟩,
    xn_InvalidText_given := xn_InvalidText_given,
    xn_InvalidText_index := xn_InvalidText_index,
    xn_InvalidText_number := xn_InvalidText_number,
    xn_InvalidText_told := xn_InvalidText_told,
    xj_InvalidText := a_InvalidText___init__,
    xy_InvalidText := xy_InvalidText,
    f_is_name := f_is_name,
    e_is_name := PySem.W.fnOf "is_name" "is_name" (defArgs s_is_name) (defBody s_is_name) (defScope s_is_name) .none kV_is_name dc_is_name pm_is_name an_is_name cd_is_name ct_is_name,
    F_is_name := fun_mk (st := s_is_name) l_is_name c_is_name k_is_name,
    b_is_name := Fun.binds (ps := ["value"]) (fun_mk (st := s_is_name) l_is_name c_is_name k_is_name) fun _ _ _ _ _ _ us hl => match us, hl with | [_], _ => rfl,
    m_is_name := PySem.W.mg_of X G a_is_name,
    f_are_names := f_are_names,
    e_are_names := PySem.W.fnOf "are_names" "are_names" (defArgs s_are_names) (defBody s_are_names) (defScope s_are_names) .none kV_are_names dc_are_names pm_are_names an_are_names cd_are_names ct_are_names,
    F_are_names := fun_mk (st := s_are_names) l_are_names c_are_names k_are_names,
    b_are_names := Fun.binds (ps := ["values"]) (fun_mk (st := s_are_names) l_are_names c_are_names k_are_names) fun _ _ _ _ _ _ us hl => match us, hl with | [_], _ => rfl,
    m_are_names := PySem.W.mg_of X G a_are_names,
    f_is_number := f_is_number,
    e_is_number := PySem.W.fnOf "is_number" "is_number" (defArgs s_is_number) (defBody s_is_number) (defScope s_is_number) .none kV_is_number dc_is_number pm_is_number an_is_number cd_is_number ct_is_number,
    F_is_number := fun_mk (st := s_is_number) l_is_number c_is_number k_is_number,
    b_is_number := Fun.binds (ps := ["word"]) (fun_mk (st := s_is_number) l_is_number c_is_number k_is_number) fun _ _ _ _ _ _ us hl => match us, hl with | [_], _ => rfl,
    m_is_number := PySem.W.mg_of X G a_is_number,
    f_read_mark := f_read_mark,
    e_read_mark := PySem.W.fnOf "read_mark" "read_mark" (defArgs s_read_mark) (defBody s_read_mark) (defScope s_read_mark) .none kV_read_mark dc_read_mark pm_read_mark an_read_mark cd_read_mark ct_read_mark,
    F_read_mark := fun_mk (st := s_read_mark) l_read_mark c_read_mark k_read_mark,
    b_read_mark := Fun.binds (ps := ["word"]) (fun_mk (st := s_read_mark) l_read_mark c_read_mark k_read_mark) fun _ _ _ _ _ _ us hl => match us, hl with | [_], _ => rfl,
    m_read_mark := PySem.W.mg_of X G a_read_mark,
    f_read_stretch := f_read_stretch,
    e_read_stretch := PySem.W.fnOf "read_stretch" "read_stretch" (defArgs s_read_stretch) (defBody s_read_stretch) (defScope s_read_stretch) .none kV_read_stretch dc_read_stretch pm_read_stretch an_read_stretch cd_read_stretch ct_read_stretch,
    F_read_stretch := fun_mk (st := s_read_stretch) l_read_stretch c_read_stretch k_read_stretch,
    b_read_stretch := Fun.binds (ps := ["word"]) (fun_mk (st := s_read_stretch) l_read_stretch c_read_stretch k_read_stretch) fun _ _ _ _ _ _ us hl => match us, hl with | [_], _ => rfl,
    m_read_stretch := PySem.W.mg_of X G a_read_stretch,
    f_read_candidates := f_read_candidates,
    e_read_candidates := PySem.W.fnOf "read_candidates" "read_candidates" (defArgs s_read_candidates) (defBody s_read_candidates) (defScope s_read_candidates) .none kV_read_candidates dc_read_candidates pm_read_candidates an_read_candidates cd_read_candidates ct_read_candidates,
    F_read_candidates := fun_mk (st := s_read_candidates) l_read_candidates c_read_candidates k_read_candidates,
    b_read_candidates := Fun.binds (ps := ["text", "read_word"]) (fun_mk (st := s_read_candidates) l_read_candidates c_read_candidates k_read_candidates) fun _ _ _ _ _ _ us hl => match us, hl with | [_, _], _ => rfl,
    m_read_candidates := PySem.W.mg_of X G a_read_candidates,
    f_read_case := f_read_case,
    e_read_case := PySem.W.fnOf "read_case" "read_case" (defArgs s_read_case) (defBody s_read_case) (defScope s_read_case) .none kV_read_case dc_read_case pm_read_case an_read_case cd_read_case ct_read_case,
    F_read_case := fun_mk (st := s_read_case) l_read_case c_read_case k_read_case,
    b_read_case := Fun.binds (ps := ["text"]) (fun_mk (st := s_read_case) l_read_case c_read_case k_read_case) fun _ _ _ _ _ _ us hl => match us, hl with | [_], _ => rfl,
    m_read_case := PySem.W.mg_of X G a_read_case,
    f_read_veil := f_read_veil,
    e_read_veil := PySem.W.fnOf "read_veil" "read_veil" (defArgs s_read_veil) (defBody s_read_veil) (defScope s_read_veil) .none kV_read_veil dc_read_veil pm_read_veil an_read_veil cd_read_veil ct_read_veil,
    F_read_veil := fun_mk (st := s_read_veil) l_read_veil c_read_veil k_read_veil,
    b_read_veil := Fun.binds (ps := ["text"]) (fun_mk (st := s_read_veil) l_read_veil c_read_veil k_read_veil) fun _ _ _ _ _ _ us hl => match us, hl with | [_], _ => rfl,
    m_read_veil := PySem.W.mg_of X G a_read_veil,
    f__law_cell := f__law_cell,
    e__law_cell := PySem.W.fnOf "_law_cell" "_law_cell" (defArgs s__law_cell) (defBody s__law_cell) (defScope s__law_cell) .none kV__law_cell dc__law_cell pm__law_cell an__law_cell cd__law_cell ct__law_cell,
    F__law_cell := fun_mk (st := s__law_cell) l__law_cell c__law_cell k__law_cell,
    b__law_cell := Fun.binds (ps := ["_law_cells", "_law_k"]) (fun_mk (st := s__law_cell) l__law_cell c__law_cell k__law_cell) fun _ _ _ _ _ _ us hl => match us, hl with | [_, _], _ => rfl,
    m__law_cell := PySem.W.mg_of X G a__law_cell,
    f__law_well := f__law_well,
    e__law_well := PySem.W.fnOf "_law_well" "_law_well" (defArgs s__law_well) (defBody s__law_well) (defScope s__law_well) .none kV__law_well dc__law_well pm__law_well an__law_well cd__law_well ct__law_well,
    F__law_well := fun_mk (st := s__law_well) l__law_well c__law_well k__law_well,
    b__law_well := Fun.binds (ps := ["_law_cell_here"]) (fun_mk (st := s__law_well) l__law_well c__law_well k__law_well) fun _ _ _ _ _ _ us hl => match us, hl with | [_], _ => rfl,
    m__law_well := PySem.W.mg_of X G a__law_well,
    f__law_dip := f__law_dip,
    e__law_dip := PySem.W.fnOf "_law_dip" "_law_dip" (defArgs s__law_dip) (defBody s__law_dip) (defScope s__law_dip) .none kV__law_dip dc__law_dip pm__law_dip an__law_dip cd__law_dip ct__law_dip,
    F__law_dip := fun_mk (st := s__law_dip) l__law_dip c__law_dip k__law_dip,
    b__law_dip := Fun.binds (ps := ["_law_jar", "_law_many"]) (fun_mk (st := s__law_dip) l__law_dip c__law_dip k__law_dip) fun _ _ _ _ _ _ us hl => match us, hl with | [_, _], _ => rfl,
    m__law_dip := PySem.W.mg_of X G a__law_dip,
    f__law_pick := f__law_pick,
    e__law_pick := PySem.W.fnOf "_law_pick" "_law_pick" (defArgs s__law_pick) (defBody s__law_pick) (defScope s__law_pick) .none kV__law_pick dc__law_pick pm__law_pick an__law_pick cd__law_pick ct__law_pick,
    F__law_pick := fun_mk (st := s__law_pick) l__law_pick c__law_pick k__law_pick,
    b__law_pick := Fun.binds (ps := ["_law_jar", "_law_things"]) (fun_mk (st := s__law_pick) l__law_pick c__law_pick k__law_pick) fun _ _ _ _ _ _ us hl => match us, hl with | [_, _], _ => rfl,
    m__law_pick := PySem.W.mg_of X G a__law_pick,
    f__law_tags := f__law_tags,
    e__law_tags := PySem.W.fnOf "_law_tags" "_law_tags" (defArgs s__law_tags) (defBody s__law_tags) (defScope s__law_tags) .none kV__law_tags dc__law_tags pm__law_tags an__law_tags cd__law_tags ct__law_tags,
    F__law_tags := fun_mk (st := s__law_tags) l__law_tags c__law_tags k__law_tags,
    b__law_tags := Fun.binds (ps := ["_law_jar", "_law_many"]) (fun_mk (st := s__law_tags) l__law_tags c__law_tags k__law_tags) fun _ _ _ _ _ _ us hl => match us, hl with | [_, _], _ => rfl,
    m__law_tags := PySem.W.mg_of X G a__law_tags,
    f__law_folk := f__law_folk,
    e__law_folk := PySem.W.fnOf "_law_folk" "_law_folk" (defArgs s__law_folk) (defBody s__law_folk) (defScope s__law_folk) .none kV__law_folk dc__law_folk pm__law_folk an__law_folk cd__law_folk ct__law_folk,
    F__law_folk := fun_mk (st := s__law_folk) l__law_folk c__law_folk k__law_folk,
    b__law_folk := Fun.binds (ps := ["_law_jar", "_law_many", "_law_least", "_law_most"]) (fun_mk (st := s__law_folk) l__law_folk c__law_folk k__law_folk) fun _ _ _ _ _ _ us hl => match us, hl with | [_, _, _, _], _ => rfl,
    m__law_folk := PySem.W.mg_of X G a__law_folk,
    f__law_figure := f__law_figure,
    e__law_figure := PySem.W.fnOf "_law_figure" "_law_figure" (defArgs s__law_figure) (defBody s__law_figure) (defScope s__law_figure) .none kV__law_figure dc__law_figure pm__law_figure an__law_figure cd__law_figure ct__law_figure,
    F__law_figure := fun_mk (st := s__law_figure) l__law_figure c__law_figure k__law_figure,
    b__law_figure := Fun.binds (ps := ["_law_term", "_law_most"]) (fun_mk (st := s__law_figure) l__law_figure c__law_figure k__law_figure) fun _ _ _ _ _ _ us hl => match us, hl with | [_, _], _ => rfl,
    m__law_figure := PySem.W.mg_of X G a__law_figure,
    f__law_is_tag := f__law_is_tag,
    e__law_is_tag := PySem.W.fnOf "_law_is_tag" "_law_is_tag" (defArgs s__law_is_tag) (defBody s__law_is_tag) (defScope s__law_is_tag) .none kV__law_is_tag dc__law_is_tag pm__law_is_tag an__law_is_tag cd__law_is_tag ct__law_is_tag,
    F__law_is_tag := fun_mk (st := s__law_is_tag) l__law_is_tag c__law_is_tag k__law_is_tag,
    b__law_is_tag := Fun.binds (ps := ["_law_term"]) (fun_mk (st := s__law_is_tag) l__law_is_tag c__law_is_tag k__law_is_tag) fun _ _ _ _ _ _ us hl => match us, hl with | [_], _ => rfl,
    m__law_is_tag := PySem.W.mg_of X G a__law_is_tag,
    f__law_stretch := f__law_stretch,
    e__law_stretch := PySem.W.fnOf "_law_stretch" "_law_stretch" (defArgs s__law_stretch) (defBody s__law_stretch) (defScope s__law_stretch) .none kV__law_stretch dc__law_stretch pm__law_stretch an__law_stretch cd__law_stretch ct__law_stretch,
    F__law_stretch := fun_mk (st := s__law_stretch) l__law_stretch c__law_stretch k__law_stretch,
    b__law_stretch := Fun.binds (ps := ["_law_term", "_law_is_veil"]) (fun_mk (st := s__law_stretch) l__law_stretch c__law_stretch k__law_stretch) fun _ _ _ _ _ _ us hl => match us, hl with | [_, _], _ => rfl,
    m__law_stretch := PySem.W.mg_of X G a__law_stretch,
    f__law_read := f__law_read,
    e__law_read := PySem.W.fnOf "_law_read" "_law_read" (defArgs s__law_read) (defBody s__law_read) (defScope s__law_read) .none kV__law_read dc__law_read pm__law_read an__law_read cd__law_read ct__law_read,
    F__law_read := fun_mk (st := s__law_read) l__law_read c__law_read k__law_read,
    b__law_read := Fun.binds (ps := ["_law_page", "_law_is_veil"]) (fun_mk (st := s__law_read) l__law_read c__law_read k__law_read) fun _ _ _ _ _ _ us hl => match us, hl with | [_, _], _ => rfl,
    m__law_read := PySem.W.mg_of X G a__law_read,
    f__law_bent_page := f__law_bent_page,
    e__law_bent_page := PySem.W.fnOf "_law_bent_page" "_law_bent_page" (defArgs s__law_bent_page) (defBody s__law_bent_page) (defScope s__law_bent_page) .none kV__law_bent_page dc__law_bent_page pm__law_bent_page an__law_bent_page cd__law_bent_page ct__law_bent_page,
    F__law_bent_page := fun_mk (st := s__law_bent_page) l__law_bent_page c__law_bent_page k__law_bent_page,
    b__law_bent_page := Fun.binds (ps := ["_law_jar", "_law_page"]) (fun_mk (st := s__law_bent_page) l__law_bent_page c__law_bent_page k__law_bent_page) fun _ _ _ _ _ _ us hl => match us, hl with | [_, _], _ => rfl,
    m__law_bent_page := PySem.W.mg_of X G a__law_bent_page,
    f__law_made_of := f__law_made_of,
    e__law_made_of := PySem.W.fnOf "_law_made_of" "_law_made_of" (defArgs s__law_made_of) (defBody s__law_made_of) (defScope s__law_made_of) .none kV__law_made_of dc__law_made_of pm__law_made_of an__law_made_of cd__law_made_of ct__law_made_of,
    F__law_made_of := fun_mk (st := s__law_made_of) l__law_made_of c__law_made_of k__law_made_of,
    b__law_made_of := Fun.binds (ps := ["_law_act", "_law_page"]) (fun_mk (st := s__law_made_of) l__law_made_of c__law_made_of k__law_made_of) fun _ _ _ _ _ _ us hl => match us, hl with | [_, _], _ => rfl,
    m__law_made_of := PySem.W.mg_of X G a__law_made_of,
    f__law_odd_things := f__law_odd_things,
    e__law_odd_things := PySem.W.fnOf "_law_odd_things" "_law_odd_things" (defArgs s__law_odd_things) (defBody s__law_odd_things) (defScope s__law_odd_things) .none kV__law_odd_things dc__law_odd_things pm__law_odd_things an__law_odd_things cd__law_odd_things ct__law_odd_things,
    F__law_odd_things := fun_mk (st := s__law_odd_things) l__law_odd_things c__law_odd_things k__law_odd_things,
    b__law_odd_things := Fun.binds (ps := []) (fun_mk (st := s__law_odd_things) l__law_odd_things c__law_odd_things k__law_odd_things) fun _ _ _ _ _ _ us hl => match us, hl with | [], _ => rfl,
    m__law_odd_things := PySem.W.mg_of X G a__law_odd_things,
    f__law_veiled := f__law_veiled,
    e__law_veiled := PySem.W.fnOf "_law_veiled" "_law_veiled" (defArgs s__law_veiled) (defBody s__law_veiled) (defScope s__law_veiled) .none kV__law_veiled dc__law_veiled pm__law_veiled an__law_veiled cd__law_veiled ct__law_veiled,
    F__law_veiled := fun_mk (st := s__law_veiled) l__law_veiled c__law_veiled k__law_veiled,
    b__law_veiled := Fun.binds (ps := ["_law_jar", "_law_many", "_law_least", "_law_most"]) (fun_mk (st := s__law_veiled) l__law_veiled c__law_veiled k__law_veiled) fun _ _ _ _ _ _ us hl => match us, hl with | [_, _, _, _], _ => rfl,
    m__law_veiled := PySem.W.mg_of X G a__law_veiled,
    f__law_veil_page := f__law_veil_page,
    e__law_veil_page := PySem.W.fnOf "_law_veil_page" "_law_veil_page" (defArgs s__law_veil_page) (defBody s__law_veil_page) (defScope s__law_veil_page) .none kV__law_veil_page dc__law_veil_page pm__law_veil_page an__law_veil_page cd__law_veil_page ct__law_veil_page,
    F__law_veil_page := fun_mk (st := s__law_veil_page) l__law_veil_page c__law_veil_page k__law_veil_page,
    b__law_veil_page := Fun.binds (ps := ["_law_folk_here"]) (fun_mk (st := s__law_veil_page) l__law_veil_page c__law_veil_page k__law_veil_page) fun _ _ _ _ _ _ us hl => match us, hl with | [_], _ => rfl,
    m__law_veil_page := PySem.W.mg_of X G a__law_veil_page,
    f_Veil_text := f_Veil_text,
    e_Veil_text := PySem.W.fnOf "text" "Veil.text" (defArgs s_Veil_text) (defBody s_Veil_text) (defScope s_Veil_text) .none kV_Veil_text dc_Veil_text pm_Veil_text an_Veil_text cd_Veil_text ct_Veil_text,
    F_Veil_text := fun_mk (st := s_Veil_text) l_Veil_text c_Veil_text k_Veil_text,
    b_Veil_text := Fun.binds (ps := ["self"]) (fun_mk (st := s_Veil_text) l_Veil_text c_Veil_text k_Veil_text) fun _ _ _ _ _ _ us hl => match us, hl with | [_], _ => rfl,
    q_Veil_text := q_Veil_text,
    p_Veil_text := ⟨a_Veil_text, g_Veil_text, t_Veil_text, ⟨_, r_Veil_text⟩⟩,
    f_Veil_names := f_Veil_names,
    e_Veil_names := PySem.W.fnOf "names" "Veil.names" (defArgs s_Veil_names) (defBody s_Veil_names) (defScope s_Veil_names) .none kV_Veil_names dc_Veil_names pm_Veil_names an_Veil_names cd_Veil_names ct_Veil_names,
    F_Veil_names := fun_mk (st := s_Veil_names) l_Veil_names c_Veil_names k_Veil_names,
    b_Veil_names := Fun.binds (ps := ["self"]) (fun_mk (st := s_Veil_names) l_Veil_names c_Veil_names k_Veil_names) fun _ _ _ _ _ _ us hl => match us, hl with | [_], _ => rfl,
    q_Veil_names := q_Veil_names,
    p_Veil_names := ⟨a_Veil_names, g_Veil_names, t_Veil_names, ⟨_, r_Veil_names⟩⟩,
    f_Veil_marks := f_Veil_marks,
    e_Veil_marks := PySem.W.fnOf "marks" "Veil.marks" (defArgs s_Veil_marks) (defBody s_Veil_marks) (defScope s_Veil_marks) .none kV_Veil_marks dc_Veil_marks pm_Veil_marks an_Veil_marks cd_Veil_marks ct_Veil_marks,
    F_Veil_marks := fun_mk (st := s_Veil_marks) l_Veil_marks c_Veil_marks k_Veil_marks,
    b_Veil_marks := Fun.binds (ps := ["self"]) (fun_mk (st := s_Veil_marks) l_Veil_marks c_Veil_marks k_Veil_marks) fun _ _ _ _ _ _ us hl => match us, hl with | [_], _ => rfl,
    q_Veil_marks := q_Veil_marks,
    p_Veil_marks := ⟨a_Veil_marks, g_Veil_marks, t_Veil_marks, ⟨_, r_Veil_marks⟩⟩,
    f_InvalidText___init__ := f_InvalidText___init__,
    e_InvalidText___init__ := PySem.W.fnOf "__init__" "InvalidText.__init__" (defArgs s_InvalidText___init__) (defBody s_InvalidText___init__) (defScope s_InvalidText___init__) .none kV_InvalidText___init__ dc_InvalidText___init__ pm_InvalidText___init__ an_InvalidText___init__ cd_InvalidText___init__ ct_InvalidText___init__,
    F_InvalidText___init__ := fun_mk (st := s_InvalidText___init__) l_InvalidText___init__ c_InvalidText___init__ k_InvalidText___init__,
    b_InvalidText___init__ := Fun.binds (ps := ["self", "given"]) (fun_mk (st := s_InvalidText___init__) l_InvalidText___init__ c_InvalidText___init__ k_InvalidText___init__) fun _ _ _ _ _ _ us hl => match us, hl with | [_, _], _ => rfl,
    f_Veil___init__ := f_Veil___init__,
    e_Veil___init__ := PySem.W.fnOf "__init__" "Veil.__init__" (defArgs s_Veil___init__) (defBody s_Veil___init__) (defScope s_Veil___init__) .none kV_Veil___init__ dc_Veil___init__ pm_Veil___init__ an_Veil___init__ cd_Veil___init__ ct_Veil___init__,
    F_Veil___init__ := fun_mk (st := s_Veil___init__) l_Veil___init__ c_Veil___init__ k_Veil___init__,
    b_Veil___init__ := Fun.binds (ps := ["self", "text"]) (fun_mk (st := s_Veil___init__) l_Veil___init__ c_Veil___init__ k_Veil___init__) fun _ _ _ _ _ _ us hl => match us, hl with | [_, _], _ => rfl,
    mk_Veil := ⟨cmk_Veil, a_Veil___init__, i_Veil___init__, ckc_Veil⟩,
    f_Case___init__ := f_Case___init__,
    e_Case___init__ := PySem.W.fnOf "__init__" "Case.__init__" (defArgs s_Case___init__) (defBody s_Case___init__) (defScope s_Case___init__) .none kV_Case___init__ dc_Case___init__ pm_Case___init__ an_Case___init__ cd_Case___init__ ct_Case___init__,
    F_Case___init__ := fun_mk (st := s_Case___init__) l_Case___init__ c_Case___init__ k_Case___init__,
    b_Case___init__ := Fun.binds (ps := ["self", "text"]) (fun_mk (st := s_Case___init__) l_Case___init__ c_Case___init__ k_Case___init__) fun _ _ _ _ _ _ us hl => match us, hl with | [_, _], _ => rfl,
    mk_Case := ⟨cmk_Case, a_Case___init__, i_Case___init__, ckc_Case⟩,
    f_Veil___str__ := f_Veil___str__,
    e_Veil___str__ := PySem.W.fnOf "__str__" "Veil.__str__" (defArgs s_Veil___str__) (defBody s_Veil___str__) (defScope s_Veil___str__) .none kV_Veil___str__ dc_Veil___str__ pm_Veil___str__ an_Veil___str__ cd_Veil___str__ ct_Veil___str__,
    F_Veil___str__ := fun_mk (st := s_Veil___str__) l_Veil___str__ c_Veil___str__ k_Veil___str__,
    b_Veil___str__ := Fun.binds (ps := ["self"]) (fun_mk (st := s_Veil___str__) l_Veil___str__ c_Veil___str__ k_Veil___str__) fun _ _ _ _ _ _ us hl => match us, hl with | [_], _ => rfl,
    h_Veil___str__ := ⟨a_Veil___str__, i_Veil___str__, k_Veil___str__⟩,
    f_Veil___repr__ := f_Veil___repr__,
    e_Veil___repr__ := PySem.W.fnOf "__repr__" "Veil.__repr__" (defArgs s_Veil___repr__) (defBody s_Veil___repr__) (defScope s_Veil___repr__) .none kV_Veil___repr__ dc_Veil___repr__ pm_Veil___repr__ an_Veil___repr__ cd_Veil___repr__ ct_Veil___repr__,
    F_Veil___repr__ := fun_mk (st := s_Veil___repr__) l_Veil___repr__ c_Veil___repr__ k_Veil___repr__,
    b_Veil___repr__ := Fun.binds (ps := ["self"]) (fun_mk (st := s_Veil___repr__) l_Veil___repr__ c_Veil___repr__ k_Veil___repr__) fun _ _ _ _ _ _ us hl => match us, hl with | [_], _ => rfl,
    h_Veil___repr__ := ⟨a_Veil___repr__, i_Veil___repr__, k_Veil___repr__⟩,
    f_Veil___eq__ := f_Veil___eq__,
    e_Veil___eq__ := PySem.W.fnOf "__eq__" "Veil.__eq__" (defArgs s_Veil___eq__) (defBody s_Veil___eq__) (defScope s_Veil___eq__) .none kV_Veil___eq__ dc_Veil___eq__ pm_Veil___eq__ an_Veil___eq__ cd_Veil___eq__ ct_Veil___eq__,
    F_Veil___eq__ := fun_mk (st := s_Veil___eq__) l_Veil___eq__ c_Veil___eq__ k_Veil___eq__,
    b_Veil___eq__ := Fun.binds (ps := ["self", "other"]) (fun_mk (st := s_Veil___eq__) l_Veil___eq__ c_Veil___eq__ k_Veil___eq__) fun _ _ _ _ _ _ us hl => match us, hl with | [_, _], _ => rfl,
    h_Veil___eq__ := ⟨a_Veil___eq__, i_Veil___eq__, k_Veil___eq__⟩,
    f_Case___eq__ := f_Case___eq__,
    e_Case___eq__ := PySem.W.fnOf "__eq__" "Case.__eq__" (defArgs s_Case___eq__) (defBody s_Case___eq__) (defScope s_Case___eq__) .none kV_Case___eq__ dc_Case___eq__ pm_Case___eq__ an_Case___eq__ cd_Case___eq__ ct_Case___eq__,
    F_Case___eq__ := fun_mk (st := s_Case___eq__) l_Case___eq__ c_Case___eq__ k_Case___eq__,
    b_Case___eq__ := Fun.binds (ps := ["self", "other"]) (fun_mk (st := s_Case___eq__) l_Case___eq__ c_Case___eq__ k_Case___eq__) fun _ _ _ _ _ _ us hl => match us, hl with | [_, _], _ => rfl,
    h_Case___eq__ := ⟨a_Case___eq__, i_Case___eq__, k_Case___eq__⟩,
    f__law_is_right := f__law_is_right,
    e__law_is_right := PySem.W.fnOf "_law_is_right" "_law_is_right" (defArgs s__law_is_right) (defBody s__law_is_right) (defScope s__law_is_right) .none kV__law_is_right dc__law_is_right pm__law_is_right an__law_is_right (.ref lc__law_is_right) ct__law_is_right,
    F__law_is_right := fun_mk (st := s__law_is_right) l__law_is_right c__law_is_right k__law_is_right,
    b__law_is_right := Fun.binds (ps := ["_law_page"]) (fun_mk (st := s__law_is_right) l__law_is_right c__law_is_right k__law_is_right) fun _ _ _ _ _ _ us hl => match us, hl with | [_], _ => rfl,
    lc__law_is_right := lc__law_is_right,
    lt__law_is_right := lt__law_is_right,
    FC__law_is_right := ⟨_, _, _, _, _, _, _, _, rfl, l__law_is_right, c__law_is_right⟩,
    m__law_is_right := PySem.W.mg_of X G a__law_is_right,
    f__law_right := f__law_right,
    e__law_right := PySem.W.fnOf "_law_right" "_law_right" (defArgs s__law_right) (defBody s__law_right) (defScope s__law_right) .none kV__law_right dc__law_right pm__law_right an__law_right cd__law_right ct__law_right,
    F__law_right := fun_mk (st := s__law_right) l__law_right c__law_right k__law_right,
    b__law_right := Fun.binds (ps := ["_law_jar"]) (fun_mk (st := s__law_right) l__law_right c__law_right k__law_right) fun _ _ _ _ _ _ us hl => match us, hl with | [_], _ => rfl,
    m__law_right := PySem.W.mg_of X G a__law_right,
    f_law := fa,
    e_law := PySem.W.fnOf "law" "law" (defArgs s_law) (defBody s_law) (defScope s_law) .none kV_law dc_law pm_law an_law cd_law ct_law,
    F_law := fun_mk (st := s_law) l_law c_law k_law,
    b_law := Fun.binds (ps := ["_law_cells"]) (fun_mk (st := s_law) l_law c_law k_law) fun _ _ _ _ _ _ us hl => match us, hl with | [_], _ => rfl,
    m_law := PySem.W.mg_of X G a_law,
    n_abs := PySem.W.mg_none_of X G z_abs,
    n_all := PySem.W.mg_none_of X G z_all,
    n_bool := PySem.W.mg_none_of X G z_bool,
    n_divmod := PySem.W.mg_none_of X G z_divmod,
    n_int := PySem.W.mg_none_of X G z_int,
    n_isinstance := PySem.W.mg_none_of X G z_isinstance,
    n_len := PySem.W.mg_none_of X G z_len,
    n_max := PySem.W.mg_none_of X G z_max,
    n_min := PySem.W.mg_none_of X G z_min,
    n_range := PySem.W.mg_none_of X G z_range,
    n_repr := PySem.W.mg_none_of X G z_repr,
    n_sorted := PySem.W.mg_none_of X G z_sorted,
    n_str := PySem.W.mg_none_of X G z_str,
    n_tuple := PySem.W.mg_none_of X G z_tuple,
    n_zip := PySem.W.mg_none_of X G z_zip,
    t_DIGITS := t_DIGITS,
    c_DIGITS := PySem.W.mg_of X G v_DIGITS,
    t_LEAST_CANDIDATES := t_LEAST_CANDIDATES,
    c_LEAST_CANDIDATES := PySem.W.mg_of X G v_LEAST_CANDIDATES,
    t_LETTERS := t_LETTERS,
    c_LETTERS := PySem.W.mg_of X G v_LETTERS,
    t_MOST_CANDIDATES := t_MOST_CANDIDATES,
    c_MOST_CANDIDATES := PySem.W.mg_of X G v_MOST_CANDIDATES,
    t_MOST_LETTERS := t_MOST_LETTERS,
    c_MOST_LETTERS := PySem.W.mg_of X G v_MOST_LETTERS,
    t_MOST_MARKS := t_MOST_MARKS,
    c_MOST_MARKS := PySem.W.mg_of X G v_MOST_MARKS,
    t_MOST_RULES := t_MOST_RULES,
    c_MOST_RULES := PySem.W.mg_of X G v_MOST_RULES,
    cno_text := nq1,
    cno_names := nq2,
    cno_marks := nq3,
    ins_Case := ⟨⟨cpg_Case, chd_Case, cpo_Case, csa_Case⟩, cia_Case, ihn, iht, cim_Case⟩,
    oe_Case := a_Case___eq__,
    ie_Case := i_Case___eq__,
    ct_Case := nq7,
    vno_text := nv1,
    vno_names := nv2,
    vno_marks := nv3,
    ins_Veil := ⟨⟨cpg_Veil, chd_Veil, cpo_Veil, csa_Veil⟩, cia_Veil, ihn, iht, cim_Veil⟩,
    os_Veil := a_Veil___str__,
    or_Veil := a_Veil___repr__,
    oe_Veil := a_Veil___eq__,
    is_Veil := i_Veil___str__,
    ir_Veil := i_Veil___repr__,
    ie_Veil := i_Veil___eq__,
    om_Veil := cim_Veil,
    on_Veil := nv6,
    ob_Veil := nv4,
    ol_Veil := nv5,
    ct_Veil := nv7,
    kn_Veil := kn_of l_Veil___init__,
    sub_CV := nx1,
    sub_VC := nx2,
    ne_CV := nx3,
    ne_VC := nx4,
    tts := [(lt__law_is_right, qn__law_is_right f__law_is_right lc__law_is_right)], tabs := ok, hm__law_is_right := List.mem_cons_self }
  exact ⟨T.e_law, I, [(lc__law_is_right, lt__law_is_right, qn__law_is_right f__law_is_right lc__law_is_right)], fun s v => .of_eq rfl, ok, (f_cons o__law_is_right.1 f_nil), (f_cons ln__law_is_right f_nil), (f_cons o__law_is_right.2 f_nil), fun base hb => d_law T (hb _ List.mem_cons_self)⟩
end K31

open PySem PySem.W PyProof.Rows in
set_option maxRecDepth 100000 in
set_option maxHeartbeats 0 in
theorem PySem.Challenge.cw_rankedrules_k31_whole_texts_of_veils_holds : PySem.Challenge.rw_rankedrules_k31_whole_texts_of_veils.Holds := by
  w_on; o_law; k_head; (case hw => w_witness2)
  k_fill
  refine Dw.walk_GT (l := PySem.Challenge.rw_rankedrules_k31_whole_texts_of_veils) (k := 12) (x := "_law_cells") (sp := K31.spLaw) rfl rfl ⟨rfl, by decide, by decide⟩ (fun w h Y => PySem.W.km_in_of Y) (fun K ns h hb => ⟨ns, rfl, ⟨h, hb⟩, fun d h => h⟩) ?F
  case F =>
    intro w mg fa h KX G hmg tb
    refine' K31.all_mk KX G hmg tb ?cm_Case ?cpg_Case ?chd_Case ?cpo_Case ?csa_Case ?cmk_Case ?ckc_Case ?cia_Case ?cim_Case ?cm_InvalidText ?cm_Veil ?cpg_Veil ?chd_Veil ?cpo_Veil ?csa_Veil ?cmk_Veil ?ckc_Veil ?cia_Veil ?cim_Veil ?xh_InvalidText ?xt_InvalidText ?xs_InvalidText ?xga_InvalidText ?xgt_InvalidText ?xcl_InvalidText ?xo_InvalidText ?xp_InvalidText ?xu_InvalidText_InvalidText ?xL_InvalidText ?xR_InvalidText ?xa_InvalidText ?xn_InvalidText_given ?xn_InvalidText_index ?xn_InvalidText_number ?xn_InvalidText_told ?ihn ?iht ?a_is_name ?l_is_name ?c_is_name ?k_is_name ?a_are_names ?l_are_names ?c_are_names ?k_are_names ?a_is_number ?l_is_number ?c_is_number ?k_is_number ?a_read_mark ?l_read_mark ?c_read_mark ?k_read_mark ?a_read_stretch ?l_read_stretch ?c_read_stretch ?k_read_stretch ?a_read_candidates ?l_read_candidates ?c_read_candidates ?k_read_candidates ?a_read_case ?l_read_case ?c_read_case ?k_read_case ?a_read_veil ?l_read_veil ?c_read_veil ?k_read_veil ?a__law_cell ?l__law_cell ?c__law_cell ?k__law_cell ?a__law_well ?l__law_well ?c__law_well ?k__law_well ?a__law_dip ?l__law_dip ?c__law_dip ?k__law_dip ?a__law_pick ?l__law_pick ?c__law_pick ?k__law_pick ?a__law_tags ?l__law_tags ?c__law_tags ?k__law_tags ?a__law_folk ?l__law_folk ?c__law_folk ?k__law_folk ?a__law_figure ?l__law_figure ?c__law_figure ?k__law_figure ?a__law_is_tag ?l__law_is_tag ?c__law_is_tag ?k__law_is_tag ?a__law_stretch ?l__law_stretch ?c__law_stretch ?k__law_stretch ?a__law_read ?l__law_read ?c__law_read ?k__law_read ?a__law_bent_page ?l__law_bent_page ?c__law_bent_page ?k__law_bent_page ?a__law_made_of ?l__law_made_of ?c__law_made_of ?k__law_made_of ?a__law_odd_things ?l__law_odd_things ?c__law_odd_things ?k__law_odd_things ?a__law_veiled ?l__law_veiled ?c__law_veiled ?k__law_veiled ?a__law_veil_page ?l__law_veil_page ?c__law_veil_page ?k__law_veil_page ?a_Veil_text ?g_Veil_text ?t_Veil_text ?r_Veil_text ?l_Veil_text ?c_Veil_text ?k_Veil_text ?a_Veil_names ?g_Veil_names ?t_Veil_names ?r_Veil_names ?l_Veil_names ?c_Veil_names ?k_Veil_names ?a_Veil_marks ?g_Veil_marks ?t_Veil_marks ?r_Veil_marks ?l_Veil_marks ?c_Veil_marks ?k_Veil_marks ?a_InvalidText___init__ ?i_InvalidText___init__ ?xy_InvalidText ?l_InvalidText___init__ ?c_InvalidText___init__ ?k_InvalidText___init__ ?a_Veil___init__ ?i_Veil___init__ ?l_Veil___init__ ?c_Veil___init__ ?k_Veil___init__ ?a_Case___init__ ?i_Case___init__ ?l_Case___init__ ?c_Case___init__ ?k_Case___init__ ?a_Veil___str__ ?i_Veil___str__ ?l_Veil___str__ ?c_Veil___str__ ?k_Veil___str__ ?a_Veil___repr__ ?i_Veil___repr__ ?l_Veil___repr__ ?c_Veil___repr__ ?k_Veil___repr__ ?a_Veil___eq__ ?i_Veil___eq__ ?l_Veil___eq__ ?c_Veil___eq__ ?k_Veil___eq__ ?a_Case___eq__ ?i_Case___eq__ ?l_Case___eq__ ?c_Case___eq__ ?k_Case___eq__ ?a__law_is_right ?l__law_is_right ?c__law_is_right ?k__law_is_right ?lk__law_is_right ?lp__law_is_right ?ln__law_is_right ?lr__law_is_right ?a__law_right ?l__law_right ?c__law_right ?k__law_right ?a_law ?l_law ?c_law ?k_law ?z_abs ?z_all ?z_bool ?z_divmod ?z_int ?z_isinstance ?z_len ?z_max ?z_min ?z_range ?z_repr ?z_sorted ?z_str ?z_tuple ?z_zip ?v_DIGITS ?v_LEAST_CANDIDATES ?v_LETTERS ?v_MOST_CANDIDATES ?v_MOST_LETTERS ?v_MOST_MARKS ?v_MOST_RULES ?nq1 ?nq2 ?nq3 ?nq7 ?nv1 ?nv2 ?nv3 ?nv4 ?nv5 ?nv6 ?nv7 ?nx1 ?nx2 ?nx3 ?nx4
    (case cm_Case => k_is)
    (case cpg_Case => k_is)
    (case chd_Case => k_is)
    (case cpo_Case => k_is)
    (case csa_Case => k_is)
    (case cmk_Case => k_is)
    (case ckc_Case => k_is)
    (case cia_Case => k_is)
    (case cim_Case => k_is)
    (case cm_InvalidText => k_is)
    (case cm_Veil => k_is)
    (case cpg_Veil => k_is)
    (case chd_Veil => k_is)
    (case cpo_Veil => k_is)
    (case csa_Veil => k_is)
    (case cmk_Veil => k_is)
    (case ckc_Veil => k_is)
    (case cia_Veil => k_is)
    (case cim_Veil => k_is)
    (case xh_InvalidText => k_is)
    (case xt_InvalidText => k_is)
    (case xs_InvalidText => k_is)
    (case xga_InvalidText => k_is)
    (case xgt_InvalidText => k_is)
    (case xcl_InvalidText => k_is)
    (case xo_InvalidText => k_is)
    (case xp_InvalidText => k_is)
    (case xu_InvalidText_InvalidText => k_is)
    (case xL_InvalidText => k_is)
    (case xR_InvalidText => first | rfl | decide +kernel)
    (case xa_InvalidText => k_is)
    (case xn_InvalidText_given => k_is)
    (case xn_InvalidText_index => k_is)
    (case xn_InvalidText_number => k_is)
    (case xn_InvalidText_told => k_is)
    (case ihn => k_is)
    (case iht => k_is)
    (case a_is_name => k_is)
    (case l_is_name => k_is)
    (case c_is_name => k_is)
    (case k_is_name => k_is)
    (case a_are_names => k_is)
    (case l_are_names => k_is)
    (case c_are_names => k_is)
    (case k_are_names => k_is)
    (case a_is_number => k_is)
    (case l_is_number => k_is)
    (case c_is_number => k_is)
    (case k_is_number => k_is)
    (case a_read_mark => k_is)
    (case l_read_mark => k_is)
    (case c_read_mark => k_is)
    (case k_read_mark => k_is)
    (case a_read_stretch => k_is)
    (case l_read_stretch => k_is)
    (case c_read_stretch => k_is)
    (case k_read_stretch => k_is)
    (case a_read_candidates => k_is)
    (case l_read_candidates => k_is)
    (case c_read_candidates => k_is)
    (case k_read_candidates => k_is)
    (case a_read_case => k_is)
    (case l_read_case => k_is)
    (case c_read_case => k_is)
    (case k_read_case => k_is)
    (case a_read_veil => k_is)
    (case l_read_veil => k_is)
    (case c_read_veil => k_is)
    (case k_read_veil => k_is)
    (case a__law_cell => k_is)
    (case l__law_cell => k_is)
    (case c__law_cell => k_is)
    (case k__law_cell => k_is)
    (case a__law_well => k_is)
    (case l__law_well => k_is)
    (case c__law_well => k_is)
    (case k__law_well => k_is)
    (case a__law_dip => k_is)
    (case l__law_dip => k_is)
    (case c__law_dip => k_is)
    (case k__law_dip => k_is)
    (case a__law_pick => k_is)
    (case l__law_pick => k_is)
    (case c__law_pick => k_is)
    (case k__law_pick => k_is)
    (case a__law_tags => k_is)
    (case l__law_tags => k_is)
    (case c__law_tags => k_is)
    (case k__law_tags => k_is)
    (case a__law_folk => k_is)
    (case l__law_folk => k_is)
    (case c__law_folk => k_is)
    (case k__law_folk => k_is)
    (case a__law_figure => k_is)
    (case l__law_figure => k_is)
    (case c__law_figure => k_is)
    (case k__law_figure => k_is)
    (case a__law_is_tag => k_is)
    (case l__law_is_tag => k_is)
    (case c__law_is_tag => k_is)
    (case k__law_is_tag => k_is)
    (case a__law_stretch => k_is)
    (case l__law_stretch => k_is)
    (case c__law_stretch => k_is)
    (case k__law_stretch => k_is)
    (case a__law_read => k_is)
    (case l__law_read => k_is)
    (case c__law_read => k_is)
    (case k__law_read => k_is)
    (case a__law_bent_page => k_is)
    (case l__law_bent_page => k_is)
    (case c__law_bent_page => k_is)
    (case k__law_bent_page => k_is)
    (case a__law_made_of => k_is)
    (case l__law_made_of => k_is)
    (case c__law_made_of => k_is)
    (case k__law_made_of => k_is)
    (case a__law_odd_things => k_is)
    (case l__law_odd_things => k_is)
    (case c__law_odd_things => k_is)
    (case k__law_odd_things => k_is)
    (case a__law_veiled => k_is)
    (case l__law_veiled => k_is)
    (case c__law_veiled => k_is)
    (case k__law_veiled => k_is)
    (case a__law_veil_page => k_is)
    (case l__law_veil_page => k_is)
    (case c__law_veil_page => k_is)
    (case k__law_veil_page => k_is)
    (case a_Veil_text => k_is)
    (case g_Veil_text => k_is)
    (case t_Veil_text => k_is)
    (case r_Veil_text => k_is)
    (case l_Veil_text => k_is)
    (case c_Veil_text => k_is)
    (case k_Veil_text => k_is)
    (case a_Veil_names => k_is)
    (case g_Veil_names => k_is)
    (case t_Veil_names => k_is)
    (case r_Veil_names => k_is)
    (case l_Veil_names => k_is)
    (case c_Veil_names => k_is)
    (case k_Veil_names => k_is)
    (case a_Veil_marks => k_is)
    (case g_Veil_marks => k_is)
    (case t_Veil_marks => k_is)
    (case r_Veil_marks => k_is)
    (case l_Veil_marks => k_is)
    (case c_Veil_marks => k_is)
    (case k_Veil_marks => k_is)
    (case a_InvalidText___init__ => k_is)
    (case i_InvalidText___init__ => k_is)
    (case xy_InvalidText => k_is)
    (case l_InvalidText___init__ => k_is)
    (case c_InvalidText___init__ => k_is)
    (case k_InvalidText___init__ => k_is)
    (case a_Veil___init__ => k_is)
    (case i_Veil___init__ => k_is)
    (case l_Veil___init__ => k_is)
    (case c_Veil___init__ => k_is)
    (case k_Veil___init__ => k_is)
    (case a_Case___init__ => k_is)
    (case i_Case___init__ => k_is)
    (case l_Case___init__ => k_is)
    (case c_Case___init__ => k_is)
    (case k_Case___init__ => k_is)
    (case a_Veil___str__ => k_is)
    (case i_Veil___str__ => k_is)
    (case l_Veil___str__ => k_is)
    (case c_Veil___str__ => k_is)
    (case k_Veil___str__ => k_is)
    (case a_Veil___repr__ => k_is)
    (case i_Veil___repr__ => k_is)
    (case l_Veil___repr__ => k_is)
    (case c_Veil___repr__ => k_is)
    (case k_Veil___repr__ => k_is)
    (case a_Veil___eq__ => k_is)
    (case i_Veil___eq__ => k_is)
    (case l_Veil___eq__ => k_is)
    (case c_Veil___eq__ => k_is)
    (case k_Veil___eq__ => k_is)
    (case a_Case___eq__ => k_is)
    (case i_Case___eq__ => k_is)
    (case l_Case___eq__ => k_is)
    (case c_Case___eq__ => k_is)
    (case k_Case___eq__ => k_is)
    (case a__law_is_right => k_is)
    (case l__law_is_right => k_is)
    (case c__law_is_right => k_is)
    (case k__law_is_right => k_is)
    (case lk__law_is_right => k_is)
    (case lp__law_is_right => rfl)
    (case ln__law_is_right => first | rfl | kernel_rfl)
    (case lr__law_is_right => first | rfl | decide +kernel)
    (case a__law_right => k_is)
    (case l__law_right => k_is)
    (case c__law_right => k_is)
    (case k__law_right => k_is)
    (case a_law => k_is)
    (case l_law => k_is)
    (case c_law => k_is)
    (case k_law => k_is)
    (case z_abs => k_is)
    (case z_all => k_is)
    (case z_bool => k_is)
    (case z_divmod => k_is)
    (case z_int => k_is)
    (case z_isinstance => k_is)
    (case z_len => k_is)
    (case z_max => k_is)
    (case z_min => k_is)
    (case z_range => k_is)
    (case z_repr => k_is)
    (case z_sorted => k_is)
    (case z_str => k_is)
    (case z_tuple => k_is)
    (case z_zip => k_is)
    (case v_DIGITS => k_is)
    (case v_LEAST_CANDIDATES => k_is)
    (case v_LETTERS => k_is)
    (case v_MOST_CANDIDATES => k_is)
    (case v_MOST_LETTERS => k_is)
    (case v_MOST_MARKS => k_is)
    (case v_MOST_RULES => k_is)
    (case nq1 => k_is)
    (case nq2 => k_is)
    (case nq3 => k_is)
    (case nq7 => k_is)
    (case nv1 => k_is)
    (case nv2 => k_is)
    (case nv3 => k_is)
    (case nv4 => k_is)
    (case nv5 => k_is)
    (case nv6 => k_is)
    (case nv7 => k_is)
    (case nx1 => k_is)
    (case nx2 => k_is)
    (case nx3 => first | rfl | decide)
    (case nx4 => first | rfl | decide)
#print axioms PySem.Challenge.cw_rankedrules_k31_whole_texts_of_veils_holds



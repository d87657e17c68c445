import PyProof.Rows.All
import Wide.All
import OpenK.AllK
import Wide.FinOn
import HandS.Base
import HandS.Call
import HandS.List
import HandS.Comp
import HandS.Ends
import HandS.Iter
import HandS.Text
import HandS.Words
import HandS.Lambda
import HandS.IsInst
import HandS.Conv
import HandS.Zip
import HandS.Property
import HandS.Star
import HandS.Sort
import HandS.Dict
import HandS.Flow
import HandS.WrittenGet
import KE.KUnpackStar
import KE.GoesNew
import HandS.Codes
import PyProof.P3Eq
import HandS.SetFor
import HandS.Strs
import PyProof.ReprReads
import HandS.RevRange
import PyProof.EnumMake
import KE.GoesMore
import HandS.Style
import HandS.TupAny
import HandS.EndBits
import HandS.WideBits
import HandS.More
import PyProof.Rows.EqBoolInt
import HandS.TryOnly
import HandS.Deep
import HandS.Small
import KE.KDictDisplayH
import HandS.DictComp
import HandS.CallLocal
import HandS.ListItems
import PyProof.FString5
import PyProof.TupleOfStr
import HandS.Exc
import HandS.SuiteRaise
import KE.KTryMore
import HandS.ExcIs
import HandS.ExcField
import HandS.HotCalls
import HandS.ExcOwn
import PyProof.ExcBaseAll.ArithmeticError
import HandS.EndTab
import HandS.EndOwn
import KE.KExcIs
import HandS.ExcInit
import PyProof.CallFns
import KE.DatumIndex
import HandS.TupSets
import KE.SortData
import KE.SortKeyHeap
import KE.KLam
import HandS.HeadHook3
import HandS.ForMost
import PySem.Challenge.RW_rankedrules_k18_whole_rules_exchanged
set_option Elab.async false
set_option linter.all false
set_option maxRecDepth 100000
set_option maxHeartbeats 4000000
set_option autoImplicit false
/-! A data layer over HandS's readings: what a slot holds is said as plain data (D), never as addresses. -/
namespace Dw
open PySem PySem.Spec PyProof.Rows L2

/-- a list of the written part -/
def SqK (K : PySem.W.Frag) (a : Addr) (xs : List V) : Prop :=
  ∃ (o : Obj) (its : Array Value) (n : Nat), K.lookup a = some o ∧ o.cls = .type "list" ∧ o.dict = none ∧ o.data = .seq its n ∧ its.size ≤ sizeLine ∧ Vals xs its.toList
/-- which addresses hold a table of code objects, and of what name these are -/
class Tabs0 where
  nm : Addr → Option Str
variable [Tabs0]
/-- plain data -/
inductive D where
  | non | bl (b : Bool) | int (i : Int) | str (x : Str)
  | tup (ds : List D) | lst (ds : List D)
  | obj (C : Addr) (ns : List Str) (ds : List D)
  | raw (v : V)
  | purse
  | rng (lo hi : Int)
  | dct (ks : List Key) (ds : List D)
  | scr (K : PySem.W.Frag) (vs : List V)
  | tupN (ds : List D)
  | tag (d : D)

/-- a world: the abstract heap, the addresses that may change (U), the purses among them (P) -/
structure Wd where
  H : Hp
  U : Addr → Prop
  P : Addr → Prop

/-- a tuple to be read, as it is -/
def TupAt (H : Hp) (a : Addr) (vs : List V) : Prop := Rd H a (.tup vs)
/-- .. one that is known to have no dict of its own -/
def TupN (H : Hp) (a : Addr) (vs : List V) : Prop := ∃ o : Obj, H a = some (.frz o (.tup vs)) ∧ o.cls = .type "tuple" ∧ o.dict = none
theorem TupAt.mk {H : Hp} {a : Addr} {vs : List V} (h : H a = some (.tup vs)) : TupAt H a vs := .inl h
theorem TupAt.sq {K : PySem.W.Frag} {H : Hp} {a : Addr} {vs : List V} (h : TupAt H a vs) : SqT K H a vs := .inl h
theorem TupN.at {H : Hp} {a : Addr} {vs : List V} (h : TupN H a vs) : TupAt H a vs := let ⟨o, e, _⟩ := h; .inr ⟨o, e⟩
theorem TupAt.imp {H H' : Hp} {a : Addr} {vs : List V} (s : ∀ u, H a = some u → H' a = some u) (h : TupAt H a vs) : TupAt H' a vs := h.elim (fun h => .inl (s _ h)) fun ⟨o, h⟩ => .inr ⟨o, s _ h⟩
theorem TupN.imp {H H' : Hp} {a : Addr} {vs : List V} (s : ∀ u, H a = some u → H' a = some u) (h : TupN H a vs) : TupN H' a vs := let ⟨o, e, c⟩ := h; ⟨o, s _ e, c⟩
theorem TupAt.same {H H' : Hp} {a : Addr} {vs : List V} (h : TupAt H a vs) (s : Same H H') : TupAt H' a vs := h.imp (s a)
theorem TupN.same {H H' : Hp} {a : Addr} {vs : List V} (h : TupN H a vs) (s : Same H H') : TupN H' a vs := h.imp (s a)
theorem TupAt.some {H : Hp} {a : Addr} {vs : List V} (h : TupAt H a vs) : ∃ u, H a = some u := h.elim (fun h => ⟨_, h⟩) fun ⟨_, h⟩ => ⟨_, h⟩
theorem TupAt.keep {H H' : Hp} {U U' : Addr → Prop} {a : Addr} {vs : List V} (h : TupAt H a vs) (n : ¬ U a) (k : ∀ u, H a = Option.some u → ¬ U a → H' a = Option.some u ∧ ¬ U' a) : TupAt H' a vs ∧ ¬ U' a := let ⟨u, e⟩ := h.some; ⟨h.imp fun u e => (k u e n).1, (k u e n).2⟩
mutual
def Rep (W : Wd) : D → V → Prop
  | .non, v => v = .non
  | .bl b, v => v = .bl b
  | .int i, v => v = .int i
  | .str x, v => v = .str x
  | .raw u, v => v = u
  | .tup ds, v => ∃ a vs, v = .ref a ∧ TupAt W.H a vs ∧ ¬ W.U a ∧ RepL W ds vs
  | .tupN ds, v => ∃ a vs, v = .ref a ∧ TupN W.H a vs ∧ ¬ W.U a ∧ RepL W ds vs
  | .lst ds, v => ∃ a vs, v = .ref a ∧ W.H a = some (.lst vs) ∧ ¬ W.U a ∧ RepL W ds vs
  | .obj C ns ds, v => ∃ a dx vs, v = .ref a ∧ W.H a = some (.ins C dx (ns.zip vs)) ∧ ¬ W.U a ∧ ns.length = vs.length ∧ RepL W ds vs
  | .purse, v => ∃ a, v = .ref a ∧ W.P a ∧ Tabs0.nm a = none ∧ ∀ p q, Tabs0.nm p = some q → W.P p
  | .rng lo hi, v => ∃ a, v = .ref a ∧ W.H a = some (.rng lo hi) ∧ ¬ W.U a
  | .dct ks ds, v => ∃ a vs, v = .ref a ∧ W.H a = some (.dK (ks.zip vs)) ∧ ¬ W.U a ∧ ks.length = vs.length ∧ RepL W ds vs
  | .scr K vs, v => ∃ a, v = .ref a ∧ ((∃ u, W.H a = some u ∧ ¬ W.U a ∧ (u = .lst vs ∨ ∃ o, u = .frz o (.lst vs))) ∨ SqK K a vs) ∧ ∀ p q, Tabs0.nm p = some q → W.P p
  | .tag d, v => Rep W d v ∧ ∀ p q, Tabs0.nm p = some q → W.P p
def RepL (W : Wd) : List D → List V → Prop
  | [], vs => vs = []
  | d :: ds, vs => ∃ v r, vs = v :: r ∧ Rep W d v ∧ RepL W ds r
end

def PurseAt (H : Hp) (a : Addr) : Prop := ∃ x y : Int, 0 ≤ x ∧ 0 ≤ y ∧ y < 2147483647 ∧ H a = some (.lst [.int x, .int y])

/-- what stands at an address that may change: a purse, or a table -/
def OwnAt (H : Hp) (a : Addr) : Prop := match Tabs0.nm a with | none => PurseAt H a | some q => LamX.TabS H a q
theorem OwnAt.purse {H : Hp} {a : Addr} (h : OwnAt H a) (n : Tabs0.nm a = none) : PurseAt H a := by
  unfold OwnAt at h
  rw [n] at h
  exact h
theorem OwnAt.of {H : Hp} {a : Addr} (h : PurseAt H a) (n : Tabs0.nm a = none) : OwnAt H a := by
  unfold OwnAt
  rw [n]
  exact h
theorem OwnAt.tab {H : Hp} {a : Addr} {q : Str} (h : OwnAt H a) (n : Tabs0.nm a = some q) : LamX.TabS H a q := by
  unfold OwnAt at h
  rw [n] at h
  exact h
theorem OwnAt.same {H H' : Hp} {a : Addr} (s : Same H H') (h : OwnAt H a) : OwnAt H' a := by
  unfold OwnAt at h ⊢
  cases n : Tabs0.nm a with
  | none =>
    rw [n] at h
    obtain ⟨x, y, h1, h2, h3, e⟩ := h
    exact ⟨x, y, h1, h2, h3, s _ _ e⟩
  | some q =>
    rw [n] at h
    exact LamX.TabS.ext h s
theorem OwnAt.upd {H : Hp} {a b : Addr} {u : HO} (ha : ∀ h, H a ≠ some (.ext h)) (hb : b ≠ a) (h : OwnAt H b) : OwnAt (L2.upd H a u) b := by
  unfold OwnAt at h ⊢
  cases n : Tabs0.nm b with
  | none =>
    rw [n] at h
    obtain ⟨x, y, h1, h2, h3, e⟩ := h
    exact ⟨x, y, h1, h2, h3, by rw [upd_ne hb]; exact e⟩
  | some q =>
    rw [n] at h
    obtain ⟨ps, h1, h2, h3⟩ := h
    refine ⟨ps, by rw [upd_ne hb]; exact h1, h2, fun pos cv hc => ?_⟩
    obtain ⟨c, e1, e2⟩ := h3 pos cv hc
    refine ⟨c, e1, ?_⟩
    rw [upd_ne fun z : c = a => ?_]
    · exact e2
    · rw [z] at e2
      exact ha _ e2
theorem no_ext {H : Hp} {a : Addr} {vs : List V} (h : H a = some (.lst vs)) : ∀ f, H a ≠ some (.ext f) := fun f z => by rw [h] at z; cases z
theorem no_extI {H : Hp} {a C dx : Addr} {fs : List (Str × V)} (h : H a = some (.ins C dx fs)) : ∀ f, H a ≠ some (.ext f) := fun f z => by rw [h] at z; cases z
theorem OwnAt.some {H : Hp} {a : Addr} (h : OwnAt H a) : H a ≠ none := by
  unfold OwnAt at h
  cases n : Tabs0.nm a with
  | none =>
    rw [n] at h
    obtain ⟨x, y, h1, h2, h3, e⟩ := h
    rw [e]; exact fun z => nomatch z
  | some q =>
    rw [n] at h
    obtain ⟨ps, h1, _⟩ := h
    rw [h1]; exact fun z => nomatch z
/-- F: what this def may not touch -/
structure WOk (F : Addr → Prop) (W : Wd) : Prop where
  dom : ∀ a, W.U a → W.H a ≠ none
  fu : ∀ a, F a → W.U a
  pu : ∀ a, W.P a → W.U a ∧ ¬ F a ∧ OwnAt W.H a

structure Stp (F : Addr → Prop) (W W' : Wd) : Prop where
  keep : ∀ a u, W.H a = some u → ¬ W.U a → W'.H a = some u ∧ ¬ W'.U a
  pur : W'.P = W.P
  fr : ∀ a, F a → W'.H a = W.H a

theorem Stp.refl {F : Addr → Prop} (W : Wd) : Stp F W W := ⟨fun _ _ h n => ⟨h, n⟩, rfl, fun _ _ => rfl⟩
theorem Stp.trans {F : Addr → Prop} {W W1 W2 : Wd} (a : Stp F W W1) (b : Stp F W1 W2) : Stp F W W2 :=
  ⟨fun c u h n => let ⟨h1, n1⟩ := a.keep c u h n; b.keep c u h1 n1, b.pur.trans a.pur, fun c h => (b.fr c h).trans (a.fr c h)⟩

mutual
theorem Rep.mono {W W' : Wd} (k : ∀ a u, W.H a = some u → ¬ W.U a → W'.H a = some u ∧ ¬ W'.U a) (p : ∀ a, W.P a → W'.P a) : ∀ (d : D) (v : V), Rep W d v → Rep W' d v
  | .non, _, h => h
  | .bl _, _, h => h
  | .int _, _, h => h
  | .str _, _, h => h
  | .raw _, _, h => h
  | .tup ds, _, ⟨a, vs, e, h, n, r⟩ => let ⟨h', n'⟩ := h.keep n (k a); ⟨a, vs, e, h', n', RepL.mono k p ds vs r⟩
  | .tupN ds, _, ⟨a, vs, e, h, n, r⟩ => let ⟨_, n'⟩ := h.at.keep n (k a); ⟨a, vs, e, h.imp fun u e => (k a u e n).1, n', RepL.mono k p ds vs r⟩
  | .lst ds, _, ⟨a, vs, e, h, n, r⟩ => let ⟨h', n'⟩ := k _ _ h n; ⟨a, vs, e, h', n', RepL.mono k p ds vs r⟩
  | .obj C ns ds, _, ⟨a, dx, vs, e, h, n, l, r⟩ => let ⟨h', n'⟩ := k _ _ h n; ⟨a, dx, vs, e, h', n', l, RepL.mono k p ds vs r⟩
  | .purse, _, ⟨a, e, h, n, t⟩ => ⟨a, e, p a h, n, fun x q z => p x (t x q z)⟩
  | .rng lo hi, _, ⟨a, e, h, n⟩ => let ⟨h', n'⟩ := k _ _ h n; ⟨a, e, h', n'⟩
  | .dct ks ds, _, ⟨a, vs, e, h, n, l, r⟩ => let ⟨h', n'⟩ := k _ _ h n; ⟨a, vs, e, h', n', l, RepL.mono k p ds vs r⟩
  | .scr K vs, _, ⟨a, e, .inl ⟨u, h, n, q⟩, t⟩ => let ⟨h', n'⟩ := k _ _ h n; ⟨a, e, .inl ⟨u, h', n', q⟩, fun x q z => p x (t x q z)⟩
  | .scr K vs, _, ⟨a, e, .inr q, t⟩ => ⟨a, e, .inr q, fun x q z => p x (t x q z)⟩
  | .tag d, v, ⟨h, t⟩ => ⟨Rep.mono k p d v h, fun x q z => p x (t x q z)⟩
theorem RepL.mono {W W' : Wd} (k : ∀ a u, W.H a = some u → ¬ W.U a → W'.H a = some u ∧ ¬ W'.U a) (p : ∀ a, W.P a → W'.P a) : ∀ (ds : List D) (vs : List V), RepL W ds vs → RepL W' ds vs
  | [], _, h => h
  | d :: ds, _, ⟨v, r, e, h1, h2⟩ => ⟨v, r, e, Rep.mono k p d v h1, RepL.mono k p ds r h2⟩
end
theorem Rep.stp {F : Addr → Prop} {W W' : Wd} {d : D} {v : V} (s : Stp F W W') (h : Rep W d v) : Rep W' d v := Rep.mono s.keep (fun a h => by rw [s.pur]; exact h) d v h
theorem RepL.stp {F : Addr → Prop} {W W' : Wd} {d : List D} {v : List V} (s : Stp F W W') (h : RepL W d v) : RepL W' d v := RepL.mono s.keep (fun a h => by rw [s.pur]; exact h) d v h
/-- the world with another heap -/
abbrev Wd.at (W : Wd) (H : Hp) : Wd := ⟨H, W.U, W.P⟩
theorem Rep.same {W : Wd} {H : Hp} {d : D} {v : V} (s : Same W.H H) (h : Rep W d v) : Rep (W.at H) d v := Rep.mono (W' := W.at H) (fun a u e n => ⟨s a u e, n⟩) (fun _ h => h) d v h
theorem RepL.same {W : Wd} {H : Hp} {d : List D} {v : List V} (s : Same W.H H) (h : RepL W d v) : RepL (W.at H) d v := RepL.mono (W' := W.at H) (fun a u e n => ⟨s a u e, n⟩) (fun _ h => h) d v h
theorem Stp.of_same {F : Addr → Prop} {W : Wd} {H : Hp} (ok : WOk F W) (s : Same W.H H) : Stp F W (W.at H) :=
  ⟨fun a u e n => ⟨s a u e, n⟩, rfl, fun a h => by
    cases q : W.H a with
    | none => exact absurd q (ok.dom a (ok.fu a h))
    | some u => exact s a u q⟩
theorem WOk.same {F : Addr → Prop} {W : Wd} {H : Hp} (ok : WOk F W) (s : Same W.H H) : WOk F (W.at H) :=
  ⟨fun a h z => ok.dom a h (s.free z), ok.fu, fun a h => let ⟨u, f, o⟩ := ok.pu a h; ⟨u, f, o.same s⟩⟩
theorem WOk.new {F : Addr → Prop} {W : Wd} (ok : WOk F W) {a : Addr} (h : W.H a = none) : ¬ W.U a := fun u => ok.dom a u h

theorem RepL.length {W : Wd} : ∀ {ds : List D} {vs : List V}, RepL W ds vs → ds.length = vs.length
  | [], _, h => by rw [show _ = [] from h]; rfl
  | _ :: ds, _, ⟨_, r, e, _, h⟩ => by rw [e, List.length_cons, List.length_cons, RepL.length (ds := ds) h]
theorem RepL.get {W : Wd} : ∀ {ds : List D} {vs : List V} {i : Nat} {d : D}, RepL W ds vs → ds[i]? = some d → ∃ v, vs[i]? = some v ∧ Rep W d v
  | [], _, _, _, _, e => by simp at e
  | d :: ds, _, 0, d', ⟨v, r, e, h1, h2⟩, q => by
    have : d = d' := by simpa using q
    subst this
    exact ⟨v, by rw [e]; rfl, h1⟩
  | d :: ds, _, i + 1, d', ⟨v, r, e, h1, h2⟩, q => by
    obtain ⟨v', a, b⟩ := RepL.get (i := i) (d := d') h2 (by simpa using q)
    exact ⟨v', by rw [e]; simpa using a, b⟩
theorem RepL.append {W : Wd} : ∀ {ds es : List D} {vs us : List V}, RepL W ds vs → RepL W es us → RepL W (ds ++ es) (vs ++ us)
  | [], _, _, _, h, h' => by rw [show _ = [] from h]; exact h'
  | d :: ds, es, _, us, ⟨v, r, e, h1, h2⟩, h' => ⟨v, r ++ us, by rw [e]; rfl, h1, RepL.append h2 h'⟩
theorem RepL.take {W : Wd} : ∀ {ds : List D} {vs : List V} (n : Nat), RepL W ds vs → RepL W (ds.take n) (vs.take n)
  | _, _, 0, _ => by rw [List.take_zero, List.take_zero]; rfl
  | [], _, n + 1, h => by rw [show _ = [] from h]; rfl
  | d :: ds, _, n + 1, ⟨v, r, e, h1, h2⟩ => ⟨v, r.take n, by rw [e]; rfl, h1, RepL.take n h2⟩
theorem RepL.drop {W : Wd} : ∀ {ds : List D} {vs : List V} (n : Nat), RepL W ds vs → RepL W (ds.drop n) (vs.drop n)
  | _, _, 0, h => h
  | [], _, n + 1, h => by rw [show _ = [] from h]; rfl
  | d :: ds, _, n + 1, ⟨v, r, e, h1, h2⟩ => by rw [e]; exact RepL.drop n h2
theorem RepL.set {W : Wd} {d : D} {v : V} (h : Rep W d v) : ∀ {ds : List D} {vs : List V} (n : Nat), RepL W ds vs → RepL W (ds.set n d) (vs.set n v)
  | [], _, n, h' => by rw [show _ = [] from h']; rfl
  | _ :: ds, _, 0, ⟨u, r, e, h1, h2⟩ => by rw [e]; exact ⟨v, r, rfl, h, h2⟩
  | c :: ds, _, n + 1, ⟨u, r, e, h1, h2⟩ => by rw [e]; exact ⟨u, r.set n v, rfl, h1, RepL.set h n h2⟩
theorem RepL.eraseIdx {W : Wd} : ∀ {ds : List D} {vs : List V} (n : Nat), RepL W ds vs → RepL W (ds.eraseIdx n) (vs.eraseIdx n)
  | [], _, n, h' => by rw [show _ = [] from h']; rfl
  | _ :: ds, _, 0, ⟨u, r, e, h1, h2⟩ => by rw [e]; exact h2
  | c :: ds, _, n + 1, ⟨u, r, e, h1, h2⟩ => by rw [e]; exact ⟨u, r.eraseIdx n, rfl, h1, RepL.eraseIdx n h2⟩
theorem RepL.one {W : Wd} {d : D} {v : V} (h : Rep W d v) : RepL W [d] [v] := ⟨v, [], rfl, h, rfl⟩
theorem RepL.ints {W : Wd} : ∀ {ns : List Int} {vs : List V}, RepL W (ns.map D.int) vs ↔ vs = ns.map V.int
  | [], vs => Iff.rfl
  | n :: ns, vs => by
    constructor
    · rintro ⟨v, r, e, h1, h2⟩
      rw [e, show v = .int n from h1, RepL.ints.mp h2]; rfl
    · intro e
      exact ⟨.int n, ns.map V.int, e, rfl, RepL.ints.mpr rfl⟩
theorem RepL.strs {W : Wd} : ∀ {ns : List Str} {vs : List V}, RepL W (ns.map D.str) vs ↔ vs = ns.map V.str
  | [], vs => Iff.rfl
  | n :: ns, vs => by
    constructor
    · rintro ⟨v, r, e, h1, h2⟩
      rw [e, show v = .str n from h1, RepL.strs.mp h2]; rfl
    · intro e
      exact ⟨.str n, ns.map V.str, e, rfl, RepL.strs.mpr rfl⟩
theorem RepL.bls {W : Wd} : ∀ {ns : List Bool} {vs : List V}, RepL W (ns.map D.bl) vs ↔ vs = ns.map V.bl
  | [], vs => Iff.rfl
  | n :: ns, vs => by
    constructor
    · rintro ⟨v, r, e, h1, h2⟩
      rw [e, show v = .bl n from h1, RepL.bls.mp h2]; rfl
    · intro e
      exact ⟨.bl n, ns.map V.bl, e, rfl, RepL.bls.mpr rfl⟩

mutual
/-- what is known less of -/
def weakD : D → D
  | .tupN ds => .tup (weakDs ds) | .tup ds => .tup (weakDs ds) | .lst ds => .lst (weakDs ds)
  | d => d
def weakDs : List D → List D
  | [] => []
  | d :: ds => weakD d :: weakDs ds
end
mutual
theorem Rep.weak {W : Wd} : ∀ (d : D) (v : V), Rep W d v → Rep W (weakD d) v
  | .tupN ds, _, ⟨a, vs, e, h, n, r⟩ => ⟨a, vs, e, h.at, n, RepL.weak ds vs r⟩
  | .tup ds, _, ⟨a, vs, e, h, n, r⟩ => ⟨a, vs, e, h, n, RepL.weak ds vs r⟩
  | .lst ds, _, ⟨a, vs, e, h, n, r⟩ => ⟨a, vs, e, h, n, RepL.weak ds vs r⟩
  | .non, _, h => h
  | .bl _, _, h => h
  | .int _, _, h => h
  | .str _, _, h => h
  | .raw _, _, h => h
  | .obj _ _ _, _, h => h
  | .purse, _, h => h
  | .rng _ _, _, h => h
  | .dct _ _, _, h => h
  | .scr _ _, _, h => h
  | .tag _, _, h => h
theorem RepL.weak {W : Wd} : ∀ (ds : List D) (vs : List V), RepL W ds vs → RepL W (weakDs ds) vs
  | [], _, h => h
  | d :: ds, _, ⟨v, r, e, h1, h2⟩ => ⟨v, r, e, Rep.weak d v h1, RepL.weak ds r h2⟩
end
/-! ### the slots -/
/-- an own thing: a list, or a dict by its keys -/
structure Ow where
  ks : Option (List Key)
  ds : List D
@[reducible] def Ow.cell (o : Ow) (vs : List V) : HO := match o.ks with | none => .lst vs | some ks => .dK (ks.zip vs)
inductive Sl where
  | unset | val (d : D) | ownX (o : Ow)
@[reducible] def Sl.own (ds : List D) : Sl := .ownX ⟨none, ds⟩
@[reducible] def Sl.owd (ks : List Key) (ds : List D) : Sl := .ownX ⟨some ks, ds⟩
theorem Ow.ext (o : Ow) (vs : List V) : ∀ f, o.cell vs ≠ .ext f := fun f z => by
  obtain ⟨ks, ds⟩ := o
  cases ks <;> cases z
theorem no_extX {H : Hp} {a : Addr} {o : Ow} {vs : List V} (h : H a = some (o.cell vs)) : ∀ f, H a ≠ some (.ext f) := fun f z => by
  rw [h] at z
  exact o.ext vs f (Option.some.inj z)
abbrev Gam := List Sl

structure SR (F : Addr → Prop) (Γ : Gam) (σ : L2.St) (W : Wd) : Prop where
  ok : WOk F W
  len : Γ.length = σ.length
  val : ∀ (i : Nat) (d : D), Γ[i]? = some (Sl.val d) → ∃ v, σ[i]? = some (some v) ∧ Rep W d v
  ownX : ∀ (i : Nat) (ds : Ow), Γ[i]? = some (Sl.ownX ds) → ∃ a vs, σ[i]? = some (some (V.ref a)) ∧ W.U a ∧ ¬ F a ∧ ¬ W.P a ∧ W.H a = some (ds.cell vs) ∧ RepL W ds.ds vs
  apartX : ∀ (i j : Nat) (a : Addr) (ds es : Ow), Γ[i]? = some (Sl.ownX ds) → Γ[j]? = some (Sl.ownX es) → σ[i]? = some (some (V.ref a)) → σ[j]? = some (some (V.ref a)) → i = j
theorem SR.own {F : Addr → Prop} {Γ : Gam} {σ : L2.St} {W : Wd} (h : SR F Γ σ W) (i : Nat) (ds : List D) (e : Γ[i]? = some (Sl.own ds)) : ∃ a vs, σ[i]? = some (some (V.ref a)) ∧ W.U a ∧ ¬ F a ∧ ¬ W.P a ∧ W.H a = some (.lst vs) ∧ RepL W ds vs := h.ownX i ⟨none, ds⟩ e
theorem SR.owd {F : Addr → Prop} {Γ : Gam} {σ : L2.St} {W : Wd} (h : SR F Γ σ W) (i : Nat) (ks : List Key) (ds : List D) (e : Γ[i]? = some (Sl.owd ks ds)) : ∃ a vs, σ[i]? = some (some (V.ref a)) ∧ W.U a ∧ ¬ F a ∧ ¬ W.P a ∧ W.H a = some (.dK (ks.zip vs)) ∧ RepL W ds vs := h.ownX i ⟨some ks, ds⟩ e

theorem SR.same {F : Addr → Prop} {Γ : Gam} {σ : L2.St} {W : Wd} {H : Hp} (s : Same W.H H) (h : SR F Γ σ W) : SR F Γ σ (W.at H) :=
  ⟨h.ok.same s, h.len, fun i d e => let ⟨v, a, b⟩ := h.val i d e; ⟨v, a, b.same s⟩,
   fun i ds e => let ⟨a, vs, e1, u, f, p, q, r⟩ := h.ownX i ds e; ⟨a, vs, e1, u, f, p, s _ _ q, r.same s⟩, h.apartX⟩
/-- forgetting -/
theorem SR.weak {F : Addr → Prop} {Γ Γ' : Gam} {σ σ' : L2.St} {W : Wd} (h : SR F Γ σ W) (l : Γ'.length = σ'.length) (k : ∀ (i : Nat) (s : Sl), Γ'[i]? = some s → s = Sl.unset ∨ (Γ[i]? = some s ∧ σ'[i]? = σ[i]?)) : SR F Γ' σ' W := by
  have kv : ∀ (i : Nat) (d : D), Γ'[i]? = some (Sl.val d) → Γ[i]? = some (Sl.val d) ∧ σ'[i]? = σ[i]? := fun i d e => by
    rcases k i _ e with z | z
    · cases z
    · exact z
  have ko : ∀ (i : Nat) (d : Ow), Γ'[i]? = some (Sl.ownX d) → Γ[i]? = some (Sl.ownX d) ∧ σ'[i]? = σ[i]? := fun i d e => by
    rcases k i _ e with z | z
    · cases z
    · exact z
  refine ⟨h.ok, l, fun i d e => ?_, fun i ds e => ?_, fun i j a ds es e1 e2 e3 e4 => ?_⟩
  · obtain ⟨z, q⟩ := kv i d e
    rw [q]; exact h.val i d z
  · obtain ⟨z, q⟩ := ko i ds e
    rw [q]; exact h.ownX i ds z
  · obtain ⟨z1, q1⟩ := ko i ds e1
    obtain ⟨z2, q2⟩ := ko j es e2
    rw [q1] at e3; rw [q2] at e4
    exact h.apartX i j a ds es z1 z2 e3 e4
/-- a value is stored -/
theorem SR.set {F : Addr → Prop} {Γ : Gam} {σ : L2.St} {W : Wd} {i : Nat} {d : D} {v : V} (h : SR F Γ σ W) (r : Rep W d v) : SR F (Γ.set i (.val d)) (σ.set i (some v)) W := by
  refine ⟨h.ok, by simp [h.len], fun j e q => ?_, fun j ds q => ?_, fun j k a ds es q1 q2 q3 q4 => ?_⟩
  · by_cases hj : i = j
    · subst hj
      have hl : i < Γ.length := by
        have := (List.getElem?_eq_some_iff.mp q).1
        simpa using this
      rw [List.getElem?_set_self hl] at q
      cases q
      exact ⟨v, by rw [List.getElem?_set_self (by rw [← h.len]; exact hl)], r⟩
    · rw [List.getElem?_set_ne hj] at q ⊢
      exact h.val j e q
  · by_cases hj : i = j
    · subst hj
      have hl : i < Γ.length := by
        have := (List.getElem?_eq_some_iff.mp q).1
        simpa using this
      rw [List.getElem?_set_self hl] at q
      cases q
    · rw [List.getElem?_set_ne hj] at q ⊢
      exact h.ownX j ds q
  · have n : ∀ (j : Nat) (ds : Ow), (Γ.set i (.val d))[j]? = some (Sl.ownX ds) → i ≠ j := fun j ds q e => by
      subst e
      have hl : i < Γ.length := by
        have := (List.getElem?_eq_some_iff.mp q).1
        simpa using this
      rw [List.getElem?_set_self hl] at q
      cases q
    have n1 := n j ds q1
    have n2 := n k es q2
    rw [List.getElem?_set_ne n1] at q1 q3
    rw [List.getElem?_set_ne n2] at q2 q4
    exact h.apartX j k a ds es q1 q2 q3 q4
/-- what the callee may not touch: the frame and the own lists -/
def ownA (Γ : Gam) (σ : L2.St) (a : Addr) : Prop := ∃ (i : Nat) (ds : Ow), Γ[i]? = some (Sl.ownX ds) ∧ σ[i]? = some (some (V.ref a))
/-- behind a call -/
theorem SR.call {F : Addr → Prop} {Γ : Gam} {σ : L2.St} {W W' : Wd} (h : SR F Γ σ W) (s : Stp (fun a => F a ∨ ownA Γ σ a) W W') (ok : WOk (fun a => F a ∨ ownA Γ σ a) W') : SR F Γ σ W' := by
  refine ⟨⟨ok.dom, fun a z => ok.fu a (.inl z), fun a z => let ⟨u, f, p⟩ := ok.pu a z; ⟨u, fun w => f (.inl w), p⟩⟩, h.len, fun i d e => ?_, fun i ds e => ?_, h.apartX⟩
  · obtain ⟨v, a, b⟩ := h.val i d e
    exact ⟨v, a, b.stp s⟩
  · obtain ⟨a, vs, e1, u, f, p, q, r⟩ := h.ownX i ds e
    have o : ownA Γ σ a := ⟨i, ds, e, e1⟩
    exact ⟨a, vs, e1, ok.fu a (.inr o), f, fun z => (ok.pu a z).2.1 (.inr o), (s.fr a (.inr o)).trans q, r.stp s⟩
theorem SR.callOk {F : Addr → Prop} {Γ : Gam} {σ : L2.St} {W : Wd} (h : SR F Γ σ W) : WOk (fun a => F a ∨ ownA Γ σ a) W := by
  refine ⟨h.ok.dom, fun a z => ?_, fun a z => ?_⟩
  · rcases z with z | ⟨i, ds, e, q⟩
    · exact h.ok.fu a z
    · obtain ⟨b, vs, e1, u, _⟩ := h.ownX i ds e
      rw [q] at e1; cases e1
      exact u
  · obtain ⟨u, f, p⟩ := h.ok.pu a z
    refine ⟨u, fun w => ?_, p⟩
    rcases w with w | ⟨i, ds, e, q⟩
    · exact f w
    · obtain ⟨b, vs, e1, _, _, np, _⟩ := h.ownX i ds e
      rw [q] at e1; cases e1
      exact np z
theorem Stp.sub {F G : Addr → Prop} {W W' : Wd} (s : Stp G W W') (k : ∀ a, F a → G a) : Stp F W W' := ⟨s.keep, s.pur, fun a h => s.fr a (k a h)⟩
end Dw

/-! The judgements over data: Ev (pure), EvB (a list that is read), EvN (a new list), Dl (with draws), Ds (statements). -/
namespace Dw
open PySem PySem.Spec PyProof.Rows L2
variable [Tabs0]

def Ev (t : TE) (Γ : Gam) (d : D) : Prop := ∀ (F : Addr → Prop) (σ : L2.St) (W : Wd) (Q : VK), SR F Γ σ W → (∀ v H, Same W.H H → Rep (W.at H) d v → Q v H) → t σ W.H Q
def EvB (t : TE) (Γ : Gam) (ds : List D) : Prop := ∀ (F : Addr → Prop) (σ : L2.St) (W : Wd) (Q : VK), SR F Γ σ W → (∀ a vs H, Same W.H H → H a = some (.lst vs) → RepL (W.at H) ds vs → Q (.ref a) H) → t σ W.H Q
/-- the world where a is one's own, too -/
abbrev Wd.plus (W : Wd) (H : Hp) (a : Addr) : Wd := ⟨H, fun b => W.U b ∨ b = a, W.P⟩
theorem RepL.minus {W : Wd} {H : Hp} {a : Addr} {ds : List D} {vs : List V} (h : RepL (W.plus H a) ds vs) : RepL (W.at H) ds vs := RepL.mono (W := W.plus H a) (W' := W.at H) (fun b u e n => ⟨e, fun z => n (Or.inl z)⟩) (fun _ h => h) ds vs h
theorem RepL.plus {W : Wd} {H : Hp} {a : Addr} {ds : List D} {vs : List V} (n : W.H a = none) (s : Same W.H H) (h : RepL W ds vs) : RepL (W.plus H a) ds vs := RepL.mono (W := W) (W' := W.plus H a) (fun b u e nu => ⟨s b u e, fun z => z.elim nu fun z => by rw [z, n] at e; cases e⟩) (fun _ h => h) ds vs h
def EvN (t : TE) (Γ : Gam) (ds : List D) : Prop := ∀ (F : Addr → Prop) (σ : L2.St) (W : Wd) (Q : VK), SR F Γ σ W → (∀ a vs H, Same W.H H → W.H a = none → H a = some (.lst vs) → RepL (W.plus H a) ds vs → Q (.ref a) H) → t σ W.H Q
def EvT (t : TT) (Γ : Gam) (b : Bool) : Prop := ∀ (F : Addr → Prop) (σ : L2.St) (W : Wd) (Q : Bool → Hp → Prop), SR F Γ σ W → (∀ H, Same W.H H → Q b H) → t σ W.H Q
def EvA (t : TA) (Γ : Gam) (ds : List D) : Prop := ∀ (F : Addr → Prop) (σ : L2.St) (W : Wd) (Q : List V → Hp → Prop), SR F Γ σ W → (∀ vs H, Same W.H H → RepL (W.at H) ds vs → Q vs H) → t σ W.H Q

def Dl (t : TE) (Γ : Gam) (Q : D → Gam → Prop) : Prop := ∀ (F : Addr → Prop) (σ : L2.St) (W : Wd) (R : VK), SR F Γ σ W → (∀ v W' d Γ', Stp F W W' → SR F Γ' σ W' → Rep W' d v → Q d Γ' → R v W'.H) → t σ W.H R
def DlT (t : TT) (Γ : Gam) (Q : Bool → Gam → Prop) : Prop := ∀ (F : Addr → Prop) (σ : L2.St) (W : Wd) (R : Bool → Hp → Prop), SR F Γ σ W → (∀ b W' Γ', Stp F W W' → SR F Γ' σ W' → Q b Γ' → R b W'.H) → t σ W.H R
def DlA (t : TA) (Γ : Gam) (Q : List D → Gam → Prop) : Prop := ∀ (F : Addr → Prop) (σ : L2.St) (W : Wd) (R : List V → Hp → Prop), SR F Γ σ W → (∀ vs W' ds Γ', Stp F W W' → SR F Γ' σ W' → RepL W' ds vs → Q ds Γ' → R vs W'.H) → t σ W.H R

structure DE where
  nx : Gam → Prop
  rt : D → Prop
  bk : Gam → Prop := fun _ => False
  ct : Gam → Prop := fun _ => False
structure Lift (F : Addr → Prop) (W0 : Wd) (De : DE) (Dr : Ends) : Prop where
  nx : ∀ σ W Γ, Stp F W0 W → SR F Γ σ W → De.nx Γ → Dr.nx σ W.H
  rt : ∀ v W d, Stp F W0 W → WOk F W → Rep W d v → De.rt d → Dr.rt v W.H
  bk : ∀ σ W Γ, Stp F W0 W → SR F Γ σ W → De.bk Γ → Dr.bk σ W.H
  ct : ∀ σ W Γ, Stp F W0 W → SR F Γ σ W → De.ct Γ → Dr.ct σ W.H
theorem Lift.after {F : Addr → Prop} {W0 W1 : Wd} {De : DE} {Dr : Ends} (l : Lift F W0 De Dr) (s : Stp F W0 W1) : Lift F W1 De Dr :=
  ⟨fun σ W Γ a => l.nx σ W Γ (s.trans a), fun v W d a => l.rt v W d (s.trans a), fun σ W Γ a => l.bk σ W Γ (s.trans a), fun σ W Γ a => l.ct σ W Γ (s.trans a)⟩
def Ds (t : TS) (Γ : Gam) (De : DE) : Prop := ∀ (F : Addr → Prop) (σ : L2.St) (W : Wd) (Dr : Ends), SR F Γ σ W → Lift F W De Dr → t Dr σ W.H

/-! ### from the pure to the others -/
section
variable {t : TE} {Γ : Gam} {d : D} {ds : List D}
theorem Same.up {W : Wd} {H H' : Hp} (a : Same W.H H) (b : Same (W.at H).H H') : Same W.H H' := Same.trans a b
theorem EvN.b (h : EvN t Γ ds) : EvB t Γ ds := fun F σ W Q r k => h F σ W Q r fun a vs H s _ e l => k a vs H s e l.minus
theorem EvN.ev (h : EvN t Γ ds) : Ev t Γ (.lst ds) := fun F σ W Q r k => h F σ W Q r fun a vs H s n e l => k _ H s ⟨a, vs, rfl, e, r.ok.new n, l.minus⟩
theorem Ev.b (h : Ev t Γ (.lst ds)) : EvB t Γ ds := fun F σ W Q r k => h F σ W Q r fun v H s ⟨a, vs, e, q, _, l⟩ => by subst e; exact k a vs H s q l
theorem Ev.dl {Q : D → Gam → Prop} (h : Ev t Γ d) (q : Q d Γ) : Dl t Γ Q := fun F σ W R r k => h F σ W R r fun v H s l => k v (W.at H) d Γ (Stp.of_same r.ok s) (r.same s) l q
theorem Dl.imp {Q Q' : D → Gam → Prop} (h : Dl t Γ Q) (k : ∀ d Γ', Q d Γ' → Q' d Γ') : Dl t Γ Q' := fun F σ W R r z => h F σ W R r fun v W' d Γ' s r' l q => z v W' d Γ' s r' l (k d Γ' q)
theorem EvT.dl {t : TT} {b : Bool} {Q : Bool → Gam → Prop} (h : EvT t Γ b) (q : Q b Γ) : DlT t Γ Q := fun F σ W R r k => h F σ W R r fun H s => k b (W.at H) Γ (Stp.of_same r.ok s) (r.same s) q
theorem EvA.dl {t : TA} {Q : List D → Gam → Prop} (h : EvA t Γ ds) (q : Q ds Γ) : DlA t Γ Q := fun F σ W R r k => h F σ W R r fun vs H s l => k vs (W.at H) ds Γ (Stp.of_same r.ok s) (r.same s) l q
end

/-! ### names, constants -/
section
variable {Γ : Gam} {i : Nat} {d : D} {ds : List D}
theorem ev_var (h : Γ[i]? = some (.val d)) : Ev (tVar i) Γ d := fun F σ W Q r k => let ⟨v, e, l⟩ := r.val i d h; ⟨v, e, k v W.H (Same.refl _) l⟩
theorem evb_own (h : Γ[i]? = some (.own ds)) : EvB (tVar i) Γ ds := fun F σ W Q r k => let ⟨a, vs, e, _, _, _, q, l⟩ := r.own i ds h; ⟨.ref a, e, k a vs W.H (Same.refl _) q l⟩
theorem ev_int {z : Int} : Ev (tC (.int z)) Γ (.int z) := fun F σ W Q r k => k _ W.H (Same.refl _) rfl
theorem ev_bl {z : Bool} : Ev (tC (.bl z)) Γ (.bl z) := fun F σ W Q r k => k _ W.H (Same.refl _) rfl
theorem ev_str {z : Str} : Ev (tC (.str z)) Γ (.str z) := fun F σ W Q r k => k _ W.H (Same.refl _) rfl
theorem ev_non : Ev (tC .non) Γ .non := fun F σ W Q r k => k _ W.H (Same.refl _) rfl
theorem ev_raw {z : V} : Ev (tC z) Γ (.raw z) := fun F σ W Q r k => k _ W.H (Same.refl _) rfl
end

/-! ### arguments -/
section
variable {Γ : Gam} {t : TE} {tr : TA} {d : D} {ds : List D}
theorem eva_nil : EvA tNil Γ [] := fun F σ W Q r k => k [] W.H (Same.refl _) rfl
theorem eva_cons (h : Ev t Γ d) (hr : EvA tr Γ ds) : EvA (tCons t tr) Γ (d :: ds) := fun F σ W Q r k =>
  h F σ W _ r fun v H s l => hr F σ (W.at H) _ (r.same s) fun vs H' s' l' => k (v :: vs) H' (Same.trans s s') ⟨v, vs, rfl, Rep.same (W := W.at H) s' l, l'⟩
theorem dla_nil {Q : List D → Gam → Prop} (q : Q [] Γ) : DlA tNil Γ Q := eva_nil.dl q
theorem dla_cons {Q : List D → Gam → Prop} (h : Dl t Γ fun d Γ1 => DlA tr Γ1 fun ds Γ2 => Q (d :: ds) Γ2) : DlA (tCons t tr) Γ Q := fun F σ W R r k =>
  h F σ W _ r fun v W1 d Γ1 s1 r1 l1 h1 => h1 F σ W1 _ r1 fun vs W2 ds Γ2 s2 r2 l2 q => k (v :: vs) W2 (d :: ds) Γ2 (s1.trans s2) r2 ⟨v, vs, rfl, l1.stp s2, l2⟩ q
end

/-! ### operators -/
/-- what a two-place operator gives on data -/
def DR2 (r : R2) (x y d : D) : Prop := ∀ (W : Wd) (u v : V) (Q : VK), (∀ a, W.U a → W.H a ≠ none) → Rep W x u → Rep W y v → (∀ z H, Same W.H H → Rep (W.at H) d z → Q z H) → r u v W.H Q
def DR1 (r : V → Hp → VK → Prop) (x d : D) : Prop := ∀ (W : Wd) (u : V) (Q : VK), (∀ a, W.U a → W.H a ≠ none) → Rep W x u → (∀ z H, Same W.H H → Rep (W.at H) d z → Q z H) → r u W.H Q
def DRL (r : List V → Hp → VK → Prop) (xs : List D) (d : D) : Prop := ∀ (W : Wd) (us : List V) (Q : VK), (∀ a, W.U a → W.H a ≠ none) → RepL W xs us → (∀ z H, Same W.H H → Rep (W.at H) d z → Q z H) → r us W.H Q
section
variable {Γ : Gam} {ta tb : TE} {r : R2} {x y d : D}
theorem ev_op (ha : Ev ta Γ x) (hb : Ev tb Γ y) (hr : DR2 r x y d) : Ev (tOp r ta tb) Γ d := fun F σ W Q g k =>
  ha F σ W _ g fun u H s l => hb F σ (W.at H) _ (g.same s) fun v H' s' l' => hr (W.at H') u v Q ((g.same s).same s').ok.dom (Rep.same (W := W.at H) s' l) l' fun z H'' s'' q => k z H'' (Same.trans s (Same.trans s' s'')) q
theorem dl_op {Q : D → Gam → Prop} (h : Dl ta Γ fun x Γ1 => Dl tb Γ1 fun y Γ2 => ∃ d, DR2 r x y d ∧ Q d Γ2) : Dl (tOp r ta tb) Γ Q := fun F σ W R g k =>
  h F σ W _ g fun u W1 x Γ1 s1 g1 l1 h1 => h1 F σ W1 _ g1 fun v W2 y Γ2 s2 g2 l2 ⟨d, hr, q⟩ => hr W2 u v R g2.ok.dom (l1.stp s2) l2 fun z H s3 l3 =>
    k z (W2.at H) d Γ2 ((s1.trans s2).trans (Stp.of_same g2.ok s3)) (g2.same s3) l3 q
theorem ev_un {r : V → Hp → VK → Prop} (ha : Ev ta Γ x) (hr : DR1 r x d) : Ev (tUn r ta) Γ d := fun F σ W Q g k =>
  ha F σ W _ g fun u H s l => hr (W.at H) u Q (g.same s).ok.dom l fun z H' s' q => k z H' (Same.trans s s') q
theorem ev_cb {r : List V → Hp → VK → Prop} {t : TA} {xs : List D} (ha : EvA t Γ xs) (hr : DRL r xs d) : Ev (tCB r t) Γ d := fun F σ W Q g k =>
  ha F σ W _ g fun us H s l => hr (W.at H) us Q (g.same s).ok.dom l fun z H' s' q => k z H' (Same.trans s s') q
end
/-- no new object -/
theorem dr2_flat {r : R2} {x y d : D} (h : ∀ (W : Wd) (u v : V) (Q : VK), Rep W x u → Rep W y v → (∀ z, Rep W d z → Q z W.H) → r u v W.H Q) : DR2 r x y d :=
  fun W u v Q _ a b k => h W u v Q a b fun z q => k z W.H (Same.refl _) q
theorem same_upd {H : Hp} {p : Addr} {o : HO} (h : H p = none) : Same H (upd H p o) := fun b x e => by
  rw [upd_ne (ne_of_none e h)]
  exact e
theorem rep_new_lst {W : Wd} {p : Addr} {ds : List D} {vs : List V} (dom : ∀ a, W.U a → W.H a ≠ none) (h : W.H p = none) (l : RepL W ds vs) : Rep (W.at (upd W.H p (.lst vs))) (.lst ds) (.ref p) :=
  ⟨p, vs, rfl, upd_same, fun u => dom p u h, l.same (same_upd h)⟩
theorem rep_new_tup {W : Wd} {p : Addr} {ds : List D} {vs : List V} (dom : ∀ a, W.U a → W.H a ≠ none) (h : W.H p = none) (l : RepL W ds vs) : Rep (W.at (upd W.H p (.tup vs))) (.tup ds) (.ref p) :=
  ⟨p, vs, rfl, .mk upd_same, fun u => dom p u h, l.same (same_upd h)⟩

section
variable {i j : Int} {x y : Str} {ds es : List D} {K : PySem.W.Frag}
theorem dr2_rI0 {g : Int → Int → V} {d : D} (h : ∀ W, Rep W d (g i j)) : DR2 (rI0 g) (.int i) (.int j) d := dr2_flat fun W u v Q a b k => ⟨i, j, a, b, k _ (h W)⟩
theorem dr2_rI {C : Int → Int → Prop} {g : Int → Int → V} {d : D} (hc : C i j) (h : ∀ W, Rep W d (g i j)) : DR2 (rI C g) (.int i) (.int j) d := dr2_flat fun W u v Q a b k => ⟨i, j, a, b, hc, k _ (h W)⟩
theorem dr2_add : DR2 (rI0 fun i j => .int (i + j)) (.int i) (.int j) (.int (i + j)) := dr2_rI0 fun _ => rfl
theorem dr2_sub : DR2 (rI0 fun i j => .int (i - j)) (.int i) (.int j) (.int (i - j)) := dr2_rI0 fun _ => rfl
theorem dr2_mul (h : CMul i j) : DR2 (rI CMul fun i j => .int (i * j)) (.int i) (.int j) (.int (i * j)) := dr2_rI h fun _ => rfl
theorem dr2_mod (h : 0 < j) : DR2 (rI (fun _ j => 0 < j) fun i j => .int (i % j)) (.int i) (.int j) (.int (i % j)) := dr2_rI h fun _ => rfl
theorem dr2_lt : DR2 (rI0 fun i j => .bl (decide (i < j))) (.int i) (.int j) (.bl (decide (i < j))) := dr2_rI0 fun _ => rfl
theorem dr2_le : DR2 (rI0 fun i j => .bl (decide (i ≤ j))) (.int i) (.int j) (.bl (decide (i ≤ j))) := dr2_rI0 fun _ => rfl
theorem dr2_gt : DR2 (rI0 fun i j => .bl (decide (j < i))) (.int i) (.int j) (.bl (decide (j < i))) := dr2_rI0 fun _ => rfl
theorem dr2_ge : DR2 (rI0 fun i j => .bl (decide (j ≤ i))) (.int i) (.int j) (.bl (decide (j ≤ i))) := dr2_rI0 fun _ => rfl
abbrev rAddStr : R2 := fun x y H Q => ∃ i j, x = .str i ∧ y = .str j ∧ i.length + j.length ≤ sizeLine ∧ Q (.str (i ++ j)) H
theorem dr2_add_str (h : x.length + y.length ≤ sizeLine) : DR2 rAddStr (.str x) (.str y) (.str (x ++ y)) := dr2_flat fun W u v Q a b k => ⟨x, y, a, b, h, k _ rfl⟩
theorem dr2_catT (n : ds ≠ []) (h : ds.length + es.length ≤ sizeLine) : DR2 (rCatT K) (.tup ds) (.tup es) (.tup (ds ++ es)) := by
  intro W u v Q dom ⟨a, vs, e1, h1, n1, l1⟩ ⟨b, ws, e2, h2, n2, l2⟩ k
  have nv : vs ≠ [] := fun z => by
    have := l1.length
    rw [z] at this
    exact n (List.length_eq_zero_iff.mp this)
  subst e1
  refine ⟨a, b, vs, ws, rfl, e2, h1.sq, h2.sq, nv, by rw [← l1.length, ← l2.length]; exact h, fun z => ?_, fun _ p hp => k _ _ (same_upd hp) (rep_new_tup dom hp (l1.append l2))⟩
  have e : es = [] := List.length_eq_zero_iff.mp (by rw [l2.length, z]; rfl)
  rw [e, List.append_nil] at k
  exact k _ W.H (Same.refl _) ⟨a, vs, rfl, h1, n1, l1⟩
theorem dr2_eq_int : DR2 rEq (.int i) (.int j) (.bl (decide (i = j))) := dr2_flat fun W u v Q a b k => by
  rw [show u = .int i from a, show v = .int j from b]
  exact ⟨rfl, k _ (congrArg V.bl (by simp))⟩
theorem dr2_eq_str : DR2 rEq (.str x) (.str y) (.bl (decide (x = y))) := dr2_flat fun W u v Q a b k => by
  rw [show u = .str x from a, show v = .str y from b]
  exact ⟨rfl, k _ (congrArg V.bl (by simp))⟩
theorem dr2_ne_str : DR2 rNe (.str x) (.str y) (.bl (!decide (x = y))) := dr2_flat fun W u v Q a b k => by
  rw [show u = .str x from a, show v = .str y from b]
  exact ⟨rfl, k _ (congrArg V.bl (by simp))⟩
end

/-! ### deep equality -/
mutual
def py : D → PyData
  | .non => .none | .bl b => .bool b | .int i => .int i | .str x => .str x
  | .tup ds => .tuple (pys ds) | .lst ds => .list (pys ds)
  | .tupN ds => .tuple (pys ds)
  | .obj _ _ _ => .none | .raw _ => .none | .purse => .none | .rng _ _ => .none | .dct _ _ => .none | .scr _ _ => .none | .tag _ => .none
def pys : List D → List PyData
  | [] => []
  | d :: ds => py d :: pys ds
end
mutual
def isPy : D → Bool
  | .obj _ _ _ => false | .raw _ => false | .purse => false | .rng _ _ => false | .dct _ _ => false | .scr _ _ => false | .tag _ => false
  | .tup ds => isPys ds | .lst ds => isPys ds | .tupN ds => isPys ds
  | _ => true
def isPys : List D → Bool
  | [] => true
  | d :: ds => isPy d && isPys ds
end
mutual
theorem dp_of {K : PySem.W.Frag} {W : Wd} : ∀ (d : D) (v : V), isPy d = true → Rep W d v → Dp K W.H v (py d)
  | .non, _, _, h => by rw [show _ = V.non from h]; exact .non
  | .bl b, _, _, h => by rw [show _ = V.bl b from h]; exact .bl b
  | .int b, _, _, h => by rw [show _ = V.int b from h]; exact .int b
  | .str b, _, _, h => by rw [show _ = V.str b from h]; exact .str b
  | .tup ds, _, p, ⟨a, vs, e, h, _, l⟩ => by rw [e]; exact .tup h.sq (dps_of ds vs p l)
  | .tupN ds, _, p, ⟨a, vs, e, h, _, l⟩ => by rw [e]; exact .tup h.at.sq (dps_of ds vs p l)
  | .lst ds, _, p, ⟨a, vs, e, h, _, l⟩ => by rw [e]; exact .lst (.of h) (dps_of ds vs p l)
  | .obj _ _ _, _, p, _ => nomatch p
  | .raw _, _, p, _ => nomatch p
  | .purse, _, p, _ => nomatch p
  | .rng _ _, _, p, _ => nomatch p
  | .dct _ _, _, p, _ => nomatch p
  | .scr _ _, _, p, _ => nomatch p
  | .tag _, _, p, _ => nomatch p
theorem dps_of {K : PySem.W.Frag} {W : Wd} : ∀ (ds : List D) (vs : List V), isPys ds = true → RepL W ds vs → DpAll K W.H vs (pys ds)
  | [], _, _, h => by rw [show _ = [] from h]; exact .nil
  | d :: ds, _, p, ⟨v, r, e, h1, h2⟩ => by
    have p' : isPy d = true ∧ isPys ds = true := by simpa [isPys] using p
    rw [e]
    exact .cons (dp_of d v p'.1 h1) (dps_of ds r p'.2 h2)
end
section
variable {K : PySem.W.Frag} {x y : D} {ta tb : TE} {Γ : Gam} {ds es : List D}
theorem dr2_eqD (px : isPy x = true) (py' : isPy y = true) (sx : SeqAt.shaped (py x) = true) (sy : SeqAt.shaped (py y) = true) : DR2 (rEqD K) x y (.bl (PyData.eqv (py x) (py y))) :=
  dr2_flat fun W u v Q a b k => ⟨_, _, dp_of x u px a, dp_of y v py' b, sx, sy, k _ rfl⟩
theorem dr2_neD (px : isPy x = true) (py' : isPy y = true) (sx : SeqAt.shaped (py x) = true) (sy : SeqAt.shaped (py y) = true) : DR2 (rNeD K) x y (.bl (!PyData.eqv (py x) (py y))) :=
  dr2_flat fun W u v Q a b k => ⟨_, _, dp_of x u px a, dp_of y v py' b, sx, sy, k _ rfl⟩
end
end Dw

/-! Rules over data: tests, statements, calls, lists that are one's own. -/
namespace Dw
open PySem PySem.Spec PyProof.Rows L2
variable [Tabs0]

/-! ### tests -/
section
variable {Γ : Gam} {t ta tb : TE} {c ct' : TT} {a b : Bool} {d d1 d2 : D} {ds : List D} {K : PySem.W.Frag}
abbrev tTru (K : PySem.W.Frag) (ta : TE) : TT := fun σ H Q => ta σ H fun x H' => ∃ k, TruV K x H' k ∧ Q k H'
theorem evt_test (h : Ev t Γ (.bl b)) : EvT (tTest t) Γ b := fun F σ W Q g k => h F σ W _ g fun v H s l => ⟨b, l, k H s⟩
theorem evt_tru_bl (h : Ev t Γ (.bl b)) : EvT (tTru K t) Γ b := fun F σ W Q g k => h F σ W _ g fun v H s l => ⟨b, by rw [show v = .bl b from l]; rfl, k H s⟩
theorem evt_tru_int {i : Int} (h : Ev t Γ (.int i)) : EvT (tTru K t) Γ (i != 0) := fun F σ W Q g k => h F σ W _ g fun v H s l => ⟨_, by rw [show v = .int i from l]; rfl, k H s⟩
theorem evt_tru_lst (h : EvB t Γ ds) : EvT (tTru K t) Γ (!ds.isEmpty) := fun F σ W Q g k => h F σ W _ g fun v vs H s e l => ⟨_, .inl ⟨vs, .of e, by
  have := l.length
  cases ds <;> cases vs <;> simp_all⟩, k H s⟩
theorem evt_and (h : EvT c Γ a) (h' : a = true → EvT ct' Γ b) : EvT (tAnd c ct') Γ (a && b) := fun F σ W Q g k => h F σ W _ g fun H s => by
  cases a with
  | true => exact h' rfl F σ (W.at H) Q (g.same s) fun H' s' => k H' (Same.trans s s')
  | false => exact k H s
theorem evt_or (h : EvT c Γ a) (h' : a = false → EvT ct' Γ b) : EvT (tOr c ct') Γ (a || b) := fun F σ W Q g k => h F σ W _ g fun H s => by
  cases a with
  | false => exact h' rfl F σ (W.at H) Q (g.same s) fun H' s' => k H' (Same.trans s s')
  | true => exact k H s
theorem evt_not (h : EvT c Γ a) : EvT (tNot c) Γ (!a) := fun F σ W Q g k => h F σ W _ g fun H s => k H s
theorem evt_yes : EvT tYes Γ true := fun F σ W Q g k => k W.H (Same.refl _)
theorem dlt_test {Q : Bool → Gam → Prop} (h : Dl t Γ fun d Γ1 => ∃ b, d = .bl b ∧ Q b Γ1) : DlT (tTest t) Γ Q := fun F σ W R g k => h F σ W _ g fun v W1 d Γ1 s g1 l ⟨b, e, q⟩ => ⟨b, by rw [e] at l; exact l, k b W1 Γ1 s g1 q⟩
theorem dlt_yes {Q : Bool → Gam → Prop} (h : Q true Γ) : DlT tYes Γ Q := evt_yes.dl h
/-! ### choice, and, or as values -/
theorem ev_if (h : EvT c Γ a) (h1 : a = true → Ev ta Γ d1) (h2 : a = false → Ev tb Γ d2) : Ev (tIf c ta tb) Γ (if a = true then d1 else d2) := fun F σ W Q g k => h F σ W _ g fun H s => by
  cases a with
  | true => exact h1 rfl F σ (W.at H) Q (g.same s) fun v H' s' l => k v H' (Same.trans s s') l
  | false => exact h2 rfl F σ (W.at H) Q (g.same s) fun v H' s' l => k v H' (Same.trans s s') l
theorem ev_andV (h : Ev ta Γ (.bl a)) (h' : a = true → Ev tb Γ (.bl b)) : Ev (tAndV ta tb) Γ (.bl (a && b)) := fun F σ W Q g k => h F σ W _ g fun v H s l => ⟨a, l, by
  cases a with
  | true => exact h' rfl F σ (W.at H) Q (g.same s) fun v H' s' l => k v H' (Same.trans s s') l
  | false => exact k _ H s rfl⟩
theorem ev_orV (h : Ev ta Γ (.bl a)) (h' : a = false → Ev tb Γ (.bl b)) : Ev (tOrV ta tb) Γ (.bl (a || b)) := fun F σ W Q g k => h F σ W _ g fun v H s l => ⟨a, l, by
  cases a with
  | false => exact h' rfl F σ (W.at H) Q (g.same s) fun v H' s' l => k v H' (Same.trans s s') l
  | true => exact k _ H s rfl⟩
end

/-! ### displays -/
section
variable {Γ : Gam} {t : TA} {ds : List D}
theorem evn_lst (h : EvA t Γ ds) (hz : ds.length ≤ sizeLine) : EvN (tLst t) Γ ds := fun F σ W Q g k => h F σ W _ g fun vs H s l => ⟨by rw [← l.length]; exact hz, fun p hp =>
  k p vs _ (Same.trans s (same_upd hp)) (s.free hp) upd_same (RepL.plus (W := W.at H) hp (same_upd hp) l)⟩
theorem ev_tup (h : EvA t Γ ds) (hz : ds.length ≤ sizeLine) : Ev (tTup t) Γ (.tup ds) := fun F σ W Q g k => h F σ W _ g fun vs H s l => ⟨by rw [← l.length]; exact hz, fun p hp =>
  k _ _ (Same.trans s (same_upd hp)) (rep_new_tup (W := W.at H) (g.same s).ok.dom hp l)⟩
theorem dl_tup {Q : D → Gam → Prop} (h : DlA t Γ fun ds Γ1 => ds.length ≤ sizeLine ∧ Q (.tup ds) Γ1) : Dl (tTup t) Γ Q := fun F σ W R g k => h F σ W _ g fun vs W1 ds Γ1 s g1 l ⟨hz, q⟩ => ⟨by rw [← l.length]; exact hz, fun p hp =>
  k _ (W1.at _) (.tup ds) Γ1 (s.trans (Stp.of_same g1.ok (same_upd hp))) (g1.same (same_upd hp)) (rep_new_tup g1.ok.dom hp l) q⟩
end

/-! ### a list of one's own -/
theorem SR.plus {F : Addr → Prop} {Γ : Gam} {σ : L2.St} {W : Wd} {a : Addr} {H : Hp} (g : SR F Γ σ W) (s : Same W.H H) (n : W.H a = none) (ne : H a ≠ none) :
    Stp F W (W.plus H a) ∧ SR F Γ σ (W.plus H a) ∧ ¬ ownA Γ σ a ∧ ¬ F a ∧ ¬ W.P a := by
  have nu : ¬ W.U a := g.ok.new n
  have kp : ∀ b u, W.H b = some u → ¬ W.U b → H b = some u ∧ ¬ (W.U b ∨ b = a) := fun b u q nb => ⟨s b u q, fun z => z.elim nb fun z => by rw [z, n] at q; cases q⟩
  have st : Stp F W (W.plus H a) := ⟨kp, rfl, fun b h => by
    cases q : W.H b with
    | none => exact absurd q (g.ok.dom b (g.ok.fu b h))
    | some u => exact s b u q⟩
  refine ⟨st, ⟨⟨fun b h z => ?_, fun b h => Or.inl (g.ok.fu b h), fun b h => ?_⟩, g.len, fun j d q => ?_, fun j es q => ?_, g.apartX⟩, fun ⟨i, ds, e, q⟩ => ?_, fun z => nu (g.ok.fu a z), fun z => nu (g.ok.pu a z).1⟩
  · have z : H b = none := z
    rcases h with h | h
    · exact g.ok.dom b h (s.free z)
    · rw [h] at z; exact ne z
  · obtain ⟨u, f, o⟩ := g.ok.pu b h
    exact ⟨Or.inl u, f, o.same s⟩
  · obtain ⟨v, e1, r⟩ := g.val j d q
    exact ⟨v, e1, r.stp st⟩
  · obtain ⟨c, ws, e1, u, f, p, q1, r⟩ := g.ownX j es q
    exact ⟨c, ws, e1, Or.inl u, f, p, s _ _ q1, r.stp st⟩
  · obtain ⟨c, ws, e1, u, f, p, q1, r⟩ := g.ownX i ds e
    rw [q] at e1; cases e1
    exact nu u
theorem SR.adoptX {F : Addr → Prop} {Γ : Gam} {σ : L2.St} {W : Wd} {i : Nat} {a : Addr} {vs : List V} {ds : Ow} (g : SR F Γ σ W) (u : W.U a) (f : ¬ F a) (p : ¬ W.P a) (e : W.H a = some (ds.cell vs)) (l : RepL W ds.ds vs) (no : ¬ ownA Γ σ a) :
    SR F (Γ.set i (.ownX ds)) (σ.set i (some (.ref a))) W := by
  have lt : ∀ (k : Nat) (s : Sl), k = i → (Γ.set i (.ownX ds))[k]? = some s → i < Γ.length := fun k s hk q => by
    rw [hk] at q
    have := (List.getElem?_eq_some_iff.mp q).1
    simpa using this
  refine ⟨g.ok, by simp [g.len], fun j d q => ?_, fun j es q => ?_, fun j k c es fs q1 q2 q3 q4 => ?_⟩
  · by_cases hj : j = i
    · have hl := lt j _ hj q
      rw [hj, List.getElem?_set_self hl] at q; cases q
    · rw [List.getElem?_set_ne (Ne.symm hj)] at q ⊢
      exact g.val j d q
  · by_cases hj : j = i
    · have hl := lt j _ hj q
      rw [hj, List.getElem?_set_self hl] at q; cases q
      exact ⟨a, vs, by rw [hj, List.getElem?_set_self (by rw [← g.len]; exact hl)], u, f, p, e, l⟩
    · rw [List.getElem?_set_ne (Ne.symm hj)] at q ⊢
      exact g.ownX j es q
  · by_cases hj : j = i
    · have hl := lt j _ hj q1
      rw [hj, List.getElem?_set_self (by rw [← g.len]; exact hl)] at q3
      by_cases hk : k = i
      · rw [hj, hk]
      · rw [List.getElem?_set_ne (Ne.symm hk)] at q2 q4
        cases q3
        exact absurd ⟨k, fs, q2, q4⟩ no
    · rw [List.getElem?_set_ne (Ne.symm hj)] at q1 q3
      by_cases hk : k = i
      · have hl := lt k _ hk q2
        rw [hk, List.getElem?_set_self (by rw [← g.len]; exact hl)] at q4
        cases q4
        exact absurd ⟨j, es, q1, q3⟩ no
      · rw [List.getElem?_set_ne (Ne.symm hk)] at q2 q4
        exact g.apartX j k c es fs q1 q2 q3 q4
theorem SR.adopt {F : Addr → Prop} {Γ : Gam} {σ : L2.St} {W : Wd} {i : Nat} {a : Addr} {vs : List V} {ds : List D} (g : SR F Γ σ W) (u : W.U a) (f : ¬ F a) (p : ¬ W.P a) (e : W.H a = some (.lst vs)) (l : RepL W ds vs) (no : ¬ ownA Γ σ a) :
    SR F (Γ.set i (.own ds)) (σ.set i (some (.ref a))) W := g.adoptX (ds := ⟨none, ds⟩) u f p e l no
theorem SR.setOwn {F : Addr → Prop} {Γ : Gam} {σ : L2.St} {W : Wd} {i : Nat} {a : Addr} {vs : List V} {ds : List D} {H : Hp} (g : SR F Γ σ W) (s : Same W.H H) (n : W.H a = none) (e : H a = some (.lst vs)) (l : RepL (W.plus H a) ds vs) :
    Stp F W (W.plus H a) ∧ SR F (Γ.set i (.own ds)) (σ.set i (some (.ref a))) (W.plus H a) := by
  obtain ⟨st, g2, no, f, p⟩ := g.plus s n (by rw [e]; exact fun z => nomatch z)
  exact ⟨st, g2.adopt (Or.inr rfl) f p e l no⟩
end Dw

/-! Rules over data: own lists changed, statements, defs and their calls. -/
namespace Dw
open PySem PySem.Spec PyProof.Rows L2
variable [Tabs0]

/-! ### an own list is changed -/
theorem SR.writeX {F : Addr → Prop} {Γ : Gam} {σ : L2.St} {W : Wd} {i : Nat} {a : Addr} {vs : List V} {ds es : Ow} (g : SR F Γ σ W) (hi : Γ[i]? = some (.ownX ds)) (hs : σ[i]? = some (some (.ref a))) (l : RepL W es.ds vs) :
    Stp F W (W.at (upd W.H a (es.cell vs))) ∧ SR F (Γ.set i (.ownX es)) σ (W.at (upd W.H a (es.cell vs))) := by
  obtain ⟨a', us, e1, u, f, p, q, r⟩ := g.ownX i ds hi
  rw [hs] at e1; cases e1
  have kp : ∀ b o, W.H b = some o → ¬ W.U b → (upd W.H a (es.cell vs)) b = some o ∧ ¬ W.U b := fun b o e n => ⟨by rw [upd_ne (fun z : b = a => n (by rw [z]; exact u))]; exact e, n⟩
  have st : Stp F W (W.at (upd W.H a (es.cell vs))) := ⟨kp, rfl, fun b h => upd_ne (fun z : b = a => f (by rw [← z]; exact h))⟩
  refine ⟨st, ⟨⟨fun b h z => ?_, g.ok.fu, fun b h => ?_⟩, by simp [g.len], fun j d q' => ?_, fun j fs q' => ?_, fun j k c es' fs q1 q2 q3 q4 => ?_⟩⟩
  · have z : (upd W.H a (es.cell vs)) b = none := z
    by_cases hb : b = a
    · rw [hb, upd_same] at z; cases z
    · rw [upd_ne hb] at z; exact g.ok.dom b h z
  · obtain ⟨u', f', o⟩ := g.ok.pu b h
    exact ⟨u', f', o.upd (no_extX q) fun z : b = a => p (by rw [← z]; exact h)⟩
  · have hj : i ≠ j := fun z => by
      subst z
      have hl : i < Γ.length := (List.getElem?_eq_some_iff.mp hi).1
      rw [List.getElem?_set_self hl] at q'; cases q'
    rw [List.getElem?_set_ne hj] at q'
    obtain ⟨v, e1, r'⟩ := g.val j d q'
    exact ⟨v, e1, r'.stp st⟩
  · by_cases hj : i = j
    · subst hj
      have hl : i < Γ.length := (List.getElem?_eq_some_iff.mp hi).1
      rw [List.getElem?_set_self hl] at q'; cases q'
      exact ⟨a, vs, hs, u, f, p, upd_same, l.stp st⟩
    · rw [List.getElem?_set_ne hj] at q'
      obtain ⟨c, ws, e1, u', f', p', q1, r'⟩ := g.ownX j fs q'
      have nc : c ≠ a := fun z => hj (g.apartX i j a ds fs hi q' hs (z ▸ e1))
      exact ⟨c, ws, e1, u', f', p', (upd_ne nc).trans q1, r'.stp st⟩
  · have get : ∀ (j : Nat) (es' : Ow), (Γ.set i (.ownX es))[j]? = some (Sl.ownX es') → ∃ fs, Γ[j]? = some (Sl.ownX fs) := fun j es' q => by
      by_cases hj : i = j
      · subst hj; exact ⟨ds, hi⟩
      · rw [List.getElem?_set_ne hj] at q; exact ⟨es', q⟩
    obtain ⟨x, e1⟩ := get j es' q1
    obtain ⟨y, e2⟩ := get k fs q2
    exact g.apartX j k c x y e1 e2 q3 q4
theorem SR.write {F : Addr → Prop} {Γ : Gam} {σ : L2.St} {W : Wd} {i : Nat} {a : Addr} {vs : List V} {ds es : List D} (g : SR F Γ σ W) (hi : Γ[i]? = some (.own ds)) (hs : σ[i]? = some (some (.ref a))) (l : RepL W es vs) :
    Stp F W (W.at (upd W.H a (.lst vs))) ∧ SR F (Γ.set i (.own es)) σ (W.at (upd W.H a (.lst vs))) := g.writeX (ds := ⟨none, ds⟩) (es := ⟨none, es⟩) hi hs l
section
variable {K : PySem.W.Frag} {Γ : Gam} {i : Nat} {t : TA} {Q : D → Gam → Prop} {ds : List D}
/-- i's list is at the same place behind a step -/
theorem tyV_lst {K : PySem.W.Frag} {H : Hp} {a : Addr} {vs : List V} (h : H a = some (.lst vs)) : tyV K "list" (.ref a) H := .inl ⟨rfl, _, .inl (.inl h)⟩
theorem dl_append (h0 : ∃ ds, Γ[i]? = some (.own ds)) (h : DlA t Γ fun es Γ1 => ∃ e ds, es = [e] ∧ Γ1[i]? = some (.own ds) ∧ ds.length < sizeLine ∧ Q .non (Γ1.set i (.own (ds ++ [e])))) : Dl (tBM K "list" rAppend (tVar i) t) Γ Q := fun F σ W R g k => by
  obtain ⟨ds0, e0⟩ := h0
  obtain ⟨a, vs0, hs, _, _, _, q0, _⟩ := g.own i ds0 e0
  refine ⟨.ref a, hs, tyV_lst q0, h F σ W _ g fun us W1 es Γ1 s1 g1 l1 ⟨e, ds, e1, e2, hz, q⟩ => ?_⟩
  obtain ⟨a', vs, hs', u, f, p, q1, r1⟩ := g1.own i ds e2
  rw [hs] at hs'; cases hs'
  subst e1
  obtain ⟨v, _, rfl, l1, rfl⟩ := l1
  obtain ⟨st, g2⟩ := g1.write e2 hs (r1.append (RepL.one l1))
  exact ⟨a, vs, v, rfl, rfl, q1, by rw [← r1.length]; exact hz, k .non _ .non _ (s1.trans st) g2 rfl q⟩
theorem dl_popAt (h0 : ∃ ds, Γ[i]? = some (.own ds)) (h : DlA t Γ fun es Γ1 => ∃ (z : Int) (j : Nat) (ds : List D) (d : D), es = [.int z] ∧ Γ1[i]? = some (.own ds) ∧ -(2 ^ 63) ≤ z ∧ z < 2 ^ 63 ∧ seqIndex? z ds.length = some j ∧ ds[j]? = some d ∧ Q d (Γ1.set i (.own (ds.eraseIdx j)))) :
    Dl (tBM K "list" rPopAt (tVar i) t) Γ Q := fun F σ W R g k => by
  obtain ⟨ds0, e0⟩ := h0
  obtain ⟨a, vs0, hs, _, _, _, q0, _⟩ := g.own i ds0 e0
  refine ⟨.ref a, hs, tyV_lst q0, h F σ W _ g fun us W1 es Γ1 s1 g1 l1 ⟨z, j, ds, d, e1, e2, h1, h2, h3, h4, q⟩ => ?_⟩
  obtain ⟨a', vs, hs', u, f, p, q1, r1⟩ := g1.own i ds e2
  rw [hs] at hs'; cases hs'
  subst e1
  obtain ⟨v, _, rfl, l1, rfl⟩ := l1
  obtain ⟨w', hw, rw'⟩ := r1.get h4
  obtain ⟨st, g2⟩ := g1.write e2 hs (r1.eraseIdx j)
  exact ⟨a, vs, z, j, w', rfl, by rw [show v = .int z from l1], q1, h1, h2, by rw [← r1.length]; exact h3, hw, k w' _ d _ (s1.trans st) g2 (rw'.stp st) q⟩
end

/-! ### statements -/
section
variable {K : PySem.W.Frag} {Γ : Gam} {i j : Nat} {t u : TS} {te : TE} {De : DE} {ds es : List D}
theorem ds_next (h : De.nx Γ) : Ds tNext Γ De := fun F σ W Dr g l => l.nx σ W Γ (Stp.refl W) g h
theorem ds_seq (h : Ds t Γ { De with nx := fun Γ' => Ds u Γ' De }) : Ds (tSeq t u) Γ De := fun F σ W Dr g l => h F σ W { Dr with nx := u Dr } g
  ⟨fun σ1 W1 Γ1 s g1 q => q F σ1 W1 Dr g1 (l.after s), l.rt, l.bk, l.ct⟩
theorem ds_asg (h : Dl te Γ fun d Γ1 => De.nx (Γ1.set i (.val d))) : Ds (tAsg te (gName i)) Γ De := fun F σ W Dr g l => h F σ W _ g fun v W1 d Γ1 s g1 r q => l.nx _ W1 _ s (g1.set r) q
theorem ds_asg_own (h : EvN te Γ ds) (q : De.nx (Γ.set i (.own ds))) : Ds (tAsg te (gName i)) Γ De := fun F σ W Dr g l => h F σ W _ g fun a vs H s n e r =>
  let ⟨st, g2⟩ := g.setOwn (i := i) s n e r
  l.nx _ (W.plus H a) _ st g2 q
theorem ds_if {c : TT} (h : DlT c Γ fun b Γ1 => (b = true → Ds t Γ1 De) ∧ (b = false → Ds u Γ1 De)) : Ds (tIfS c t u) Γ De := fun F σ W Dr g l => h F σ W _ g fun b W1 Γ1 s g1 q => by
  cases b with
  | true => exact q.1 rfl F σ W1 Dr g1 (l.after s)
  | false => exact q.2 rfl F σ W1 Dr g1 (l.after s)
theorem ds_ret (h : Dl te Γ fun d _ => De.rt d) : Ds (tRet te) Γ De := fun F σ W Dr g l => h F σ W _ g fun v W1 d Γ1 s g1 r q => l.rt v W1 d s g1.ok r q
theorem ds_drop (h : Dl te Γ fun _ Γ1 => De.nx Γ1) : Ds (tDrop te) Γ De := fun F σ W Dr g l => h F σ W _ g fun v W1 d Γ1 s g1 r q => l.nx _ W1 _ s g1 q
/-- an own list is no longer changed -/
theorem SR.freeze {F : Addr → Prop} {σ : L2.St} {W : Wd} {a : Addr} (g : SR F Γ σ W) (hi : Γ[i]? = some (.own ds)) (hs : σ[i]? = some (some (.ref a))) :
    Stp F W ⟨W.H, fun b => W.U b ∧ b ≠ a, W.P⟩ ∧ SR F (Γ.set i (.val (.lst ds))) σ ⟨W.H, fun b => W.U b ∧ b ≠ a, W.P⟩ := by
  obtain ⟨a', us, e1, u, f, p, q, r⟩ := g.own i ds hi
  rw [hs] at e1; cases e1
  have st : Stp F W ⟨W.H, fun b => W.U b ∧ b ≠ a, W.P⟩ := ⟨fun b o e n => ⟨e, fun z => n z.1⟩, rfl, fun _ _ => rfl⟩
  have hl : i < Γ.length := (List.getElem?_eq_some_iff.mp hi).1
  refine ⟨st, ⟨⟨fun b h => g.ok.dom b h.1, fun b h => ⟨g.ok.fu b h, fun z => f (z ▸ h)⟩, fun b h => let ⟨u', f', pp⟩ := g.ok.pu b h; ⟨⟨u', fun z => p (z ▸ h)⟩, f', pp⟩⟩, by simp [g.len], fun j d q' => ?_, fun j fs q' => ?_, fun j k c es' fs q1 q2 q3 q4 => ?_⟩⟩
  · by_cases hj : i = j
    · subst hj
      rw [List.getElem?_set_self hl] at q'; cases q'
      exact ⟨.ref a, hs, a, us, rfl, q, fun z => z.2 rfl, r.stp st⟩
    · rw [List.getElem?_set_ne hj] at q'
      obtain ⟨v, e1, r'⟩ := g.val j d q'
      exact ⟨v, e1, r'.stp st⟩
  · have hj : i ≠ j := fun z => by
      subst z
      rw [List.getElem?_set_self hl] at q'; cases q'
    rw [List.getElem?_set_ne hj] at q'
    obtain ⟨c, ws, e1, u', f', p', q1, r'⟩ := g.ownX j fs q'
    exact ⟨c, ws, e1, ⟨u', fun z => hj (g.apartX i j a ⟨none, ds⟩ fs hi q' hs (z ▸ e1))⟩, f', p', q1, r'.stp st⟩
  · have get : ∀ (j : Nat) (es' : Ow), (Γ.set i (.val (.lst ds)))[j]? = some (Sl.ownX es') → Γ[j]? = some (Sl.ownX es') := fun j es' q => by
      by_cases hj : i = j
      · subst hj; rw [List.getElem?_set_self hl] at q; cases q
      · rw [List.getElem?_set_ne hj] at q; exact q
    exact g.apartX j k c es' fs (get j es' q1) (get k fs q2) q3 q4
theorem ds_freeze (i : Nat) (hi : Γ[i]? = some (.own ds)) (h : Ds t (Γ.set i (.val (.lst ds))) De) : Ds t Γ De := fun F σ W Dr g l => by
  obtain ⟨a, vs, hs, _⟩ := g.own i ds hi
  obtain ⟨st, g2⟩ := g.freeze hi hs
  exact h F σ ⟨W.H, fun b => W.U b ∧ b ≠ a, W.P⟩ Dr g2 (l.after st)
theorem ds_ret_own (hi : Γ[i]? = some (.own ds)) (h : De.rt (.lst ds)) : Ds (tRet (tVar i)) Γ De := by
  have hl : i < Γ.length := (List.getElem?_eq_some_iff.mp hi).1
  exact ds_freeze i hi (ds_ret ((ev_var (d := .lst ds) (by rw [List.getElem?_set_self hl])).dl h))
theorem ds_par {ta : TA} (h : DlA ta Γ fun ds Γ1 => ∃ x y, ds = [x, y] ∧ De.nx ((Γ1.set i (.val x)).set j (.val y))) : Ds (tPar i j ta) Γ De := fun F σ W Dr g l => h F σ W _ g fun vs W1 ds Γ1 s g1 r ⟨x, y, e, q⟩ => by
  subst e
  obtain ⟨v, _, rfl, r1, u, _, rfl, r2, rfl⟩ := r
  exact ⟨v, u, rfl, l.nx _ W1 _ s ((g1.set r1).set r2) q⟩
theorem ds_par_oo {t1 t2 : TE} (h1 : EvN t1 Γ ds) (h2 : EvN t2 Γ es) (q : De.nx ((Γ.set i (.own ds)).set j (.own es))) : Ds (tPar i j (tCons t1 (tCons t2 tNil))) Γ De := fun F σ W Dr g l =>
  h1 F σ W _ g fun a vs H s n e r => by
    obtain ⟨st1, g1, no1, f1, p1⟩ := g.plus s n (by rw [e]; exact fun z => nomatch z)
    refine h2 F σ (W.plus H a) _ g1 fun b ws H' s' n' e' r' => ?_
    obtain ⟨st2, g2, no2, f2, p2⟩ := g1.plus s' n' (by rw [e']; exact fun z => nomatch z)
    have nab : b ≠ a := fun z => by
      have n' : H b = none := n'
      rw [z, e] at n'; cases n'
    have ea : H' a = some (.lst vs) := s' a _ e
    have ra : RepL ((W.plus H a).plus H' b) ds vs := r.stp st2
    have g3 := g2.adopt (i := i) (Or.inl (Or.inr rfl)) f1 p1 ea ra no1
    have no3 : ¬ ownA (Γ.set i (.own ds)) (σ.set i (some (.ref a))) b := fun ⟨k, fs, e1, e2⟩ => by
      by_cases hk : k = i
      · rw [hk] at e1 e2
        have hl : i < (Γ.set i (Sl.own ds)).length := (List.getElem?_eq_some_iff.mp e1).1
        rw [List.length_set] at hl
        rw [List.getElem?_set_self (by rw [← g.len]; exact hl)] at e2
        cases e2
        exact nab rfl
      · rw [List.getElem?_set_ne (Ne.symm hk)] at e1 e2
        exact no2 ⟨k, fs, e1, e2⟩
    have g4 := g3.adopt (i := j) (Or.inr rfl) f2 p2 e' r' no3
    exact ⟨.ref a, .ref b, rfl, l.nx _ ((W.plus H a).plus H' b) _ (st1.trans st2) g4 q⟩
end

/-! ### a def's promise over data -/
/-- for each x : α that is ok, called with args x, it returns some d with rel x d -/
structure Spc where
  ty : Type
  args : ty → List D
  ok : ty → Prop
  rel : ty → D → Prop
def toSp (s : Spc) : Sp := fun vs H Q _ => ∃ (x : s.ty) (F : Addr → Prop) (W : Wd), W.H = H ∧ WOk F W ∧ RepL W (s.args x) vs ∧ s.ok x ∧ ∀ d v W', s.rel x d → Stp F W W' → WOk F W' → Rep W' d v → Q v W'.H
/-- the slots at a def's start -/
def Gz0 (n : Nat) (ds : List D) : Gam := ds.map Sl.val ++ List.replicate (n - ds.length) Sl.unset
theorem sr_start {F : Addr → Prop} {W : Wd} {N : List Str} {ds : List D} {vs : List V} (ok : WOk F W) (r : RepL W ds vs) : SR F (Gz0 N.length ds) (L2.start N vs) W := by
  have hl := r.length
  refine ⟨ok, by simp [Gz0, L2.start, hl], fun i d e => ?_, fun i d e => ?_, fun i j a ds' es e => ?_⟩
  · unfold Gz0 at e
    by_cases hi : i < ds.length
    · rw [List.getElem?_append_left (by simpa using hi), List.getElem?_map] at e
      cases q : ds[i]? with
      | none => rw [q] at e; cases e
      | some d' =>
        rw [q] at e; cases e
        obtain ⟨v, e1, r1⟩ := r.get q
        refine ⟨v, ?_, r1⟩
        unfold L2.start
        rw [List.getElem?_append_left (by simp [← hl, hi]), List.getElem?_map, e1]
        rfl
    · rw [List.getElem?_append_right (by simpa using hi)] at e
      have := List.mem_of_getElem? e
      rw [List.mem_replicate] at this
      cases this.2
  all_goals
    exfalso
    unfold Gz0 at e
    by_cases hi : i < ds.length
    · rw [List.getElem?_append_left (by simpa using hi), List.getElem?_map] at e
      cases q : ds[i]? with
      | none => rw [q] at e; cases e
      | some d' => rw [q] at e; cases e
    · rw [List.getElem?_append_right (by simpa using hi)] at e
      have := List.mem_of_getElem? e
      rw [List.mem_replicate] at this
      cases this.2
theorem body_of {s : Spc} {N : List Str} {t : TS} {vs : List V} {H : Hp} {Q : VK} {E : XK} (hs : toSp s vs H Q E) (hb : ∀ x, s.ok x → Ds t (Gz0 N.length (s.args x)) ⟨fun _ => s.rel x .non, s.rel x, fun _ => False, fun _ => False⟩) :
    t { nx := fun _ H' => Q .non H', rt := Q } (L2.start N vs) H := by
  obtain ⟨x, F, W, rfl, ok, r, hx, q⟩ := hs
  exact hb x hx F _ W _ (sr_start ok r) ⟨fun σ W' Γ st g h => q .non .non W' h st g.ok rfl, fun v W' d st ok' r' h => q d v W' h st ok' r', fun _ _ _ _ _ h => h.elim, fun _ _ _ _ _ h => h.elim⟩
theorem spc_len {s : Spc} {n : Nat} (h : ∀ x, (s.args x).length = n) : ∀ vs H Q E, toSp s vs H Q E → vs.length = n := fun vs H Q E ⟨x, F, W, _, _, r, _⟩ => by rw [← r.length]; exact h x
section
variable {P : Program} {w : World} {K : PySem.W.Frag} {mg : Str → Option Value} {base : Heap}
/-- THE RULE for a def that raises nothing -/
theorem fn_ok {x qual : Str} {st : Stmt} {f : Addr} {fd : FuncData} {N ps : List Str} {k : Nat} {s : Spc} (F : Fun K x qual st f fd) (S : FnScope N ps (defScope st)) (len : ∀ x, (s.args x).length = ps.length)
    (hbody : ∀ (cdv : Value) (A : Around) (outer : List Env) (s' : Shared) (H : Hp) (E : XK), Room k (A.deeper (envOfC qual (defScope st) s'.heap.objs.size f cdv)) →
      ∃ t, PSs (cxOf CX0 P w K mg base N qual (defScope st) f cdv A outer s' H E).nox (defBody st) t ∧ ∀ x, s.ok x → Ds t (Gz0 N.length (s.args x)) ⟨fun _ => s.rel x .non, s.rel x, fun _ => False, fun _ => False⟩) :
    FnOk P w K mg base CX0 (k + 1) f fd ps (toSp s) :=
  F.ok S (spc_len len) fun cdv A outer s' H vs Q E hr h => by
    obtain ⟨t, p, hb⟩ := hbody cdv A outer s' H E hr
    exact ⟨t, p, body_of h hb⟩
end
section
variable {Γ : Gam} {s : Spc} {t tk : TA} {E : XK} {Q : D → Gam → Prop} {ds es : List D} {d : D}
theorem dl_call (h : DlA t Γ fun ds Γ1 => ∃ x, ds = s.args x ∧ s.ok x ∧ ∀ d, s.rel x d → Q d Γ1) : Dl (tCall (toSp s) [] E t) Γ Q := fun F σ W R g k => h F σ W _ g fun vs W1 ds Γ1 st g1 r ⟨x, e, ok, q⟩ => by
  subst e
  rw [List.append_nil]
  exact ⟨x, _, W1, rfl, g1.callOk, r, ok, fun d v W' hd st' ok' r' => k v W' d Γ1 (st.trans (st'.sub fun _ z => .inl z)) (g1.call st' ok') r' (q d hd)⟩
theorem pure_call {F : Addr → Prop} {σ : L2.St} {W : Wd} {vs : List V} {x : s.ty} {R : VK} {U : Addr → Prop} (g : SR F Γ σ W) (ul : ∀ a, U a → W.U a) (hU : RepL ⟨W.H, U, fun _ => False⟩ (s.args x) vs) (ok : s.ok x) (k : ∀ d v H, s.rel x d → Same W.H H → Rep ⟨H, U, fun _ => False⟩ d v → R v H) : toSp s vs W.H R E := by
  refine ⟨x, U, ⟨W.H, U, fun _ => False⟩, rfl, ⟨fun a h => g.ok.dom a (ul a h), fun a h => h, fun a h => h.elim⟩, hU, ok, fun d v W' hd st ok' r => ?_⟩
  refine k d v W'.H hd (fun b o e => ?_) (Rep.mono (W := W') (W' := ⟨W'.H, U, fun _ => False⟩) (fun a u e n => ⟨e, fun z => n (ok'.fu a z)⟩) (fun a z => by rw [st.pur] at z; exact z) d v r)
  by_cases hb : U b
  · exact (st.fr b hb).trans e
  · exact (st.keep b o e hb).1
/-- purse-free data, as seen by a def that draws nothing -/
theorem Rep.addP {W : Wd} {H : Hp} {U P : Addr → Prop} {d : D} {v : V} (h : Rep ⟨H, U, fun _ => False⟩ d v) : Rep ⟨H, U, P⟩ d v := Rep.mono (W := ⟨H, U, fun _ => False⟩) (W' := ⟨H, U, P⟩) (fun _ _ e n => ⟨e, n⟩) (fun _ z => z.elim) d v h
mutual
/-- no purse within -/
def noP : D → Bool
  | .purse => false | .scr _ _ => false | .tag _ => false
  | .tup ds => noPs ds | .lst ds => noPs ds | .obj _ _ ds => noPs ds | .dct _ ds => noPs ds | .tupN ds => noPs ds
  | _ => true
def noPs : List D → Bool
  | [] => true
  | d :: ds => noP d && noPs ds
end
mutual
theorem Rep.delP {W : Wd} : ∀ (d : D) (v : V), noP d = true → Rep W d v → Rep ⟨W.H, W.U, fun _ => False⟩ d v
  | .non, _, _, h => h
  | .bl _, _, _, h => h
  | .int _, _, _, h => h
  | .str _, _, _, h => h
  | .raw _, _, _, h => h
  | .tup ds, _, n, ⟨a, vs, e, h, u, r⟩ => ⟨a, vs, e, h, u, RepL.delP ds vs n r⟩
  | .tupN ds, _, n, ⟨a, vs, e, h, u, r⟩ => ⟨a, vs, e, h, u, RepL.delP ds vs n r⟩
  | .lst ds, _, n, ⟨a, vs, e, h, u, r⟩ => ⟨a, vs, e, h, u, RepL.delP ds vs n r⟩
  | .obj C ns ds, _, n, ⟨a, dx, vs, e, h, u, l, r⟩ => ⟨a, dx, vs, e, h, u, l, RepL.delP ds vs n r⟩
  | .purse, _, n, _ => nomatch n
  | .rng _ _, _, _, h => h
  | .dct ks ds, _, n, ⟨a, vs, e, h, u, l, r⟩ => ⟨a, vs, e, h, u, l, RepL.delP ds vs n r⟩
  | .scr _ _, _, n, _ => nomatch n
  | .tag _, _, n, _ => nomatch n
theorem RepL.delP {W : Wd} : ∀ (ds : List D) (vs : List V), noPs ds = true → RepL W ds vs → RepL ⟨W.H, W.U, fun _ => False⟩ ds vs
  | [], _, _, h => h
  | d :: ds, _, n, ⟨v, r, e, h1, h2⟩ => by
    have n' : noP d = true ∧ noPs ds = true := by simpa [noPs] using n
    exact ⟨v, r, e, Rep.delP d v n'.1 h1, RepL.delP ds r n'.2 h2⟩
end
theorem noPs_map {α : Type} {f : α → D} (h : ∀ x, noP (f x) = true) : ∀ xs : List α, noPs (xs.map f) = true
  | [] => rfl
  | x :: xs => by
    show (noP (f x) && noPs (xs.map f)) = true
    rw [h, noPs_map h xs]; rfl
/-- a call that draws nothing -/
theorem ev_call {x : s.ty} (h : EvA t Γ (s.args x)) (np : noPs (s.args x) = true) (ok : s.ok x) (hd : ∀ d', s.rel x d' → d' = d) : Ev (tCall (toSp s) [] E t) Γ d := fun F σ W R g k => h F σ W _ g fun vs H st r => by
  rw [List.append_nil]
  exact pure_call (W := W.at H) (g.same st) (fun _ z => z) (RepL.delP _ _ np r) ok fun d' v H' hd' s' r' => by
    rw [hd d' hd'] at r'
    exact k v H' (Same.trans st s') (Rep.addP (W := W) r')
end
end Dw

/-! Rules over data: targets, iterators, for, comprehensions. -/
namespace Dw
open PySem PySem.Spec PyProof.Rows L2
variable [Tabs0]

/-! ### wiped slots -/
theorem wipe_get (σ : L2.St) (j : Nat) : ∀ vs : List Nat, (wipe σ vs)[j]? = if j ∈ vs then (if j < σ.length then some none else none) else σ[j]?
  | [] => by simp [wipe]
  | v :: vs => by
    unfold wipe
    by_cases hv : v = j
    · subst hv
      rw [if_pos List.mem_cons_self]
      by_cases hl : v < σ.length
      · rw [List.getElem?_set_self (by rw [wipe_length]; exact hl), if_pos hl]
      · rw [if_neg hl]
        exact List.getElem?_eq_none (by rw [List.length_set, wipe_length]; omega)
    · rw [List.getElem?_set_ne hv, wipe_get σ j vs]
      by_cases hm : j ∈ vs
      · rw [if_pos hm, if_pos (List.mem_cons_of_mem _ hm)]
      · rw [if_neg hm, if_neg (by simp only [List.mem_cons, not_or]; exact ⟨fun z => hv z.symm, hm⟩)]
theorem wipe_set {σ : L2.St} {i : Nat} {o : Option V} {vs : List Nat} (h : i ∈ vs) : wipe (σ.set i o) vs = wipe σ vs := by
  refine List.ext_getElem? fun j => ?_
  rw [wipe_get, wipe_get, List.length_set]
  by_cases hm : j ∈ vs
  · rw [if_pos hm, if_pos hm]
  · rw [if_neg hm, if_neg hm, List.getElem?_set_ne (fun z : i = j => hm (by rw [← z]; exact h))]
theorem wipe_wipe {σ : L2.St} {vs : List Nat} : wipe (wipe σ vs) vs = wipe σ vs := by
  refine List.ext_getElem? fun j => ?_
  rw [wipe_get (wipe σ vs), wipe_get σ, wipe_length]
  by_cases hm : j ∈ vs
  · rw [if_pos hm, if_pos hm]
  · rw [if_neg hm, if_neg hm]
def wipeG (Γ : Gam) : List Nat → Gam
  | [] => Γ
  | v :: vs => (wipeG Γ vs).set v .unset
theorem wipeG_length (Γ : Gam) : ∀ vs : List Nat, (wipeG Γ vs).length = Γ.length
  | [] => rfl
  | v :: vs => by unfold wipeG; rw [List.length_set, wipeG_length Γ vs]
theorem wipeG_get {Γ : Gam} {j : Nat} {s : Sl} : ∀ {vs : List Nat}, (wipeG Γ vs)[j]? = some s → s = .unset ∨ (Γ[j]? = some s ∧ j ∉ vs)
  | [], h => .inr ⟨h, by simp⟩
  | v :: vs, h => by
    unfold wipeG at h
    by_cases hv : v = j
    · subst hv
      have hl : v < (wipeG Γ vs).length := by
        have := (List.getElem?_eq_some_iff.mp h).1
        simpa using this
      rw [List.getElem?_set_self hl] at h
      cases h; exact .inl rfl
    · rw [List.getElem?_set_ne hv] at h
      rcases wipeG_get h with h | ⟨h1, h2⟩
      · exact .inl h
      · exact .inr ⟨h1, by simp only [List.mem_cons, not_or]; exact ⟨fun z => hv z.symm, h2⟩⟩
theorem SR.wipe {F : Addr → Prop} {Γ : Gam} {σ : L2.St} {W : Wd} (g : SR F Γ σ W) (vs : List Nat) : SR F (wipeG Γ vs) (wipe σ vs) W :=
  g.weak (by rw [wipeG_length, wipe_length, g.len]) fun i s e => by
    rcases wipeG_get e with h | ⟨h1, h2⟩
    · exact .inl h
    · exact .inr ⟨h1, by rw [wipe_get, if_neg h2]⟩
theorem SR.unwipe {F : Addr → Prop} {Γ : Gam} {σ : L2.St} {W : Wd} {vs : List Nat} (g : SR F Γ (L2.wipe σ vs) W) : SR F Γ σ W :=
  ⟨g.ok, by rw [g.len, wipe_length], fun i d e => let ⟨v, e1, r⟩ := g.val i d e; ⟨v, (wipe_some e1).1, r⟩,
   fun i ds e => let ⟨a, vs', e1, r⟩ := g.ownX i ds e; ⟨a, vs', (wipe_some e1).1, r⟩, fun i j a ds es e1 e2 e3 e4 => by
    obtain ⟨b, _, q1, _⟩ := g.ownX i ds e1
    obtain ⟨c, _, q2, _⟩ := g.ownX j es e2
    have z1 := (wipe_some q1).1
    have z2 := (wipe_some q2).1
    rw [e3] at z1; cases z1
    rw [e4] at z2; cases z2
    exact g.apartX i j _ ds es e1 e2 q1 q2⟩

/-! ### targets -/
/-- storing x changes the slots is alone -/
def DG (g : TG) (is : List Nat) (x : D) (Γ Γ' : Gam) : Prop := ∀ (F : Addr → Prop) (σ : L2.St) (W : Wd) (v : V) (R : L2.St → Hp → Prop), SR F Γ σ W → Rep W x v →
  (∀ σ', SR F Γ' σ' W → (∀ vs : List Nat, (∀ i ∈ is, i ∈ vs) → wipe σ' vs = wipe σ vs) → R σ' W.H) → g v σ W.H R
theorem dg_name {i : Nat} {x : D} {Γ : Gam} : DG (gName i) [i] x Γ (Γ.set i (.val x)) := fun F σ W v R g r k => k _ (g.set r) fun vs h => wipe_set (h i List.mem_cons_self)
theorem dg_tup2 {K : PySem.W.Frag} {g1 g2 : TG} {is js : List Nat} {x y : D} {Γ Γ1 Γ2 : Gam} (h1 : DG g1 is x Γ Γ1) (h2 : DG g2 js y Γ1 Γ2) : DG (gTup K 2 (gCons g1 (gCons g2 gNil))) (is ++ js) (.tup [x, y]) Γ Γ2 := fun F σ W v R g r k => by
  obtain ⟨a, vs, e, ha, nu, v1, _, rfl, r1, v2, _, rfl, r2, rfl⟩ := r
  refine ⟨a, [v1, v2], e, ha.sq, rfl, v1, [v2], rfl, h1 F σ W v1 _ g r1 fun σ1 g1 w1 => ⟨v2, [], rfl, h2 F σ1 W v2 _ g1 r2 fun σ2 g2 w2 => ⟨rfl, k σ2 g2 fun vs h => ?_⟩⟩⟩
  rw [w2 vs fun i hi => h i (List.mem_append_right _ hi), w1 vs fun i hi => h i (List.mem_append_left _ hi)]
theorem dg_tup3 {K : PySem.W.Frag} {g1 g2 g3 : TG} {is js ks : List Nat} {x y z : D} {Γ Γ1 Γ2 Γ3 : Gam} (h1 : DG g1 is x Γ Γ1) (h2 : DG g2 js y Γ1 Γ2) (h3 : DG g3 ks z Γ2 Γ3) : DG (gTup K 3 (gCons g1 (gCons g2 (gCons g3 gNil)))) (is ++ (js ++ ks)) (.tup [x, y, z]) Γ Γ3 := fun F σ W v R g r k => by
  obtain ⟨a, vs, e, ha, nu, v1, _, rfl, r1, v2, _, rfl, r2, v3, _, rfl, r3, rfl⟩ := r
  refine ⟨a, [v1, v2, v3], e, ha.sq, rfl, v1, [v2, v3], rfl, h1 F σ W v1 _ g r1 fun σ1 g1 w1 => ⟨v2, [v3], rfl, h2 F σ1 W v2 _ g1 r2 fun σ2 g2 w2 => ⟨v3, [], rfl, h3 F σ2 W v3 _ g2 r3 fun σ3 g3 w3 => ⟨rfl, k σ3 g3 fun vs h => ?_⟩⟩⟩⟩
  rw [w3 vs fun i hi => h i (List.mem_append_right _ (List.mem_append_right _ hi)), w2 vs fun i hi => h i (List.mem_append_right _ (List.mem_append_left _ hi)), w1 vs fun i hi => h i (List.mem_append_left _ hi)]
theorem ds_asg_g {te : TE} {g : TG} {Γ : Gam} {De : DE} (h : Dl te Γ fun d Γ1 => ∃ is Γ2, DG g is d Γ1 Γ2 ∧ De.nx Γ2) : Ds (tAsg te g) Γ De := fun F σ W Dr s l => h F σ W _ s fun v W1 d Γ1 st g1 r ⟨is, Γ2, hg, q⟩ =>
  hg F σ W1 v _ g1 r fun σ' g' _ => l.nx σ' W1 Γ2 st g' q

/-! ### iterators -/
structure ItOk (F : Addr → Prop) (W : Wd) (J : It) (xs : List D) : Prop where
  go : ∀ (W1 : Wd) (i : Nat) (x : D), Stp F W W1 → WOk F W1 → xs[i]? = some x → J.go i W1.H ∧ ∀ v H', J.yld i W1.H v H' → Same W1.H H' ∧ Rep (W1.at H') x v
  stop : ∀ (W1 : Wd), Stp F W W1 → WOk F W1 → J.stop xs.length W1.H
structure ItS (W : Wd) (J : It) (xs : List D) : Prop where
  go : ∀ (W1 : Wd) (i : Nat) (x : D), (∀ a, W1.U a → W1.H a ≠ none) → Same W.H W1.H → (∀ a u, W.H a = some u → ¬ W.U a → ¬ W1.U a) → W1.P = W.P → xs[i]? = some x → J.go i W1.H ∧ ∀ v H', J.yld i W1.H v H' → Same W1.H H' ∧ Rep (W1.at H') x v
  stop : ∀ (H : Hp), Same W.H H → J.stop xs.length H
def Di (wi : TI) (Γ : Gam) (Q : List D → Gam → Prop) : Prop := ∀ (F : Addr → Prop) (σ : L2.St) (W : Wd) (R : It → Hp → Prop), SR F Γ σ W → (∀ J W' xs Γ', Stp F W W' → SR F Γ' σ W' → ItOk F W' J xs → Q xs Γ' → R J W'.H) → wi σ W.H R
def Ei (wi : TI) (Γ : Gam) (xs : List D) : Prop := ∀ (F : Addr → Prop) (σ : L2.St) (W : Wd) (R : It → Hp → Prop), SR F Γ σ W → (∀ J H, Same W.H H → ItS (W.at H) J xs → R J H) → wi σ W.H R
section
variable {K : PySem.W.Frag} {Γ : Gam} {t : TE} {ta : TA} {xs : List D} {Q : List D → Gam → Prop}
theorem di_list (h : Dl t Γ fun d Γ1 => ∃ xs, d = .lst xs ∧ Q xs Γ1) : Di (iList K t) Γ Q := fun F σ W R g k => h F σ W _ g fun v W1 d Γ1 st g1 r ⟨xs, e, q⟩ => by
  subst e
  obtain ⟨a, vs, rfl, ha, nu, l⟩ := r
  refine ⟨a, rfl, ⟨vs, .of ha⟩, k (Itl K a) W1 xs Γ1 st g1 ⟨fun W2 i x s2 ok2 hx => ?_, fun W2 s2 ok2 => ⟨vs, .of (s2.keep a _ ha nu).1, by rw [l.length]; exact Nat.le_refl _⟩⟩ q⟩
  obtain ⟨v, hv, rv⟩ := l.get hx
  exact ⟨⟨vs, v, .of (s2.keep a _ ha nu).1, hv⟩, fun u H' ⟨e, hy⟩ => by
    subst e
    have := hy vs (.of (s2.keep a _ ha nu).1)
    rw [hv] at this; cases this
    exact ⟨Same.refl _, rv.stp s2⟩⟩
theorem ei_list (h : EvB t Γ xs) : Ei (iList K t) Γ xs := fun F σ W R g k => h F σ W _ g fun a vs H st ha l => by
  refine ⟨a, rfl, ⟨vs, .of ha⟩, k (Itl K a) H st ⟨fun W2 i x dm s2 ku pu hx => ?_, fun H2 s2 => ⟨vs, .of (s2 a _ ha), by rw [l.length]; exact Nat.le_refl _⟩⟩⟩
  obtain ⟨v, hv, rv⟩ := l.get hx
  exact ⟨⟨vs, v, .of (s2 a _ ha), hv⟩, fun u H' ⟨e, hy⟩ => by
    subst e
    have := hy vs (.of (s2 a _ ha))
    rw [hv] at this; cases this
    exact ⟨Same.refl _, Rep.mono (W := W.at H) (W' := W2) (fun b u e n => ⟨s2 b u e, ku b u e n⟩) (fun b z => by rw [pu]; exact z) _ _ rv⟩⟩
theorem ei_tup (h : Ev t Γ (.tup xs)) : Ei (iTup K t) Γ xs := fun F σ W R g k => h F σ W _ g fun v H st ⟨a, vs, e, ha, nu, l⟩ => by
  subst e
  refine ⟨a, rfl, ⟨vs, ha.sq⟩, k (Itt K a) H st ⟨fun W2 i x dm s2 ku pu hx => ?_, fun H2 s2 => ⟨vs, (ha.same s2).sq, by rw [l.length]; exact Nat.le_refl _⟩⟩⟩
  obtain ⟨v, hv, rv⟩ := l.get hx
  exact ⟨⟨vs, v, (ha.same s2).sq, hv⟩, fun u H' ⟨e, hy⟩ => by
    subst e
    have := hy vs ((ha.same s2).sq)
    rw [hv] at this; cases this
    exact ⟨Same.refl _, Rep.mono (W := W.at H) (W' := W2) (fun b u e n => ⟨s2 b u e, ku b u e n⟩) (fun b z => by rw [pu]; exact z) _ _ rv⟩⟩
theorem di_tup (h : Dl t Γ fun d Γ1 => ∃ xs, d = .tup xs ∧ Q xs Γ1) : Di (iTup K t) Γ Q := fun F σ W R g k => h F σ W _ g fun v W1 d Γ1 st g1 r ⟨xs, e, q⟩ => by
  subst e
  obtain ⟨a, vs, rfl, ha, nu, l⟩ := r
  refine ⟨a, rfl, ⟨vs, ha.sq⟩, k (Itt K a) W1 xs Γ1 st g1 ⟨fun W2 i x s2 ok2 hx => ?_, fun W2 s2 ok2 => ⟨vs, (ha.keep nu (s2.keep a)).1.sq, by rw [l.length]; exact Nat.le_refl _⟩⟩ q⟩
  obtain ⟨v, hv, rv⟩ := l.get hx
  exact ⟨⟨vs, v, (ha.keep nu (s2.keep a)).1.sq, hv⟩, fun u H' ⟨e, hy⟩ => by
    subst e
    have := hy vs ((ha.keep nu (s2.keep a)).1.sq)
    rw [hv] at this; cases this
    exact ⟨Same.refl _, rv.stp s2⟩⟩
/-- 0, 1, .., n - 1 -/
def rng (n : Nat) : List D := (List.range n).map fun (i : Nat) => D.int i
theorem rng_get {n i : Nat} {x : D} (h : (rng n)[i]? = some x) : i < n ∧ x = .int i := by
  unfold rng at h
  rw [List.getElem?_map] at h
  by_cases hi : i < n
  · rw [List.getElem?_range hi] at h
    cases h; exact ⟨hi, rfl⟩
  · rw [List.getElem?_eq_none (by simpa using hi)] at h; cases h
theorem rng_length (n : Nat) : (rng n).length = n := by simp [rng]
theorem di_range {Q : List D → Gam → Prop} (h : DlA ta Γ fun ds Γ1 => ∃ n : Nat, ds = [.int n] ∧ n < 2 ^ 62 ∧ Q (rng n) Γ1) : Di (iRng1 ta) Γ Q := fun F σ W R g k => h F σ W _ g fun vs W1 ds Γ1 st g1 r ⟨n, e, hn, q⟩ => by
  subst e
  obtain ⟨v, _, rfl, rv, rfl⟩ := r
  refine ⟨n, by rw [show v = V.int n from rv], by omega, by omega, k (Itr 0 (n : Int).toNat) W1 (rng n) Γ1 st g1 ⟨fun W2 i x s2 ok2 hx => ?_, fun W2 s2 ok2 => ?_⟩ q⟩
  · obtain ⟨hi, rfl⟩ := rng_get hx
    refine ⟨by show i < (n : Int).toNat; omega, fun u H' ⟨e, hy⟩ => ?_⟩
    subst e hy
    exact ⟨Same.refl _, by show V.int (0 + (i : Int)) = V.int i; rw [Int.zero_add]⟩
  · show (n : Int).toNat ≤ _
    rw [rng_length]; omega
theorem ei_range {n : Nat} (h : EvA ta Γ [.int n]) (hn : n < 2 ^ 62) : Ei (iRng1 ta) Γ (rng n) := fun F σ W R g k => h F σ W _ g fun vs H st r => by
  obtain ⟨v, _, rfl, rv, rfl⟩ := r
  refine ⟨n, by rw [show v = V.int n from rv], by omega, by omega, k (Itr 0 (n : Int).toNat) H st ⟨fun W2 i x dm s2 ku pu hx => ?_, fun H2 s2 => ?_⟩⟩
  · obtain ⟨hi, rfl⟩ := rng_get hx
    refine ⟨by show i < (n : Int).toNat; omega, fun u H' ⟨e, hy⟩ => ?_⟩
    subst e hy
    exact ⟨Same.refl _, by show V.int (0 + (i : Int)) = V.int i; rw [Int.zero_add]⟩
  · show (n : Int).toNat ≤ _
    rw [rng_length]; omega
/-- the signs of a text -/
def signs (x : Str) : List D := x.cps.toList.map fun c => D.str ⟨#[c]⟩
end

/-! ### for -/
section
variable {Γ : Gam} {wi : TI} {g : TG} {tb : TS} {De : DE}
theorem ds_for (J : List D → Nat → Gam → Prop) (h : Di wi Γ fun xs Γ1 => J xs 0 Γ1 ∧ (∀ i x Γ', xs[i]? = some x → J xs i Γ' → ∃ is Γ2, DG g is x Γ' Γ2 ∧ Ds tb Γ2 ⟨J xs (i + 1), De.rt, De.nx, J xs (i + 1)⟩) ∧ ∀ Γ', J xs xs.length Γ' → De.nx Γ') : Ds (tFor wi g tb) Γ De :=
  fun F σ W Dr s l => h F σ W _ s fun I W1 xs Γ1 st g1 it ⟨h0, hs, hd⟩ => by
    refine ⟨fun i m σ' H' => m = xs.length - i ∧ i ≤ xs.length ∧ ∃ W' Γ', W'.H = H' ∧ Stp F W1 W' ∧ SR F Γ' σ' W' ∧ J xs i Γ', ⟨_, rfl, Nat.zero_le _, W1, Γ1, rfl, .refl _, g1, h0⟩, ?_⟩
    rintro i m σ' H' ⟨rfl, hi, W', Γ', rfl, s', g', j⟩
    by_cases hlt : i < xs.length
    · obtain ⟨x, hx⟩ : ∃ x, xs[i]? = some x := ⟨_, List.getElem?_eq_getElem hlt⟩
      obtain ⟨is, Γ2, hg, hb⟩ := hs i x Γ' hx j
      obtain ⟨go, yl⟩ := it.go W' i x s' g'.ok hx
      refine .inr ⟨go, fun σ2 H2 => ∃ W2 Γ2, W2.H = H2 ∧ Stp F W1 W2 ∧ SR F Γ2 σ2 W2 ∧ J xs (i + 1) Γ2, fun σ2 H2 q => ⟨xs.length - (i + 1), by omega, rfl, hlt, q⟩, fun v H2 y => ?_⟩
      obtain ⟨sm, rv⟩ := yl v H2 y
      have s2 := s'.trans (Stp.of_same g'.ok sm)
      refine hg F σ' (W'.at H2) v _ (g'.same sm) rv fun σ3 g3 _ => hb F σ3 (W'.at H2) _ g3 ⟨fun σ4 W4 Γ4 s4 g4 q => ⟨W4, Γ4, rfl, s2.trans s4, g4, q⟩, fun v W4 d s4 ok4 r4 q => l.rt v W4 d (st.trans (s2.trans s4)) ok4 r4 q, fun σ4 W4 Γ4 s4 g4 q => l.nx σ4 W4 Γ4 (st.trans (s2.trans s4)) g4 q, fun σ4 W4 Γ4 s4 g4 q => ⟨W4, Γ4, rfl, s2.trans s4, g4, q⟩⟩
    · have e : i = xs.length := by omega
      subst e
      exact .inl ⟨it.stop W' s' g'.ok, l.nx σ' W' Γ' (st.trans s') g' (hd Γ' j)⟩
end

/-! ### list comprehensions -/
section
variable {Γ : Gam} {wi : TI} {g : TG} {tt : TT} {te : TE} {vs : List Nat}
/-- pure: over xs.map c, kept where p, f of each -/
theorem evn_lc {α : Type} {xs : List α} {c : α → D} {p : α → Bool} {f : α → D} (h : Ei wi Γ (xs.map c)) (hz : xs.length ≤ 1000000)
    (he : ∀ x ∈ xs, ∃ is Γ2, DG g is (c x) (wipeG Γ vs) Γ2 ∧ (∀ i ∈ is, i ∈ vs) ∧ EvT tt Γ2 (p x) ∧ (p x = true → Ev te Γ2 (f x))) : EvN (tLc wi g tt te vs) Γ ((xs.filter p).map f) := fun F σ W R s k =>
  h F σ W _ s fun I H1 st it => fun Dn hD => by
    have wd : W.H Dn = none := st.free hD
    refine ⟨fun i m H' => m = xs.length - i ∧ i ≤ xs.length ∧ Same H1 H' ∧ ∃ us, H' Dn = some (.lst us) ∧ RepL (W.plus H' Dn) (((xs.take i).filter p).map f) us, ⟨_, rfl, Nat.zero_le _, same_upd hD, [], upd_same, rfl⟩, ?_⟩
    rintro i m H' ⟨rfl, hi, sm, us, hus, rus⟩
    by_cases hlt : i < xs.length
    · have hx : xs[i]? = some xs[i] := List.getElem?_eq_getElem hlt
      have hx' : (xs.map c)[i]? = some (c xs[i]) := by rw [List.getElem?_map, hx]; rfl
      obtain ⟨is, Γ2, hg, his, ht, hel⟩ := he xs[i] (List.getElem_mem hlt)
      obtain ⟨go, yl⟩ := it.go (W.plus H' Dn) i (c xs[i]) (fun b hb z => hb.elim (fun u => s.ok.dom b u ((Same.trans st sm).free z)) (fun e => by rw [e] at z; exact absurd (hus.symm.trans z) (fun q => nomatch q))) sm (fun b u e n z => z.elim n fun z => by rw [z] at e; exact absurd (e.symm.trans hD) (fun q => nomatch q)) rfl hx'
      refine .inr ⟨go, fun H2 => Same H1 H2 ∧ ∃ us, H2 Dn = some (.lst us) ∧ RepL (W.plus H2 Dn) (((xs.take (i + 1)).filter p).map f) us, fun H2 q => ⟨xs.length - (i + 1), by omega, rfl, hlt, q⟩, fun v H2 y => ?_⟩
      obtain ⟨sm2, rv⟩ := yl v H2 y
      have sW : Same W.H H2 := Same.trans st (Same.trans sm sm2)
      -- the world where the list in the making is one's own
      obtain ⟨_, gp, _, _, _⟩ := s.plus sW wd (by rw [sm2 _ _ hus]; exact fun z => nomatch z)
      have gp := gp.wipe vs
      refine hg F _ (W.plus H2 Dn) v _ gp rv fun σ2 g2 w2 => ⟨by rw [w2 vs his, wipe_wipe], ?_⟩
      refine ht F σ2 (W.plus H2 Dn) _ g2 fun H3 s3 => ?_
      have e1 : (xs.take (i + 1)).filter p = (xs.take i).filter p ++ (if p xs[i] = true then [xs[i]] else []) := by
        rw [List.take_add_one, hx, List.filter_append]
        congr 1
        cases hp : p xs[i] <;> simp [hp]
      have mv : ∀ {H3 H4 : Hp} {ds us}, Same H3 H4 → RepL (W.plus H3 Dn) ds us → RepL (W.plus H4 Dn) ds us := fun {H3 H4 ds us} s34 r => RepL.mono (W := W.plus H3 Dn) (W' := W.plus H4 Dn) (fun b u e n => ⟨s34 b u e, n⟩) (fun _ h => h) ds us r
      cases hp : p xs[i] with
      | false =>
        rw [if_neg Bool.false_ne_true]
        refine ⟨Same.trans (Same.trans sm sm2) s3, us, s3 _ _ (sm2 _ _ hus), ?_⟩
        rw [e1, hp, if_neg Bool.false_ne_true, List.append_nil]
        exact mv s3 (mv sm2 rus)
      | true =>
        rw [if_pos rfl]
        refine hel hp F σ2 ((W.plus H2 Dn).at H3) _ (g2.same s3) fun z H4 s4 rz => ?_
        have h4 : H4 Dn = some (.lst us) := s4 _ _ (s3 _ _ (sm2 _ _ hus))
        have un : ∀ {ds us}, RepL (W.plus H4 Dn) ds us → ∀ o, RepL (W.plus (upd H4 Dn o) Dn) ds us := fun {ds us} r o => RepL.mono (W := W.plus H4 Dn) (W' := W.plus (upd H4 Dn o) Dn) (fun b u e n => ⟨by
          show (upd H4 Dn o) b = some u
          rw [upd_ne (fun z : b = Dn => n (Or.inr z))]; exact e, n⟩) (fun _ h => h) ds us r
        refine ⟨us, h4, ?_, fun b u e => ?_, us ++ [z], upd_same, ?_⟩
        · rw [← rus.length, List.length_map]
          refine Nat.lt_of_le_of_lt (Nat.le_trans (List.length_filter_le _ _) (Nat.le_trans (List.length_take_le _ _) ?_)) (show 1000000 < sizeLine by decide)
          omega
        · have nb : b ≠ Dn := fun z => by rw [z, hD] at e; cases e
          rw [upd_ne nb]
          exact s4 _ _ (s3 _ _ (sm2 _ _ (sm _ _ e)))
        · rw [e1, hp, if_pos rfl, List.map_append]
          exact un ((mv s4 (mv s3 (mv sm2 rus))).append (RepL.one rz)) _
    · have e : i = xs.length := by omega
      subst e
      rw [List.take_length] at rus
      exact .inl ⟨by have := it.stop H' sm; rw [List.length_map] at this; exact this, k Dn us H' (Same.trans st sm) wd hus rus⟩
end
end Dw

/-! Rules over data: comprehensions that draw. -/
namespace Dw
open PySem PySem.Spec PyProof.Rows L2
variable [Tabs0]

abbrev Fp (F : Addr → Prop) (a : Addr) : Addr → Prop := fun b => F b ∨ b = a
theorem SR.frame {F : Addr → Prop} {Γ : Gam} {σ : L2.St} {W : Wd} {a : Addr} (g : SR F Γ σ W) (u : W.U a) (p : ¬ W.P a) (no : ¬ ownA Γ σ a) : SR (Fp F a) Γ σ W :=
  ⟨⟨g.ok.dom, fun b h => h.elim (g.ok.fu b) fun h => by rw [h]; exact u, fun b h => let ⟨u', f, pp⟩ := g.ok.pu b h; ⟨u', fun z => z.elim f fun z => p (by rw [← z]; exact h), pp⟩⟩, g.len, g.val,
   fun i ds e => let ⟨b, vs, e1, u', f, pp, q, r⟩ := g.ownX i ds e; ⟨b, vs, e1, u', fun z => z.elim f fun z => no ⟨i, ds, e, by rw [← z]; exact e1⟩, pp, q, r⟩, g.apartX⟩
/-- a cell of the frame is changed -/
theorem SR.poke {F : Addr → Prop} {Γ : Gam} {σ : L2.St} {W : Wd} {a : Addr} {o : HO} (g : SR (Fp F a) Γ σ W) (nf : ¬ F a) (ne : ∀ h, W.H a ≠ some (.ext h)) :
    Stp F W (W.at (upd W.H a o)) ∧ SR (Fp F a) Γ σ (W.at (upd W.H a o)) := by
  have u : W.U a := g.ok.fu a (Or.inr rfl)
  have st : Stp F W (W.at (upd W.H a o)) := ⟨fun b x e n => ⟨by
    show (upd W.H a o) b = some x
    rw [upd_ne (fun z : b = a => n (by rw [z]; exact u))]; exact e, n⟩, rfl, fun b h => upd_ne (fun z : b = a => nf (by rw [← z]; exact h))⟩
  refine ⟨st, ⟨⟨fun b h z => ?_, g.ok.fu, fun b h => ?_⟩, g.len, fun i d e => ?_, fun i ds e => ?_, g.apartX⟩⟩
  · have z : (upd W.H a o) b = none := z
    by_cases hb : b = a
    · rw [hb, upd_same] at z; cases z
    · rw [upd_ne hb] at z; exact g.ok.dom b h z
  · obtain ⟨u', f, oo⟩ := g.ok.pu b h
    exact ⟨u', f, oo.upd ne fun z : b = a => f (Or.inr z)⟩
  · obtain ⟨v, e1, r⟩ := g.val i d e
    exact ⟨v, e1, r.stp st⟩
  · obtain ⟨b, vs, e1, u', f, pp, q, r⟩ := g.ownX i ds e
    exact ⟨b, vs, e1, u', f, pp, (upd_ne (fun z : b = a => f (Or.inr z))).trans q, r.stp st⟩
/-- .. and becomes a value -/
theorem SR.land {F : Addr → Prop} {Γ : Gam} {σ : L2.St} {W : Wd} {a : Addr} (g : SR (Fp F a) Γ σ W) (nf : ¬ F a) :
    Stp F W ⟨W.H, fun b => W.U b ∧ b ≠ a, W.P⟩ ∧ SR F Γ σ ⟨W.H, fun b => W.U b ∧ b ≠ a, W.P⟩ := by
  have st : Stp F W ⟨W.H, fun b => W.U b ∧ b ≠ a, W.P⟩ := ⟨fun b x e n => ⟨e, fun z => n z.1⟩, rfl, fun _ _ => rfl⟩
  refine ⟨st, ⟨⟨fun b h => g.ok.dom b h.1, fun b h => ⟨g.ok.fu b (Or.inl h), fun z => nf (by rw [← z]; exact h)⟩, fun b h => ?_⟩, g.len, fun i d e => ?_, fun i ds e => ?_, g.apartX⟩⟩
  · obtain ⟨u', f, pp⟩ := g.ok.pu b h
    exact ⟨⟨u', fun z => f (Or.inr z)⟩, fun z => f (Or.inl z), pp⟩
  · obtain ⟨v, e1, r⟩ := g.val i d e
    exact ⟨v, e1, r.stp st⟩
  · obtain ⟨b, vs, e1, u', f, pp, q, r⟩ := g.ownX i ds e
    exact ⟨b, vs, e1, ⟨u', fun z => f (Or.inr z)⟩, fun z => f (Or.inl z), pp, q, r.stp st⟩
section
variable {Γ : Gam} {wi : TI} {g : TG} {tt : TT} {te : TE} {vs : List Nat} {Q : D → Gam → Prop}
theorem dl_lc (h : Di wi Γ fun xs Γ1 => xs.length ≤ 1000000 ∧ ∃ J : Nat → List D → Gam → Prop, J 0 [] (wipeG Γ1 vs) ∧
      (∀ i x acc Γ', xs[i]? = some x → J i acc Γ' → ∃ is Γ2, DG g is x Γ' Γ2 ∧ (∀ i ∈ is, i ∈ vs) ∧ DlT tt Γ2 fun b Γ3 => (b = true → Dl te Γ3 fun d Γ4 => J (i + 1) (acc ++ [d]) (wipeG Γ4 vs)) ∧ (b = false → J (i + 1) acc (wipeG Γ3 vs))) ∧
      ∀ acc Γ', J xs.length acc Γ' → Q (.lst acc) Γ') : Dl (tLc wi g tt te vs) Γ Q := fun F σ W R s k =>
  h F σ W _ s fun I W1 xs Γ1 st1 g1 it ⟨hz, J, h0, hs, hd⟩ => fun Dn hD => by
    obtain ⟨stp, gp, no, nf, np⟩ := g1.plus (H := upd W1.H Dn (.lst [])) (a := Dn) (same_upd hD) hD (by rw [upd_same]; exact fun z => nomatch z)
    have gf := (gp.frame (Or.inr rfl) np no).wipe vs
    refine ⟨fun i m H' => m = xs.length - i ∧ i ≤ xs.length ∧ ∃ W' Γ' acc us, W'.H = H' ∧ Stp F W1 W' ∧ SR (Fp F Dn) Γ' (wipe σ vs) W' ∧ H' Dn = some (.lst us) ∧ RepL W' acc us ∧ acc.length ≤ i ∧ J i acc Γ',
      ⟨_, rfl, Nat.zero_le _, W1.plus (upd W1.H Dn (.lst [])) Dn, _, [], [], rfl, stp, gf, upd_same, rfl, Nat.le_refl _, h0⟩, ?_⟩
    rintro i m H' ⟨rfl, hi, W', Γ', acc, us, rfl, s', g', hus, rus, hl, j⟩
    by_cases hlt : i < xs.length
    · have hx : xs[i]? = some xs[i] := List.getElem?_eq_getElem hlt
      obtain ⟨is, Γ2, hg, his, ht⟩ := hs i xs[i] acc Γ' hx j
      have ok1 : WOk F W' := ⟨g'.ok.dom, fun b z => g'.ok.fu b (Or.inl z), fun b z => let ⟨u, f, p⟩ := g'.ok.pu b z; ⟨u, fun q => f (Or.inl q), p⟩⟩
      obtain ⟨go, yl⟩ := it.go W' i xs[i] s' ok1 hx
      refine .inr ⟨go, fun H2 => ∃ W2 Γ2 acc us, W2.H = H2 ∧ Stp F W1 W2 ∧ SR (Fp F Dn) Γ2 (wipe σ vs) W2 ∧ H2 Dn = some (.lst us) ∧ RepL W2 acc us ∧ acc.length ≤ i + 1 ∧ J (i + 1) acc Γ2, fun H2 q => ⟨xs.length - (i + 1), by omega, rfl, hlt, q⟩, fun v H2 y => ?_⟩
      obtain ⟨sm, rv⟩ := yl v H2 y
      have g2 := g'.same sm
      have s2 : Stp F W1 (W'.at H2) := s'.trans (Stp.of_same ok1 sm)
      refine hg (Fp F Dn) _ (W'.at H2) v _ g2 rv fun σ2 g3 w2 => ?_
      have ew : wipe σ2 vs = wipe σ vs := by rw [w2 vs his, wipe_wipe]
      refine ⟨ew, ht (Fp F Dn) σ2 (W'.at H2) _ g3 fun b W3 Γ3 s3 g4 q => ?_⟩
      have h3 : W3.H Dn = some (.lst us) := (s3.fr Dn (Or.inr rfl)).trans (sm _ _ hus)
      have r3 : RepL W3 acc us := (RepL.same (W := W') sm rus).stp s3
      cases b with
      | false =>
        rw [if_neg Bool.false_ne_true]
        have g5 := g4.wipe vs
        rw [ew] at g5
        exact ⟨W3, _, acc, us, rfl, s2.trans (s3.sub fun _ z => Or.inl z), g5, h3, r3, by omega, q.2 rfl⟩
      | true =>
        rw [if_pos rfl]
        refine q.1 rfl (Fp F Dn) σ2 W3 _ g4 fun z W4 d Γ4 s4 g5 rz qj => ?_
        have h4 : W4.H Dn = some (.lst us) := (s4.fr Dn (Or.inr rfl)).trans h3
        have r4 : RepL W4 acc us := r3.stp s4
        have g6 := g5.wipe vs
        rw [ew] at g6
        obtain ⟨s5, g7⟩ := g6.poke (o := .lst (us ++ [z])) nf (no_ext (by assumption))
        refine ⟨us, h4, ?_, W4.at (upd W4.H Dn (.lst (us ++ [z]))), _, acc ++ [d], us ++ [z], rfl, ((s2.trans (s3.sub fun _ z => Or.inl z)).trans (s4.sub fun _ z => Or.inl z)).trans s5, g7, upd_same, (r4.append (RepL.one rz)).stp s5, by rw [List.length_append, List.length_singleton]; omega, qj⟩
        rw [← r4.length]
        exact Nat.lt_of_le_of_lt (show acc.length ≤ 1000000 by omega) (by decide)
    · have e : i = xs.length := by omega
      subst e
      have ok1 : WOk F W' := ⟨g'.ok.dom, fun b z => g'.ok.fu b (Or.inl z), fun b z => let ⟨u, f, p⟩ := g'.ok.pu b z; ⟨u, fun q => f (Or.inl q), p⟩⟩
      obtain ⟨s8, g8⟩ := (SR.unwipe g').land nf
      refine .inl ⟨it.stop W' s' ok1, k (.ref Dn) ⟨W'.H, fun b => W'.U b ∧ b ≠ Dn, W'.P⟩ (.lst acc) Γ' (st1.trans (s'.trans s8)) g8 ⟨Dn, us, rfl, hus, fun z => z.2 rfl, rus.stp s8⟩ (hd acc Γ' j)⟩
end
end Dw

/-! Operators that serve several kinds at once, and what they give on data. -/
namespace Dw
open PySem PySem.Spec PyProof.Rows L2
variable [Tabs0]
section
variable {X : Cx} {a b c e : Expr} {ta tb te : TE} {pos : Pos} {i j : Int} {x y : Str} {ds es : List D} {K : PySem.W.Frag} {Γ : Gam} {d : D}
abbrev rOr (r r' : R2) : R2 := fun x y H Q => r x y H Q ∨ r' x y H Q
theorem dr2_l {r r' : R2} {x y d : D} (h : DR2 r x y d) : DR2 (rOr r r') x y d := fun W u v Q dom a b k => .inl (h W u v Q dom a b k)
theorem dr2_r {r r' : R2} {x y d : D} (h : DR2 r' x y d) : DR2 (rOr r r') x y d := fun W u v Q dom a b k => .inr (h W u v Q dom a b k)
/-! ### + and * -/
abbrev rPlus (K : PySem.W.Frag) : R2 := rOr (rI0 fun i j => .int (i + j)) (rOr rAddStr (rOr rCat (rCatT K)))
theorem opPlus : OpR X (binaryOp .Add) (rPlus X.K) := op_add.or (op_add_str.or (op_cat.or op_catT))
theorem plus_int : DR2 (rPlus K) (.int i) (.int j) (.int (i + j)) := dr2_l dr2_add
theorem plus_str (h : x.length + y.length ≤ sizeLine) : DR2 (rPlus K) (.str x) (.str y) (.str (x ++ y)) := dr2_r (dr2_l (dr2_add_str h))
theorem plus_tup (n : ds ≠ []) (h : ds.length + es.length ≤ sizeLine) : DR2 (rPlus K) (.tup ds) (.tup es) (.tup (ds ++ es)) := dr2_r (dr2_r (dr2_r (dr2_catT n h)))
abbrev rTimes : R2 := rOr (rI CMul fun i j => .int (i * j)) rRep
theorem opTimes : OpR X (binaryOp .Mult) rTimes := op_mul.or op_rep
theorem times_int (h : CMul i j) : DR2 rTimes (.int i) (.int j) (.int (i * j)) := dr2_l (dr2_mul h)
abbrev rIAdd : TIp := fun x y H Q => (rI0 fun i j => .int (i + j)) x y H Q ∨ rAddStr x y H Q
theorem ipX : PIp X .Add rIAdd := iop_add.or iop_add_str
/-! ### comparisons -/
abbrev rEqX (K : PySem.W.Frag) : R2 := rOr rEq (rEqD K)
abbrev rNeX (K : PySem.W.Frag) : R2 := rOr rNe (rNeD K)
theorem opEq (hu : X.A.units + 64 < cLine) : OpR X (compareOp .Eq) (rEqX X.K) := op_eq.or (op_eqD hu)
theorem opNe (hu : X.A.units + 64 < cLine) : OpR X (compareOp .NotEq) (rNeX X.K) := op_ne.or (op_neD hu)
theorem eq_int' : DR2 (rEqX K) (.int i) (.int j) (.bl (decide (i = j))) := dr2_l dr2_eq_int
theorem eq_str' : DR2 (rEqX K) (.str x) (.str y) (.bl (decide (x = y))) := dr2_l dr2_eq_str
theorem ne_str' : DR2 (rNeX K) (.str x) (.str y) (.bl (!decide (x = y))) := dr2_l dr2_ne_str
theorem eq_deep {p q : D} (h1 : isPy p = true) (h2 : isPy q = true) (h3 : SeqAt.shaped (py p) = true) (h4 : SeqAt.shaped (py q) = true) : DR2 (rEqX K) p q (.bl (PyData.eqv (py p) (py q))) := dr2_r (dr2_eqD h1 h2 h3 h4)
theorem ne_deep {p q : D} (h1 : isPy p = true) (h2 : isPy q = true) (h3 : SeqAt.shaped (py p) = true) (h4 : SeqAt.shaped (py q) = true) : DR2 (rNeX K) p q (.bl (!PyData.eqv (py p) (py q))) := dr2_r (dr2_neD h1 h2 h3 h4)
abbrev rLtS : R2 := fun x y H Q => ∃ i j, x = .str i ∧ y = .str j ∧ Q (.bl (decide (i.cps.toList < j.cps.toList))) H
theorem opLt : OpR X (compareOp .Lt) (rOr (rI0 fun i j => .bl (decide (i < j))) rLtS) := op_lt.or op_lt_str
theorem lt_int' : DR2 (rOr (rI0 fun i j => .bl (decide (i < j))) rLtS) (.int i) (.int j) (.bl (decide (i < j))) := dr2_l dr2_lt
theorem lt_str' : DR2 (rOr (rI0 fun i j => .bl (decide (i < j))) rLtS) (.str x) (.str y) (.bl (decide (x.cps.toList < y.cps.toList))) := dr2_r (dr2_flat fun W u v Q a b k => ⟨x, y, a, b, k _ rfl⟩)
theorem opLe : OpR X (compareOp .LtE) (rI0 fun i j => .bl (decide (i ≤ j))) := op_le
theorem opGt : OpR X (compareOp .Gt) (rI0 fun i j => .bl (decide (j < i))) := op_gt
theorem opGe : OpR X (compareOp .GtE) (rI0 fun i j => .bl (decide (j ≤ i))) := op_ge
abbrev rInS : R2 := fun x y H Q => ∃ i j, x = .str i ∧ y = .str j ∧ Q (.bl (!(Builtin.Str.occurrences j i 0 j.length 1).isEmpty)) H
abbrev rNinS : R2 := fun x y H Q => ∃ i j, x = .str i ∧ y = .str j ∧ Q (.bl (!(!(Builtin.Str.occurrences j i 0 j.length 1).isEmpty))) H
theorem opIn : OpR X (compareOp .In) (rOr (rIn X.K false) rInS) := op_in_seq.or op_in_str
theorem opNotIn : OpR X (compareOp .NotIn) (rOr (rIn X.K true) rNinS) := op_notIn_seq.or op_notin_str
theorem in_str' : DR2 (rOr (rIn K false) rInS) (.str x) (.str y) (.bl (!(Builtin.Str.occurrences y x 0 y.length 1).isEmpty)) := dr2_r (dr2_flat fun W u v Q a b k => ⟨x, y, a, b, k _ rfl⟩)
/-- scalars -/
def isSc : D → Bool
  | .non => true | .bl _ => true | .int _ => true | .str _ => true | _ => false
def scV : D → V
  | .non => .non | .bl b => .bl b | .int i => .int i | .str x => .str x | _ => .non
theorem rep_sc {W : Wd} {d : D} {v : V} (h : isSc d = true) (r : Rep W d v) : v = scV d := by
  cases d <;> first | exact r | exact absurd (show false = true from h) Bool.false_ne_true
theorem repL_sc {W : Wd} : ∀ {ds : List D} {vs : List V}, ds.all isSc = true → RepL W ds vs → vs = ds.map scV
  | [], _, _, h => h
  | d :: ds, _, p, ⟨v, r, e, h1, h2⟩ => by
    have p' : isSc d = true ∧ ds.all isSc = true := by simpa using p
    rw [e, rep_sc p'.1 h1, repL_sc p'.2 h2]; rfl
theorem flat_sc {d : D} (h : isSc d = true) : flatV (scV d) = true := by
  cases d <;> first | rfl | exact absurd (show false = true from h) Bool.false_ne_true
theorem flats_sc : ∀ {ds : List D}, ds.all isSc = true → (ds.map scV).all flatV = true
  | [], _ => rfl
  | d :: ds, p => by
    have p' : isSc d = true ∧ ds.all isSc = true := by simpa using p
    rw [List.map_cons, List.all_cons, flat_sc p'.1, flats_sc p'.2]; rfl
theorem ev_in {neg : Bool} {r' : R2} (ha : Ev ta Γ d) (hb : EvB tb Γ ds) (s1 : isSc d = true) (s2 : ds.all isSc = true) : Ev (tOp (rOr (rIn K neg) r') ta tb) Γ (.bl (if neg then !inV (scV d) (ds.map scV) else inV (scV d) (ds.map scV))) := fun F σ W Q g k =>
  ha F σ W _ g fun v H s r => hb F σ (W.at H) _ (g.same s) fun p vs H' s' e l => .inl ⟨p, vs, rfl, .inl (.of e), by rw [rep_sc s1 r]; exact flat_sc s1, by rw [repL_sc s2 l]; exact flats_sc s2, by
    rw [rep_sc s1 r, repL_sc s2 l]
    exact k _ H' (Same.trans s s') rfl⟩
theorem ev_inT {neg : Bool} {r' : R2} (ha : Ev ta Γ d) (hb : Ev tb Γ (.tup ds)) (s1 : isSc d = true) (s2 : ds.all isSc = true) : Ev (tOp (rOr (rIn K neg) r') ta tb) Γ (.bl (if neg then !inV (scV d) (ds.map scV) else inV (scV d) (ds.map scV))) := fun F σ W Q g k =>
  ha F σ W _ g fun v H s r => hb F σ (W.at H) _ (g.same s) fun u H' s' ⟨p, vs, eu, e, nu, l⟩ => .inl ⟨p, vs, eu, .inr e.sq, by rw [rep_sc s1 r]; exact flat_sc s1, by rw [repL_sc s2 l]; exact flats_sc s2, by
    rw [rep_sc s1 r, repL_sc s2 l]
    exact k _ H' (Same.trans s s') rfl⟩
/-! ### len, items, slices -/
abbrev rLen (K : PySem.W.Frag) : List V → Hp → VK → Prop := fun xs H Q => (∃ p ys, xs = [.ref p] ∧ (SqL K H p ys ∨ SqT K H p ys) ∧ Q (.int ys.length) H) ∨ ∃ z, xs = [.str z] ∧ z.length ≤ sizeLine ∧ Q (.int z.length) H
theorem opLen : CallR X (.builtin "len") (rLen X.K) := call_len_seq.or call_len_str
theorem ev_len (h : EvB ta Γ ds) : Ev (tCB (rLen K) (tCons ta tNil)) Γ (.int ds.length) := fun F σ W Q g k => h F σ W _ g fun p vs H s e l => .inl ⟨p, vs, rfl, .inl (.of e), k _ H s (by rw [l.length]; rfl)⟩
theorem ev_lenT (h : Ev ta Γ (.tup ds)) : Ev (tCB (rLen K) (tCons ta tNil)) Γ (.int ds.length) := fun F σ W Q g k => h F σ W _ g fun u H s ⟨p, vs, eu, e, nu, l⟩ => .inl ⟨p, vs, by rw [eu], .inr e.sq, k _ H s (by rw [l.length]; rfl)⟩
theorem ev_lenS (h : Ev ta Γ (.str x)) (hz : x.length ≤ sizeLine) : Ev (tCB (rLen K) (tCons ta tNil)) Γ (.int x.length) := fun F σ W Q g k => h F σ W _ g fun u H s r => .inr ⟨x, by rw [show u = V.str x from r], hz, k _ H s rfl⟩
theorem atI_rep {W : Wd} {vs : List V} (l : RepL W ds vs) (h : atI ds i = some d) : ∃ v, atI vs i = some v ∧ Rep W d v := by
  unfold atI at h ⊢
  rw [← l.length]
  cases q : ixN ds.length i with
  | none => rw [q] at h; cases h
  | some k =>
    rw [q] at h
    obtain ⟨v, e, r⟩ := l.get (i := k) h
    exact ⟨v, e, r⟩
theorem ev_ix (ha : EvB ta Γ ds) (hb : Ev tb Γ (.int i)) (h : atI ds i = some d) : Ev (tOp (rIx K) ta tb) Γ d := fun F σ W Q g k => ha F σ W _ g fun p vs H s e l => hb F σ (W.at H) _ (g.same s) fun u H' s' r => by
  obtain ⟨v, ev, rv⟩ := atI_rep (RepL.same (W := W.at H) s' l) h
  exact .inl ⟨p, vs, i, v, rfl, r, .of (s' _ _ e), ev, k v H' (Same.trans s s') rv⟩
theorem ev_ixT (ha : Ev ta Γ (.tup ds)) (hb : Ev tb Γ (.int i)) (h : atI ds i = some d) : Ev (tOp (rIx K) ta tb) Γ d := fun F σ W Q g k => ha F σ W _ g fun u H s ⟨p, vs, eu, e, nu, l⟩ => hb F σ (W.at H) _ (g.same s) fun u H' s' r => by
  obtain ⟨v, ev, rv⟩ := atI_rep (RepL.same (W := W.at H) s' l) h
  exact .inr (.inl ⟨p, vs, i, v, eu, r, (e.same s').sq, ev, k v H' (Same.trans s s') rv⟩)
theorem dr2_ixS {z : Nat} (hl : x.length ≤ sizeLine) (h : atI x.cps.toList i = some z) : DR2 (rIx K) (.str x) (.int i) (.str ⟨#[z]⟩) := dr2_flat fun W u v Q a b k => .inr (.inr ⟨x, i, z, a, b, hl, h, k _ rfl⟩)
/-! ### iterators -/
theorem pi_or {tg iter : Expr} {w1 w2 : TI} (h1 : PI X tg iter w1) (h2 : PI X tg iter w2) : PI X tg iter (fun σ H R => w1 σ H R ∨ w2 σ H R) :=
  ⟨fun pins s σ H R I h => h.elim (h1.run pins s σ H R I) (h2.run pins s σ H R I)⟩
abbrev iAny (K : PySem.W.Frag) (t : TE) : TI := fun σ H R => iList K t σ H R ∨ (fun σ H R => iTup K t σ H R ∨ iStr t σ H R) σ H R
theorem pi_any {tg : Expr} (h : PE X e te) : PI X tg e (iAny X.K te) := pi_or (pi_list h) (pi_or (pi_tup h) (pi_str h))
theorem ei_l {w1 w2 : TI} {xs : List D} (h : Ei w1 Γ xs) : Ei (fun σ H R => w1 σ H R ∨ w2 σ H R) Γ xs := fun F σ W R g k => .inl (h F σ W R g k)
theorem ei_r {w1 w2 : TI} {xs : List D} (h : Ei w2 Γ xs) : Ei (fun σ H R => w1 σ H R ∨ w2 σ H R) Γ xs := fun F σ W R g k => .inr (h F σ W R g k)
theorem di_l {w1 w2 : TI} {Q : List D → Gam → Prop} (h : Di w1 Γ Q) : Di (fun σ H R => w1 σ H R ∨ w2 σ H R) Γ Q := fun F σ W R g k => .inl (h F σ W R g k)
theorem di_r {w1 w2 : TI} {Q : List D → Gam → Prop} (h : Di w2 Γ Q) : Di (fun σ H R => w1 σ H R ∨ w2 σ H R) Γ Q := fun F σ W R g k => .inr (h F σ W R g k)
theorem eia_list {xs : List D} (h : EvB te Γ xs) : Ei (iAny K te) Γ xs := ei_l (ei_list h)
theorem eia_tup {xs : List D} (h : Ev te Γ (.tup xs)) : Ei (iAny K te) Γ xs := ei_r (ei_l (ei_tup h))
theorem dia_list {Q : List D → Gam → Prop} (h : Dl te Γ fun d Γ1 => ∃ xs, d = .lst xs ∧ Q xs Γ1) : Di (iAny K te) Γ Q := di_l (di_list h)
theorem dia_tup {Q : List D → Gam → Prop} (h : Dl te Γ fun d Γ1 => ∃ xs, d = .tup xs ∧ Q xs Γ1) : Di (iAny K te) Γ Q := di_r (di_l (di_tup h))
theorem signs_get {x : Str} {i : Nat} {d : D} (h : (signs x)[i]? = some d) : i < x.cps.size ∧ ∃ c, x.cps[i]? = some c ∧ d = .str ⟨#[c]⟩ := by
  unfold signs at h
  rw [List.getElem?_map, Array.getElem?_toList] at h
  cases q : x.cps[i]? with
  | none => rw [q] at h; cases h
  | some c =>
    rw [q] at h
    have hl := (Array.getElem?_eq_some_iff.mp q).1
    exact ⟨hl, c, rfl, (Option.some.inj h).symm⟩
theorem signs_length (x : Str) : (signs x).length = x.cps.size := by simp [signs]
theorem ei_str (h : Ev te Γ (.str x)) : Ei (iStr te) Γ (signs x) := fun F σ W R g k => h F σ W _ g fun v H s r => ⟨x, r, k (Its x) H s ⟨fun W1 i d dm sm ku pu hx => by
  obtain ⟨hi, c, hc, rfl⟩ := signs_get hx
  refine ⟨hi, fun v H' ⟨e, c', hc', ev⟩ => ?_⟩
  rw [hc] at hc'; cases hc'
  subst e ev
  exact ⟨Same.refl _, rfl⟩, fun H2 s2 => by rw [signs_length]; exact Nat.le_refl _⟩⟩
theorem eia_str (h : Ev te Γ (.str x)) : Ei (iAny K te) Γ (signs x) := ei_r (ei_r (ei_str h))
/-! ### builtins over lists -/
theorem ev_all {bs : List Bool} (h : EvB ta Γ (bs.map D.bl)) : Ev (tCB (rAll K) (tCons ta tNil)) Γ (.bl (bs.all id)) := fun F σ W Q g k => h F σ W _ g fun p vs H s e l => ⟨p, bs, rfl, .of (by rw [e, RepL.bls.mp l]), k _ H s rfl⟩
theorem dl_all {Q : D → Gam → Prop} (h : Dl ta Γ fun d Γ1 => ∃ bs : List Bool, d = .lst (bs.map D.bl) ∧ Q (.bl (bs.all id)) Γ1) : Dl (tCB (rAll K) (tCons ta tNil)) Γ Q := fun F σ W R g k => h F σ W _ g fun v W1 d Γ1 st g1 r ⟨bs, e, q⟩ => by
  subst e
  obtain ⟨p, vs, rfl, e, nu, l⟩ := r
  exact ⟨p, bs, rfl, .of (by rw [e, RepL.bls.mp l]), k _ W1 (.bl (bs.all id)) Γ1 st g1 rfl q⟩
theorem ev_any {bs : List Bool} (h : EvB ta Γ (bs.map D.bl)) : Ev (tCB (rAny K) (tCons ta tNil)) Γ (.bl (bs.any id)) := fun F σ W Q g k => h F σ W _ g fun p vs H s e l => ⟨p, bs, rfl, .of (by rw [e, RepL.bls.mp l]), k _ H s rfl⟩
/-- sep.join(xs) -/
abbrev rJoin (K : PySem.W.Frag) : V → List V → Hp → VK → Prop := fun x xs H Q => ∃ a p, ∃ ys : List Str, x = .str a ∧ xs = [.ref p] ∧ (SqL K H p (ys.map V.str) ∨ SqT K H p (ys.map V.str)) ∧
      (ys.map (·.length)).sum + ys.length * a.length ≤ 16777216 ∧ Q (.str (Txt.join a ys)) H
theorem ev_join {ys : List Str} (ha : Ev ta Γ (.str x)) (hb : EvB tb Γ (ys.map D.str)) (hz : (ys.map (·.length)).sum + ys.length * x.length ≤ 16777216) : Ev (tM1 (rJoin K) ta tb) Γ (.str (Txt.join x ys)) := fun F σ W Q g k =>
  ha F σ W _ g fun v H s r => ⟨⟨x, r⟩, hb F σ (W.at H) _ (g.same s) fun p vs H' s' e l => ⟨x, p, ys, r, rfl, .inl (.of (by rw [e, RepL.strs.mp l])), hz, k _ H' (Same.trans s s') rfl⟩⟩
theorem dl_join {Q : D → Gam → Prop} (ha : Ev ta Γ (.str x)) (hb : Dl tb Γ fun d Γ1 => ∃ ys : List Str, d = .lst (ys.map D.str) ∧ (ys.map (·.length)).sum + ys.length * x.length ≤ 16777216 ∧ Q (.str (Txt.join x ys)) Γ1) : Dl (tM1 (rJoin K) ta tb) Γ Q := fun F σ W R g k =>
  ha F σ W _ g fun v H s r => ⟨⟨x, r⟩, hb F σ (W.at H) _ (g.same s) fun u W2 d Γ1 st g1 rd ⟨ys, e, hz, q⟩ => by
    subst e
    obtain ⟨p, vs, rfl, e, nu, l⟩ := rd
    exact ⟨x, p, ys, r, rfl, .inl (.of (e.trans (by rw [RepL.strs.mp l]))), hz, k _ W2 (.str (Txt.join x ys)) Γ1 ((Stp.of_same g.ok s).trans st) g1 rfl q⟩⟩
/-- list(range(n)) -/
theorem evn_listRg {n : Nat} (h : Ev ta Γ (.int n)) (hn : n ≤ 16777216) : EvN (tLstRg (tRg1 ta)) Γ (rng n) := fun F σ W Q g k => h F σ W _ g fun v H s r => ⟨n, r, RgOk.of_le (by omega) (by omega) (by omega) (by omega), fun q hq => by
  have e : rgV 0 n = (rng n).map scV := by
    unfold rgV rng
    rw [List.map_map]
    refine List.map_congr_left fun i _ => ?_
    show V.int (0 + (i : Int)) = V.int i
    rw [Int.zero_add]
  have l : RepL (W.at H) (rng n) (rgV 0 n) := by
    have := (RepL.ints (W := W.at H) (ns := (List.range n).map fun (i : Nat) => (i : Int)) (vs := rgV 0 n)).mpr (by
      rw [e]; unfold rng; rw [List.map_map, List.map_map]; rfl)
    rw [List.map_map] at this
    exact this
  exact k q _ _ (Same.trans s (same_upd hq)) (s.free hq) upd_same (RepL.plus (W := W.at H) hq (same_upd hq) l)⟩
/-- list(xs), tuple(xs) -/
abbrev rListOf (K : PySem.W.Frag) : List V → Hp → VK → Prop := fun xs H Q => ∃ p ys, xs = [.ref p] ∧ (SqL K H p ys ∨ SqT K H p ys) ∧ ∀ l, H l = none → Q (.ref l) (upd H l (.lst ys))
theorem evn_list (h : EvB ta Γ ds) : EvN (tCB (rListOf K) (tCons ta tNil)) Γ ds := fun F σ W Q g k => h F σ W _ g fun p vs H s e l => ⟨p, vs, rfl, .inl (.of e), fun n hn => k n vs _ (Same.trans s (same_upd hn)) (s.free hn) upd_same (RepL.plus (W := W.at H) hn (same_upd hn) l)⟩
abbrev rTupleOf (K : PySem.W.Frag) : List V → Hp → VK → Prop := fun xs H Q => ∃ p ys, xs = [.ref p] ∧ ((SqL K H p ys ∧ ∀ l, H l = none → Q (.ref l) (upd H l (.tup ys))) ∨ (SqT K H p ys ∧ Q (.ref p) H))
theorem ev_tuple (h : EvB ta Γ ds) : Ev (tCB (rTupleOf K) (tCons ta tNil)) Γ (.tup ds) := fun F σ W Q g k => h F σ W _ g fun p vs H s e l => ⟨p, vs, rfl, .inl ⟨.of e, fun n hn => k _ _ (Same.trans s (same_upd hn)) (rep_new_tup (W := W.at H) (g.same s).ok.dom hn l)⟩⟩
/-- sorted(texts) -/
theorem dl_sortedS {Q : D → Gam → Prop} {r' : List V → Hp → VK → Prop} (h : Dl ta Γ fun d Γ1 => ∃ ys : List Str, d = .lst (ys.map D.str) ∧ ys.length < 64 ∧ ∀ zs : List Str, zs.Perm ys → sortedS zs = true → Q (.lst (zs.map D.str)) Γ1) :
    Dl (tCB (fun xs H Q => r' xs H Q ∨ rSortedS K xs H Q) (tCons ta tNil)) Γ Q := fun F σ W R g k => h F σ W _ g fun v W1 d Γ1 st g1 r ⟨ys, e, hz, q⟩ => by
  subst e
  obtain ⟨p, vs, rfl, e, nu, l⟩ := r
  refine .inr ⟨p, ys, rfl, .of (by rw [e, RepL.strs.mp l]), hz, fun zs n hp hs hn => ?_⟩
  exact k _ (W1.at _) (.lst (zs.map D.str)) Γ1 (st.trans (Stp.of_same g1.ok (same_upd hn))) (g1.same (same_upd hn)) (rep_new_lst g1.ok.dom hn (RepL.strs.mpr rfl)) (q zs hp hs)
theorem opSorted {X : Cx} : CallR X (.builtin "sorted") (fun xs H Q => rSorted X.K xs H Q ∨ rSortedS X.K xs H Q) := cr_sorted.or cr_sortedS
end
end Dw

/-! Rules of the machine that the hand layer lacks: f(k = v) by keywords alone, an attribute as a target within a tuple, count of flat things. -/
namespace Dw
open PySem PySem.Spec PyProof.Rows L2
variable [Tabs0]
section
variable {X : Cx} {CX : CXT} {k : Nat} {f C : Addr} {fd : FuncData} {ps ks : List Str} {sp : Sp} {E : XK} {x m : Str} {p pos apos kpos : Pos} {e o : Expr} {es : List Expr} {kws : List Keyword} {te ta : TE} {t tk : TA} {nm : Option Str}
variable {g : List Value → List Value → List Value} {gV : List V → List V → List V}
end
section
variable {X : Cx} {o : Expr} {f : Str} {pos : Pos} {ta : TE}
/-- x.f as a target -/
def gFld (K : PySem.W.Frag) (ta : TE) (f : Str) : TG := fun y σ H Q => ta σ H fun x H2 => ∃ a C dx fs, x = .ref a ∧ H2 a = some (.ins C dx fs) ∧ Cls K C ∧ NoAttr K C f ∧ fs.length < 1000 ∧ Q σ (upd H2 a (.ins C dx (putF f y fs)))
theorem pg_fld (ha : PE X o ta)
    (hs : ∀ v, assign (.Attribute o f pos) X.env v = (do
      let ov ← holding [v] (eval o X.env)
      standAt pos
      holding [v, ov] (setAttr ov f v)
      release [v, ov] []) := by intro _; rfl) : PG X (.Attribute o f pos) (gFld X.K ta f) := by
  refine ⟨fun pins s σ H v u Q I r h => ?_⟩
  rw [hs]
  refine wpAny_bind (wpAny_holding (thn (ha.run pins s σ H _ I h) fun ov s1 ⟨x, H2, I2, rx, a, C, dx, fs, ex, ea, c, n, l, q2⟩ => ?_))
  subst ex
  obtain rfl : ov = Value.ref a := rx
  refine wpAny_bind (wpAny_standAt (wpAny_bind (wpAny_holding ?_)))
  exact setattr_ok I2 ea c n l r fun s3 I3 => wpAny_release ⟨σ, _, I3, q2⟩
end
end Dw

/-! The same rules with the written part K named (within a comprehension's block it is the def's). -/
namespace Dw
open PySem PySem.Spec PyProof.Rows L2
variable [Tabs0]
section
variable {X : Cx} {K : PySem.W.Frag} {e : Expr} {te ta tb : TE} {pos apos : Pos} {tg o i a : Expr} {t : TA}
theorem ixA (K : PySem.W.Frag) (hK : X.K = K := by rfl) : IxR X (rIx K) := hK ▸ ix_seq
theorem eqA (K : PySem.W.Frag) (hu : X.A.units + 64 < cLine) (hK : X.K = K := by rfl) : OpR X (compareOp .Eq) (rEqX K) := hK ▸ opEq hu
theorem neA (K : PySem.W.Frag) (hu : X.A.units + 64 < cLine) (hK : X.K = K := by rfl) : OpR X (compareOp .NotEq) (rNeX K) := hK ▸ opNe hu
theorem inA (K : PySem.W.Frag) (hK : X.K = K := by rfl) : OpR X (compareOp .In) (rOr (rIn K false) rInS) := hK ▸ opIn
theorem ninA (K : PySem.W.Frag) (hK : X.K = K := by rfl) : OpR X (compareOp .NotIn) (rOr (rIn K true) rNinS) := hK ▸ opNotIn
theorem lenA (K : PySem.W.Frag) (hK : X.K = K := by rfl) : CallR X (.builtin "len") (rLen K) := hK ▸ opLen
theorem allA (K : PySem.W.Frag) (hc : X.calm = true := by rfl) (hK : X.K = K := by rfl) : CallR X (.builtin "all") (rAll K) := hK ▸ cr_all hc
theorem anyA (K : PySem.W.Frag) (hc : X.calm = true := by rfl) (hK : X.K = K := by rfl) : CallR X (.builtin "any") (rAny K) := hK ▸ cr_any hc
theorem sumA (K : PySem.W.Frag) (hc : X.calm = true := by rfl) (hK : X.K = K := by rfl) : CallR X (.builtin "sum") (rSum K) := hK ▸ cr_sum hc
abbrev rSortedX (K : PySem.W.Frag) : List V → Hp → VK → Prop := fun xs H Q => rSorted K xs H Q ∨ rSortedS K xs H Q
theorem sortedA (K : PySem.W.Frag) (hK : X.K = K := by rfl) : CallR X (.builtin "sorted") (rSortedX K) := hK ▸ opSorted
theorem isiA (K : PySem.W.Frag) (hK : X.K = K := by rfl) : CallR X (.builtin "isinstance") (rIsi K) := hK ▸ call_isi
theorem listA (K : PySem.W.Frag) (hK : X.K = K := by rfl) : CallR X (.type "list") (rListOf K) := hK ▸ call_list_of
theorem tupleA (K : PySem.W.Frag) (hK : X.K = K := by rfl) : CallR X (.type "tuple") (rTupleOf K) := hK ▸ call_tuple_of
theorem indexA (K : PySem.W.Frag) (hK : X.K = K := by rfl) : MtR X "list.index" (rIndex K) := hK ▸ mt_index
theorem joinA (K : PySem.W.Frag) (ho : PE X o ta) (he : PE X e te) (hK : X.K = K := by rfl) (hs : starEach [e] X.env = [(false, eval e X.env)] := by rfl) (hbase : attributeBase o "join" X.env (eval o X.env) = eval o X.env := by rfl) (hline : (apos.endLine == pos.line) = true := by rfl) :
    PE X (.Call (.Attribute o "join" apos) [e] [] pos) (tM1 (rJoin K) ta te) := hK ▸ pe_join ho he hs hbase hline
theorem notA (K : PySem.W.Frag) (ha : PE X a ta) (hK : X.K = K := by rfl) : PE X (.UnaryOp .Not a pos) (tNotT K ta) := hK ▸ pe_notT ha
theorem fldA (K : PySem.W.Frag) {f : Str} (he : PE X e ta) (hK : X.K = K := by rfl) (hb : attributeBase e f X.env (eval e X.env) = eval e X.env := by rfl) : PE X (.Attribute e f pos) (tFld K ta f) := hK ▸ pe_fld he hb
theorem truA (K : PySem.W.Frag) (ha : PE X a ta) (hK : X.K = K := by rfl) (he : ∀ whole, isTrue a X.env whole = (do let v ← whole; standAt a.pos; holding [v] (truthy v)) := by intro _; rfl) : PT X a (tTru K ta) := by
  subst hK; exact pt_truth ha he
end
end Dw

/-! Lists of texts as data: their shape, their equality. -/
namespace Dw
open PySem PySem.Spec PyProof.Rows L2
variable [Tabs0]
def okS (x : Str) : Prop := PyData.strOk x = true
theorem canLay_strs : ∀ {xs : List Str}, (∀ x ∈ xs, okS x) → PyData.canLayAll0 (pys (xs.map D.str)) = true
  | [], _ => rfl
  | x :: xs, h => by
    show (PyData.strOk x && PyData.canLayAll0 (pys (xs.map D.str))) = true
    rw [show PyData.strOk x = true from h x List.mem_cons_self, canLay_strs fun y hy => h y (List.mem_cons_of_mem _ hy)]; rfl
theorem depth_strs : ∀ xs : List Str, PyData.depthAll (pys (xs.map D.str)) = 0
  | [] => rfl
  | x :: xs => by
    show max 0 (PyData.depthAll (pys (xs.map D.str))) = 0
    rw [depth_strs xs]; rfl
theorem isPys_strs : ∀ xs : List Str, isPys (xs.map D.str) = true
  | [] => rfl
  | x :: xs => by
    show (true && isPys (xs.map D.str)) = true
    rw [isPys_strs xs]; rfl
theorem shaped_lst {xs : List Str} (h : ∀ x ∈ xs, okS x) : SeqAt.shaped (py (.lst (xs.map D.str))) = true := by
  show (PyData.canLayAll0 (pys (xs.map D.str)) && decide (PyData.depthAll (pys (xs.map D.str)) + 1 ≤ 64)) = true
  rw [canLay_strs h, depth_strs]; rfl
theorem eqv_strs : ∀ xs ys : List Str, PyData.eqvAll (pys (xs.map D.str)) (pys (ys.map D.str)) = decide (xs = ys)
  | [], [] => rfl
  | [], y :: ys => by
    show false = _
    simp
  | x :: xs, [] => by
    show false = _
    simp
  | x :: xs, y :: ys => by
    show ((x == y) && PyData.eqvAll (pys (xs.map D.str)) (pys (ys.map D.str))) = _
    rw [eqv_strs xs ys, Bool.eq_iff_iff]
    simp
section
variable {K : PySem.W.Frag} {xs ys : List Str} {ta tb : TE} {Γ : Gam}
theorem eq_strsL (h1 : ∀ x ∈ xs, okS x) (h2 : ∀ x ∈ ys, okS x) : DR2 (rEqX K) (.lst (xs.map D.str)) (.lst (ys.map D.str)) (.bl (decide (xs = ys))) := by
  have := eq_deep (K := K) (p := .lst (xs.map D.str)) (q := .lst (ys.map D.str)) (isPys_strs xs) (isPys_strs ys) (shaped_lst h1) (shaped_lst h2)
  rw [show PyData.eqv (py (.lst (xs.map D.str))) (py (.lst (ys.map D.str))) = PyData.eqvAll (pys (xs.map D.str)) (pys (ys.map D.str)) from rfl, eqv_strs] at this
  exact this
end
/-- a text of one sign -/
def ch (c : Nat) : Str := ⟨#[c]⟩
theorem ch_eq {a b : Nat} : ch a = ch b ↔ a = b := by
  constructor
  · intro h
    have : (#[a] : Array Nat) = #[b] := congrArg Str.cps h
    simpa using this
  · rintro rfl; rfl
theorem okS_ch {c : Nat} (h : c < 1114112) : okS (ch c) := by
  show (#[c] : Array Nat).all (fun x => decide (x < 0x110000)) = true
  simp [h]
/-- a text of its codes -/
def tx (l : List Nat) : Str := ⟨l.toArray⟩
theorem tx_len (l : List Nat) : (tx l).length = l.length := by show l.toArray.size = _; simp
theorem tx_cps (l : List Nat) : (tx l).cps.toList = l := by show l.toArray.toList = l; simp
theorem tx_eq {a b : List Nat} : tx a = tx b ↔ a = b := by
  constructor
  · intro h
    have := congrArg (fun x : Str => x.cps.toList) h
    simpa [tx_cps] using this
  · rintro rfl; rfl
theorem okS_tx {l : List Nat} (h : ∀ c ∈ l, c < 1114112) : okS (tx l) := by
  show l.toArray.all (fun x => decide (x < 0x110000)) = true
  simp
  exact h
theorem of_tx (x : Str) : x = tx x.cps.toList := by
  obtain ⟨⟨l⟩⟩ := x
  rfl
theorem tx_append (a b : List Nat) : tx a ++ tx b = tx (a ++ b) := by
  show (⟨a.toArray ++ b.toArray⟩ : Str) = ⟨(a ++ b).toArray⟩
  simp
theorem signs_tx (l : List Nat) : signs (tx l) = (l.map ch).map D.str := by
  unfold signs
  rw [tx_cps, List.map_map]
  rfl
end Dw

/-! More rules of the machine: () + t, a range that is kept, enumerate of a tuple, first, *rest = a list. -/
namespace Dw
open PySem PySem.Spec PyProof.Rows L2
variable [Tabs0]
section
variable {X : Cx}
/-! ### () + t -/
abbrev rCatE (K : PySem.W.Frag) : R2 := fun x y H Q => ∃ a b ys, x = .ref a ∧ y = .ref b ∧ SqT K H a [] ∧ SqT K H b ys ∧ Q (.ref b) H
theorem op_catE : OpR X (binaryOp .Add) (rCatE X.K) := by
  intro pins s σ H x y v u Q I rx ry ⟨a, b, ys, ex, ey, ha, hb, q⟩
  subst ex; subst ey
  cases rx; cases ry
  obtain ⟨i1, v1, t1, _⟩ := I.tuple ha
  obtain ⟨i2, v2, t2, _⟩ := I.tuple hb
  cases v1
  obtain ⟨o1, g1, c1, n1, d1⟩ := t1
  obtain ⟨o2, g2, c2, n2, d2⟩ := t2
  obtain ⟨oc1, od1, da1, sl1⟩ := o1
  obtain ⟨oc2, od2, da2, sl2⟩ := o2
  simp only at c1 d1 c2 d2
  subst c1; subst d1; subst c2; subst d2
  exact concat_meets ⟨_, g1, rfl⟩ ⟨_, g2, rfl⟩ noFill_tuple_add seq_tuple_add PySem.F.slot_tuple_add PySem.F.entry_tuple_add
    (PySem.F.args_tuple_add_2 _ _) (tuple_addW0 a b _ _ n1 n2 od1 od2 sl1 sl2 rfl) ⟨g1, g2, ⟨.ref b, H, I, rfl, q⟩⟩
abbrev rPlusE (K : PySem.W.Frag) : R2 := rOr (rPlus K) (rCatE K)
theorem plusE (K : PySem.W.Frag) (hK : X.K = K := by rfl) : OpR X (binaryOp .Add) (rPlusE K) := hK ▸ opPlus.or op_catE
variable {K : PySem.W.Frag} {ds es : List D} {i j : Int} {x y : Str} {ta tb : TE} {Γ : Gam}
theorem pl_int : DR2 (rPlusE K) (.int i) (.int j) (.int (i + j)) := dr2_l plus_int
theorem pl_str (h : x.length + y.length ≤ sizeLine) : DR2 (rPlusE K) (.str x) (.str y) (.str (x ++ y)) := dr2_l (plus_str h)
theorem pl_tup (h : ds.length + es.length ≤ sizeLine) : DR2 (rPlusE K) (.tup ds) (.tup es) (.tup (ds ++ es)) := by
  by_cases n : ds = []
  · subst n
    exact dr2_r (dr2_flat fun W u v Q ⟨a, vs, e1, h1, n1, l1⟩ b k => by
      obtain ⟨c, ws, e2, h2, n2, l2⟩ := id b
      rw [show vs = [] from l1] at h1
      exact ⟨a, c, ws, e1, e2, h1.sq, h2.sq, by rw [← e2]; exact k v b⟩)
  · exact dr2_l (plus_tup n h)
theorem pl_evn (ha : EvB ta Γ ds) (hb : EvB tb Γ es) (h : ds.length + es.length ≤ sizeLine) : EvN (tOp (rPlusE K) ta tb) Γ (ds ++ es) := fun F σ W Q g k => ha F σ W _ g fun p vs H s e l => hb F σ (W.at H) _ (g.same s) fun q ws H' s' e' l' =>
  .inl (.inr (.inr (.inl ⟨p, q, vs, ws, rfl, rfl, s' _ _ e, e', by rw [← l.length, ← l'.length]; exact h, fun n hn =>
    k n (vs ++ ws) _ (Same.trans s (Same.trans s' (same_upd hn))) (s.free (s'.free hn)) upd_same (RepL.plus (W := W.at H') hn (same_upd hn) ((RepL.same (W := W.at H) s' l).append l'))⟩)))

/-! ### range(n), kept -/
def tRgO (ta : TA) : TE := fun σ H Q => ta σ H fun vs H1 => ∃ z : Int, vs = [.int z] ∧ ∀ p, H1 p = none → Q (.ref p) (upd H1 p (.rng 0 z))
theorem pe_range {a : Expr} {ta : TA} {p pos : Pos} (hg : Gl X "range") (hm : X.mg "range" = none) (ha : PA X [a] ta) (hs : starEach [a] X.env = [(false, eval a X.env)] := by rfl) : PE X (.Call (.Name "range" p) [a] [] pos) (tRgO ta) := by
  refine ⟨fun pins s σ H Q I h => ?_⟩
  refine Call_ (ld_blt I hg hm boot_range (callWith_type1 (thn (ha.run pos pins s σ H _ I h) fun us s1 ⟨vs, H1, I1, r1, q1⟩ => ?_) hs rfl))
  obtain ⟨z, ez, q⟩ := q1
  subst ez
  obtain ⟨u, eu, t, et⟩ := vals1 r1
  subst eu; subst et
  exact call_range_1 ⟨.ref s1.heap.objs.size, upd H1 s1.heap.objs.size (.rng 0 z), I1.laid (fun b o e => Heap.get?_push_of_some _ e) (Nat.le_refl _) ⟨_, _, _, Heap.get?_push_size _ rfl⟩, rfl, q _ (I1.hok.fresh (Nat.le_refl _))⟩
def iRgO (te : TE) : TI := fun σ H R => te σ H fun x H1 => ∃ p lo hi, x = .ref p ∧ H1 p = some (.rng lo hi) ∧ (-(2 ^ 62) ≤ lo ∧ lo < 2 ^ 62 ∧ -(2 ^ 62) ≤ hi ∧ hi < 2 ^ 62) ∧ R (Itr lo (hi - lo).toNat) H1
theorem pi_rgO {tg l : Expr} {te : TE} (hl : PE X l te) : PI X tg l (iRgO te) := by
  refine ⟨fun pins s σ H R I h => thn (hl.run pins s σ H _ I h) fun v s1 ⟨x, H1, I1, r1, q1⟩ => ?_⟩
  obtain ⟨p, lo, hi, ex, hp, ⟨b1, b2, b3, b4⟩, q⟩ := q1
  subst ex
  cases r1
  obtain ⟨t, u, w, hr⟩ := I1.hok p _ hp
  have hr' : IsRange s1.heap p lo hi 1 t u w := hr
  refine wpAny_pyIter_range hr' (small_one b1 b2 b3 b4) ?_
  refine ⟨s1.heap.objs.size, [s1.heap.objs.size], _, _, H1, rfl, I1.kept (t' := s1.toks) fun b o e => Heap.get?_push_of_some _ e, turn_range _ lo (hi - lo).toNat, ?_, fun b hb => ?_, q⟩
  · have e1 : lo + ((0 : Nat) : Int) * 1 = lo := by simp
    have e2 : (((hi - lo).toNat : Nat) : Int) - ((0 : Nat) : Int) = Builtin.Range.rangeSize lo hi 1 := by rw [rangeSize_one]; split <;> omega
    show IsRangeIter _ _ (lo + ((0 : Nat) : Int) * 1) (_ - _) 1
    rw [e1, e2]
    exact Heap.get?_push_size _ rfl
  · obtain rfl : b = s1.heap.objs.size := by simpa using hb
    exact I1.fpOk (Nat.le_refl _) (I1.hok.fresh (Nat.le_refl _))
theorem ev_range {t : TA} {n : Nat} (h : EvA t Γ [.int n]) : Ev (tRgO t) Γ (.rng 0 n) := fun F σ W Q g k => h F σ W _ g fun vs H s ⟨v, _, ev, rv, er⟩ => by
  subst ev; subst er
  exact ⟨n, by rw [show v = V.int n from rv], fun p hp => k _ _ (Same.trans s (same_upd hp)) ⟨p, rfl, upd_same, fun u => (g.same s).ok.dom p u hp⟩⟩
theorem ei_rgO {n : Nat} (h : Ev ta Γ (.rng 0 n)) (hn : n < 2 ^ 62) : Ei (iRgO ta) Γ (rng n) := fun F σ W R g k => h F σ W _ g fun v H s ⟨p, ev, hp, nu⟩ =>
  ⟨p, 0, n, ev, hp, by omega, k (Itr 0 ((n : Int) - 0).toNat) H s ⟨fun W2 i x dm s2 ku pu hx => by
    obtain ⟨hi, rfl⟩ := rng_get hx
    refine ⟨by show i < ((n : Int) - 0).toNat; omega, fun u H' ⟨e, hy⟩ => ?_⟩
    subst e hy
    exact ⟨Same.refl _, by show V.int (0 + (i : Int)) = V.int i; rw [Int.zero_add]⟩, fun H2 s2 => by
      show ((n : Int) - 0).toNat ≤ _
      rw [rng_length]; omega⟩⟩
abbrev iAnyR (K : PySem.W.Frag) (t : TE) : TI := fun σ H R => iAny K t σ H R ∨ iRgO t σ H R
theorem piR (K : PySem.W.Frag) {tg e : Expr} {te : TE} (h : PE X e te) (hK : X.K = K := by rfl) : PI X tg e (iAnyR K te) := hK ▸ pi_or (pi_any h) (pi_rgO h)
theorem ej_list {xs : List D} (h : EvB ta Γ xs) : Ei (iAnyR K ta) Γ xs := ei_l (eia_list h)
theorem ej_tup {xs : List D} (h : Ev ta Γ (.tup xs)) : Ei (iAnyR K ta) Γ xs := ei_l (eia_tup h)
theorem ej_str (h : Ev ta Γ (.str x)) : Ei (iAnyR K ta) Γ (signs x) := ei_l (eia_str h)
theorem ej_rng {n : Nat} (h : Ev ta Γ (.rng 0 n)) (hn : n < 2 ^ 62) : Ei (iAnyR K ta) Γ (rng n) := ei_r (ei_rgO h hn)
theorem dj_list {Q : List D → Gam → Prop} (h : Dl ta Γ fun d Γ1 => ∃ xs, d = .lst xs ∧ Q xs Γ1) : Di (iAnyR K ta) Γ Q := di_l (dia_list h)
theorem dj_tup {Q : List D → Gam → Prop} (h : Dl ta Γ fun d Γ1 => ∃ xs, d = .tup xs ∧ Q xs Γ1) : Di (iAnyR K ta) Γ Q := di_l (dia_tup h)
/-! ### first, *rest = xs -/
theorem unpack_star1 {prog : Program} {w : World} {A : Around} {E : Value → Shared → Prop} {s : Shared} {l : Addr} {b : Value} {its : List Value} {Q : List Value → Shared → Prop} (hl : s.heap.IsList l (b :: its).toArray) (hh : A.handled = none)
    (hz : its.length ≤ 16000) (h : ∀ (h1 : Heap) (tk : Nat), (∀ c o, s.heap.get? c = some o → h1.get? c = some o) → Q [b, .ref h1.objs.size] { s with heap := h1.push { cls := .type "list", data := .seq its.toArray }, toks := tk }) :
    wpAny (model prog w) A (unpackItems (.ref l) 2 (some 1)) Q E s := by
  have lt : l < s.heap.objs.size := by obtain ⟨o, ho, _⟩ := hl; exact Heap.lt_size ho
  have ne : l ≠ s.heap.objs.size := Nat.ne_of_lt lt
  unfold unpackItems notIterableAtAll
  refine wpAny_bind (wpAny_bind (wpAny_specialOf hl.typeIs slot_list_iter.lookup (wpAny_pure ?_)))
  simp only [Bool.false_eq_true, if_false]
  refine wpAny_bind (wpAny_holding (wpAny_pyIter_list hl ?_))
  refine wpAny_bind (wpAny_holding (PySem.W.kun_draw ne 1 0 _ _ ⟨_, Heap.get?_push_size _ rfl, rfl, rfl⟩ (hl.push _) (by simp) fun ha hit hs => ?_))
  have hla : ha.IsList l (b :: its).toArray := (hl.push _).extBut hs.extBut ne
  rw [Nat.zero_add] at hit
  obtain ⟨oi, hoi, _⟩ := id hit
  obtain ⟨ol, hol, _⟩ := id hla
  rw [if_neg (show ¬ (((b :: its).toArray.toList.drop 0).take 1).length < 1 by simp)]
  refine wpAny_bind (wpAny_holding (PySem.W.kun_collect (s := { s with heap := ha }) (T := "list_iterator") (.inr (.inr (.inl rfl))) (Walks.list (A := A.in1) hh s.heap.objs.size l ne _) (fun j u st => st.1.typeIs) (k := 1) (by simp) ⟨hit, hla⟩
    (Heap.lt_size hoi) (Heap.lt_size hol) (fun hb tk kp => ?_) (by rw [sizeLine_eq]; simp; omega)))
  show wpAny _ _ (if its.length < 0 then _ else _) _ _ _
  rw [if_neg (Nat.not_lt_zero _)]
  show wpAny _ _ (newList (its.take (its.length - 0)) >>= fun d => pure ([b] ++ [d] ++ its.drop (its.length - 0))) _ _ _
  rw [Nat.sub_zero, List.take_length, List.drop_length]
  have k2 : ∀ c o, s.heap.get? c = some o → hb.get? c = some o := fun c o e => kp c o (Nat.ne_of_lt (Heap.lt_size e)) (hs.extBut c o (Nat.ne_of_lt (Heap.lt_size e)) (Heap.get?_push_of_some _ e))
  unfold newList
  refine wpAny_bind (wpAny_newObj_type (wpAny_pure ?_) (by show its.toArray.size ≤ sizeLine; rw [sizeLine_eq, List.size_toArray]; omega))
  exact h hb tk k2
def gStar1 (K : PySem.W.Frag) (g1 g2 : TG) : TG := fun v σ H Q => ∃ a z zs, v = .ref a ∧ SqL K H a (z :: zs) ∧ zs.length ≤ 16000 ∧ ∀ p, H p = none → g1 z σ (upd H p (.lst zs)) fun σ1 H1 => g2 (.ref p) σ1 H1 Q
theorem pg_star1 (hc : X.calm = true) {e1 e2 : Expr} {g1 g2 : TG} {k : Nat} {pos sp : Pos} (h1 : PG X e1 g1) (h2 : PG X e2 g2) (hlen : (assignEach [e1, .Starred e2 sp] X.env).length = 2 := by rfl)
    (hst : (assignEach [e1, .Starred e2 sp] X.env).findIdx? (·.1) = some 1 := by rfl) (hm : (assignEach [e1, .Starred e2 sp] X.env).map (·.2) = [assign e1 X.env, assign e2 X.env] := by rfl) :
    PG X (.Tuple [e1, .Starred e2 sp] k pos) (gStar1 X.K g1 g2) := by
  refine ⟨fun pins s σ H v u Q I r hw => ?_⟩
  obtain ⟨a, z, zs, ev, hq, hl, hw⟩ := hw
  subst ev
  cases r
  obtain ⟨its, rv, pl, hz⟩ := I.list hq
  cases rv with
  | cons rz rr =>
    rename_i b l
    rw [assign_Tuple]
    refine wpAny_bind (wpAny_standAt ?_)
    unfold unpack
    rw [hlen, hst, hm]
    refine wpAny_bind (wpAny_holding (unpack_star1 pl.isList (I.ok.hd hc) (by rw [← rr.length]; exact hl) fun ha tk kp => ?_))
    have I1 : Inv X pins σ H { s with heap := ha, toks := tk } := I.kept kp
    have I2 := I1.laid (t' := tk) (o := .lst zs) (h' := ha.push { cls := .type "list", data := .seq l.toArray }) (fun c o e => Heap.get?_push_of_some _ e) (Nat.le_refl _)
      ⟨by have hz' : zs.length + 1 ≤ sizeLine := hz
          omega, l, 0, rr, Heap.get?_push_size _ rfl⟩
    refine assignInOrder_cons (thn (h1.run pins _ σ _ z b _ I2 rz (hw _ (I1.hok.fresh (Nat.le_refl _)))) fun _ s3 ⟨σ3, H3, I3, q3⟩ => ?_)
    exact assignInOrder_cons (thn (h2.run pins s3 σ3 H3 (.ref ha.objs.size) _ Q I3 rfl q3) fun _ s4 ⟨σ4, H4, I4, q4⟩ => assignInOrder_nil ⟨σ4, H4, I4, q4⟩)
end
end Dw

/-! enumerate of a tuple. -/
namespace Dw
open PySem PySem.Spec PyProof.Rows L2
variable [Tabs0]
theorem meets_enum_tup (l : Addr) (items : Array Value) (n : Nat) (dd : Option Addr) (sl : Array (Option Value)) :
    Meets (Builtin.«enumerate.__new__» ⟨[.type "enumerate", .ref l], []⟩) (fun _ R s => s.heap.get? l = some { cls := .type "tuple", dict := dd, data := .seq items n, slots := sl } ∧
      R (.ok (.ret (.ref (s.heap.push { cls := .type "tuple_iterator", data := .fields #[.ref l, .int 0 0] }).objs.size)))
        { s with heap := (s.heap.push { cls := .type "tuple_iterator", data := .fields #[.ref l, .int 0 0] }).push { cls := .type "enumerate", data := .fields #[.none, .bool false, .ref s.heap.objs.size, rawInt 0, .none, .none] } }) :=
  .of_wp fun prog w A R s h => by
    obtain ⟨hp, g, d, tk, os⟩ := s
    obtain ⟨hl, h⟩ := h
    have hL : hp.IsTuple l items := ⟨_, hl, rfl, n, rfl⟩
    have hsub := sub_enumerate
    wp_walk using wpAny_loadPart' hl
    refine wpAny_stack_any fun st => wpAny_pure ?_
    split
    · rename_i c _ _ _ _ _
      cases (c == Value.type "enumerate") <;> (wp_walk using wpAny_loadPart' hl, wpAny_pyIter_tuple hL; exact ⟨_, rfl, h⟩)
    · wp_walk using wpAny_loadPart' hl, wpAny_pyIter_tuple hL
      exact ⟨_, rfl, h⟩
end Dw

/-! for i, x in enumerate(a tuple). -/
namespace Dw
open PySem PySem.Spec PyProof.Rows L2
variable [Tabs0]
theorem call_enum_tup {prog : Program} {w : World} {A : Around} {E : Value → Shared → Prop} {s : Shared} {l : Addr} {items : Array Value} {Q : Value → Shared → Prop} (hL : IsTup s.heap l items)
    (h : ∀ h' : Heap, IsEnum h' (s.heap.objs.size + 1) s.heap.objs.size 0 .none → h'.IsTupleIter s.heap.objs.size l 0 →
      (∀ b o, s.heap.get? b = some o → h'.get? b = some o) → Q (.ref (s.heap.objs.size + 1)) { s with heap := h' }) :
    wpAny (model prog w) A (call (.type "enumerate") [.ref l]) Q E s := by
  obtain ⟨⟨c, dct, dt, sl⟩, hl, hc, n, hd⟩ := hL
  simp only at hc hd
  subst hc; subst hd
  have z1 : (s.heap.push { cls := .type "tuple_iterator", data := .fields #[.ref l, .int 0 0] }).objs.size = s.heap.objs.size + 1 := Heap.size_push ..
  refine callType_new F.called_enumerate (by decide) (F.typeCall_enumerate_1 _) (F.newCall_enumerate_1 _)
    (fun obj => F.args_object_init_2 obj _) F.entry_enumerate_new (meets_enum_tup l items n dct sl) ⟨hl, ?_⟩
  show _ ∧ _
  rw [z1]
  have g0 : ∀ b o, s.heap.get? b = some o → ((s.heap.push { cls := .type "tuple_iterator", data := .fields #[.ref l, .int 0 0] }).push { cls := .type "enumerate", data := .fields #[.none, .bool false, .ref s.heap.objs.size, rawInt 0, .none, .none] }).get? b = some o :=
    fun b o e => Heap.get?_push_of_some _ (Heap.get?_push_of_some _ e)
  have g1 := Heap.get?_push_size (s.heap.push { cls := .type "tuple_iterator", data := .fields #[.ref l, .int 0 0] })
    (o := { cls := .type "enumerate", data := .fields #[.none, .bool false, .ref s.heap.objs.size, rawInt 0, .none, .none] }) rfl
  rw [z1] at g1
  refine ⟨⟨_, g1, rfl⟩, h _ g1 ⟨_, Heap.get?_push_of_some _ (Heap.get?_push_size _ rfl), rfl, rfl⟩ g0⟩
/-- the tuple at a, each item in a new pair -/
def IteT (K : PySem.W.Frag) (a : Addr) : It :=
  ⟨fun i H => ∃ xs x, SqT K H a xs ∧ xs[i]? = some x, fun i H v H' => ∃ T x, v = .ref T ∧ H T = none ∧ H' = upd H T (.tup [.int (i : Nat), x]) ∧ ∀ xs, SqT K H a xs → xs[i]? = some x, fun i H => ∃ xs : List V, SqT K H a xs ∧ xs.length = i⟩
/-- several records of ours have turned -/
theorem inv_turned {X : Cx} {pins : List (Addr × Obj)} {σ : L2.St} {H : Hp} {s : Shared} {h' : Heap} {t' : Nat} {ch : List Addr} (I : Inv X pins σ H s) (k : ∀ b o, b ∉ ch → s.heap.get? b = some o → h'.get? b = some o) (hf : ∀ b ∈ ch, FpOk X pins H b) :
    Inv X pins σ H { s with heap := h', toks := t' } := by
  have nit : ∀ b u, H b = some u → b ∉ ch := fun b u e z => by
    have q := (hf b z).1
    rw [q] at e; cases e
  refine I.step (g' := s.gens) (d' := s.drawn) (ch := ch) (fun b hb => ?_) (fun b o _ _ hc e _ => k b o hc e) (fun b o _ _ hc e _ => ⟨o.slots, k b o hc e⟩) (fun _ _ _ _ n => n) (fun b o hc e => ⟨o, k b o hc e⟩) (fun _ _ e => e) (fun _ _ _ e => e)
    (fun b ps e => ⟨#[], by rw [e]; simp⟩) (fun m hm => ?_) (fun b u e => ?_) I.bare
  · obtain ⟨f0, f1, f2, f3, f4, f5⟩ := hf b hb
    exact ⟨f3, f1, f4, f5⟩
  · obtain ⟨o, es, ep, ho, r⟩ := hm
    exact ⟨o, es, ep, k _ o (fun z => (hf _ z).2.1 rfl) ho, r⟩
  · refine (I.hok b u e).stay (fun c v hc q => k c v ?_ q) (fun _ q => q) fun _ _ q => q
    rcases hc with z | z
    · rw [z]; exact nit b u e
    · exact nit c _ z
theorem turn_enumT {P : Program} {w : World} {K : PySem.W.Frag} {elts : List Expr} {kk : Nat} {tpos : Pos} (a e it : Addr) (nai : a ≠ it) (nae : a ≠ e) (nei : e ≠ it) :
    Turn P w K (.Tuple elts kk tpos) (IteT K a) [e, it] e (fun i h => (∃ old, IsEnum h e it ((0 : Int) + (i : Int)) old) ∧ h.IsTupleIter it a i) where
  mem := by simp
  obj := fun i h ⟨⟨old, he⟩, ⟨o, ho, hc, hd⟩⟩ b hb => by
    rcases (show b = e ∨ b = it by simpa using hb) with z | z
    · subst z; exact ⟨_, he, fun v q => nomatch q⟩
    · subst z; exact ⟨o, ho, fun v q => by rw [hd] at q; cases q⟩
  keep := fun i h h' ⟨⟨old, he⟩, hi⟩ k => ⟨⟨old, k e (by simp) _ he⟩, hi.at fun o q => k it (by simp) o q⟩
  item := by
    intro X hP hw hK hc i pins s σ H E I hf st hg
    subst hP; subst hw; subst hK
    obtain ⟨xs, x, hq, hx⟩ := hg
    obtain ⟨its, rv, p, hz⟩ := I.tuple hq
    obtain ⟨u, hu, ru⟩ := rv.get hx
    have G := GoesN.enumFrom (prog := X.prog) (w := X.w) (A := X.A) (elts := elts) (x1 := kk) (pos := tpos) 0 (Draws.tuple (A := X.A.in1) (I.ok.hd hc) it a nai its.toArray) e nei (by simp [nei, Ne.symm nae]) (by simp)
    have hi : i < its.toArray.size := by
      have := (List.getElem?_eq_some_iff.mp hu).1
      simpa using this
    refine thn (G.goes i s (fun v s2 => ∃ T t y, v = Value.ref T ∧ s.heap.objs.size ≤ T ∧ its.toArray[i]? = some y ∧ s2.heap.IsTuple T #[.int ((0 : Int) + (i : Int)) t, y] ∧
        (∃ old, IsEnum s2.heap e it ((0 : Int) + ((i + 1 : Nat) : Int)) old) ∧ s2.heap.IsTupleIter it a (i + 1) ∧ (∀ b o, b ∉ [e, it] → s.heap.get? b = some o → s2.heap.get? b = some o) ∧ ∃ h' tk, s2 = { s with heap := h', toks := tk }) E hi ⟨st.1, st.2, p⟩
      fun v h' tk ⟨T, t, y, ev, hT, hy, htu⟩ ⟨ho, hit, _⟩ kp _ => ⟨T, t, y, ev, hT, hy, htu, ho, hit, kp, h', tk, rfl⟩) fun r s1 ⟨v, er, hv⟩ => ⟨v, er, thn hv fun _ s2 ⟨T, t, y, ev, hT, hy, htu, ho, hit, kp, h', tk, es⟩ => ?_⟩
    subst es; subst ev
    have ey : y = u := by
      rw [List.getElem?_toArray, hu] at hy
      exact (Option.some.inj hy).symm
    subst ey
    have new : ObjOk X.prog X.w (upd H T (.tup [.int (i : Nat), x])) h' T (.tup [.int (i : Nat), x]) :=
      ⟨by show 2 ≤ sizeLine; decide, [.int ((0 : Int) + (i : Int)) t, y], .cons ⟨t, by rw [Int.zero_add]⟩ (.cons ru .nil), htu⟩
    have I1 : Inv X pins σ (upd H T (.tup [.int (i : Nat), x])) { s with heap := h', toks := tk } := I.turnedNew (ch := [e, it]) kp hf hT new
    refine ⟨.ref T, _, I1, rfl, ⟨T, x, rfl, I.hok.fresh hT, rfl, fun ys hy => by rw [I.tuple_inj hy hq]; exact hx⟩, ⟨ho, hit⟩, fun b hb => ?_⟩
    have lt : b ≠ T := by
      rcases (show b = e ∨ b = it by simpa using hb) with z | z
      · obtain ⟨old, he⟩ := st.1
        rw [z]; exact Nat.ne_of_lt (Nat.lt_of_lt_of_le (Heap.lt_size he) hT)
      · obtain ⟨o, q, _⟩ := st.2
        rw [z]; exact Nat.ne_of_lt (Nat.lt_of_lt_of_le (Heap.lt_size q) hT)
    rw [upd_ne lt]
    exact (hf b hb).1
  done := by
    intro X hP hw hK hc i pins s σ H E I hf st hg
    subst hP; subst hw; subst hK
    obtain ⟨xs, hq, hx⟩ := hg
    obtain ⟨its, rv, p, hz⟩ := I.tuple hq
    have hl := rv.length
    have G := GoesN.enumFrom (prog := X.prog) (w := X.w) (A := X.A) (elts := elts) (x1 := kk) (pos := tpos) 0 (Draws.tuple (A := X.A.in1) (I.ok.hd hc) it a nai its.toArray) e nei (by simp [nei, Ne.symm nae]) (by simp)
    have en : its.toArray.size = i := by rw [List.size_toArray]; omega
    rw [en] at G
    exact G.stops s _ E ⟨st.1, st.2, p⟩ fun h' tk kp _ => inv_turned I kp hf
  self := fun A i s Q E ⟨⟨_, he⟩, _⟩ h => wpAny_pyIter_enum he h
def iEnumT (K : PySem.W.Frag) (ta : TA) : TI := fun σ H R => ta σ H fun vs H1 => ∃ a xs, vs = [.ref a] ∧ SqT K H1 a xs ∧ R (IteT K a) H1
theorem pi_enumT {X : Cx} {e : Expr} {ta : TA} {p pos tpos : Pos} {elts : List Expr} {kk : Nat} (hg : Gl X "enumerate") (hm : X.mg "enumerate" = none) (ha : PA X [e] ta) (hs : starEach [e] X.env = [(false, eval e X.env)] := by rfl) :
    PI X (.Tuple elts kk tpos) (.Call (.Name "enumerate" p) [e] [] pos) (iEnumT X.K ta) := by
  refine ⟨fun pins s σ H R I h => ?_⟩
  refine Call_ (ld_blt I hg hm boot_enumerate (callWith_type1 (thn (ha.run pos pins s σ H _ I h) fun us s1 ⟨vs, H1, I1, r1, q1⟩ => ?_) hs rfl))
  obtain ⟨a, xs, ex, hq, q⟩ := q1
  subst ex
  obtain ⟨u, eu, ru⟩ := vals1 r1
  subst eu
  cases ru
  obtain ⟨its, rv, tp, hz⟩ := I1.tuple hq
  have lta : a < s1.heap.objs.size := by obtain ⟨o, ho, _⟩ := tp; exact Heap.lt_size ho
  refine call_enum_tup tp fun h' he hit hk => wpAny_pyIter_enum he ?_
  refine ⟨s1.heap.objs.size + 1, [s1.heap.objs.size + 1, s1.heap.objs.size], _, _, H1, rfl, I1.kept (t' := s1.toks) hk, turn_enumT a (s1.heap.objs.size + 1) s1.heap.objs.size (Nat.ne_of_lt lta) (Nat.ne_of_lt (Nat.lt_succ_of_lt lta)) (Nat.succ_ne_self _), ⟨⟨.none, he⟩, hit⟩, fun b hb => ?_, q⟩
  have hle : s1.heap.objs.size ≤ b := by
    rcases (show b = s1.heap.objs.size + 1 ∨ b = s1.heap.objs.size by simpa using hb) with z | z
    · rw [z]; exact Nat.le_succ _
    · rw [z]; exact Nat.le_refl _
  exact I1.fpOk hle (I1.hok.fresh hle)
theorem enumTA (K : PySem.W.Frag) {X : Cx} {e : Expr} {ta : TA} {p pos tpos : Pos} {elts : List Expr} {kk : Nat} (hg : Gl X "enumerate") (hm : X.mg "enumerate" = none) (ha : PA X [e] ta) (hK : X.K = K := by rfl) (hs : starEach [e] X.env = [(false, eval e X.env)] := by rfl) :
    PI X (.Tuple elts kk tpos) (.Call (.Name "enumerate" p) [e] [] pos) (fun σ H R => iEnum K ta σ H R ∨ iEnumT K ta σ H R) := hK ▸ pi_or (pi_enum hg hm ha hs) (pi_enumT hg hm ha hs)
theorem zipA (K : PySem.W.Frag) {X : Cx} {e e2 : Expr} {ta : TA} {p pos tpos : Pos} {elts : List Expr} {kk : Nat} (hg : Gl X "zip") (hm : X.mg "zip" = none) (ha : PA X [e, e2] ta) (hK : X.K = K := by rfl)
    (hs : starEach [e, e2] X.env = (false, eval e X.env) :: starEach [e2] X.env := by rfl) (hpl : (backTo pos (starEach [e2] X.env)).any (·.1) = false := by rfl) :
    PI X (.Tuple elts kk tpos) (.Call (.Name "zip" p) [e, e2] [] pos) (RZ.iZipA K ta) := hK ▸ RZ.pi_zipA hg hm ha hs hpl
/-! ### over data -/
/-- the pairs (0, x), (1, y), .. -/
def enumD (xs : List D) : List D := xs.mapIdx fun i x => .tup [.int (i : Nat), x]
theorem enumD_get {xs : List D} {i : Nat} {d : D} (h : (enumD xs)[i]? = some d) : ∃ x, xs[i]? = some x ∧ d = .tup [.int (i : Nat), x] := by
  unfold enumD at h
  rw [List.getElem?_mapIdx] at h
  cases q : xs[i]? with
  | none => rw [q] at h; cases h
  | some x => rw [q] at h; exact ⟨x, rfl, (Option.some.inj h).symm⟩
theorem enumD_length (xs : List D) : (enumD xs).length = xs.length := by simp [enumD]
section
variable {K : PySem.W.Frag} {Γ : Gam} {ta : TE} {xs ys : List D}
theorem ei_enumT {r : TI} (h : Ev ta Γ (.tup xs)) : Ei (fun σ H R => r σ H R ∨ iEnumT K (tCons ta tNil) σ H R) Γ (enumD xs) := fun F σ W R g k => .inr (h F σ W _ g fun v H s ⟨a, vs, ev, ha, nu, l⟩ => by
  subst ev
  refine ⟨a, vs, rfl, ha.sq, k (IteT K a) H s ⟨fun W2 i x dm s2 ku pu hx => ?_, fun H2 s2 => ⟨vs, (ha.same s2).sq, by rw [enumD_length, l.length]⟩⟩⟩
  obtain ⟨y, hy, rfl⟩ := enumD_get hx
  obtain ⟨v, hv, rv⟩ := l.get hy
  have h2 : TupAt W2.H a vs := ha.same s2
  refine ⟨⟨vs, v, h2.sq, hv⟩, fun u H' ⟨T, z, eu, hT, eH, hz⟩ => ?_⟩
  subst eu; subst eH
  have := hz vs h2.sq
  rw [hv] at this; cases this
  exact ⟨same_upd hT, rep_new_tup dm hT ⟨_, _, rfl, rfl, v, _, rfl, Rep.mono (W := W.at H) (W' := W2) (fun b u e n => ⟨s2 b u e, ku b u e n⟩) (fun b z => by rw [pu]; exact z) _ _ rv, rfl⟩⟩)
end
end Dw

/-! zip, slices, fields, isinstance, over data. -/
namespace Dw
open PySem PySem.Spec PyProof.Rows L2
variable [Tabs0]
def zipD (xs ys : List D) : List D := (xs.zip ys).map fun p => .tup [p.1, p.2]
theorem zipD_get {xs ys : List D} {i : Nat} {d : D} (h : (zipD xs ys)[i]? = some d) : ∃ x y, xs[i]? = some x ∧ ys[i]? = some y ∧ d = .tup [x, y] := by
  unfold zipD at h
  rw [List.getElem?_map] at h
  cases q : (xs.zip ys)[i]? with
  | none => rw [q] at h; cases h
  | some p =>
    rw [q] at h
    rw [List.getElem?_zip_eq_some] at q
    exact ⟨p.1, p.2, q.1, q.2, (Option.some.inj h).symm⟩
theorem zipD_length (xs ys : List D) : (zipD xs ys).length = min xs.length ys.length := by simp [zipD]
section
variable {K : PySem.W.Frag} {Γ : Gam} {ta tb te : TE} {xs ys ds : List D} {d : D}
theorem ei_zipT (h1 : Ev ta Γ (.tup xs)) (h2 : Ev tb Γ (.tup ys)) : Ei (RZ.iZipA K (tCons ta (tCons tb tNil))) Γ (zipD xs ys) := fun F σ W R g k => h1 F σ W _ g fun v H s ⟨a, vs, ev, ha, nu, l⟩ => h2 F σ (W.at H) _ (g.same s) fun u H' s' ⟨b, ws, eu, hb, nu', l'⟩ => by
  subst ev; subst eu
  have ha' := ha.same s'
  refine ⟨a, b, vs, ws, rfl, .inr ⟨ha'.sq, hb.sq, k (RZ.ItzT K a b) H' (Same.trans s s') ⟨fun W2 i x dm s2 ku pu hx => ?_, fun H2 s2 => ?_⟩⟩⟩
  · obtain ⟨x, y, hx1, hy, rfl⟩ := zipD_get hx
    obtain ⟨v, hv, rv⟩ := (RepL.same (W := W.at H) s' l).get hx1
    obtain ⟨u, hu, ru⟩ := l'.get hy
    have a2 := ha'.same s2
    have b2 := hb.same s2
    refine ⟨⟨vs, ws, v, u, a2.sq, b2.sq, hv, hu⟩, fun z H3 ⟨T, p, q, ez, hT, eH, hp, hq⟩ => ?_⟩
    subst ez; subst eH
    have e1 := hp vs a2.sq
    have e2 := hq ws b2.sq
    rw [hv] at e1; cases e1
    rw [hu] at e2; cases e2
    have mv : ∀ {d v}, Rep (W.at H') d v → Rep W2 d v := fun {d v} r => Rep.mono (W := W.at H') (W' := W2) (fun b u e n => ⟨s2 b u e, ku b u e n⟩) (fun b z => by rw [pu]; exact z) d v r
    exact ⟨same_upd hT, rep_new_tup dm hT ⟨_, _, rfl, mv rv, _, _, rfl, mv ru, rfl⟩⟩
  · refine ⟨vs, ws, (ha'.same s2).sq, (hb.same s2).sq, ?_⟩
    rw [zipD_length, ← l.length, ← l'.length]
    omega
/-! ### slices -/
def Eo (t : TO) (Γ : Gam) (o : Option Int) : Prop := ∀ (F : Addr → Prop) (σ : L2.St) (W : Wd) (Q : Option Int → Hp → Prop), SR F Γ σ W → (∀ H, Same W.H H → Q o H) → t σ W.H Q
theorem eo_none : Eo tNoPart Γ none := fun F σ W Q g k => k W.H (Same.refl _)
theorem eo_some {i : Int} (h : Ev te Γ (.int i)) : Eo (tPart te) Γ (some i) := fun F σ W Q g k => h F σ W _ g fun v H s r => ⟨i, r, k H s⟩
/-- xs[lo:hi] -/
def cutD (xs : List D) (lo hi : Option Int) : List D := (xs.drop (HT.sIx xs.length 0 lo)).take (HT.sIx xs.length xs.length hi - HT.sIx xs.length 0 lo)
theorem repL_cut {W : Wd} {vs : List V} {lo hi : Option Int} (l : RepL W ds vs) : RepL W (cutD ds lo hi) (cutV vs lo hi) := by
  unfold cutD cutV
  rw [l.length]
  exact (l.drop _).take _
/-! ### fields -/
theorem ev_fld {C : Addr} {ns : List Str} {f : Str} (cl : Cls K C) (na : NoAttr K C f) (h : Ev ta Γ (.obj C ns ds)) (hl : (ns.zip ds).lookup f = some d) : Ev (tFld K ta f) Γ d := fun F σ W Q g k => h F σ W _ g fun v H s ⟨a, dx, vs, ev, e, nu, l, r⟩ => by
  subst ev
  have key : ∀ (ns : List Str) (ds : List D) (vs : List V), RepL (W.at H) ds vs → (ns.zip ds).lookup f = some d → ∃ v, (ns.zip vs).lookup f = some v ∧ Rep (W.at H) d v := by
    intro ns
    induction ns with
    | nil => intro ds vs _ q; simp at q
    | cons n ns ih =>
      intro ds vs r q
      cases ds with
      | nil => simp at q
      | cons e ds =>
        obtain ⟨v, rr, rfl, r1, r2⟩ := r
        rw [List.zip_cons_cons, List.lookup_cons] at q ⊢
        cases hb : f == n with
        | true =>
          rw [hb] at q
          exact ⟨v, rfl, by rw [← Option.some.inj q]; exact r1⟩
        | false =>
          rw [hb] at q
          exact ih ds rr r2 q
  obtain ⟨v, hv, rv⟩ := key ns ds vs r hl
  exact ⟨a, C, dx, _, v, rfl, e, cl, na, hv, k v H s rv⟩
/-! ### isinstance with one class -/
/-- a value's type, as the fragment's deciders take it -/
def tyD : D → Value
  | .non => .type "NoneType" | .bl _ => .type "bool" | .int _ => .type "int" | .str _ => .type "str" | .tup _ => .type "tuple" | .tupN _ => .type "tuple" | .lst _ => .type "list" | .dct _ _ => .type "dict" | .obj C _ _ => .ref C | _ => .none
structure InsOk (K : PySem.W.Frag) (C : Addr) : Prop where
  cl : Cls K C
  ha : PySem.W.findIn K (.ref C) "__class__" = some (some (.builtin "object.__class__"))
  hn : PySem.W.specialIn K (.builtin "object.__class__") "__get__" = some (some (.builtin "getset_descriptor.__get__"))
  ht : PySem.W.takesIn K (.builtin "object.__class__") = some true
  hm : PySem.W.mroIn K C (.type "object") = some true
def hasTy : D → Bool
  | .raw _ => false | .purse => false | .rng _ _ => false | .obj _ _ _ => false | .scr _ _ => false | .tag _ => false | .tupN _ => false | _ => true
theorem ty_of {W : Wd} {v : V} (r : Rep W d v) (h : hasTy d = true ∨ ∃ C ns ds, d = .obj C ns ds ∧ InsOk K C) : TyX K W.H v (tyD d) := by
  cases d with
  | non => rw [show v = V.non from r]; exact .base .non
  | bl b => rw [show v = V.bl b from r]; exact .base (.bl b)
  | int b => rw [show v = V.int b from r]; exact .base (.int b)
  | str b => rw [show v = V.str b from r]; exact .base (.str b)
  | tup ds =>
    obtain ⟨a, vs, ev, e, _⟩ := r
    rw [ev]
    exact e.elim (fun e => .base (.tup e)) fun ⟨o, e⟩ => .fTuple e
  | tupN ds => obtain ⟨a, vs, ev, ⟨o, e, _⟩, _⟩ := r; rw [ev]; exact .fTuple e
  | lst ds => obtain ⟨a, vs, ev, e, _⟩ := r; rw [ev]; exact .base (.lst e)
  | dct ks ds => obtain ⟨a, vs, ev, e, _⟩ := r; rw [ev]; exact .base (.dK e)
  | obj C ns ds =>
    obtain ⟨a, dx, vs, ev, e, _⟩ := r
    rcases h with h | ⟨C', ns', ds', q, o⟩
    · cases h
    · cases q; rw [ev]; exact .base (.ins e o.cl o.ha o.hn o.ht o.hm)
  | raw _ => rcases h with h | ⟨_, _, _, q, _⟩ <;> first | cases h | cases q
  | scr _ _ => rcases h with h | ⟨_, _, _, q, _⟩ <;> first | cases h | cases q
  | tag _ => rcases h with h | ⟨_, _, _, q, _⟩ <;> first | cases h | cases q
  | purse => rcases h with h | ⟨_, _, _, q, _⟩ <;> first | cases h | cases q
  | rng _ _ => rcases h with h | ⟨_, _, _, q, _⟩ <;> first | cases h | cases q
theorem ev_isi {c : V} {u : Value} {b : Bool} (h : Ev ta Γ d) (hc : Ev tb Γ (.raw c)) (hd : hasTy d = true ∨ ∃ C ns ds, d = .obj C ns ds ∧ InsOk K C) (hv : ClsV c u) (hk : PySem.W.kitOne K (tyD d) u = some b) : Ev (tCB (rIsi K) (tCons ta (tCons tb tNil))) Γ (.bl b) := fun F σ W Q g k =>
  h F σ W _ g fun v H s r => hc F σ (W.at H) _ (g.same s) fun w H' s' rc => ⟨v, c, tyD d, u, b, by rw [show w = c from rc], hv, ty_of (Rep.same (W := W.at H) s' r) hd, hk, k _ H' (Same.trans s s') rfl⟩
end
end Dw
namespace Dw
open PySem PySem.Spec PyProof.Rows L2
variable [Tabs0]
theorem tupA (K : PySem.W.Frag) (n : Nat) {X : Cx} {pos : Pos} {es : List Expr} {k : Nat} {t : TGs} (hc : X.calm = true) (h : PGs X es t) (hK : X.K = K := by rfl)
    (hn : (assignEach es X.env).length = n := by rfl) (hst : (assignEach es X.env).findIdx? (·.1) = none := by rfl) : PG X (.Tuple es k pos) (gTup K n t) := hK ▸ pg_tup hc h hn hst
/-- a purse is drawn from -/
theorem purse_step {F : Addr → Prop} {W : Wd} {a : Addr} {x y : Int} (ok : WOk F W) (hp : W.P a) (nn : Tabs0.nm a = none) (hx : 0 ≤ x) (hy : 0 ≤ y) (hy2 : y < 2147483647) :
    Stp F W (W.at (upd W.H a (.lst [.int x, .int y]))) ∧ WOk F (W.at (upd W.H a (.lst [.int x, .int y]))) := by
  obtain ⟨u, f, oa⟩ := ok.pu a hp
  obtain ⟨_, _, _, _, _, ha⟩ := oa.purse nn
  have up : ∀ b, b ≠ a → (upd W.H a (.lst [.int x, .int y])) b = W.H b := fun b hb => upd_ne hb
  refine ⟨⟨fun b o e n => ⟨?_, n⟩, rfl, fun b h => up b fun z => f (by rw [← z]; exact h)⟩, ⟨fun b h z => ?_, ok.fu, fun b h => ?_⟩⟩
  · show (upd W.H a _) b = _
    rw [up b fun z => n (by rw [z]; exact u)]
    exact e
  · have z : (upd W.H a (.lst [.int x, .int y])) b = none := z
    by_cases hb : b = a
    · rw [hb, upd_same] at z; cases z
    · rw [up b hb] at z; exact ok.dom b h z
  · obtain ⟨u', f', o⟩ := ok.pu b h
    refine ⟨u', f', ?_⟩
    by_cases hb : b = a
    · rw [hb]; exact .of ⟨x, y, hx, hy, hy2, upd_same⟩ nn
    · exact o.upd (no_ext ha) hb
end Dw

/-! Joined texts as codes; a written dict that is asked at once. -/
namespace Dw
open PySem PySem.Spec PyProof.Rows L2
variable [Tabs0]
theorem joinL_nil : ∀ ls : List (List Nat), TL.joinL [] ls = ls.flatten
  | [] => rfl
  | [p] => by simp [TL.joinL]
  | p :: q :: r => by
    show p ++ ([] ++ TL.joinL [] (q :: r)) = _
    rw [List.nil_append, joinL_nil (q :: r)]; rfl
theorem join_tx (a : List Nat) (ys : List (List Nat)) : Txt.join (tx a) (ys.map tx) = tx (TL.joinL a ys) := SX.join_S a ys
theorem flat_chs (l : List Nat) : (l.map fun c => [c]).flatten = l := by
  induction l with
  | nil => rfl
  | cons c l ih => rw [List.map_cons, List.flatten_cons, ih]; rfl
theorem join_chs (l : List Nat) : Txt.join (Str.ofString "") (l.map ch) = tx l := by
  have e : l.map ch = (l.map fun c => [c]).map tx := by rw [List.map_map]; rfl
  have e0 : Str.ofString "" = tx [] := by decide +kernel
  rw [e, e0, join_tx, joinL_nil, flat_chs]
theorem chs_len (l : List Nat) : ((l.map ch).map (·.length)).sum = l.length := by
  induction l with
  | nil => rfl
  | cons c l ih =>
    rw [List.map_cons, List.map_cons, List.sum_cons, ih, List.length_cons]
    show 1 + l.length = _
    omega
section
variable {Γ : Gam} {K : PySem.W.Frag} {ty : TE} {x y : Str}
def dispP (kvs : List (Str × Str)) : List (TE × TE) := kvs.map fun p => (tC (.str p.1), tC (.str p.2))
theorem tPairs_disp (σ : L2.St) (H : Hp) : ∀ (kvs : List (Str × Str)) (Q : List (V × V) → Hp → Prop), Q (kvs.map fun p => (V.str p.1, V.str p.2)) H → tPairs (dispP kvs) σ H Q
  | [], Q, h => h
  | (a, b) :: kvs, Q, h => tPairs_disp σ H kvs (fun ps H3 => Q ((V.str a, V.str b) :: ps) H3) h
theorem ev_dget {trs : List (TE × TE)} (kvs : List (Str × Str)) (ht : trs = dispP kvs) (hl : kvs.length ≤ 15) (h : Ev ty Γ (.str x))
    (hv : valV (mergeK [] (kvs.map fun p => ((Sum.inr p.1 : Key), V.str p.2))) (Sum.inr x) = some (.str y)) : Ev (tDGet (tDisp trs) ty) Γ (.str y) := fun F σ W Q g k => by
  subst ht
  refine fun p hp => tPairs_disp σ _ kvs _ ⟨upd_same, kvs.map fun p => ((Sum.inr p.1 : Key), V.str p.2), by rw [List.map_map]; rfl, by rw [List.length_map]; exact hl, ?_⟩
  rw [upd_upd]
  have sm : Same W.H (upd W.H p (.dK (mergeK [] (kvs.map fun p => ((Sum.inr p.1 : Key), V.str p.2))))) := same_upd hp
  refine h F σ (W.at _) _ (g.same sm) fun v H2 s2 r => ⟨p, .str y, rfl, ?_, k _ H2 (Same.trans sm s2) rfl⟩
  rw [show v = V.str x from r, ← hv]
  exact DGet.k (k := Sum.inr x) (s2 _ _ upd_same)
end
end Dw

/-! Chains of comparisons, dicts of the module, properties, texts cut, objects made. -/
namespace Dw
open PySem PySem.Spec PyProof.Rows L2
variable [Tabs0]
section
variable {Γ : Gam} {K : PySem.W.Frag} {w : World} {ta tb tc te tv : TE} {t : TA} {x y z d : D} {ds : List D} {a b : Str} {C ad : Addr} {E : XK} {s : Spc}
theorem ev_chain {r r' : R2} {p q : Bool} (ha : Ev ta Γ x) (hb : Ev tb Γ y) (hc : p = true → Ev tc Γ z) (h1 : DR2 r x y (.bl p)) (h2 : p = true → DR2 r' y z (.bl q)) : Ev (tChain r r' ta tb tc) Γ (.bl (p && q)) := fun F σ W Q g k =>
  ha F σ W _ g fun u H s ru => hb F σ (W.at H) _ (g.same s) fun v H1 s1 rv => by
    refine h1 (W.at H1) u v _ ((g.same s).same s1).ok.dom (ru.same (W := W.at H) s1) rv fun o H2 s2 ro => ⟨p, ro, ?_⟩
    have s02 : Same W.H H2 := Same.trans s (Same.trans s1 s2)
    cases p with
    | false => exact ite2 (fun h => nomatch h) fun _ => k _ H2 s02 rfl
    | true =>
      refine ite2 (fun _ => ?_) fun h => absurd rfl h
      refine hc rfl F σ (W.at H2) _ (g.same s02) fun e H3 s3 re => ?_
      exact h2 rfl (W.at H3) v e _ ((g.same s02).same (W := W.at H2) s3).ok.dom ((rv.same (W := W.at H1) s2).same (W := W.at H2) s3) re fun o' H4 s4 ro' => k _ H4 (Same.trans s02 (Same.trans s3 s4)) ro'
theorem evt_chain {r r' : R2} {p q : Bool} (ha : Ev ta Γ x) (hb : Ev tb Γ y) (hc : p = true → Ev tc Γ z) (h1 : DR2 r x y (.bl p)) (h2 : p = true → DR2 r' y z (.bl q)) : EvT (tTest (tChain r r' ta tb tc)) Γ (p && q) := evt_test (ev_chain ha hb hc h1 h2)
/-- a property of an object -/
theorem ev_prop {x : s.ty} {ns : List Str} (h : Ev ta Γ (.obj C ns ds)) (ha : s.args x = [.obj C ns ds]) (np : noPs (s.args x) = true) (ok : s.ok x) (hd : ∀ d', s.rel x d' → d' = d) : Ev (tProp C (toSp s) [] E ta) Γ d := fun F σ W R g k => h F σ W _ g fun v H st r => by
  obtain ⟨a, dx, vs, ev, e, nu, l, rl⟩ := r
  refine ⟨a, dx, _, ev, e, ?_⟩
  have rr : RepL (W.at H) (s.args x) [v] := by rw [ha]; exact RepL.one ⟨a, dx, vs, ev, e, nu, l, rl⟩
  rw [← ev]
  exact pure_call (W := W.at H) (g.same st) (fun _ z => z) (RepL.delP _ _ np rr) ok fun d' v H' hd' s' r' => by
    rw [hd d' hd'] at r'
    exact k v H' (Same.trans st s') (Rep.addP (W := W) r')
theorem evn_split (ha : Ev ta Γ (.str a)) (hb : Ev tb Γ (.str b)) (hn : (b.length == 0) = false) (hz : a.length + 2 ≤ sizeLine) :
    EvN (tM1 (fun x xs H Q => ∃ a b, x = .str a ∧ xs = [.str b] ∧ (b.length == 0) = false ∧ a.length + 2 ≤ sizeLine ∧ rNewStrs (Txt.split a b) H Q) ta tb) Γ ((Txt.split a b).map D.str) := fun F σ W Q g k =>
  ha F σ W _ g fun v H s r => ⟨⟨a, r⟩, hb F σ (W.at H) _ (g.same s) fun u H1 s1 r1 => ⟨a, b, r, by rw [show u = V.str b from r1], hn, hz, fun p hp =>
    k p _ _ (Same.trans (Same.trans s s1) (same_upd hp)) ((Same.trans s s1).free hp) upd_same (RepL.strs.mpr rfl)⟩⟩
theorem ev_partition (ha : Ev ta Γ (.str a)) (hb : Ev tb Γ (.str b)) (hn : (b.length == 0) = false) (hz : a.length ≤ sizeLine) :
    Ev (tM1 (fun x xs H Q => ∃ a b, x = .str a ∧ xs = [.str b] ∧ (b.length == 0) = false ∧ a.length ≤ sizeLine ∧
      ∀ p, H p = none → Q (.ref p) (upd H p (.tup [.str (Txt.partition a b).1, .str (Txt.partition a b).2.1, .str (Txt.partition a b).2.2]))) ta tb) Γ (.tup [.str (Txt.partition a b).1, .str (Txt.partition a b).2.1, .str (Txt.partition a b).2.2]) := fun F σ W Q g k =>
  ha F σ W _ g fun v H s r => ⟨⟨a, r⟩, hb F σ (W.at H) _ (g.same s) fun u H1 s1 r1 => ⟨a, b, r, by rw [show u = V.str b from r1], hn, hz, fun p hp =>
    k _ _ (Same.trans (Same.trans s s1) (same_upd hp)) (rep_new_tup (W := W.at H1) ((g.same s).same (W := W.at H) s1).ok.dom hp ⟨_, _, rfl, rfl, _, _, rfl, rfl, _, _, rfl, rfl, rfl⟩)⟩⟩
end
end Dw

/-! Objects made: the promise of an __init__, its rules, the call of the class. -/
namespace Dw
open PySem PySem.Spec PyProof.Rows L2
variable [Tabs0]
abbrev rIsNone : R2 := fun x y H Q => y = .non ∧ Q (.bl (decide (x = .non))) H
theorem dr2_isN {d : D} {b : Bool} (h : ∀ (W : Wd) v, Rep W d v → decide (v = V.non) = b) : DR2 rIsNone d .non (.bl b) := dr2_flat fun W u v Q r1 r2 k => ⟨r2, by rw [h W u r1]; exact k _ rfl⟩
/-- an __init__'s promise: the object gets ns and ds, where rel x (.tup ds) -/
def toIn (C : Addr) (ns : List Str) (s : Spc) : Sp := fun vs H Q _ => ∃ (x : s.ty) (F : Addr → Prop) (W : Wd) (a dx : Addr) (us : List V), vs = .ref a :: us ∧ W.H = H ∧ WOk F W ∧ W.U a ∧ ¬ F a ∧ ¬ W.P a ∧ W.H a = some (.ins C dx []) ∧ RepL W (s.args x) us ∧ s.ok x ∧
  ∀ ds zs W', s.rel x (.tup ds) → Stp F W W' → WOk F W' → W'.U a → W'.H a = some (.ins C dx (ns.zip zs)) → ns.length = zs.length → RepL W' ds zs → Q .non W'.H
section
variable {Γ : Gam} {K : PySem.W.Frag} {te tv ta : TE} {t u : TS} {x y d : D} {C : Addr} {s : Spc}
/-- a statement of an __init__ whose object stands at a, with the fields ns so far -/
def DI (C a : Addr) (t : TS) (Γ : Gam) (ns : List Str) (ds : List D) (R : Gam → List Str → List D → Prop) : Prop := ∀ (F : Addr → Prop) (σ : L2.St) (W : Wd) (Dr : Ends) (dx : Addr) (us : List V), SR (Fp F a) Γ σ W → ¬ F a → W.H a = some (.ins C dx (ns.zip us)) → ns.length = us.length → RepL W ds us →
  (∀ σ' Γ' ns' ds' us' W', Stp F W W' → SR (Fp F a) Γ' σ' W' → W'.H a = some (.ins C dx (ns'.zip us')) → ns'.length = us'.length → RepL W' ds' us' → R Γ' ns' ds' → Dr.nx σ' W'.H) → t Dr σ W.H
theorem di_seq {a : Addr} {ns : List Str} {ds : List D} {R : Gam → List Str → List D → Prop} (h : DI C a t Γ ns ds fun Γ' ns' ds' => DI C a u Γ' ns' ds' R) : DI C a (tSeq t u) Γ ns ds R := fun F σ W Dr dx us g nf e l r k =>
  h F σ W { Dr with nx := u Dr } dx us g nf e l r fun σ' Γ' ns' ds' us' W' st g' e' l' r' hR => hR F σ' W' Dr dx us' g' nf e' l' r' fun σ2 Γ2 ns2 ds2 us2 W2 st2 => k σ2 Γ2 ns2 ds2 us2 W2 (st.trans st2)
theorem di_of {a : Addr} {ns : List Str} {ds : List D} {R : Gam → List Str → List D → Prop} (h : Ds t Γ ⟨fun Γ' => R Γ' ns ds, fun _ => False, fun _ => False, fun _ => False⟩) : DI C a t Γ ns ds R := fun F σ W Dr dx us g nf e l r k =>
  h (Fp F a) σ W Dr g ⟨fun σ' W' Γ' st g' hR => k σ' Γ' ns ds us W' (st.sub fun _ z => .inl z) g' ((st.fr a (.inr rfl)).trans e) l (r.stp st) hR, fun _ _ _ _ _ _ h => h.elim, fun _ _ _ _ _ h => h.elim, fun _ _ _ _ _ h => h.elim⟩
theorem putF_new {f : Str} {v : V} : ∀ {ns : List Str} {us : List V}, f ∉ ns → ns.length = us.length → putF f v (ns.zip us) = (ns ++ [f]).zip (us ++ [v])
  | [], [], _, _ => rfl
  | n :: ns, u :: us, h, l => by
    show (if n = f then _ else (n, u) :: putF f v (ns.zip us)) = _
    rw [if_neg (fun z => h (by rw [z]; exact List.mem_cons_self)), putF_new (fun z => h (List.mem_cons_of_mem _ z)) (Nat.succ.inj l)]
    rfl
theorem zip_len {ns : List Str} {us : List V} (l : ns.length = us.length) : (ns.zip us).length = ns.length := by rw [List.length_zip, ← l]; omega
theorem di_fld {a : Addr} {ns : List Str} {ds : List D} {f : Str} {R : Gam → List Str → List D → Prop} (cl : Cls K C) (na : NoAttr K C f) (hn : f ∉ ns) (hz : ns.length < 1000) (ha : Ev ta Γ (.raw (.ref a))) (hv : Ev tv Γ d) (h : R Γ (ns ++ [f]) (ds ++ [d])) :
    DI C a (sFld K ta tv f) Γ ns ds R := fun F σ W Dr dx us g nf e l r k => hv _ σ W _ g fun v H s rv => ha _ σ (W.at H) _ (g.same s) fun z H1 s1 rz => by
  have g1 := (g.same s).same (W := W.at H) s1
  have s01 := Same.trans s s1
  refine ⟨a, C, dx, ns.zip us, rz, s01 _ _ e, cl, na, by rw [zip_len l]; exact hz, ?_⟩
  rw [putF_new hn l]
  obtain ⟨st, g2⟩ := g1.poke (o := .ins C dx ((ns ++ [f]).zip (us ++ [v]))) nf (no_extI (s01 _ _ e))
  have st1 : Stp F W (W.at H1) := (Stp.of_same g.ok s01).sub fun _ z => .inl z
  exact k σ Γ (ns ++ [f]) (ds ++ [d]) (us ++ [v]) _ (st1.trans st) g2 upd_same (by rw [List.length_append, List.length_append, l]; rfl) (((r.same s01).append (RepL.one (rv.same (W := W.at H) s1))).stp st) h
theorem di_fld2 {a : Addr} {ns : List Str} {ds : List D} {f f2 : Str} {R : Gam → List Str → List D → Prop} (cl : Cls K C) (na : NoAttr K C f) (na2 : NoAttr K C f2) (hn : f ∉ ns) (hn2 : f2 ∉ ns ++ [f]) (hz : ns.length < 900) (ha : Ev ta Γ (.raw (.ref a))) (hv : Ev tv Γ (.tup [x, y]))
    (h : R Γ ((ns ++ [f]) ++ [f2]) ((ds ++ [x]) ++ [y])) :
    DI C a (tAsg tv (gTup K 2 (gCons (gFld K ta f) (gCons (gFld K ta f2) gNil)))) Γ ns ds R := fun F σ W Dr dx us g nf e l r k => hv _ σ W _ g fun v H s rv => by
  obtain ⟨p, vs, ev, hp, nu, v1, _, rfl, r1, v2, _, rfl, r2, rfl⟩ := rv
  refine ⟨p, [v1, v2], ev, hp.sq, rfl, v1, [v2], rfl, ha _ σ (W.at H) _ (g.same s) fun z H1 s1 rz => ?_⟩
  have g1 := (g.same s).same (W := W.at H) s1
  have s01 := Same.trans s s1
  refine ⟨a, C, dx, ns.zip us, rz, s01 _ _ e, cl, na, by rw [zip_len l]; omega, ?_⟩
  rw [putF_new hn l]
  obtain ⟨st, g2⟩ := g1.poke (o := .ins C dx ((ns ++ [f]).zip (us ++ [v1]))) nf (no_extI (s01 _ _ e))
  have st1 : Stp F W (W.at H1) := (Stp.of_same g.ok s01).sub fun _ z => .inl z
  have l1 : (ns ++ [f]).length = (us ++ [v1]).length := by rw [List.length_append, List.length_append, l]; rfl
  have rr1 := ((r.same s01).append (RepL.one (r1.same (W := W.at H) s1))).stp st
  have r2' := (r2.same (W := W.at H) s1).stp st
  refine ⟨v2, [], rfl, ha _ σ _ _ g2 fun z' H2 s2 rz' => ?_⟩
  refine ⟨a, C, dx, (ns ++ [f]).zip (us ++ [v1]), rz', s2 _ _ upd_same, cl, na2, by rw [zip_len l1, List.length_append]; show ns.length + 1 < 1000; omega, rfl, ?_⟩
  rw [putF_new hn2 l1]
  obtain ⟨st2, g3⟩ := (g2.same s2).poke (o := .ins C dx (((ns ++ [f]) ++ [f2]).zip ((us ++ [v1]) ++ [v2]))) nf (no_extI (s2 _ _ upd_same))
  have sto : Stp F (W.at (upd H1 a (.ins C dx ((ns ++ [f]).zip (us ++ [v1]))))) (W.at H2) := (Stp.of_same g2.ok s2).sub fun _ z => .inl z
  exact k σ Γ _ ((ds ++ [x]) ++ [y]) ((us ++ [v1]) ++ [v2]) _ (st1.trans (st.trans (sto.trans st2))) g3 upd_same (by simp [l]) (((rr1.stp sto).append (RepL.one (r2'.stp sto))).stp st2) h
section
variable {P : Program} {w : World} {mg : Str → Option Value} {base : Heap}
theorem in_ok {x qual : Str} {st : Stmt} {f : Addr} {fd : FuncData} {N ps : List Str} {k : Nat} {ns : List Str} (F : Fun K x qual st f fd) (S : FnScope N ps (defScope st)) (len : ∀ x, (s.args x).length + 1 = ps.length)
    (hbody : ∀ (cdv : Value) (A : Around) (outer : List Env) (s' : Shared) (H : Hp) (E : XK), Room k (A.deeper (envOfC qual (defScope st) s'.heap.objs.size f cdv)) →
      ∃ t, PSs (cxOf CX0 P w K mg base N qual (defScope st) f cdv A outer s' H E).nox (defBody st) t ∧ ∀ x, s.ok x → ∀ a, DI C a t (Gz0 N.length (.raw (.ref a) :: s.args x)) [] [] fun _ ns' ds' => ns' = ns ∧ s.rel x (.tup ds')) :
    FnOk P w K mg base CX0 (k + 1) f fd ps (toIn C ns s) :=
  F.ok S (fun vs H Q E ⟨x, F, W, a, dx, us, e, _, _, _, _, _, _, r, _⟩ => by rw [e, List.length_cons, ← r.length]; exact len x) fun cdv A outer s' H vs Q E hr h => by
    obtain ⟨t, p, hb⟩ := hbody cdv A outer s' H E hr
    refine ⟨t, p, ?_⟩
    obtain ⟨x, F, W, a, dx, us, rfl, rfl, ok, hu, nf, np, ha, r, hx, q⟩ := h
    have ok' : WOk (Fp F a) W := ⟨ok.dom, fun b z => z.elim (ok.fu b) fun z => by rw [z]; exact hu, fun b z => let ⟨u, f, pp⟩ := ok.pu b z; ⟨u, fun y => y.elim f fun y => np (by rw [← y]; exact z), pp⟩⟩
    refine hb x hx a F _ W _ dx [] (sr_start ok' (ds := .raw (.ref a) :: s.args x) ⟨_, us, rfl, rfl, r⟩) nf ha rfl rfl fun σ' Γ' ns' ds' us' W' st g' e' l' r' hR => ?_
    obtain ⟨rfl, hrel⟩ := hR
    exact q ds' us' W' hrel st ⟨g'.ok.dom, fun b z => g'.ok.fu b (.inl z), fun b z => let ⟨u, f, pp⟩ := g'.ok.pu b z; ⟨u, fun y => f (.inl y), pp⟩⟩ (g'.ok.fu a (.inr rfl)) e' l' r'
end
/-- C(..) -/
theorem dl_make {ns : List Str} {t : TA} {E : XK} {Q : D → Gam → Prop} (h : DlA t Γ fun ds Γ1 => ∃ x, ds = s.args x ∧ s.ok x ∧ ∀ es, s.rel x (.tup es) → Q (.obj C ns es) Γ1) : Dl (tMake C (toIn C ns s) [] E t) Γ Q := fun F σ W R g k => h F σ W _ g fun vs W1 ds Γ1 st g1 r ⟨x, e, ok, q⟩ => by
  subst e
  intro b dx hb hdx ne
  rw [List.append_nil]
  have sm : Same W1.H (upd (upd W1.H dx (.own b)) b (.ins C dx [])) := Same.trans (same_upd hdx) (same_upd ((upd_ne (Ne.symm ne)).trans hb))
  obtain ⟨stp, gp, no, nf, np⟩ := g1.plus (H := upd (upd W1.H dx (.own b)) b (.ins C dx [])) (a := b) sm hb (by rw [upd_same]; exact fun z => nomatch z)
  refine ⟨x, _, W1.plus _ b, b, dx, vs, rfl, rfl, gp.callOk, .inr rfl, fun z => z.elim nf no, np, upd_same, r.stp stp, ok, fun ds zs W' hd st' ok' hu hH hl rr => ⟨rfl, ?_⟩⟩
  have g2 := gp.call st' ok'
  have np' : ¬ W'.P b := by rw [st'.pur]; exact np
  obtain ⟨st3, g3⟩ := (g2.frame hu np' no).land nf
  exact k (.ref b) ⟨W'.H, fun c => W'.U c ∧ c ≠ b, W'.P⟩ (.obj C ns ds) Γ1 (st.trans (stp.trans ((st'.sub fun _ z => .inl z).trans st3))) g3 ⟨b, dx, zs, rfl, hH, fun z => z.2 rfl, hl, rr.stp st3⟩ (q ds hd)
end
end Dw

/-! all() over a pure comprehension; one sign within a text; comparisons with their answers. -/
namespace Dw
open PySem PySem.Spec PyProof.Rows L2
variable [Tabs0]
section
variable {Γ : Gam} {K : PySem.W.Frag} {wi : TI} {g : TG} {tt : TT} {te : TE} {vs : List Nat}
theorem ev_all_lc {α : Type} {xs : List α} {c : α → D} {b : α → Bool} (h : Ei wi Γ (xs.map c)) (hz : xs.length ≤ 1000000)
    (he : ∀ x ∈ xs, ∃ is Γ2, DG g is (c x) (wipeG Γ vs) Γ2 ∧ (∀ i ∈ is, i ∈ vs) ∧ EvT tt Γ2 true ∧ Ev te Γ2 (.bl (b x))) : Ev (tCB (rAll K) (tCons (tLc wi g tt te vs) tNil)) Γ (.bl (xs.all b)) := by
  have e := evn_lc (p := fun _ => true) (f := fun x => D.bl (b x)) h hz fun x hx => by
    obtain ⟨is, Γ2, h1, h2, h3, h4⟩ := he x hx
    exact ⟨is, Γ2, h1, h2, h3, fun _ => h4⟩
  rw [List.filter_eq_self.mpr (fun _ _ => rfl)] at e
  have e2 : xs.map (fun x => D.bl (b x)) = (xs.map b).map D.bl := by rw [List.map_map]; rfl
  rw [e2] at e
  have r := ev_all (K := K) e.b
  rw [List.all_map] at r
  exact r
/-- a pure comprehension without a test -/
theorem evn_lc1 {α : Type} {xs : List α} {c f : α → D} (h : Ei wi Γ (xs.map c)) (hz : xs.length ≤ 1000000)
    (he : ∀ x ∈ xs, ∃ is Γ2, DG g is (c x) (wipeG Γ vs) Γ2 ∧ (∀ i ∈ is, i ∈ vs) ∧ EvT tt Γ2 true ∧ Ev te Γ2 (f x)) : EvN (tLc wi g tt te vs) Γ (xs.map f) := by
  have e := evn_lc (p := fun _ => true) (f := f) h hz fun x hx => by
    obtain ⟨is, Γ2, h1, h2, h3, h4⟩ := he x hx
    exact ⟨is, Γ2, h1, h2, h3, fun _ => h4⟩
  rw [List.filter_eq_self.mpr (fun _ _ => rfl)] at e
  exact e
end
theorem in_code {K : PySem.W.Frag} {l : List Nat} {c : Nat} : DR2 (rOr (rIn K false) rInS) (.str (ch c)) (.str (tx l)) (.bl (decide (c ∈ l))) := by
  have e := in_str' (K := K) (x := ch c) (y := tx l)
  rw [show (Builtin.Str.occurrences (tx l) (ch c) 0 (tx l).length 1).isEmpty = !decide (c ∈ l) from by rw [← Bool.not_not (Builtin.Str.occurrences (tx l) (ch c) 0 (tx l).length 1).isEmpty]; exact congrArg _ (SX.in_one l c), Bool.not_not] at e
  exact e
theorem nin_code {K : PySem.W.Frag} {l : List Nat} {c : Nat} : DR2 (rOr (rIn K true) rNinS) (.str (ch c)) (.str (tx l)) (.bl (!decide (c ∈ l))) := by
  refine dr2_r (dr2_flat fun W u v Q a b k => ⟨ch c, tx l, a, b, ?_⟩)
  rw [show (Builtin.Str.occurrences (tx l) (ch c) 0 (tx l).length 1).isEmpty = !decide (c ∈ l) from by rw [← Bool.not_not (Builtin.Str.occurrences (tx l) (ch c) 0 (tx l).length 1).isEmpty]; exact congrArg _ (SX.in_one l c), Bool.not_not]
  exact k _ rfl
section
variable {K : PySem.W.Frag} {i j : Int} {b : Bool} {x y : Str}
theorem gt_b (h : decide (j < i) = b) : DR2 (rI0 fun i j => .bl (decide (j < i))) (.int i) (.int j) (.bl b) := h ▸ dr2_gt
theorem lt_b (h : decide (i < j) = b) : DR2 (rOr (rI0 fun i j => .bl (decide (i < j))) rLtS) (.int i) (.int j) (.bl b) := h ▸ lt_int'
theorem lt_tx {l m : List Nat} : DR2 (rOr (rI0 fun i j => .bl (decide (i < j))) rLtS) (.str (tx l)) (.str (tx m)) (.bl (decide (l < m))) := by
  have e := lt_str' (x := tx l) (y := tx m)
  rw [tx_cps, tx_cps] at e
  exact e
theorem eq_ib (h : decide (i = j) = b) : DR2 (rEqX K) (.int i) (.int j) (.bl b) := h ▸ eq_int'
theorem eq_sb (h : decide (x = y) = b) : DR2 (rEqX K) (.str x) (.str y) (.bl b) := h ▸ eq_str'
theorem ne_sb (h : (!decide (x = y)) = b) : DR2 (rNeX K) (.str x) (.str y) (.bl b) := h ▸ ne_str'
end
/-- a and b, both true -/
theorem small {n : Nat} (h : n ≤ 100000) : n ≤ sizeLine := Nat.le_trans h (by decide)
end Dw

/-! Methods of lists with K named: within blocks X.K speaks of the block. -/
namespace Dw
open PySem PySem.Spec PyProof.Rows L2
variable [Tabs0]
variable {X : Cx} {o e : Expr} {es : List Expr} {to : TE} {t : TA} {name : Str} {apos cpos : Pos} {T id : String} {r : V → List V → Hp → VK → Prop}
theorem bmA (K : PySem.W.Frag) (pa : PlainAttrs T) (slot : Slot T name id) (hty : typeOf (.builtin id) = pure (.type "method_descriptor")) (hm : MtR X id r) (ho : PE X o to) (ha : PA X (e :: es) t) (hK : X.K = K := by rfl)
    (hbase : attributeBase o name X.env (eval o X.env) = eval o X.env := by rfl)
    (hfew : ((backTo cpos (starEach (e :: es) X.env)).all (fun x => !x.1) && (backToKw cpos (keywordEach [] X.env)).all (fun x => x.1.isSome)
      && decide ((e :: es).length + ([] : List Keyword).length + (if ([] : List Keyword).isEmpty then 0 else 1) < 30)) = true := by rfl)
    (hline : (apos.endLine == cpos.line) = true := by rfl) (hs : starEach (e :: es) X.env = (false, eval e X.env) :: starEach es X.env := by rfl) (hplain : (backTo cpos (starEach es X.env)).any (·.1) = false := by rfl) :
    PE X (.Call (.Attribute o name apos) (e :: es) [] cpos) (tBM K T r to t) := hK ▸ pe_bm pa slot hty hm ho ha hbase hfew hline hs hplain
end Dw

/-! The script (a list that the head gives), and a purse that is made and at once given on. -/
namespace Dw
open PySem PySem.Spec PyProof.Rows L2
variable [Tabs0]
section
variable {Γ : Gam} {K : PySem.W.Frag} {ta tb : TE} {vs : List V} {d : D} {i : Int}
theorem scr_sq {W : Wd} {v : V} (r : Rep W (.scr K vs) v) : ∃ a, v = .ref a ∧ SqL K W.H a vs := by
  obtain ⟨a, e, q, _⟩ := r
  refine ⟨a, e, ?_⟩
  rcases q with ⟨u, h, n, q⟩ | q
  · rcases q with rfl | ⟨o, rfl⟩
    · exact .inl (.inl h)
    · exact .inl (.inr ⟨o, h⟩)
  · exact .inr q
theorem ev_lenX (h : Ev ta Γ (.scr K vs)) : Ev (tCB (rLen K) (tCons ta tNil)) Γ (.int vs.length) := fun F σ W Q g k => h F σ W _ g fun v H s r => by
  obtain ⟨a, e, q⟩ := scr_sq r
  exact .inl ⟨a, vs, by rw [e], .inl q, k _ H s rfl⟩
theorem ev_ixX {z : Int} (h : Ev ta Γ (.scr K vs)) (hb : Ev tb Γ (.int i)) (hz : atI vs i = some (.int z)) : Ev (tOp (rIx K) ta tb) Γ (.int z) := fun F σ W Q g k => h F σ W _ g fun v H s r => hb F σ (W.at H) _ (g.same s) fun u H' s' r' => by
  obtain ⟨a, e, q⟩ := scr_sq (r.same (W := W.at H) s')
  exact .inl ⟨a, vs, i, .int z, e, r', q, hz, k _ H' (Same.trans s s') rfl⟩
end
end Dw
namespace Dw
open PySem PySem.Spec PyProof.Rows L2
variable [Tabs0]
section
variable {Γ : Gam} {K : PySem.W.Frag} {ta tb te : TE} {ns : List Int} {d : D} {i : Int} {s : Spc} {E : XK}
def intD (ns : List Int) : List D := ns.map D.int
def cutI (ns : List Int) (lo hi : Option Int) : List Int := (ns.drop (HT.sIx ns.length 0 lo)).take (HT.sIx ns.length ns.length hi - HT.sIx ns.length 0 lo)
theorem ev_int1 (h : Ev ta Γ (.int i)) : Ev (tCB (fun xs H Q => (∃ i, xs = [.int i] ∧ Q (.int i) H) ∨ ∃ k, xs = [.bl k] ∧ Q (.int (if k then 1 else 0)) H) (tCons ta tNil)) Γ (.int i) :=
  ev_cb (eva_cons h eva_nil) fun W us Q dom r k => by
    obtain ⟨v, _, rfl, rv, rfl⟩ := r
    exact .inl ⟨i, by rw [show v = V.int i from rv], k _ _ (Same.refl _) rfl⟩
theorem ev_abs (h : Ev ta Γ (.int i)) : Ev (tCB (fun xs H Q => ∃ i, xs = [.int i] ∧ Q (.int (if i < 0 then -i else i)) H) (tCons ta tNil)) Γ (.int (if i < 0 then -i else i)) :=
  ev_cb (eva_cons h eva_nil) fun W us Q dom r k => by
    obtain ⟨v, _, rfl, rv, rfl⟩ := r
    exact ⟨i, by rw [show v = V.int i from rv], k _ _ (Same.refl _) rfl⟩
theorem ev_max2 {j : Int} (h : Ev ta Γ (.int i)) (h' : Ev tb Γ (.int j)) : Ev (tCB (fun xs H Q => ∃ i j, xs = [.int i, .int j] ∧ Q (.int (if j > i then j else i)) H) (tCons ta (tCons tb tNil))) Γ (.int (if j > i then j else i)) :=
  ev_cb (eva_cons h (eva_cons h' eva_nil)) fun W us Q dom r k => by
    obtain ⟨v, _, rfl, rv, v', _, rfl, rv', rfl⟩ := r
    exact ⟨i, j, by rw [show v = V.int i from rv, show v' = V.int j from rv'], k _ _ (Same.refl _) rfl⟩
theorem ev_min2 {j : Int} (h : Ev ta Γ (.int i)) (h' : Ev tb Γ (.int j)) : Ev (tCB (fun xs H Q => ∃ i j, xs = [.int i, .int j] ∧ Q (.int (if j < i then j else i)) H) (tCons ta (tCons tb tNil))) Γ (.int (if j < i then j else i)) :=
  ev_cb (eva_cons h (eva_cons h' eva_nil)) fun W us Q dom r k => by
    obtain ⟨v, _, rfl, rv, v', _, rfl, rv', rfl⟩ := r
    exact ⟨i, j, by rw [show v = V.int i from rv, show v' = V.int j from rv'], k _ _ (Same.refl _) rfl⟩
/-- a def that makes a purse from the script -/
def toPurse (K : PySem.W.Frag) : Sp := fun vs H Q _ => ∃ (F : Addr → Prop) (W : Wd) (ns : List Int) (spot : Nat), W.H = H ∧ WOk F W ∧ RepL W [.scr K (ns.map V.int), .int spot] vs ∧ ns.length ≤ 63 ∧ spot ≤ 1000 ∧ (∀ z ∈ ns, Builtin.Int.intBits z ≤ 1048576) ∧
  ∀ (a : Addr) (x y : Int) (W' : Wd) (H' : Hp), Stp F W W' → WOk F W' → Same W'.H H' → W'.H a = none → H' a = some (.lst [.int x, .int y]) → 0 ≤ x → 0 ≤ y → y < 2147483647 → Q (.ref a) H'
/-- right(purse(script, spot)) -/
theorem dl_purse {E2 : XK} {Q : D → Gam → Prop} {x : s.ty} {spot : Nat} (ha : s.args x = [.purse]) (ok : s.ok x) (hr : ∀ d, s.rel x d → d = .bl true) (h1 : Ev ta Γ (.scr K (ns.map V.int))) (h2 : Ev tb Γ (.int spot)) (hz : ns.length ≤ 63) (hs : spot ≤ 1000) (hbit : ∀ z ∈ ns, Builtin.Int.intBits z ≤ 1048576) (q : Q (.bl true) Γ) :
    Dl (tCall (toSp s) [] E (tCons (tCall (toPurse K) [] E2 (tCons ta (tCons tb tNil))) tNil)) Γ Q := fun F σ W R g k => by
  show tCons ta (tCons tb tNil) σ W.H (fun vs H1 => toPurse K (vs ++ []) H1 (fun v H2 => toSp s ([v] ++ []) H2 R E) E2)
  refine (eva_cons h1 (eva_cons h2 eva_nil)) F σ W _ g fun vs H s1 r => ?_
  have g1 := g.same s1
  rw [List.append_nil]
  refine ⟨_, W.at H, ns, spot, rfl, g1.callOk, r, hz, hs, hbit, fun a x' y W' H' st ok' sm hn ha' h0 h0' h0y => ?_⟩
  have g2 := g1.call st ok'
  have okc := g2.callOk
  have nu : ¬ W'.U a := g2.ok.new hn
  have tb : ∀ p q, Tabs0.nm p = some q → W'.P p := fun p q z => by
    obtain ⟨v0, r0, e0, hr0, _⟩ := r
    obtain ⟨_, _, _, t0⟩ := hr0
    have := t0 p q z
    rw [st.pur]
    exact this
  have nn : Tabs0.nm a = none := by
    cases z : Tabs0.nm a with
    | none => rfl
    | some q => exact absurd hn ((okc.pu a (tb a q z)).2.2.some)
  refine ⟨x, _, ⟨H', fun b => W'.U b ∨ b = a, fun b => W'.P b ∨ b = a⟩, rfl, ⟨fun b z => ?_, fun b z => .inl (okc.fu b z), fun b z => ?_⟩, ?_, ok, fun d v W2 hd st2 ok2 r2 => ?_⟩
  · rcases z with z | rfl
    · exact fun e => okc.dom b z (sm.free e)
    · show H' b ≠ none
      rw [ha']; exact fun e => nomatch e
  · rcases z with z | rfl
    · obtain ⟨u, f, o⟩ := okc.pu b z
      exact ⟨.inl u, f, o.same sm⟩
    · exact ⟨.inr rfl, fun z => nu (okc.fu b z), .of ⟨x', y, h0, h0', h0y, ha'⟩ nn⟩
  · rw [ha]
    exact RepL.one ⟨a, rfl, .inr rfl, nn, fun p q z => .inl (tb p q z)⟩
  · have hd' := hr d hd
    subst hd'
    have stc : Stp (fun b => F b ∨ ownA Γ σ b) W' ⟨W2.H, W2.U, W'.P⟩ := ⟨fun b u e n => by
        have nb : b ≠ a := fun z => by rw [z, hn] at e; cases e
        obtain ⟨e2, n2⟩ := st2.keep b u (sm _ _ e) fun z => z.elim n nb
        exact ⟨e2, n2⟩, rfl, fun b z => by
        refine (st2.fr b z).trans ?_
        show H' b = W'.H b
        cases q : W'.H b with
        | none => exact absurd q (okc.dom b (okc.fu b z))
        | some u => exact sm _ _ q⟩
    have okc2 : WOk (fun b => F b ∨ ownA Γ σ b) ⟨W2.H, W2.U, W'.P⟩ := ⟨ok2.dom, ok2.fu, fun b z => by
      have := ok2.pu b (by rw [st2.pur]; exact .inl z)
      exact this⟩
    have st0 : Stp F W ⟨W2.H, W2.U, W'.P⟩ := (Stp.of_same g.ok s1).trans (((st.trans stc)).sub fun _ z => .inl z)
    exact k v ⟨W2.H, W2.U, W'.P⟩ (.bl true) Γ st0 (g2.call stc okc2) r2 q
end
end Dw

/-! sorted(a tuple of ints), xs[::k]. -/
namespace Dw
open PySem PySem.Spec PyProof.Rows L2
section
variable {prog : Program} {w : World} {A : Around} {E : Value → Shared → Prop} {s : Shared}
end
/-! ### xs[::k] -/
/-! ### text * int -/
def rMulS : R2 := fun x y H Q => ∃ i j, x = .str i ∧ y = .int j ∧ MulOk i j ∧ Q (.str (Txt.mul i j)) H
theorem op_mulS {X : Cx} : OpR X (binaryOp .Mult) rMulS := by
  intro pins s σ H x y v u Q I rx ry h
  obtain ⟨i, j, rfl, rfl, hz, q⟩ := h
  obtain ⟨t, rfl⟩ := rx
  obtain ⟨t', rfl⟩ := ry
  exact SB.mul hz fun t' tk => ⟨.str (Txt.mul i j), H, I.tok _, ⟨_, rfl⟩, q⟩
end Dw

/-! while, xs[::k], sorted of a tuple, equality of nested data. -/
namespace Dw
open PySem PySem.Spec PyProof.Rows L2
variable [Tabs0]
section
variable {K : PySem.W.Frag} {Γ : Gam} {ta tb te tk : TE} {De : DE} {ds es : List D} {d : D}
theorem ds_while {c : TT} {tb : TS} (J : Nat → Gam → Prop) (m0 : Nat) (h0 : J m0 Γ)
    (hs : ∀ m Γ', J m Γ' → DlT c Γ' fun b Γ1 => (b = true → Ds tb Γ1 ⟨fun Γ2 => ∃ m', m' < m ∧ J m' Γ2, De.rt, De.nx, fun Γ2 => ∃ m', m' < m ∧ J m' Γ2⟩) ∧ (b = false → De.nx Γ1)) : Ds (tWhile c tb) Γ De := fun F σ W Dr g l => by
  refine ⟨fun m σ' H' => ∃ W' Γ', W'.H = H' ∧ Stp F W W' ∧ SR F Γ' σ' W' ∧ J m Γ', ⟨m0, W, Γ, rfl, .refl _, g, h0⟩, ?_⟩
  rintro m σ' H' ⟨W', Γ', rfl, s', g', j⟩
  refine hs m Γ' j F σ' W' _ g' fun b W1 Γ1 s1 g1 q => ?_
  cases b with
  | false => rw [if_neg (by decide)]; exact l.nx σ' W1 Γ1 (s'.trans s1) g1 (q.2 rfl)
  | true =>
    rw [if_pos rfl]
    refine ⟨fun σ2 H2 => ∃ m', m' < m ∧ ∃ W2 Γ2, W2.H = H2 ∧ Stp F W W2 ∧ SR F Γ2 σ2 W2 ∧ J m' Γ2, fun σ2 H2 q => q, ?_⟩
    have s2 := s'.trans s1
    exact q.1 rfl F σ' W1 _ g1 ⟨fun σ4 W4 Γ4 s4 g4 ⟨m', hm, q⟩ => ⟨m', hm, W4, Γ4, rfl, s2.trans s4, g4, q⟩, fun v W4 d s4 ok4 r4 q => l.rt v W4 d (s2.trans s4) ok4 r4 q, fun σ4 W4 Γ4 s4 g4 q => l.nx σ4 W4 Γ4 (s2.trans s4) g4 q, fun σ4 W4 Γ4 s4 g4 ⟨m', hm, q⟩ => ⟨m', hm, W4, Γ4, rfl, s2.trans s4, g4, q⟩⟩
end
/-! ### nested data: what may be compared -/
mutual
def dOk : Nat → D → Bool
  | _, .non => true | _, .bl _ => true | _, .int _ => true | _, .str x => PyData.strOk x
  | 0, _ => false
  | k + 1, .tup ds => dOks k ds | k + 1, .lst ds => dOks k ds | k + 1, .tupN ds => dOks k ds
  | _ + 1, .obj _ _ _ => false | _ + 1, .raw _ => false | _ + 1, .purse => false | _ + 1, .rng _ _ => false | _ + 1, .dct _ _ => false | _ + 1, .scr _ _ => false | _ + 1, .tag _ => false
def dOks : Nat → List D → Bool
  | _, [] => true
  | k, d :: ds => dOk k d && dOks k ds
end
mutual
theorem dOk_py : ∀ (k : Nat) (d : D), dOk k d = true → isPy d = true ∧ PyData.canLay0 (py d) = true ∧ PyData.depth (py d) ≤ k
  | k, .non, _ => ⟨rfl, rfl, Nat.zero_le _⟩
  | k, .bl _, _ => ⟨rfl, rfl, Nat.zero_le _⟩
  | k, .int _, _ => ⟨rfl, rfl, Nat.zero_le _⟩
  | k, .str x, h => ⟨rfl, by cases k <;> exact h, Nat.zero_le _⟩
  | k + 1, .tup ds, h => by
    obtain ⟨h1, h2, h3⟩ := dOks_py k ds h
    exact ⟨h1, h2, Nat.succ_le_succ h3⟩
  | k + 1, .lst ds, h => by
    obtain ⟨h1, h2, h3⟩ := dOks_py k ds h
    exact ⟨h1, h2, Nat.succ_le_succ h3⟩
  | k + 1, .tupN ds, h => by
    obtain ⟨h1, h2, h3⟩ := dOks_py k ds h
    exact ⟨h1, h2, Nat.succ_le_succ h3⟩
  | 0, .tupN _, h => nomatch h
  | 0, .tup _, h => nomatch h
  | 0, .lst _, h => nomatch h
  | 0, .obj _ _ _, h => nomatch h
  | 0, .raw _, h => nomatch h
  | 0, .purse, h => nomatch h
  | 0, .rng _ _, h => nomatch h
  | 0, .dct _ _, h => nomatch h
  | 0, .scr _ _, h => nomatch h
  | 0, .tag _, h => nomatch h
  | _ + 1, .obj _ _ _, h => nomatch h
  | _ + 1, .raw _, h => nomatch h
  | _ + 1, .purse, h => nomatch h
  | _ + 1, .rng _ _, h => nomatch h
  | _ + 1, .dct _ _, h => nomatch h
  | _ + 1, .scr _ _, h => nomatch h
  | _ + 1, .tag _, h => nomatch h
theorem dOks_py : ∀ (k : Nat) (ds : List D), dOks k ds = true → isPys ds = true ∧ PyData.canLayAll0 (pys ds) = true ∧ PyData.depthAll (pys ds) ≤ k
  | k, [], _ => ⟨rfl, rfl, Nat.zero_le _⟩
  | k, d :: ds, h => by
    have h : (dOk k d && dOks k ds) = true := by cases k <;> exact h
    rw [Bool.and_eq_true] at h
    obtain ⟨a1, a2, a3⟩ := dOk_py k d h.1
    obtain ⟨b1, b2, b3⟩ := dOks_py k ds h.2
    exact ⟨by show (isPy d && isPys ds) = true; rw [a1, b1]; rfl, by show (PyData.canLay0 (py d) && PyData.canLayAll0 (pys ds)) = true; rw [a2, b2]; rfl, Nat.max_le.mpr ⟨a3, b3⟩⟩
end
theorem dOk_shaped {k : Nat} {d : D} (h : dOk k d = true) (hk : k ≤ 64) : isPy d = true ∧ SeqAt.shaped (py d) = true := by
  obtain ⟨h1, h2, h3⟩ := dOk_py k d h
  refine ⟨h1, ?_⟩
  show (PyData.canLay0 (py d) && decide (PyData.depth (py d) ≤ 64)) = true
  rw [h2, decide_eq_true (Nat.le_trans h3 hk)]; rfl
theorem dOks_map {α : Type} {k : Nat} {f : α → D} : ∀ {l : List α}, (∀ x ∈ l, dOk k (f x) = true) → dOks k (l.map f) = true
  | [], _ => by cases k <;> rfl
  | x :: l, h => by
    have e : dOks k ((x :: l).map f) = (dOk k (f x) && dOks k (l.map f)) := by cases k <;> rfl
    rw [e, h x List.mem_cons_self, dOks_map fun y hy => h y (List.mem_cons_of_mem _ hy)]; rfl
section
variable {K : PySem.W.Frag} {d : D} {ds es : List D} {k : Nat}
theorem ne_self (h : dOk k d = true) (hk : k ≤ 64) : DR2 (rNeX K) d d (.bl false) := by
  obtain ⟨h1, h2⟩ := dOk_shaped h hk
  have := ne_deep (K := K) h1 h1 h2 h2
  rw [SeqAt.eqv_refl _ (dOk_py k d h).2.1] at this
  exact this
end
section
variable {K : PySem.W.Frag} {Γ : Gam} {ta tb : TE}
theorem mul_ok {n : Nat} (h : n ≤ 8) : MulOk (Str.ofString ".") (n : Int) ∧ Txt.mul (Str.ofString ".") (n : Int) = tx (List.replicate n 46) := by
  have hn : n = 0 ∨ n = 1 ∨ n = 2 ∨ n = 3 ∨ n = 4 ∨ n = 5 ∨ n = 6 ∨ n = 7 ∨ n = 8 := by omega
  unfold MulOk
  rcases hn with rfl | rfl | rfl | rfl | rfl | rfl | rfl | rfl | rfl <;> exact ⟨by decide +kernel, by decide +kernel⟩
theorem mul_dots {n : Nat} (h : n ≤ 8) : DR2 rMulS (.str (Str.ofString ".")) (.int n) (.str (tx (List.replicate n 46))) := dr2_flat fun W u v Q a b k => ⟨_, _, a, b, (mul_ok h).1, k _ (by rw [(mul_ok h).2]; rfl)⟩
theorem ev_neg {i : Int} (h : Ev ta Γ (.int i)) : Ev (tUn (rU fun i => .int (-i)) ta) Γ (.int (-i)) := ev_un h fun W u Q dom r k => ⟨i, r, k _ _ (Same.refl _) rfl⟩
/-- whole numbers in a list -/
def ordN (o : List Nat) : List D := o.map fun (k : Nat) => D.int k
theorem inV_ord (c : Nat) : ∀ l : List Nat, inV (.int (c : Int)) ((ordN l).map scV) = decide (c ∈ l)
  | [] => rfl
  | b :: l => by
    show ((decide ((b : Int) = (c : Int))) || inV (.int (c : Int)) ((ordN l).map scV)) = _
    rw [inV_ord c l, Bool.eq_iff_iff]
    simp only [Bool.or_eq_true, decide_eq_true_eq, List.mem_cons, Int.natCast_inj]
    constructor
    · rintro (h | h)
      · exact .inl h.symm
      · exact .inr h
    · rintro (h | h)
      · exact .inl h.symm
      · exact .inr h
theorem sc_ord (l : List Nat) : (ordN l).all isSc = true := by
  unfold ordN
  rw [List.all_map, List.all_eq_true]
  exact fun _ _ => rfl
theorem ev_inO {neg : Bool} {r' : R2} {c : Nat} {l : List Nat} (ha : Ev ta Γ (.int c)) (h : EvB tb Γ (ordN l)) : Ev (tOp (rOr (rIn K neg) r') ta tb) Γ (.bl (if neg then !decide (c ∈ l) else decide (c ∈ l))) := by
  have e := ev_in (neg := neg) (K := K) (r' := r') ha h rfl (sc_ord l)
  rw [show scV (.int (c : Int)) = V.int (c : Int) from rfl, inV_ord c l] at e
  exact e
end
end Dw

/-! sorted(set(t)), t a tuple of ints. -/
namespace Dw
open PySem PySem.Spec PyProof.Rows L2
variable [Tabs0]
section
variable {K : PySem.W.Frag} {w : World} {Γ : Gam} {ta : TE}
end
section
variable {K : PySem.W.Frag} {Γ : Gam} {ta : TE} {xs : List D}
theorem ei_enumL {r : TI} (h : EvB ta Γ xs) : Ei (fun σ H R => iEnum K (tCons ta tNil) σ H R ∨ r σ H R) Γ (enumD xs) := fun F σ W R g k => .inl (h F σ W _ g fun a vs H s ha l => by
  refine ⟨a, vs, rfl, .of ha, k (Ite K a) H s ⟨fun W2 i x dm s2 ku pu hx => ?_, fun H2 s2 => ⟨vs, .of (s2 _ _ ha), by rw [enumD_length, l.length]; exact Nat.le_refl _⟩⟩⟩
  obtain ⟨y, hy, rfl⟩ := enumD_get hx
  obtain ⟨v, hv, rv⟩ := l.get hy
  have h2 : W2.H a = some (.lst vs) := s2 _ _ ha
  refine ⟨⟨vs, v, .of h2, hv⟩, fun u H' ⟨T, z, eu, hT, eH, hz⟩ => ?_⟩
  subst eu; subst eH
  have := hz vs (.of h2)
  rw [hv] at this; cases this
  exact ⟨same_upd hT, rep_new_tup dm hT ⟨_, _, rfl, rfl, v, _, rfl, Rep.mono (W := W.at H) (W' := W2) (fun b u e n => ⟨s2 b u e, ku b u e n⟩) (fun b z => by rw [pu]; exact z) _ _ rv, rfl⟩⟩)
end
end Dw

/-! repr of data: it asks that no other repr is under way (guards), so the defs that call it have a promise of their own. -/
namespace Dw
open PySem PySem.Spec PyProof.Rows L2
variable [Tabs0]
/-- as FnOk, but only where no repr is under way -/
def FnG (P : Program) (w : World) (K : PySem.W.Frag) (mg : Str → Option Value) (base : Heap) (k : Nat) (f : Addr) (fd : FuncData) (ps : List Str) (s : Spc) : Prop :=
  (∀ x, (s.args x).length = ps.length) ∧ ∀ (A : Around) (outer : List Env) (sh : Shared) (H : Hp) (args : Args) (us : List Value) (vs : List V) (Q : VK) (E : XK), Room k A → A.guards = some [] → Env0 P w K mg base A outer sh H → BindsTo sh fd args (ps.zip us) → Vals vs us → toSp s vs H Q E → codeAny (model P w) A (.call (.ref f) args) (CR CX0 outer P w H sh Q E) sh
section
variable {P : Program} {w : World} {K : PySem.W.Frag} {mg : Str → Option Value} {base : Heap}
theorem cells_in {N ps : List Str} {sc : Scope} {n : Nat} (S : FnScope N ps sc) (us : List Value) : ∀ y ∈ ps.zip us, sc.names.lookup y.1 = some .local ∨ (sc.names.lookup y.1 = some .cell ∧ ((cellsFrom n sc.names []).lookup y.1).isSome = true) := by
  rintro ⟨a, b⟩ hy
  exact (S.par a (List.of_mem_zip hy).1).imp id fun q => ⟨q, PySem.W.cellsFrom_some _ _ _ (.inl q)⟩
theorem fnG_ok {x qual : Str} {st : Stmt} {f : Addr} {fd : FuncData} {N ps : List Str} {k : Nat} {s : Spc} (F : Fun K x qual st f fd) (S : FnScope N ps (defScope st)) (len : ∀ x, (s.args x).length = ps.length)
    (hbody : ∀ (cdv : Value) (A : Around) (outer : List Env) (s' : Shared) (H : Hp) (E : XK), Room k (A.deeper (envOfC qual (defScope st) s'.heap.objs.size f cdv)) → (A.deeper (envOfC qual (defScope st) s'.heap.objs.size f cdv)).guards = some [] →
      ∃ t, PSs (cxOf CX0 P w K mg base N qual (defScope st) f cdv A outer s' H E).nox (defBody st) t ∧ ∀ x, s.ok x → Ds t (Gz0 N.length (s.args x)) ⟨fun _ => s.rel x .non, s.rel x, fun _ => False, fun _ => False⟩) : FnG P w K mg base (k + 1) f fd ps s := by
  obtain ⟨oc, od, kV, doc, pm, an, cdv, ct, osl, rfl, lk, hcd⟩ := F.ex
  refine ⟨len, fun A outer sh H args us vs Q E hr hg e0 hb r hsp => ?_⟩
  obtain ⟨t, p, hd⟩ := hbody cdv A outer sh H E (hr.deeper _) hg
  have old : ∀ b o, base.get? b = some o → sh.heap.get? b = some o := fun b o e => (e0.bs b o e).1
  have KX := e0.mod.kin.keeps old
  refine codeAny_call_function hr.depth (KX _ _ lk) rfl S.co S.gen rfl (PySem.W.codeRec_of KX hcd) (hb _ _ _ _ (wpAny_newFunctionEnv_cells S.kind (cells_in S us) ?_))
  rintro env rfl s1 x1
  refine ⟨(e0.mod.nolimit.keeps old).keeps x1.toInCall.keep, codeAny_func (wpAny_mono (p.nox.run [] s1 _ H _ (inv_start S hr.hd e0 (spc_len len _ _ _ _ hsp) r x1) (body_of hsp hd)) (fun fl s' hs => ?_) fun _ _ z => z)⟩
  have done : ∀ {σ' : L2.St} {H' : Hp} {v : V} {u : Value}, Inv (cxOf CX0 P w K mg base N qual (defScope st) f cdv A outer sh H E) [] σ' H' s' → RelV v u → Q v H' → CE outer P w H sh Q u s' := fun {_ H' v _} J rv q => ⟨v, H', J.os, J.bare, J.base, J.hok, rv, q⟩
  match fl, hs with
  | .ret _, ⟨_, _, _, J, rv, q⟩ => exact done J rv q
  | .next, ⟨_, _, J, q⟩ => exact done (v := .non) (u := .none) J rfl q
  | .brk, ⟨_, _, _, q⟩ => exact q.elim
  | .cont, ⟨_, _, _, q⟩ => exact q.elim
section
variable {X : Cx} {k : Nat} {f : Addr} {fd : FuncData} {ps : List Str} {s : Spc} {E : XK} {x : Str} {p pos : Pos} {e : Expr} {es : List Expr} {t : TA}
end
end
/-! ### repr -/
mutual
/-- what can be shown -/
def shOk : D → Bool
  | .non => true | .bl _ => true | .int i => PyData.showable (.int i) | .str x => PyData.showable (.str x)
  | .tup ds => shOks ds | .lst ds => shOks ds | .tupN ds => shOks ds | _ => false
def shOks : List D → Bool
  | [] => true
  | d :: ds => shOk d && shOks ds
end
mutual
theorem shOk_py : ∀ d : D, shOk d = true → PyData.showable (py d) = true ∧ PyData.hasDict (py d) = false
  | .non, _ => ⟨rfl, rfl⟩
  | .bl _, _ => ⟨rfl, rfl⟩
  | .int _, h => ⟨h, rfl⟩
  | .str _, h => ⟨h, rfl⟩
  | .tup ds, h => shOks_py ds h
  | .lst ds, h => shOks_py ds h
  | .tupN ds, h => shOks_py ds h
  | .obj _ _ _, h => nomatch h
  | .raw _, h => nomatch h
  | .purse, h => nomatch h
  | .rng _ _, h => nomatch h
  | .dct _ _, h => nomatch h
  | .scr _ _, h => nomatch h
  | .tag _, h => nomatch h
theorem shOks_py : ∀ ds : List D, shOks ds = true → PyData.showableAll (pys ds) = true ∧ PyData.hasDictAll (pys ds) = false
  | [], _ => ⟨rfl, rfl⟩
  | d :: ds, h => by
    have h : (shOk d && shOks ds) = true := h
    rw [Bool.and_eq_true] at h
    obtain ⟨a1, a2⟩ := shOk_py d h.1
    obtain ⟨b1, b2⟩ := shOks_py ds h.2
    exact ⟨by show (PyData.showable (py d) && PyData.showableAll (pys ds)) = true; rw [a1, b1]; rfl, by show (PyData.hasDict (py d) || PyData.hasDictAll (pys ds)) = false; rw [a2, b2]; rfl⟩
end
section
variable {K : PySem.W.Frag} {Γ : Gam} {ta : TE} {ds : List D} {k : Nat}
end
/-! ### the head, where the law's def has such a promise -/
section
variable {P : Program} {w : World} {K : PySem.W.Frag} {mg mb : Str → Option Value} {k : Nat} {fa a : Addr} {fd : FuncData} {x : Str} {s1 : Shared} {vs : List Value} {ns : List Int} {sp : Spc}
/-- what is tracked at the head: the script, unless the module has it -/
def headH (K : PySem.W.Frag) (a : Addr) (vs : List Value) (ns : List Int) : Hp := fun b => if b = a ∧ K.lookup a = none then some (.frz { cls := .type "list", data := .seq vs.toArray } (.lst (ns.map V.int))) else none
theorem headH_none {b : Addr} (h : b ≠ a) : headH K a vs ns b = none := if_neg fun z => h z.1
end
end Dw

/-! Bits, sums, xs[k] = v, x |= y, reversed(range(n)). -/
namespace Dw
open PySem PySem.Spec PyProof.Rows L2
variable [Tabs0]
section
variable {K : PySem.W.Frag} {Γ : Gam} {ta tb te tk : TE} {De : DE} {ds : List D} {d : D}
abbrev rShl : R2 := rI CPow fun i j => .int (i * 2 ^ j.toNat)
abbrev rOrB : R2 := rI0 fun i j => .int (Builtin.bitOr i j)
abbrev rAndB : R2 := rI0 fun i j => .int (Builtin.bitAnd i j)
theorem dr2_shl1 {k : Nat} (h : k ≤ 1000) : DR2 rShl (.int 1) (.int k) (.int ((2 ^ k : Nat) : Int)) := dr2_rI ⟨by omega, by omega, by decide⟩ fun W => by
  show V.int (1 * 2 ^ (k : Int).toNat) = V.int ((2 ^ k : Nat) : Int)
  rw [Int.one_mul, Int.toNat_natCast, Int.natCast_pow]; rfl
theorem dr2_or {a b : Nat} : DR2 rOrB (.int a) (.int b) (.int ((a ||| b : Nat) : Int)) := dr2_rI0 fun W => by
  show V.int (Builtin.bitOr a b) = V.int ((a ||| b : Nat) : Int)
  rw [Bits.bitOr_pp (by omega) (by omega)]; rfl
theorem dr2_and {a b : Nat} : DR2 rAndB (.int a) (.int b) (.int ((a &&& b : Nat) : Int)) := dr2_rI0 fun W => by
  show V.int (Builtin.bitAnd a b) = V.int ((a &&& b : Nat) : Int)
  rw [bitAnd_pp (by omega) (by omega)]; rfl
theorem ev_sum {ns : List Int} (h : EvB ta Γ (ns.map D.int)) : Ev (tCB (rSum K) (tCons ta tNil)) Γ (.int ns.sum) := fun F σ W Q g k => h F σ W _ g fun p vs H s e l => ⟨p, ns, rfl, .of (by rw [e, RepL.ints.mp l]), k _ H s rfl⟩
theorem repL_rep {W : Wd} {vs : List V} (l : RepL W ds vs) : ∀ n : Nat, RepL W (List.replicate n ds).flatten (List.replicate n vs).flatten
  | 0 => rfl
  | n + 1 => by
    rw [List.replicate_succ, List.replicate_succ, List.flatten_cons, List.flatten_cons]
    exact l.append (repL_rep l n)
/-- xs * n, a new list -/
theorem evn_rep {n : Nat} (h : EvB ta Γ ds) (hn : Ev tb Γ (.int n)) (hz : ds.length * n ≤ sizeLine) (hb : n < 2 ^ 63) : EvN (tOp rTimes ta tb) Γ (List.replicate n ds).flatten := fun F σ W Q g k =>
  h F σ W _ g fun a vs H s e l => hn F σ (W.at H) _ (g.same s) fun u H2 s2 r => .inr ⟨a, n, vs, rfl, r, s2 _ _ e, by omega, by omega, by rw [← l.length, Int.toNat_natCast]; exact hz, fun p hp => by
    rw [Int.toNat_natCast]
    exact k p _ _ (Same.trans s (Same.trans s2 (same_upd hp))) (s.free (s2.free hp)) upd_same (RepL.plus (W := W.at H2) hp (same_upd hp) (repL_rep (RepL.same (W := W.at H) s2 l) n))⟩
/-- xs[k] = v, an own list -/
theorem ds_sub {i : Nat} (h0 : ∃ ds, Γ[i]? = some (.own ds)) (h : Dl te Γ fun d Γ1 => ∃ (ds : List D) (k : Nat), Γ1[i]? = some (.own ds) ∧ Ev tk Γ1 (.int k) ∧ k < ds.length ∧ De.nx (Γ1.set i (.own (ds.set k d)))) : Ds (tAsg te (gSub (tVar i) tk rSetL)) Γ De := fun F σ W Dr g l =>
  h F σ W _ g fun v W1 d Γ1 st g1 r ⟨ds, k, e1, hk, lt, q⟩ => by
    obtain ⟨a, vs, hs, u, f, p, q1, r1⟩ := g1.own i ds e1
    refine ⟨.ref a, hs, hk F σ W1 _ g1 fun w H2 s2 rk => ?_⟩
    have g2 := g1.same s2
    obtain ⟨a', vs', hs', _, _, _, q2, r2⟩ := g2.own i ds e1
    rw [hs] at hs'; cases hs'
    have hl : (k : Int) < (vs'.length : Int) := by rw [← r2.length]; omega
    obtain ⟨st3, g3⟩ := g2.write e1 hs (r2.set (r.same (W := W1) s2) k)
    refine ⟨a, vs', k, k, rfl, rk, q2, ?_, l.nx σ _ _ (st.trans ((Stp.of_same g1.ok s2).trans st3)) g3 q⟩
    unfold ixN
    rw [if_pos (by omega), if_pos hl]; rfl
/-- x |= y -/
theorem ds_orI {i a b : Nat} (h0 : Γ[i]? = some (.val (.int a))) (h : Ev te Γ (.int b)) (q : De.nx (Γ.set i (.val (.int ((a ||| b : Nat) : Int))))) : Ds (tAug i te rOrB) Γ De := fun F σ W Dr g l => by
  obtain ⟨v, e, r⟩ := g.val i _ h0
  refine ⟨v, e, h F σ W _ g fun u H s ru => ⟨a, b, r, ru, ?_⟩⟩
  have e2 : Builtin.bitOr (a : Int) (b : Int) = ((a ||| b : Nat) : Int) := by rw [Bits.bitOr_pp (by omega) (by omega)]; rfl
  show Dr.nx (σ.set i (some (V.int (Builtin.bitOr a b)))) H
  rw [e2]
  exact l.nx _ (W.at H) _ (Stp.of_same g.ok s) ((g.same s).set (d := .int ((a ||| b : Nat) : Int)) rfl) q
theorem di_rev {n : Nat} {Q : List D → Gam → Prop} (h : Ev ta Γ (.int n)) (hn : n < 2 ^ 62) (q : Q (rng n).reverse Γ) : Di (iRevR (tRg1 ta)) Γ Q := fun F σ W R g k => h F σ W _ g fun v H s r => by
  refine ⟨n, r, by omega, by omega, by omega, by omega, ?_⟩
  have hn0 : ((n : Int) - 0).toNat = n := by omega
  refine k (Itc (0 + (((((n : Int) - 0).toNat : Nat) : Int)) - 1) (-1) ((n : Int) - 0).toNat) (W.at H) _ Γ (Stp.of_same g.ok s) (g.same s) ⟨fun W2 i x s2 ok2 hx => ?_, fun W2 s2 ok2 => ?_⟩ q
  · have hi : i < n := by
      have := (List.getElem?_eq_some_iff.mp hx).1
      rw [List.length_reverse, rng_length] at this
      exact this
    rw [List.getElem?_reverse (by rw [rng_length]; exact hi), rng_length] at hx
    obtain ⟨_, rfl⟩ := rng_get hx
    refine ⟨by show i < _; omega, fun u H' ⟨e, hy⟩ => ?_⟩
    subst e hy
    refine ⟨Same.refl _, ?_⟩
    show V.int _ = V.int _
    congr 1
    omega
  · show _ ≤ _
    rw [List.length_reverse, rng_length]; omega
end
end Dw

/-! for i, c in enumerate(a text). -/
namespace Dw
open PySem PySem.Spec PyProof.Rows L2
variable [Tabs0]
/-- each sign of x in a new pair -/
def IteS (x : Str) : It :=
  ⟨fun i _ => i < x.cps.size, fun i H v H' => ∃ T c, v = .ref T ∧ H T = none ∧ H' = upd H T (.tup [.int (i : Nat), .str ⟨#[c]⟩]) ∧ x.cps[i]? = some c, fun i _ => x.cps.size ≤ i⟩
theorem turn_enumS {P : Program} {w : World} {K : PySem.W.Frag} {elts : List Expr} {kk : Nat} {tpos : Pos} (x : Str) (t0 : Tok) (e it : Addr) (nei : e ≠ it) :
    Turn P w K (.Tuple elts kk tpos) (IteS x) [e, it] e (fun i h => (∃ old, IsEnum h e it ((0 : Int) + (i : Int)) old) ∧ h.IsStrIter it (strIterType x) x t0 i ∧ i ≤ x.cps.size) where
  mem := by simp
  obj := fun i h ⟨⟨old, he⟩, ⟨o, ho, hc, hd⟩, _⟩ b hb => by
    rcases (show b = e ∨ b = it by simpa using hb) with z | z
    · subst z; exact ⟨_, he, fun v q => nomatch q⟩
    · subst z; exact ⟨o, ho, fun v q => by rw [hd] at q; cases q⟩
  keep := fun i h h' ⟨⟨old, he⟩, ⟨o, ho, r⟩, hl⟩ k => ⟨⟨old, k e (by simp) _ he⟩, ⟨o, k it (by simp) o ho, r⟩, hl⟩
  item := by
    intro X hP hw hK hc i pins s σ H E I hf st hg
    subst hP; subst hw; subst hK
    have G := GoesN.enumFrom (prog := X.prog) (w := X.w) (A := X.A) (elts := elts) (x1 := kk) (pos := tpos) 0 (Draws.text (A := X.A.in1) (I.ok.hd hc) it x t0) e nei (by simp [nei]) (by simp)
    refine thn (G.goes i s (fun v s2 => ∃ T t c u, v = Value.ref T ∧ s.heap.objs.size ≤ T ∧ x.cps[i]? = some c ∧ s2.heap.IsTuple T #[.int ((0 : Int) + (i : Int)) t, .str ⟨#[c]⟩ u] ∧
        (∃ old, IsEnum s2.heap e it ((0 : Int) + ((i + 1 : Nat) : Int)) old) ∧ s2.heap.IsStrIter it (strIterType x) x t0 (i + 1) ∧ (∀ b o, b ∉ [e, it] → s.heap.get? b = some o → s2.heap.get? b = some o) ∧ ∃ h' tk, s2 = { s with heap := h', toks := tk }) E hg ⟨st.1, st.2.1⟩
      fun v h' tk ⟨T, t, y, ev, hT, ⟨c, u, hy, ey⟩, htu⟩ ⟨ho, hit⟩ kp _ => ⟨T, t, c, u, ev, hT, hy, by rw [← ey]; exact htu, ho, hit, kp, h', tk, rfl⟩) fun r s1 ⟨v, er, hv⟩ => ⟨v, er, thn hv fun _ s2 ⟨T, t, c, u, ev, hT, hy, htu, ho, hit, kp, h', tk, es⟩ => ?_⟩
    subst es; subst ev
    have new : ObjOk X.prog X.w (upd H T (.tup [.int (i : Nat), .str ⟨#[c]⟩])) h' T (.tup [.int (i : Nat), .str ⟨#[c]⟩]) :=
      ⟨by show 2 ≤ sizeLine; decide, [.int ((0 : Int) + (i : Int)) t, .str ⟨#[c]⟩ u], .cons ⟨t, by rw [Int.zero_add]⟩ (.cons ⟨u, rfl⟩ .nil), htu⟩
    have I1 : Inv X pins σ (upd H T (.tup [.int (i : Nat), .str ⟨#[c]⟩])) { s with heap := h', toks := tk } := I.turnedNew (ch := [e, it]) kp hf hT new
    refine ⟨.ref T, _, I1, rfl, ⟨T, c, rfl, I.hok.fresh hT, rfl, hy⟩, ⟨ho, hit, hg⟩, fun b hb => ?_⟩
    have lt : b ≠ T := by
      rcases (show b = e ∨ b = it by simpa using hb) with z | z
      · obtain ⟨old, he⟩ := st.1
        rw [z]; exact Nat.ne_of_lt (Nat.lt_of_lt_of_le (Heap.lt_size he) hT)
      · obtain ⟨o, q, _⟩ := st.2.1
        rw [z]; exact Nat.ne_of_lt (Nat.lt_of_lt_of_le (Heap.lt_size q) hT)
    rw [upd_ne lt]
    exact (hf b hb).1
  done := by
    intro X hP hw hK hc i pins s σ H E I hf st hg
    subst hP; subst hw; subst hK
    have G := GoesN.enumFrom (prog := X.prog) (w := X.w) (A := X.A) (elts := elts) (x1 := kk) (pos := tpos) 0 (Draws.text (A := X.A.in1) (I.ok.hd hc) it x t0) e nei (by simp [nei]) (by simp)
    have en : x.cps.size = i := Nat.le_antisymm hg st.2.2
    rw [en] at G
    exact G.stops s _ E ⟨st.1, st.2.1⟩ fun h' tk kp _ => inv_turned I kp hf
  self := fun A i s Q E ⟨⟨_, he⟩, _⟩ h => wpAny_pyIter_enum he h
def iEnumS (ta : TA) : TI := fun σ H R => ta σ H fun vs H1 => ∃ x, vs = [.str x] ∧ R (IteS x) H1
theorem pi_enumS {X : Cx} {e : Expr} {ta : TA} {p pos tpos : Pos} {elts : List Expr} {kk : Nat} (hg : Gl X "enumerate") (hm : X.mg "enumerate" = none) (ha : PA X [e] ta) (hs : starEach [e] X.env = [(false, eval e X.env)] := by rfl) :
    PI X (.Tuple elts kk tpos) (.Call (.Name "enumerate" p) [e] [] pos) (iEnumS ta) := by
  refine ⟨fun pins s σ H R I h => ?_⟩
  refine Call_ (ld_blt I hg hm boot_enumerate (callWith_type1 (thn (ha.run pos pins s σ H _ I h) fun us s1 ⟨vs, H1, I1, r1, q1⟩ => ?_) hs rfl))
  obtain ⟨x, ex, q⟩ := q1
  subst ex
  obtain ⟨u, eu, ru⟩ := vals1 r1
  subst eu
  obtain ⟨t, rfl⟩ := ru
  refine call_enumerate_str fun h' he hit hsz hk => wpAny_pyIter_enum he ?_
  refine ⟨s1.heap.objs.size + 1, [s1.heap.objs.size + 1, s1.heap.objs.size], _, _, H1, rfl, I1.kept (t' := s1.toks) hk, turn_enumS x t (s1.heap.objs.size + 1) s1.heap.objs.size (Nat.succ_ne_self _), ⟨⟨_, he⟩, hit, Nat.zero_le _⟩, fun b hb => ?_, q⟩
  have hle : s1.heap.objs.size ≤ b := by
    rcases (show b = s1.heap.objs.size + 1 ∨ b = s1.heap.objs.size by simpa using hb) with z | z
    · rw [z]; exact Nat.le_succ _
    · rw [z]; exact Nat.le_refl _
  exact I1.fpOk hle (I1.hok.fresh hle)
theorem enumSA {X : Cx} {e : Expr} {ta : TA} {p pos tpos : Pos} {elts : List Expr} {kk : Nat} (hg : Gl X "enumerate") (hm : X.mg "enumerate" = none) (ha : PA X [e] ta) (hs : starEach [e] X.env = [(false, eval e X.env)] := by rfl) :
    PI X (.Tuple elts kk tpos) (.Call (.Name "enumerate" p) [e] [] pos) (iEnumS ta) := pi_enumS hg hm ha hs
section
variable {K : PySem.W.Frag} {Γ : Gam} {ta : TE}
theorem itS {W : Wd} {x : Str} : ∀ (W2 : Wd) (i : Nat) (d : D), (enumD (signs x))[i]? = some d → (∀ a, W2.U a → W2.H a ≠ none) → (IteS x).go i W2.H ∧ ∀ u H', (IteS x).yld i W2.H u H' → Same W2.H H' ∧ Rep (W2.at H') d u := fun W2 i d hx dm => by
  obtain ⟨y, hy, rfl⟩ := enumD_get hx
  obtain ⟨_, c, hc, rfl⟩ := signs_get hy
  refine ⟨(Array.getElem?_eq_some_iff.mp hc).1, fun u H' ⟨T, z, eu, hT, eH, hz⟩ => ?_⟩
  subst eu; subst eH
  rw [hc] at hz; cases hz
  exact ⟨same_upd hT, rep_new_tup dm hT ⟨_, _, rfl, rfl, _, _, rfl, rfl, rfl⟩⟩
theorem enumS_len (x : Str) : (enumD (signs x)).length = x.cps.size := by
  rw [enumD_length]
  unfold signs
  rw [List.length_map, Array.length_toList]
theorem ei_enumS {x : Str} (h : Ev ta Γ (.str x)) : Ei (iEnumS (tCons ta tNil)) Γ (enumD (signs x)) := fun F σ W R g k => h F σ W _ g fun v H s r => by
  refine ⟨x, by rw [show v = V.str x from r], k (IteS x) H s ⟨fun W2 i d dm s2 ku pu hx => itS (W := W) W2 i d hx dm, fun H2 s2 => ?_⟩⟩
  show x.cps.size ≤ _
  rw [enumS_len]; exact Nat.le_refl _
end
end Dw

/-! *xs in a display, o.m(..). -/
namespace Dw
open PySem PySem.Spec PyProof.Rows L2
variable [Tabs0]
section
variable {K : PySem.W.Frag} {Γ : Gam} {ta te : TE} {t : TA} {ds es : List D} {d : D} {C : Addr} {s : Spc} {E : XK}
end
end Dw

/-! a, b, c = x, y, z. -/
namespace Dw
open PySem PySem.Spec PyProof.Rows L2
variable [Tabs0]
end Dw

/-! enumerate of a list that draws go on beside, not, sign * n. -/
namespace Dw
open PySem PySem.Spec PyProof.Rows L2
variable [Tabs0]
section
variable {K : PySem.W.Frag} {Γ : Gam} {ta t : TE}
theorem di_enumL {Q : List D → Gam → Prop} {r : TI} (h : Dl ta Γ fun d Γ1 => ∃ xs, d = .lst xs ∧ Q (enumD xs) Γ1) : Di (fun σ H R => iEnum K (tCons ta tNil) σ H R ∨ r σ H R) Γ Q := fun F σ W R g k => .inl (h F σ W _ g fun v W1 d Γ1 st g1 rd ⟨xs, e, q⟩ => by
  subst e
  obtain ⟨a, vs, rfl, ha, nu, l⟩ := rd
  refine ⟨a, vs, rfl, .of ha, k (Ite K a) W1 (enumD xs) Γ1 st g1 ⟨fun W2 i x s2 ok2 hx => ?_, fun W2 s2 ok2 => ⟨vs, .of (s2.keep a _ ha nu).1, by rw [enumD_length, l.length]; exact Nat.le_refl _⟩⟩ q⟩
  obtain ⟨y, hy, rfl⟩ := enumD_get hx
  obtain ⟨v, hv, rv⟩ := l.get hy
  have h2 := (s2.keep a _ ha nu).1
  refine ⟨⟨vs, v, .of h2, hv⟩, fun u H' ⟨T, z, eu, hT, eH, hz⟩ => ?_⟩
  subst eu; subst eH
  have := hz vs (.of h2)
  rw [hv] at this; cases this
  exact ⟨same_upd hT, rep_new_tup ok2.dom hT ⟨_, _, rfl, rfl, v, _, rfl, rv.stp s2, rfl⟩⟩)
/-! equality of lists of whole numbers, deep -/
theorem eqv_ints : ∀ a b : List Nat, PyData.eqvAll (pys (ordN a)) (pys (ordN b)) = decide (a = b)
  | [], [] => rfl
  | [], y :: ys => by
    show false = _
    simp
  | x :: xs, [] => by
    show false = _
    simp
  | x :: xs, y :: ys => by
    show ((((x : Nat) : Int) == ((y : Nat) : Int)) && PyData.eqvAll (pys (ordN xs)) (pys (ordN ys))) = _
    rw [eqv_ints xs ys, Bool.eq_iff_iff]
    simp
    intro _
    omega
end
end Dw

/-! first, *rest = a tuple; t[::-1]; t[a:b] of any bounds; x in a dict of the module; the head with the bits of the script. -/
namespace Dw
open PySem PySem.Spec PyProof.Rows L2
variable [Tabs0]
/-! ### first, *rest = t -/
theorem unpack_star1T {prog : Program} {w : World} {A : Around} {E : Value → Shared → Prop} {s : Shared} {l : Addr} {b : Value} {its : List Value} {Q : List Value → Shared → Prop} (hl : IsTup s.heap l (b :: its).toArray) (hh : A.handled = none)
    (hz : its.length ≤ 16000) (h : ∀ (h1 : Heap) (tk : Nat), (∀ c o, s.heap.get? c = some o → h1.get? c = some o) → Q [b, .ref h1.objs.size] { s with heap := h1.push { cls := .type "list", data := .seq its.toArray }, toks := tk }) :
    wpAny (model prog w) A (unpackItems (.ref l) 2 (some 1)) Q E s := by
  have lt : l < s.heap.objs.size := by obtain ⟨o, ho, _⟩ := hl; exact Heap.lt_size ho
  have ne : l ≠ s.heap.objs.size := Nat.ne_of_lt lt
  unfold unpackItems notIterableAtAll
  refine wpAny_bind (wpAny_bind (wpAny_specialOf hl.typeIs slot_tuple_iter.lookup (wpAny_pure ?_)))
  simp only [Bool.false_eq_true, if_false]
  refine wpAny_bind (wpAny_holding (iter_tuple hl ?_))
  refine wpAny_bind (wpAny_holding (draw_tuple ne 1 0 _ _ ⟨_, Heap.get?_push_size _ rfl, rfl, rfl⟩ (hl.push _) (by simp) fun ha hit hs => ?_))
  have hla : IsTup ha l (b :: its).toArray := (hl.push _).extBut hs.extBut ne
  rw [Nat.zero_add] at hit
  obtain ⟨oi, hoi, _⟩ := id hit
  obtain ⟨ol, hol, _⟩ := id hla
  rw [if_neg (show ¬ (((b :: its).toArray.toList.drop 0).take 1).length < 1 by simp)]
  refine wpAny_bind (wpAny_holding (PySem.W.kun_collect (s := { s with heap := ha }) (T := "tuple_iterator") (.inr (.inr (.inr rfl))) (Walks.tuple (A := A.in1) hh s.heap.objs.size l ne _) (fun j u st => st.1.typeIs) (k := 1) (by simp) ⟨hit, hla⟩
    (Heap.lt_size hoi) (Heap.lt_size hol) (fun hb tk kp => ?_) (by rw [sizeLine_eq]; simp; omega)))
  show wpAny _ _ (if its.length < 0 then _ else _) _ _ _
  rw [if_neg (Nat.not_lt_zero _)]
  show wpAny _ _ (newList (its.take (its.length - 0)) >>= fun d => pure ([b] ++ [d] ++ its.drop (its.length - 0))) _ _ _
  rw [Nat.sub_zero, List.take_length, List.drop_length]
  have k2 : ∀ c o, s.heap.get? c = some o → hb.get? c = some o := fun c o e => kp c o (Nat.ne_of_lt (Heap.lt_size e)) (hs.extBut c o (Nat.ne_of_lt (Heap.lt_size e)) (Heap.get?_push_of_some _ e))
  unfold newList
  refine wpAny_bind (wpAny_newObj_type (wpAny_pure ?_) (by show its.toArray.size ≤ sizeLine; rw [sizeLine_eq, List.size_toArray]; omega))
  exact h hb tk k2
/-- from a list or a tuple -/
def gStar1X (K : PySem.W.Frag) (g1 g2 : TG) : TG := fun v σ H Q => ∃ a z zs, v = .ref a ∧ (SqL K H a (z :: zs) ∨ SqT K H a (z :: zs)) ∧ zs.length ≤ 16000 ∧ ∀ p, H p = none → g1 z σ (upd H p (.lst zs)) fun σ1 H1 => g2 (.ref p) σ1 H1 Q
theorem pg_star1X {X : Cx} (hc : X.calm = true) {e1 e2 : Expr} {g1 g2 : TG} {k : Nat} {pos sp : Pos} (h1 : PG X e1 g1) (h2 : PG X e2 g2) (hlen : (assignEach [e1, .Starred e2 sp] X.env).length = 2 := by rfl)
    (hst : (assignEach [e1, .Starred e2 sp] X.env).findIdx? (·.1) = some 1 := by rfl) (hm : (assignEach [e1, .Starred e2 sp] X.env).map (·.2) = [assign e1 X.env, assign e2 X.env] := by rfl) :
    PG X (.Tuple [e1, .Starred e2 sp] k pos) (gStar1X X.K g1 g2) := by
  refine ⟨fun pins s σ H v u Q I r hw => ?_⟩
  obtain ⟨a, z, zs, ev, hq, hl, hw⟩ := hw
  rcases hq with hq | hq
  · exact (pg_star1 hc h1 h2 hlen hst hm).run pins s σ H v u Q I r ⟨a, z, zs, ev, hq, hl, hw⟩
  subst ev
  cases r
  obtain ⟨its, rv, pl, hz⟩ := I.tuple hq
  cases rv with
  | cons rz rr =>
    rename_i b l
    rw [assign_Tuple]
    refine wpAny_bind (wpAny_standAt ?_)
    unfold unpack
    rw [hlen, hst, hm]
    refine wpAny_bind (wpAny_holding (unpack_star1T pl (I.ok.hd hc) (by rw [← rr.length]; exact hl) fun ha tk kp => ?_))
    have I1 : Inv X pins σ H { s with heap := ha, toks := tk } := I.kept kp
    have I2 := I1.laid (t' := tk) (o := .lst zs) (h' := ha.push { cls := .type "list", data := .seq l.toArray }) (fun c o e => Heap.get?_push_of_some _ e) (Nat.le_refl _)
      ⟨by have hz' : zs.length + 1 ≤ sizeLine := hz
          omega, l, 0, rr, Heap.get?_push_size _ rfl⟩
    refine assignInOrder_cons (thn (h1.run pins _ σ _ z b _ I2 rz (hw _ (I1.hok.fresh (Nat.le_refl _)))) fun _ s3 ⟨σ3, H3, I3, q3⟩ => ?_)
    exact assignInOrder_cons (thn (h2.run pins s3 σ3 H3 (.ref ha.objs.size) _ Q I3 rfl q3) fun _ s4 ⟨σ4, H4, I4, q4⟩ => assignInOrder_nil ⟨σ4, H4, I4, q4⟩)
theorem star1XA (K : PySem.W.Frag) {X : Cx} (hc : X.calm = true) {e1 e2 : Expr} {g1 g2 : TG} {k : Nat} {pos sp : Pos} (h1 : PG X e1 g1) (h2 : PG X e2 g2) (hK : X.K = K := by rfl) (hlen : (assignEach [e1, .Starred e2 sp] X.env).length = 2 := by rfl)
    (hst : (assignEach [e1, .Starred e2 sp] X.env).findIdx? (·.1) = some 1 := by rfl) (hm : (assignEach [e1, .Starred e2 sp] X.env).map (·.2) = [assign e1 X.env, assign e2 X.env] := by rfl) :
    PG X (.Tuple [e1, .Starred e2 sp] k pos) (gStar1X K g1 g2) := hK ▸ pg_star1X hc h1 h2 hlen hst hm
section
variable {K : PySem.W.Frag} {Γ : Gam}
theorem ds_starL {te : TE} {De : DE} {a b : Nat} (h : Dl te Γ fun d Γ1 => ∃ d0 ds, (d = .lst (d0 :: ds) ∨ d = .tup (d0 :: ds)) ∧ ds.length ≤ 16000 ∧ De.nx ((Γ1.set a (.val d0)).set b (.val (.lst ds)))) : Ds (tAsg te (gStar1X K (gName a) (gName b))) Γ De := fun F σ W Dr s l => h F σ W _ s fun v W1 d Γ1 st g1 r ⟨d0, ds, e, hz, q⟩ => by
  rcases e with e | e
  · subst e
    obtain ⟨p, vs, rfl, hp, nu, z, zs, rfl, r0, r1⟩ := r
    refine ⟨p, z, zs, rfl, .inl (.of hp), by rw [← r1.length]; exact hz, fun n hn => ?_⟩
    have sm : Same W1.H (upd W1.H n (.lst zs)) := same_upd hn
    exact l.nx _ (W1.at _) _ (st.trans (Stp.of_same g1.ok sm)) (((g1.same sm).set (r0.same sm)).set (rep_new_lst g1.ok.dom hn r1)) q
  · subst e
    obtain ⟨p, vs, rfl, hp, nu, z, zs, rfl, r0, r1⟩ := r
    refine ⟨p, z, zs, rfl, .inr (hp.sq), by rw [← r1.length]; exact hz, fun n hn => ?_⟩
    have sm : Same W1.H (upd W1.H n (.lst zs)) := same_upd hn
    exact l.nx _ (W1.at _) _ (st.trans (Stp.of_same g1.ok sm)) (((g1.same sm).set (r0.same sm)).set (rep_new_lst g1.ok.dom hn r1)) q
end
/-! ### t[a:b] -/
abbrev rSlX (K : PySem.W.Frag) : V → Option Int → Option Int → Hp → VK → Prop := fun x lo hi H Q => rSlL K x lo hi H Q ∨ rSlA K x lo hi H Q
theorem slXA {X : Cx} (K : PySem.W.Frag) (hK : X.K = K := by rfl) : SlR X (rSlX K) := hK ▸ sl_list.or sl_tupA
section
variable {K : PySem.W.Frag} {Γ : Gam} {te : TE} {ds : List D}
theorem cut_whole {α : Type} (xs : List α) (n : Nat) (lo hi : Option Int) (hn : n = xs.length) (h : HT.sIx n 0 lo = 0 ∧ HT.sIx n n hi = n) : (xs.drop (HT.sIx n 0 lo)).take (HT.sIx n n hi - HT.sIx n 0 lo) = xs := by
  rw [h.1, h.2, List.drop_zero, Nat.sub_zero, hn, List.take_length]
theorem ev_sliceTY {tl th : TO} {lo hi : Option Int} (h : Ev te Γ (.tup ds)) (h1 : Eo tl Γ lo) (h2 : Eo th Γ hi) : Ev (tSl (rSlX K) te tl th) Γ (.tup (cutD ds lo hi)) := fun F σ W Q g k => h F σ W _ g fun v H s ⟨a, vs, ev, e, nu, l⟩ => h1 F σ (W.at H) _ (g.same s) fun H1 s1 => h2 F σ ((W.at H).at H1) _ ((g.same s).same s1) fun H2 s2 => by
  have sm : Same H H2 := Same.trans s1 s2
  subst ev
  refine .inr ⟨a, vs, rfl, (e.same sm).sq, fun hw => ?_, fun hw p hp => k _ _ (Same.trans s (Same.trans sm (same_upd hp))) (rep_new_tup (W := W.at H2) (((g.same s).same s1).same s2).ok.dom hp (repL_cut (RepL.same (W := W.at H) sm l)))⟩
  have e1 : cutD ds lo hi = ds := cut_whole ds ds.length lo hi rfl (by rw [l.length]; exact hw)
  rw [e1] at k
  exact k _ H2 (Same.trans s sm) ⟨a, vs, rfl, e.same sm, nu, RepL.same (W := W.at H) sm l⟩
end
/-! ### x in a written dict -/
section
variable {K : PySem.W.Frag} {w : World} {Γ : Gam} {ta tb : TE} {x : Str}
end
/-! ### the head, with the script's bits -/
end Dw

/-! xs[::-1] of lists and tuples, *xs in a list, written dicts as values. -/
namespace Dw
open PySem PySem.Spec PyProof.Rows L2 HT
variable [Tabs0]
section
variable {prog : Program} {w : World} {A : Around} {E : Value → Shared → Prop} {s : Shared}
end
section
variable {K : PySem.W.Frag} {Γ : Gam} {ta tk te : TE} {ds es : List D} {t : TA}
/-! ### {}, {'a': 1} -/
end
end Dw

/-! t != (), a, b, c = [], x, y, tuple(xs) with draws, cuts of the script. -/
namespace Dw
open PySem PySem.Spec PyProof.Rows L2 HT
variable [Tabs0]
section
variable {K : PySem.W.Frag} {Γ : Gam} {ta te : TE}
theorem dl_tuple {Q : D → Gam → Prop} (h : Dl ta Γ fun d Γ1 => ∃ ds, d = .lst ds ∧ Q (.tup ds) Γ1) : Dl (tCB (rTupleOf K) (tCons ta tNil)) Γ Q := fun F σ W R g k => h F σ W _ g fun v W1 d Γ1 st g1 r ⟨ds, e, q⟩ => by
  subst e
  obtain ⟨p, vs, rfl, e, nu, l⟩ := r
  exact ⟨p, vs, rfl, .inl ⟨.of e, fun n hn => k _ (W1.at _) (.tup ds) Γ1 (st.trans (Stp.of_same g1.ok (same_upd hn))) (g1.same (same_upd hn)) (rep_new_tup g1.ok.dom hn l) q⟩⟩
theorem evn_sliceXY {tl th : TO} {ns : List Int} {lo hi : Option Int} (h : Ev te Γ (.scr K (ns.map V.int))) (h1 : Eo tl Γ lo) (h2 : Eo th Γ hi) : EvN (tSl (rSlX K) te tl th) Γ (intD (cutI ns lo hi)) := fun F σ W Q g k => h F σ W _ g fun v H s r => h1 F σ (W.at H) _ (g.same s) fun H1 s1 => h2 F σ ((W.at H).at H1) _ ((g.same s).same s1) fun H2 s2 => by
  have sm : Same H H2 := Same.trans s1 s2
  obtain ⟨a, e, q⟩ := scr_sq (r.same (W := W.at H) sm)
  refine .inl ⟨a, _, e, q, fun p hp => k p _ _ (Same.trans s (Same.trans sm (same_upd hp))) (s.free (sm.free hp)) upd_same (RepL.ints.mpr ?_)⟩
  unfold cutI L2.cutV
  simp [List.map_take, List.map_drop]
end
end Dw

/-! tuple(range(n)), x not in a list of signs. -/
namespace Dw
open PySem PySem.Spec PyProof.Rows L2
variable [Tabs0]
section
variable {K : PySem.W.Frag} {Γ : Gam} {ta : TE}
end
end Dw

/-! cuts of texts, x is not False, t == (). -/
namespace Dw
open PySem PySem.Spec PyProof.Rows L2 HT
variable [Tabs0]
section
variable {K : PySem.W.Frag} {Γ : Gam} {ta te : TE} {x : Str}
end
end Dw

/-! xs != [] of any list. -/
namespace Dw
open PySem PySem.Spec PyProof.Rows L2 HT
variable [Tabs0]
end Dw

/-! a, b = a list; {i: x, j: y}.get(k, z). -/
namespace Dw
open PySem PySem.Spec PyProof.Rows L2 HT
variable [Tabs0]
section
variable {Γ : Gam} {td ty : TE}
end
end Dw

/-! [b for a in xs for b in a]; a value not in a list; repr of a tuple. -/
namespace Dw
open PySem PySem.Spec PyProof.Rows L2 HT
variable [Tabs0]
theorem repL_ord {W : Wd} : ∀ {o : List Nat} {vs : List V}, RepL W (o.map fun k : Nat => D.int k) vs → vs = o.map fun k : Nat => V.int k
  | [], vs, h => h
  | a :: o, vs, h => by
    obtain ⟨v, r, rfl, rv, rr⟩ := h
    rw [show v = V.int a from rv, repL_ord rr]; rfl
/-! a tuple of whole numbers, not in a list of such -/
end Dw

/-! dicts whose keys are tuples of whole numbers, made and walked by one def. -/
namespace Dw
open PySem PySem.Spec PyProof.Rows L2 HT
variable [Tabs0]
theorem evn_sortI {K : PySem.W.Frag} {Γ : Gam} {ta : TE} {ns ms : List Int} {r' : List V → Hp → VK → Prop} (h : EvB ta Γ (ns.map D.int)) (h64 : ns.length < 64) (hu : ∀ ns' : List Int, ns'.Perm ns → ns'.Pairwise (· ≤ ·) → ns' = ms) : EvN (tCB (fun xs H Q => rSorted K xs H Q ∨ r' xs H Q) (tCons ta tNil)) Γ (ms.map D.int) := fun F σ W Q g k =>
  h F σ W _ g fun a vs H s e l => .inl (by
    refine ⟨a, ns, rfl, .of (by rw [e, RepL.ints.mp l]), h64, fun ns' p hp hs hn => ?_⟩
    have := hu ns' hp hs
    subst this
    exact k p _ _ (Same.trans s (same_upd hn)) (s.free hn) upd_same (RepL.ints.mpr rfl))
/-! worlds without a frame and without a purse: U holds the dicts -/
def PW (H : Hp) (U : Addr → Prop) : Wd := ⟨H, U, fun _ => False⟩
def NO (Γ : Gam) : Prop := ∀ (i : Nat) (ds : Ow), Γ[i]? ≠ some (.ownX ds)
theorem NO.set {Γ : Gam} (h : NO Γ) (i : Nat) (d : D) : NO (Γ.set i (.val d)) := fun j ds e => by
  by_cases hij : i = j
  · subst hij
    by_cases hl : i < Γ.length
    · rw [List.getElem?_set_self hl] at e; cases e
    · rw [List.getElem?_eq_none (by rw [List.length_set]; omega)] at e; cases e
  · rw [List.getElem?_set_ne hij] at e; exact h j ds e
/-! for over a range; for over a dict with tuple keys -/
end Dw

/-! How long a repr may be. -/
namespace Dw
open PySem PySem.Spec PyProof.Rows L2 HT
variable [Tabs0]
/-! ### the length of a repr -/
mutual
def shB : D → Nat
  | .int i => (PyData.shown (.int i)).length | .str x => 10 * x.length + 2
  | .tup ds => shBs ds + 4 | .lst ds => shBs ds + 4 | .tupN ds => shBs ds + 4
  | _ => 5
def shBs : List D → Nat
  | [] => 0
  | d :: ds => shB d + 2 + shBs ds
end
theorem listText_le (ts : List Str) : (listText ts).length ≤ piled ts + 4 := by
  cases ts with
  | nil => decide
  | cons t r =>
    have h := textFrom_length_pos r 1 (("[" : Str) ++ (if (0 : Nat) > 0 then ", " else "" : String) ++ t) (Nat.succ_pos 0)
    have e : ((("[" : Str) ++ (if (0 : Nat) > 0 then ", " else "" : String) ++ t)).length = 1 + t.length := by
      rw [strLen_append, strLen_append]; rfl
    have hX : (listText (t :: r)).length = (textFrom 1 (("[" : Str) ++ (if (0 : Nat) > 0 then ", " else "" : String) ++ t) r).length + 1 := by
      unfold listText
      rw [strLen_append]; rfl
    rw [hX, h, e, piled_cons]
    omega
theorem tupleText_le (ts : List Str) : (tupleText ts).length ≤ piled ts + 4 := by
  unfold tupleText
  rw [strLen_append, strLen_append]
  have e1 : ((("(" : String) : Str)).length = 1 := rfl
  have e3 : (((if ts.length == 1 then ",)" else ")" : String) : Str)).length ≤ 2 := by split <;> decide
  rw [e1]
  by_cases h : ts = []
  · subst h
    have : (Str.join ", " []).length = 0 := rfl
    omega
  · have := join_length_add ts h
    omega
mutual
theorem shB_le : ∀ (k : Nat) (d : D), dOk k d = true → (PyData.shown (py d)).length ≤ shB d
  | _, .non, _ => by show (("None" : String) : Str).length ≤ 5; decide
  | _, .bl b, _ => by cases b <;> (show (PyData.shown (.bool _)).length ≤ 5) <;> decide
  | _, .int i, _ => Nat.le_refl _
  | k, .str x, h => by
    have e : dOk k (.str x) = PyData.strOk x := by cases k <;> rfl
    rw [e] at h
    have a' : x.cps.all (fun c => decide (c < 1114112)) = true := h
    rw [← Array.all_toList, List.all_eq_true] at a'
    exact PySem.StrLaws.reprText_len x fun c hc => Nat.lt_of_lt_of_le (of_decide_eq_true (a' c hc)) (by decide)
  | k + 1, .tup ds, h => by
    have ih := shBs_le k ds h
    show (tupleText (PyData.shownAll (pys ds))).length ≤ shBs ds + 4
    have := tupleText_le (PyData.shownAll (pys ds))
    omega
  | k + 1, .lst ds, h => by
    have ih := shBs_le k ds h
    show (listText (PyData.shownAll (pys ds))).length ≤ shBs ds + 4
    have := listText_le (PyData.shownAll (pys ds))
    omega
  | k + 1, .tupN ds, h => by
    have ih := shBs_le k ds h
    show (tupleText (PyData.shownAll (pys ds))).length ≤ shBs ds + 4
    have := tupleText_le (PyData.shownAll (pys ds))
    omega
  | 0, .tup _, h => nomatch h
  | 0, .lst _, h => nomatch h
  | 0, .tupN _, h => nomatch h
  | k, .obj _ _ _, h => by cases k <;> exact nomatch h
  | k, .raw _, h => by cases k <;> exact nomatch h
  | k, .purse, h => by cases k <;> exact nomatch h
  | k, .rng _ _, h => by cases k <;> exact nomatch h
  | k, .dct _ _, h => by cases k <;> exact nomatch h
  | k, .scr _ _, h => by cases k <;> exact nomatch h
  | k, .tag _, h => by cases k <;> exact nomatch h
theorem shBs_le : ∀ (k : Nat) (ds : List D), dOks k ds = true → piled (PyData.shownAll (pys ds)) ≤ shBs ds
  | _, [], _ => Nat.zero_le _
  | k, d :: ds, h => by
    have e : dOks k (d :: ds) = (dOk k d && dOks k ds) := by cases k <;> rfl
    rw [e, Bool.and_eq_true] at h
    have h1 := shB_le k d h.1
    have h2 := shBs_le k ds h.2
    show piled (PyData.shown (py d) :: PyData.shownAll (pys ds)) ≤ shB d + 2 + shBs ds
    rw [piled_cons]
    omega
end
end Dw
namespace Dw
open PySem PySem.Spec PyProof.Rows L2 HT
variable [Tabs0]
end Dw

/-! Tuples that are known to have no dict of their own: displays, sums, tuple(xs); t.index(x). -/
namespace Dw
open PySem PySem.Spec PyProof.Rows L2 HT
variable [Tabs0]
theorem Dl.weak {t : TE} {Γ : Gam} {Q : D → Gam → Prop} (h : Dl t Γ fun d Γ1 => Q (weakD d) Γ1) : Dl t Γ Q := fun F σ W R g k => h F σ W R g fun v W' d Γ' s r' l q => k v W' (weakD d) Γ' s r' (Rep.weak d v l) q
section
variable {X : Cx} {pins : List (Addr × Obj)} {σ : L2.St} {H : Hp} {s : Shared}
end
/-! ### (x, y) -/
section
variable {Γ : Gam} {t : TA} {ds : List D}
end
/-! ### t + (x,) -/
/-! ### tuple(xs) -/
/-! ### t.m(x) of such a tuple -/
section
variable {X : Cx} {o e : Expr} {es : List Expr} {to : TE} {t : TA} {nm : Str} {p1 p2 : Pos} {id : String} {r : V → List V → Hp → VK → Prop}
end
section
variable {K : PySem.W.Frag} {Γ : Gam} {ta tb : TE}
theorem idx_not {α : Type} [DecidableEq α] {o : List α} {c : α} {m : Nat} (h : m < o.idxOf c) (hm : m < o.length) : o[m] ≠ c := fun e => by
  have h2 : m < o.findIdx (· == c) := h
  have := List.not_of_lt_findIdx h2
  simp [e] at this
theorem idx_at {α : Type} [DecidableEq α] {o : List α} {c : α} (h : c ∈ o) : o[o.idxOf c]? = some c := by
  have hl : o.idxOf c < o.length := List.idxOf_lt_length_iff.mpr h
  rw [List.getElem?_eq_getElem hl, List.getElem_idxOf hl]
end
end Dw
namespace Dw
open PySem PySem.Spec PyProof.Rows L2 HT
variable [Tabs0]
/-! ### a new tuple, by its cell -/
section
variable {K : PySem.W.Frag} {Γ : Gam} {t : TA} {ta : TE} {ds : List D}
end
end Dw
namespace Dw
open PySem PySem.Spec PyProof.Rows L2 HT
variable [Tabs0]
end Dw

/-! {k: v for x in xs if ..}, k in d, d[k]; a call of a local name that holds a def. -/
namespace Dw
open PySem PySem.Spec PyProof.Rows L2 HT
variable [Tabs0]
section
variable {K : PySem.W.Frag} {Γ : Gam} {wi : TI} {g : TG} {tt : TT} {tk tv ta td ty : TE} {vs : List Nat}
/-! ### a call of a local name that holds a def -/
end
end Dw

/-! xs, y = [], e with a cell among them; xs.index(x) of texts. -/
namespace Dw
open PySem PySem.Spec PyProof.Rows L2 HT
variable [Tabs0]
section
variable {K : PySem.W.Frag} {Γ : Gam} {ta tb : TE}
end
end Dw

/-! an own list, lent for the time of one expression whose answer is a tuple of numbers. -/
namespace Dw
open PySem PySem.Spec PyProof.Rows L2 HT
variable [Tabs0]
end Dw

/-! list(d.values()). -/
namespace Dw
open PySem PySem.Spec PyProof.Rows L2 HT
variable [Tabs0]
section
variable {X : Cx} {e : Expr} {te : TE} {p apos cpos pos : Pos}
variable {Γ : Gam} {td : TE}
end
end Dw

/-! xs == [] of any list. -/
namespace Dw
open PySem PySem.Spec PyProof.Rows L2 HT
variable [Tabs0]
/-! ### texts, >= -/
/-! ### range(a, b) -/
end Dw

/-! {"a": 1, ..}, d.get(k, z); cuts and sums of tuples whose cells are known. -/
namespace Dw
open PySem PySem.Spec PyProof.Rows L2 HT
variable [Tabs0]
section
variable {Γ : Gam} {td ty : TE}
end
/-! ### t[a:b], its cell known -/
section
variable {K : PySem.W.Frag} {Γ : Gam} {te : TE} {ds : List D}
end
/-! ### t == () -/
/-! ### a text's count -/
end Dw

/-! min(xs); xs.extend(ys) of an own list; a purse that is made of a number. -/
namespace Dw
open PySem PySem.Spec PyProof.Rows L2 HT
variable [Tabs0]
theorem minA {X : Cx} (K : PySem.W.Frag) (hc : X.calm = true := by rfl) (hK : X.K = K := by rfl) : CallR X (.builtin "min") (rMin K) := hK ▸ cr_min hc
section
variable {K : PySem.W.Frag} {Γ : Gam} {ta tb : TE}
theorem ev_min1 {ns : List Int} {M : Int} (h : EvB ta Γ (ns.map D.int)) (hne : 0 < ns.length) (hu : ∀ m ∈ ns, (∀ y ∈ ns, m ≤ y) → m = M) : Ev (tCB (rMin K) (tCons ta tNil)) Γ (.int M) := fun F σ W Q g k => h F σ W _ g fun a vs H s e l => by
  refine ⟨a, ns, rfl, .of (by rw [e, RepL.ints.mp l]), hne, fun m hm hy => ?_⟩
  obtain rfl := hu m hm hy
  exact k _ H s rfl
end
section
variable {s : Spc} {E : XK} {Γ : Gam} {ta : TE}
end
end Dw

/-! x, ys = e, [] with a cell among them. -/
namespace Dw
open PySem PySem.Spec PyProof.Rows L2 HT
variable [Tabs0]
section
variable {s : Spc} {E : XK} {Γ : Gam} {ta : TE}
end
end Dw

/-! tuple("abc"); == of truth values. -/
namespace Dw
open PySem PySem.Spec PyProof.Rows L2 HT
variable [Tabs0]
section
variable {K : PySem.W.Frag} {Γ : Gam} {ta : TE}
end
end Dw

/-! ways[i] += e, of an own list of numbers. -/
namespace Dw
open PySem PySem.Spec PyProof.Rows L2
variable [Tabs0]
/-- the thing at a place from the front on -/
def rGetL (K : PySem.W.Frag) : V → V → Hp → VK → Prop := fun o i H Q => ∃ p xs k v, o = .ref p ∧ i = .int (k : Nat) ∧ k < 1000000 ∧ SqL K H p xs ∧ xs[k]? = some v ∧ Q v H
theorem get_list {X : Cx} : PGet X (rGetL X.K) := by
  intro pins s σ H o i ov iv Q I ro ri h
  obtain ⟨p, xs, k, v, rfl, rfl, hk, hp, hv, q⟩ := h
  cases ro
  obtain ⟨t, rfl⟩ := ri
  obtain ⟨its, r, pl, hz⟩ := I.list hp
  obtain ⟨w, ew, rw'⟩ := r.get hv
  exact wpAny_getItem_list pl.isList (by omega) (by omega) (by rw [Int.toNat_natCast]; simpa using ew) ⟨v, H, I, rw', q⟩
theorem ps_augL {X : Cx} {o i e : Expr} {to ti te : TE} {tpos pos : Pos} (ho : PE X o to) (hi : PE X i ti) (he : PE X e te)
    (ha : ∀ ov iv new, augStore i ov iv new = (do holding [new, ov, iv] (setItem ov iv new); release [new, ov, iv] []; pure .next) := by intros; rfl) : PS X (.AugAssign (.Subscript o i tpos) .Add e pos) (tAugS to ti te (rGetL X.K) rIAdd rSetL) :=
  ps_augS ho hi get_list he ipX set_list ha
section
variable {K : PySem.W.Frag} {Γ : Gam} {De : DE} {te tk : TE}
/-- ways[k] += e, all of them numbers -/
theorem ds_augL {i k a b : Nat} {l : List Nat} (h0 : Γ[i]? = some (.own (l.map fun k : Nat => D.int k))) (hk : Ev tk Γ (.int (k : Nat))) (hl : k < l.length) (hz : l.length ≤ 1000000) (ha : l.getD k 0 = a) (he : Ev te Γ (.int (b : Nat)))
    (q : De.nx (Γ.set i (.own ((l.set k (a + b)).map fun k : Nat => D.int k)))) : Ds (tAugS (tVar i) tk te (rGetL K) rIAdd rSetL) Γ De := fun F σ W Dr g le => by
  obtain ⟨p, vs, hs, u, f, n, q1, r1⟩ := g.own i _ h0
  refine ⟨.ref p, hs, hk F σ W _ g fun w H2 s2 rk => ?_⟩
  have g2 := g.same s2
  obtain ⟨p', vs', hs', _, _, _, q2, r2⟩ := g2.own i _ h0
  rw [hs] at hs'; cases hs'
  have ln : l.length = vs'.length := by rw [← r2.length, List.length_map]
  have ek : (l.map fun k : Nat => D.int k)[k]? = some (.int (a : Nat)) := by
    rw [List.getElem?_map, List.getElem?_eq_getElem hl, ← ha, List.getD_eq_getElem?_getD, List.getElem?_eq_getElem hl]; rfl
  obtain ⟨v, ev, rv⟩ := RepL.get r2 ek
  refine ⟨p, vs', k, v, rfl, rk, by omega, .of q2, ev, ?_⟩
  refine he F σ (W.at H2) _ g2 fun y H3 s3 ry => ?_
  have g3 := g2.same s3
  obtain ⟨p', vs3, hs', _, _, _, q3, r3⟩ := g3.own i _ h0
  rw [hs] at hs'; cases hs'
  refine .inl ⟨a, b, rv, ry, ?_⟩
  have ln3 : l.length = vs3.length := by rw [← r3.length, List.length_map]
  have hl3 : (k : Int) < (vs3.length : Int) := by rw [← ln3]; omega
  have rn : RepL (W.at H3) ((l.set k (a + b)).map fun k : Nat => D.int k) (vs3.set k (.int ((a : Int) + (b : Int)))) := by
    have := r3.set (d := .int ((a + b : Nat) : Int)) (v := .int ((a : Int) + (b : Int))) (show _ = _ by rw [Int.natCast_add]) k
    rw [List.map_set]
    exact this
  obtain ⟨st, g4⟩ := g3.write h0 hs rn
  refine ⟨p, vs3, k, k, rfl, rk, q3, ?_, le.nx σ _ _ ((Stp.of_same g.ok (Same.trans s2 s3)).trans st) g4 q⟩
  unfold ixN
  rw [if_pos (by omega), if_pos hl3]; rfl
end
end Dw

/-! A lambda made, with the very heap: all but its maker's table stays. -/
namespace Dw
open PySem PySem.Spec PyProof.Rows L2 LamX
/-- what a lambda's making may have done: nothing, or the maker's table at P is longer and a code object is new -/
def Chg (P : Addr) (q : Str) (H H1 : Hp) : Prop := H1 = H ∨ ∃ (c : Addr) (ps more : Array Value), H P = some (.tbl ps) ∧ H c = none ∧ H1 = upd (upd H P (.tbl (ps ++ more))) c (CodeO c q)
theorem Chg.ne {P : Addr} {q : Str} {H H1 : Hp} (h : Chg P q H H1) {b : Addr} {u : HO} (hb : b ≠ P) (e : H b = some u) : H1 b = some u := by
  rcases h with rfl | ⟨c, ps, more, _, hc, rfl⟩
  · exact e
  · rw [upd_ne (ne_of_none e hc), upd_ne hb]
    exact e
theorem Chg.ext {P : Addr} {q : Str} {H H1 : Hp} (h : Chg P q H H1) : ExtN H H1 := by
  rcases h with rfl | ⟨c, ps, more, hP, hc, rfl⟩
  · exact ExtN.refl _
  · intro b o e n
    rw [upd_ne (ne_of_none e hc), upd_ne (fun z => n ps (Option.some.inj (e.symm.trans (by rw [z]; exact hP))))]
    exact e
section
variable {X : Cx} {pins : List (Addr × Obj)} {σ : L2.St} {H : Hp} {s : Shared}
/-- the tables go on telling the truth -/
theorem tabs_grow {T : List (Addr × Str)} {P c' : Addr} {q : Str} {ps : Array Value} {pos : Pos} (hT : Tabs T H) (hu : ∀ p ∈ T, p.1 = P → p.2 = q) (hP : H P = some (.tbl ps)) (ht : TriplesOk ps.toList)
    (ha : ∀ (pos : Pos) (cv : Value), codeAmong pos ps.toList = some cv → ∃ c, cv = .ref c ∧ H c = some (CodeO c q)) (nC : H c' = none) :
    Tabs T (upd (upd H P (.tbl (ps ++ #[rawInt pos.line, rawInt pos.col, .ref c']))) c' (CodeO c' q)) := by
  have eE : ∀ b o, H b = some o → (∀ ps, o ≠ .tbl ps) → upd (upd H P (.tbl (ps ++ #[rawInt pos.line, rawInt pos.col, .ref c']))) c' (CodeO c' q) b = some o :=
    (Chg.ext (q := q) (.inr ⟨c', ps, _, hP, nC, rfl⟩))
  have eL : (ps ++ #[rawInt pos.line, rawInt pos.col, .ref c']).toList = ps.toList ++ [rawInt pos.line, rawInt pos.col, .ref c'] := by simp
  intro p hp
  by_cases hb : p.1 = P
  · rw [hu p hp hb, hb]
    refine ⟨_, by rw [upd_ne (ne_of_none hP nC), upd_same], by rw [eL]; exact PySem.TriplesOk_snoc _ _ _ _ ht, fun p' cv hcv => ?_⟩
    rw [eL] at hcv
    rcases among_app _ ht hcv with z | z
    · obtain ⟨c0, e1, e2⟩ := ha p' cv z
      exact ⟨c0, e1, eE _ _ e2 codeO_ne⟩
    · exact ⟨c', z, upd_same⟩
  · obtain ⟨ps', a1, a2, a3⟩ := hT p hp
    refine ⟨ps', by rw [upd_ne (ne_of_none a1 nC), upd_ne hb]; exact a1, a2, fun p' cv hcv => ?_⟩
    obtain ⟨c0, e1, e2⟩ := a3 p' cv hcv
    exact ⟨c0, e1, eE _ _ e2 codeO_ne⟩
/-- the lambda is made; what its making did is told -/
theorem lam_make3 {T : List (Addr × Str)} {c P : Addr} {params : Arguments} {body : Expr} {scope : Scope} {pos : Pos} {E Q : Value → Shared → Prop} (I : Inv X pins σ H s) (TB : TabB X.base X.mg c P) (hcode : X.env.code = .ref c)
    (hm : (P, X.env.qual ++ "<lambda>") ∈ T) (hu : ∀ p ∈ T, p.1 = P → p.2 = X.env.qual ++ "<lambda>") (hT : Tabs T H) (hdef : defaultsOf params X.env = ([], [])) (hfree : ∀ y ∈ scope.names, y.2 = .free → ∃ c, X.env.cells.lookup y.1 = some c)
    (h : ∀ (f c' : Addr) (pm ctv : Value) (H1 : Hp) (s' : Shared), Inv X pins σ H1 s' → Chg P (X.env.qual ++ "<lambda>") H H1 → Tabs T H1 →
      s'.heap.get? f = some (PySem.W.kla_obj "<lambda>" (X.env.qual ++ "<lambda>") params body scope (cloFrom X.env.cells scope.names []) pm c' ctv) → H1 f = none → f ∉ frs X.stack → H1 c' = some (CodeO c' (X.env.qual ++ "<lambda>")) → Q (.ref f) s') :
    wpAny (model X.prog X.w) X.A (eval (.Lambda params body scope pos) X.env) Q E s := by
  obtain ⟨ps, hP, ht, ha⟩ := hT _ hm
  have nofr : ∀ f, s.heap.objs.size ≤ f → f ∉ frs X.stack := fun f hf z => by
    rcases List.mem_cons.mp (I.stkSub _ z) with e | e
    · have := I.lt
      rw [← e] at this
      exact Nat.lt_irrefl _ (Nat.lt_of_lt_of_le this hf)
    · exact I.nofs hf e
  have hP' : s.heap.get? P = some { cls := .none, data := .fields ps } := I.hok P _ hP
  have bP := TB.bm.keeps I.bk
  refine PySem.W.kla_eval hdef ?_
  cases hc : codeAmong pos ps.toList with
  | some cv =>
    obtain ⟨c', rfl, hco⟩ := ha pos cv hc
    refine PySem.W.kla_makeFunctionHit (mg := X.mg) (c := c) (P := P) (ps := ps) (closure_ok hfree) I.ok.glob (I.mod.glob.keeps I.bk) hcode (TB.code.keeps I.bk) hP' ht hc bP fun ctv h' tk hx hsz => ?_
    exact h h'.objs.size c' _ ctv H _ (I.kept (t' := tk) fun b o e => Heap.get?_push_of_some _ (hx b o e)) (.inl rfl) hT (Heap.get?_push_size _ rfl) (I.hok.fresh hsz) (nofr _ hsz) hco
  | none =>
    refine PySem.W.kla_makeFunction (mg := X.mg) (c := c) (P := P) (ps := ps) (closure_ok hfree) I.ok.glob (I.mod.glob.keeps I.bk) hcode (TB.code.keeps I.bk) hP' ht hc TB.gP bP fun c' ctv h' tk hx hge hlt hrec htb => ?_
    obtain ⟨c2, oc, vs, t, e2, hoc, hd, hv⟩ := hrec
    cases e2
    have nC : H c' = none := I.hok.fresh hge
    have hsz : s.heap.objs.size ≤ h'.objs.size := Nat.le_trans hge (Nat.le_of_lt hlt)
    have I1 := inv_table (t' := tk) (more := #[rawInt pos.line, rawInt pos.col, .ref c']) (h' := h'.push (PySem.W.kla_obj "<lambda>" (X.env.qual ++ "<lambda>") params body scope (cloFrom X.env.cells scope.names []) ((X.mg "__name__").getD .none) c' ctv)) I hP
      (fun b o hb e => Heap.get?_push_of_some _ (hx b o hb e)) (Heap.get?_push_of_some _ htb) hge ⟨oc, vs, t, Heap.get?_push_of_some _ hoc, hd, hv⟩
    refine h h'.objs.size c' _ ctv _ _ I1 (.inr ⟨c', ps, _, hP, nC, rfl⟩) (tabs_grow hT hu hP ht ha nC) (Heap.get?_push_size _ rfl) ?_ (nofr _ hsz) upd_same
    rw [upd_ne (Nat.ne_of_gt hlt), upd_ne (Nat.ne_of_gt (Nat.lt_of_lt_of_le (Heap.lt_size hP') hsz))]
    exact I.hok.fresh hsz
end
/-! ### the lambda handed to a def -/
section
variable {X : Cx}
end
end Dw

/-! except (A, B) as e: one clause for two classes, that takes all that comes. -/
namespace Dw
open PySem PySem.Spec PyProof.Rows L2 HotX
section
variable {X : Cx} {x1 x2 n : Str} {c1 c2 : Value} {i kk : Nat} {body suite : List Stmt} {b₀ : Stmt} {p1 p2 tpos pos pos' : Pos} {tb : WX → TS} {ts : Addr → Value → Option Addr → TS}
end
end Dw

/-! The exception that is held, within a def that the suite calls. -/
namespace Dw
open PySem PySem.Spec PyProof.Rows L2
variable [Tabs0]
section
variable {X : Cx} {a D : Addr} {oe : Obj}
end
/-! ### promises of defs that may raise: the one that returns, and the one that raises, side by side -/
section
variable {P : Program} {w : World} {K : PySem.W.Frag} {mg : Str → Option Value} {base : Heap} {k : Nat} {f : Addr} {fd : FuncData} {ps : List Str} {sp sp' : Sp}
/-- a def that raises: the class, and no dict -/
structure SpcE where
  ty : Type
  args : ty → List D
  ok : ty → Prop
  cls : Addr
end
end Dw

/-! Defs that an except suite calls, and that neither raise nor loop: nothing is asked of the held exception's context. -/
namespace Dw
open PySem PySem.Spec PyProof.Rows L2
open L2H (RoomH PinOk cxH inv_startH)
variable [Tabs0]
section
variable {P : Program} {w : World} {K : PySem.W.Frag} {mg : Str → Option Value} {base : Heap} {k : Nat} {f : Addr} {fd : FuncData} {ps : List Str} {sp : Addr × Obj → Sp}
/-- the promise of a def f while p is held -/
structure FnS (P : Program) (w : World) (K : PySem.W.Frag) (mg : Str → Option Value) (base : Heap) (k : Nat) (f : Addr) (fd : FuncData) (ps : List Str) (sp : Addr × Obj → Sp) : Prop where
  len : ∀ p vs H Q E, sp p vs H Q E → vs.length = ps.length
  run : ∀ (A : Around) (outer : List Env) (s : Shared) (H : Hp) (args : Args) (us : List Value) (vs : List V) (Q : VK) (E : XK) (p : Addr × Obj), RoomH k A → A.guards = some [] → PinOk outer H s p → Env0 P w K mg base A outer s H → BindsTo s fd args (ps.zip us) → Vals vs us → sp p vs H Q E →
    codeAny (model P w) A (.call (.ref f) args) (CR CX0 outer P w H s Q E) s
end
section
variable {X : Cx} {k : Nat} {f : Addr} {fd : FuncData} {ps : List Str} {sp : Addr × Obj → Sp} {E : L2.St → XK} {x : Str} {q pos : Pos} {e : Expr} {es : List Expr} {t : TA} {p : Addr × Obj}
end
end Dw

/-! try: g = a() / except (A, B) as e: suite; return ("returned", g). -/
namespace Dw
open PySem PySem.Spec PyProof.Rows L2 LamX
variable [Tabs0]
end Dw

/-! told(lambda: body), by data. -/
namespace Dw
open PySem PySem.Spec PyProof.Rows L2 LamX
variable [Tabs0]
/-- the tables that a law knows: all there are -/
structure TabsOk (Tt : List (Addr × Str)) : Prop where
  sound : ∀ p ∈ Tt, Tabs0.nm p.1 = some p.2
  all : ∀ p q, Tabs0.nm p = some q → (p, q) ∈ Tt
theorem tabs_of {F : Addr → Prop} {W : Wd} {Tt : List (Addr × Str)} (ok : WOk F W) (T : TabsOk Tt) (tb : ∀ p q, Tabs0.nm p = some q → W.P p) : Tabs Tt W.H := fun p hp => (ok.pu p.1 (tb _ _ (T.sound p hp))).2.2.tab (T.sound p hp)
/-- a lambda is made: all that is known stays known -/
theorem SR.chg {F : Addr → Prop} {Γ : Gam} {σ : L2.St} {W : Wd} {Tt : List (Addr × Str)} {P : Addr} {q : Str} {H1 : Hp} (g : SR F Γ σ W) (T : TabsOk Tt) (hP : (P, q) ∈ Tt) (tb : ∀ p q, Tabs0.nm p = some q → W.P p) (c : Chg P q W.H H1) (T1 : Tabs Tt H1) :
    Stp F W (W.at H1) ∧ SR F Γ σ (W.at H1) := by
  have pP : W.P P := tb P q (T.sound _ hP)
  obtain ⟨uP, fP, _⟩ := g.ok.pu P pP
  have st : Stp F W (W.at H1) := ⟨fun a u e n => ⟨c.ne (fun z => n (by rw [z]; exact uP)) e, n⟩, rfl, fun a h => by
    cases e : W.H a with
    | none => exact absurd e (g.ok.dom a (g.ok.fu a h))
    | some u => exact c.ne (fun z => fP (by rw [← z]; exact h)) e⟩
  refine ⟨st, ⟨⟨fun a h z => ?_, g.ok.fu, fun a h => ?_⟩, g.len, fun i d e => ?_, fun i ds e => ?_, g.apartX⟩⟩
  · have z : H1 a = none := z
    by_cases hb : a = P
    · obtain ⟨ps, e, _⟩ := T1 _ hP
      rw [hb, show H1 P = _ from e] at z; cases z
    · cases e : W.H a with
      | none => exact g.ok.dom a h e
      | some u => rw [c.ne hb e] at z; cases z
  · obtain ⟨u, f, o⟩ := g.ok.pu a h
    refine ⟨u, f, ?_⟩
    cases n : Tabs0.nm a with
    | some q' =>
      have := T1 _ (T.all a q' n)
      unfold OwnAt
      rw [n]
      exact this
    | none =>
      obtain ⟨x, y, h1, h2, h3, e⟩ := o.purse n
      refine .of ⟨x, y, h1, h2, h3, c.ne (fun z => ?_) e⟩ n
      have := T.sound _ hP
      rw [← show a = P from z, n] at this; cases this
  · obtain ⟨v, e1, r⟩ := g.val i d e
    exact ⟨v, e1, r.stp st⟩
  · obtain ⟨a, vs, e1, u, f, p, e2, r⟩ := g.ownX i ds e
    exact ⟨a, vs, e1, u, f, p, c.ne (fun z => p (by rw [z]; exact pP)) e2, r.stp st⟩
section
variable {K : PySem.W.Frag} {Γ : Gam} {Tt : List (Addr × Str)} {P : Addr} {q wd : Str} {c1 c2 : Value} {n ie i : Nat} {ts : Addr → Value → Option Addr → TS} {t : XK → TE} {d : D} {Q : D → Gam → Prop}
end
/-! ### calls of defs that return, or raise -/
section
variable {Γ : Gam} {s : Spc} {se : SpcE} {sp : Sp} {ta : TA} {E : XK} {d : D}
end
end Dw

/-! Defs that return or raise, by data. -/
namespace Dw
open PySem PySem.Spec PyProof.Rows L2 LamX
variable [Tabs0]
/-! ### raise C() -/
section
variable {X : Cx} {C : Addr} {bmB : List Value} {B newId initId : String}
end
/-! ### what is raised -/
/-- the class, and the fields (none: no dict) -/
structure Exn where
  C : Addr
  fs : List (Str × D)
/-- its dict, as it stands in W -/
def ExHeld (W : Wd) (x : Exn) (ed : Option Addr) : Prop := match x.fs with
  | [] => ed = none
  | f :: fs => ∃ (dd : Addr) (vs : List V), ed = some dd ∧ ¬ W.U dd ∧ W.H dd = some (.xd (((f :: fs).map fun z => z.1).zip vs)) ∧ RepL W ((f :: fs).map fun z => z.2) vs
theorem ExHeld.mono {W W' : Wd} {x : Exn} {ed : Option Addr} (k : ∀ a u, W.H a = some u → ¬ W.U a → W'.H a = some u ∧ ¬ W'.U a) (p : ∀ a, W.P a → W'.P a) (h : ExHeld W x ed) : ExHeld W' x ed := by
  obtain ⟨C, fs⟩ := x
  cases fs with
  | nil => exact h
  | cons f fs =>
    obtain ⟨dd, vs, e, nu, hd, r⟩ := h
    obtain ⟨h1, h2⟩ := k _ _ hd nu
    exact ⟨dd, vs, e, h2, h1, RepL.mono k p _ _ r⟩
theorem ExHeld.same {W : Wd} {H : Hp} {x : Exn} {ed : Option Addr} (s : Same W.H H) (h : ExHeld W x ed) : ExHeld (W.at H) x ed := ExHeld.mono (W := W) (W' := W.at H) (fun a u e n => ⟨s a u e, n⟩) (fun _ z => z) h
section
variable {Γ Γ' : Gam} {x : Exn} {R : Option Addr → Hp → Prop} {t u : TS} {te : TE} {c : TT} {d : D} {i : Nat} {g : TG}
end
/-! ### a def that raises -/
structure SpcX where
  ty : Type
  args : ty → List D
  ok : ty → Prop
  ex : ty → Exn
section
variable {P : Program} {w : World} {K : PySem.W.Frag} {mg : Str → Option Value} {base : Heap}
end
section
variable {Γ : Gam} {s : Spc} {sx : SpcX} {sp : Sp} {ta tk : TA} {E : XK} {d : D} {ds es : List D} {R : Option Addr → Hp → Prop}
end
end Dw

/-! The suite of told, by data: defs that it calls while an exception is held. -/
namespace L2H
theorem RoomH.units {k : Nat} {A : PySem.Around} (r : RoomH k A) : A.units + 64 < PySem.cLine := by have := r.un; omega
end L2H
namespace Dw
open PySem PySem.Spec PyProof.Rows L2 LamX
open L2H (RoomH PinOk cxH inv_startH)
variable [Tabs0]
/-! ### pure readings, where x is held with the dict ed -/
def EvH (t : TE) (Γ : Gam) (x : Exn) (ed : Option Addr) (d : D) : Prop := ∀ (F : Addr → Prop) (σ : L2.St) (W : Wd) (Q : VK), SR F Γ σ W → ExHeld W x ed → (∀ v H, Same W.H H → Rep (W.at H) d v → Q v H) → t σ W.H Q
section
variable {Γ Γ' : Gam} {x : Exn} {ed : Option Addr} {t u : TS} {te ta tb : TE} {c : TT} {d : D} {i : Nat} {K : PySem.W.Frag}
theorem Ev.held (h : Ev te Γ d) : EvH te Γ x ed d := fun F σ W Q g hx k => h F σ W Q g k
end
/-! ### their promise -/
structure SpcS where
  ty : Type
  args : ty → List D
  ok : ty → Prop
  ex : ty → Exn
  out : ty → D
section
variable {P : Program} {w : World} {K : PySem.W.Frag} {mg : Str → Option Value} {base : Heap}
end
section
variable {X : Cx} {k : Nat} {f : Addr} {fd : FuncData} {ps : List Str} {s : SpcS} {E : XK} {n : Str} {q pos : Pos} {e : Expr} {es : List Expr} {t : TA} {a : Addr} {oe : Obj} {cls : Value} {ed : Option Addr}
end
section
variable {Γ : Gam} {s : SpcS} {t : TA} {u : TS} {te ta tb : TE} {x : s.ty} {y : Exn} {a : Addr} {ed : Option Addr} {E : XK} {d d1 d2 : D} {i : Nat}
end
/-! ### counting truth values -/
section
variable {K : PySem.W.Frag} {Γ : Gam} {ta tb : TE} {bs : List Bool}
end
/-! ### told(lambda: ..), where x is raised -/
section
variable {K : PySem.W.Frag} {Γ : Gam} {Tt : List (Addr × Str)} {P : Addr} {q wd : Str} {c1 c2 : Value} {n ie i : Nat} {ts : Addr → Value → Option Addr → TS} {t : XK → TE} {d : D} {Q : D → Gam → Prop} {x : Exn}
end
end Dw

/-! Defs that make lambdas: their code object is known. The head with tables of code objects. -/
namespace Dw
open PySem PySem.Spec PyProof.Rows L2 LamX
variable [Tabs0]
/-- a def of the text, with the address of its code object -/
structure FunC (K : PySem.W.Frag) (x qual : Str) (st : Stmt) (f : Addr) (fd : FuncData) (c : Addr) : Prop where
  ex : ∃ (oc : Value) (od : Option Addr) (kV doc pm : Value) (an : Option Addr) (ct : Value) (osl : Array (Option Value)), fd = PySem.W.fnOf x qual (defArgs st) (defBody st) (defScope st) .none kV doc pm an (.ref c) ct ∧ K.lookup f = some ⟨oc, od, .func fd, osl⟩ ∧ PySem.W.codeIn K (.ref c) qual = true
section
variable {P : Program} {w : World} {K : PySem.W.Frag} {mg : Str → Option Value} {base : Heap}
end
/-! ### the head -/
section
variable {P : Program} {w : World} {K : PySem.W.Frag} {mg mb : Str → Option Value} {k : Nat} {fa a : Addr} {fd : FuncData} {x : Str} {s1 : Shared} {vs : List Value} {ns : List Int} {sp : Spc}
/-- the script, and the tables, empty -/
def headT (K : PySem.W.Frag) (a : Addr) (vs : List Value) (ns : List Int) (ts : List Addr) : Hp := fun b => if b ∈ ts then some (.tbl #[]) else headH K a vs ns b
theorem headT_in {b : Addr} {ts : List Addr} (h : b ∈ ts) : headT K a vs ns ts b = some (.tbl #[]) := if_pos h
theorem headT_out {b : Addr} {ts : List Addr} (h : b ∉ ts) : headT K a vs ns ts b = headH K a vs ns b := if_neg h
theorem head_callT (cs : List (Addr × Addr × Str)) (T : TabsOk (cs.map fun p => (p.2.1, p.2.2)))
    (KX : K.In s1.heap) (hns : s1.heap.Ns mainGlobals mg) (hb : s1.heap.Ns builtinsNs mb) (hbb : ∀ x : Str, x ≠ "__name__" → mb x = bootBuiltins x) (hlim : s1.heap.NoLimit) (hg : s1.gens = #[]) (ha : s1.heap.get? a = some { cls := .type "list", data := .seq vs.toArray }) (hi : IntsAre vs ns) (hl : ns.length ≤ sizeLine) (hr : Room k callerA)
    (hT : ∀ p ∈ cs, s1.heap.get? p.2.1 = some { cls := .none, data := .fields #[] }) (nT : ∀ p ∈ cs, K.lookup p.2.1 = none) (hC : ∀ p ∈ cs, PySem.W.CodeHd s1.heap p.1 p.2.1)
    (hbm : ∃ (bm : Addr) (ob : Obj), mg "__builtins__" = some (.ref bm) ∧ bm ≠ builtinsNs ∧ s1.heap.get? bm = some ob ∧ ob.cls = .type "module" ∧ ob.dict = some builtinsNs ∧ ob.data = .plain)
    (F : ∀ base : Heap, (∀ p ∈ cs, TabB base mg p.1 p.2.1) → FnG P w K mg base k fa fd [x] sp) (hbind : ∀ (s : Shared) (u : Value), BindsTo s fd ⟨[u], []⟩ [(x, u)]) (hx : ∃ y : sp.ty, sp.args y = [.scr K (ns.map V.int)] ∧ sp.ok y ∧ ∀ d, sp.rel y d → d = .bl true) :
    codeAny (model P w) callerA (.call (.ref fa) ⟨[.ref a], []⟩) (fun r s' => r = .ok (.ret (.bool true)) ∧ OldK s1.heap s'.heap ∧ s'.os = s1.os ∧ AllBare s'.gens) s1 := by
  obtain ⟨ts, ets⟩ : ∃ ts : List Addr, ts = cs.map fun p => p.2.1 := ⟨_, rfl⟩
  have memT : ∀ p ∈ cs, p.2.1 ∈ ts := fun p hp => by rw [ets]; exact List.mem_map.mpr ⟨p, hp, rfl⟩
  have ofT : ∀ b ∈ ts, ∃ p ∈ cs, p.2.1 = b := fun b hb => by rw [ets] at hb; exact List.mem_map.mp hb
  have rv := vals_ints hi
  have tabO : ∀ b ∈ ts, s1.heap.get? b = some { cls := .none, data := .fields #[] } := fun b hb => by
    obtain ⟨p, hp, e⟩ := ofT b hb
    rw [← e]; exact hT p hp
  have aT : a ∉ ts := fun z => by
    have q := tabO a z
    rw [ha] at q
    cases (show Data.seq vs.toArray _ = Data.fields #[] from congrArg Obj.data (Option.some.inj q))
  -- what is neither the script nor a table stands in the ground
  have grd : ∀ {b : Addr} {o : Obj}, s1.heap.get? b = some o → (∀ vs n, o.data ≠ .seq vs n) → o.data ≠ .fields #[] → (hidT s1.heap (headT K a vs ns ts)).get? b = some o := fun {b o} e h1 h2 => by
    have nb : b ∉ ts := fun z => by
      rw [tabO b z] at e; cases e
      exact h2 rfl
    refine hidT_get e ?_
    rw [headT_out nb]
    refine headH_none fun z => ?_
    rw [z, ha] at e; cases e
    exact h1 _ _ rfl
  have dictG : ∀ {b : Addr} {o : Obj} {es : Array DictEntry} {ep : Nat}, s1.heap.get? b = some o → o.data = .dict es ep → (hidT s1.heap (headT K a vs ns ts)).get? b = some o := fun e d =>
    grd e (fun _ _ z => by rw [d] at z; cases z) (fun z => by rw [d] at z; cases z)
  have nsK : ∀ {b : Addr} {m : Str → Option Value}, s1.heap.Ns b m → (hidT s1.heap (headT K a vs ns ts)).Ns b m := fun ⟨o, es, ep, e, d, r⟩ => ⟨o, es, ep, dictG e d, d, r⟩
  have nK : ∀ b ∈ ts, K.lookup b = none := fun b hb => by
    obtain ⟨p, hp, e⟩ := ofT b hb
    rw [← e]; exact nT p hp
  have kin : K.In (hidT s1.heap (headT K a vs ns ts)) := fun b o e => hidT_get (KX b o e) (by
    have nb : b ∉ ts := fun z => by rw [nK b z] at e; cases e
    rw [headT_out nb]
    exact if_neg fun z => by rw [z.1, z.2] at e; cases e)
  have hS : SqL K (headT K a vs ns ts) a (ns.map V.int) := by
    cases q : K.lookup a with
    | none => exact .inl (.inr ⟨_, (headT_out aT).trans (if_pos ⟨rfl, q⟩)⟩)
    | some o =>
      have e := KX a o q
      rw [ha] at e; cases e
      exact .inr ⟨_, vs.toArray, _, q, rfl, rfl, rfl, by rw [List.size_toArray, hi.length]; exact hl, by simpa using rv⟩
  have hok : HOk P w (headT K a vs ns ts) s1.heap := fun b u z => by
    by_cases hb : b ∈ ts
    · rw [headT_in hb] at z; cases z
      exact tabO b hb
    · rw [headT_out hb] at z
      by_cases q : b = a ∧ K.lookup a = none
      · have z' := (if_pos q).symm.trans z
        cases z'
        rw [q.1]
        exact ⟨ha, by rw [List.length_map]; exact hl, vs, _, rv, ha⟩
      · cases (if_neg q).symm.trans z
  have hM : Mod K mg (hidT s1.heap (headT K a vs ns ts)) := ⟨kin, nsK hns, ⟨mb, nsK hb, hbb⟩, hlim.imp fun mc h => ⟨nsK h.1, h.2⟩⟩
  have TB : ∀ p ∈ cs, TabB (hidT s1.heap (headT K a vs ns ts)) mg p.1 p.2.1 := fun p hp => by
    have hTp := hT p hp
    refine ⟨?_, ?_, fun z => ?_⟩
    · obtain ⟨o, us, file, tf, flags, tg, inF, text, tt, e1, r1, r2, r3, r⟩ := hC p hp
      refine ⟨o, us, file, tf, flags, tg, inF, text, tt, grd e1 (fun _ _ z => ?_) (fun z => ?_), r1, r2, r3, r⟩
      · rw [r2] at z; cases z
      · rw [r2] at z; cases z
        simp at r3
    · obtain ⟨bm, ob, b1, b2, b3, b4, b5, b6⟩ := hbm
      refine ⟨bm, ob, b1, b2, fun q => ?_, fun q => ?_, grd b3 (fun _ _ z => ?_) (fun z => ?_), b4, b5, b6⟩
      · obtain ⟨o, es, ep, e, hd, _⟩ := hns
        rw [q, e] at b3; cases b3
        rw [hd] at b6; cases b6
      · rw [q, hTp] at b3; cases b3
        cases b6
      · rw [b6] at z; cases z
      · rw [b6] at z; cases z
    · obtain ⟨o, es, ep, e, hd, _⟩ := hns
      rw [z, hTp] at e; cases e
      cases hd
  obtain ⟨y, e1, o1, r1⟩ := hx
  have tabI : ∀ p q, Tabs0.nm p = some q → p ∈ ts := fun p q z => by
    obtain ⟨c, hc, e⟩ := List.mem_map.mp (T.all p q z)
    cases e
    exact memT c hc
  have rS : Rep ⟨headT K a vs ns ts, fun b => b ∈ ts, fun b => b ∈ ts⟩ (.scr K (ns.map V.int)) (.ref a) := by
    refine ⟨a, rfl, ?_, tabI⟩
    rcases hS with (h | ⟨o, h⟩) | q
    · exact .inl ⟨_, h, aT, .inl rfl⟩
    · exact .inl ⟨_, h, aT, .inr ⟨o, rfl⟩⟩
    · exact .inr q
  have hsp : toSp sp [.ref a] (headT K a vs ns ts) (fun v _ => v = .bl true) (fun _ _ _ => False) := by
    refine ⟨y, fun _ => False, ⟨headT K a vs ns ts, fun b => b ∈ ts, fun b => b ∈ ts⟩, rfl, ⟨fun b h z => ?_, fun b h => h.elim, fun b h => ⟨h, fun z => z, ?_⟩⟩, by rw [e1]; exact RepL.one rS, o1, fun d v W' h _ _ rp => by rw [r1 d h] at rp; exact rp⟩
    · have z : headT K a vs ns ts b = none := z
      rw [headT_in h] at z; cases z
    · obtain ⟨p, hp, e⟩ := ofT b h
      have nm : Tabs0.nm b = some p.2.2 := by
        rw [← e]; exact T.sound (p.2.1, p.2.2) (List.mem_map.mpr ⟨p, hp, rfl⟩)
      unfold OwnAt
      rw [nm]
      exact TabS.nil (headT_in h)
  refine codeAny_mono ((F _ TB).2 callerA [] s1 _ ⟨[.ref a], []⟩ [.ref a] [.ref a] _ _ hr rfl ⟨rfl, hM, fun b o e => of_hidT e, Nat.le_of_eq (hidT_size _ _), trivial, fun b hb => absurd (show b ∈ ([] : List Addr) from hb) (by simp), hok, .of_eq hg⟩ (hbind s1 (.ref a)) (.cons rfl .nil) hsp) fun r s' h => ?_
  match r, h with
  | .error _, h => exact (show False from h).elim
  | .ok .next, h => exact (show False from h).elim
  | .ok .brk, h => exact (show False from h).elim
  | .ok .cont, h => exact (show False from h).elim
  | .ok (.ret u), ⟨v, H', os, bare, un, hok', r', q⟩ =>
    have q' : v = .bl true := q
    subst q'
    obtain rfl : u = Value.bool true := r'
    have key : ∀ b o, b ∉ ts → s1.heap.get? b = some o → s'.heap.get? b = some o := fun b o nb e => by
      by_cases c : b = a ∧ K.lookup a = none
      · have z : headT K a vs ns ts b = _ := (headT_out nb).trans (if_pos c)
        have e3 := (hok b _ z).1
        rw [e] at e3; cases e3
        exact (hok' b _ (un.frzs b _ _ z)).1
      · exact un.keep b o e ((headT_out nb).trans (if_neg c)) (by intro z; exact absurd (show b ∈ ([] : List Addr) from z) (by simp)) (by simp)
    have grown : ∀ b ∈ ts, ∃ more : Array Value, s'.heap.get? b = some { cls := .none, data := .fields more } := fun b hb => by
      obtain ⟨more, z⟩ := un.tbls b #[] (headT_in hb)
      exact ⟨_, hok' b _ z⟩
    refine ⟨rfl, ⟨fun b o e => ?_, fun b o e => ?_⟩, os, bare⟩
    · by_cases hb : b ∈ ts
      · obtain ⟨more, hm⟩ := grown b hb
        rw [tabO b hb] at e; cases e
        obtain ⟨p, hp, ep⟩ := ofT b hb
        have CT := (hC p hp).tab (hT p hp)
        rw [ep] at CT
        exact .inr (.inl ⟨CT.isCodeTable, rfl, #[], more, rfl, by rw [Array.empty_append]; exact hm⟩)
      · exact .inl (key b o hb e)
    · by_cases hb : b ∈ ts
      · obtain ⟨more, hm⟩ := grown b hb
        exact ⟨_, hm⟩
      · exact ⟨o, key b o hb e⟩
end
/-- the table of a def of the law's text is empty, its code object stands -/
def TabOf (K : PySem.W.Frag) (f : Addr) (h : Heap) : Prop := ∀ (c P : Addr) (o : Obj) (fd : FuncData) (e : Value) (dd : Option Addr) (vs : Array Value) (sl : Array (Option Value)), K.lookup f = some o → o.data = .func fd → fd.code = .ref c → K.lookup c = some ⟨e, dd, .fields vs, sl⟩ → vs[11]? = some (.ref P) →
  h.get? P = some { cls := .none, data := .fields #[] } ∧ PySem.W.CodeHd h c P
end Dw

/-! The end of a law with tables of code objects. -/
namespace Dw
open PySem PySem.Spec PyProof.Rows L2 LamX
/-- what the end must bring -/
def EndT (l : PySem.W.OpenLaw) (w : World) (K : PySem.W.Frag) (mg : Str → Option Value) (k : Nat) (fa : Addr) (x : Str) (h : Heap) (sp : Spc) : Prop :=
  ∃ (fd : FuncData) (I : Tabs0) (cs : List (Addr × Addr × Str)), (∀ (s : Shared) (u : Value), BindsTo s fd ⟨[u], []⟩ [(x, u)]) ∧ @TabsOk I (cs.map fun p => (p.2.1, p.2.2)) ∧ (∀ p ∈ cs, h.get? p.2.1 = some { cls := .none, data := .fields #[] }) ∧ (∀ p ∈ cs, K.lookup p.2.1 = none) ∧ (∀ p ∈ cs, PySem.W.CodeHd h p.1 p.2.1) ∧
    ∀ base : Heap, (∀ p ∈ cs, TabB base mg p.1 p.2.1) → @FnG I l.prog w K mg base k fa fd [x] sp
theorem walk_GT {l : PySem.W.OpenLaw} {k : Nat} {x : Str} {q : Program} {loose : List Str} {XP : (Str → Option Value) → Heap → Prop} {YP : World → Heap → Prop} {d : DefRec} {K : Params → PySem.W.Frag} {sp : PySem.W.Frag → Spc} (hn : l.most = some 63) (hdf : d.params.defaults = []) (hr : Room k callerA)
    (hY : ∀ (w : World) (h : Heap), YP w h → (K w.params).In h) (hsp : ∀ (K : PySem.W.Frag) (ns : List Int), ns.length ≤ 63 → (∀ z ∈ ns, Builtin.Int.intBits z ≤ 1048576) → ∃ y : (sp K).ty, (sp K).args y = [.scr K (ns.map V.int)] ∧ (sp K).ok y ∧ ∀ d, (sp K).rel y d → d = .bl true)
    (F : ∀ (w : World) (mg : Str → Option Value) (fa : Addr) (h : Heap), (K w.params).In h → h.Ns mainGlobals mg → mg d.name = some (.ref fa) → (∀ (y : Str) (f : Addr), ((recsOf q).any fun e => e.name == y) = true → mg y = some (.ref f) → TabOf (K w.params) f h) → EndT l w (K w.params) mg k fa x h (sp (K w.params))) :
    PySem.W.WalkO q loose XP YP l.row.toRowW d [] (fun f vs => PySem.call f vs) := by
  refine Att.attach_callB hn hdf fun w _ s1 mg mb fa _ _ _ _ a _ ns G Y _ _ _ hmg hobj hints hlen hbits hg => ?_
  have KX := hY w _ Y
  obtain ⟨fd, I, cs, hb, T, hT, nT, hC, hF⟩ := F w mg fa _ KX G.T.g hmg fun y f hy hm c P o1 fd1 e dd vs1 sl k1 k2 k3 k4 k5 => by
    obtain ⟨dL, hm1, hn1⟩ := List.any_eq_true.mp hy
    have hn2 : dL.name = y := beq_iff_eq.mp hn1
    obtain ⟨a', o', fd', c', P', h1, h2, h3, h4, h5, h6⟩ := G.T.tab dL hm1
    rw [hn2, hm] at h1; cases h1
    have g1 := KX _ _ k1
    rw [g1] at h2; cases h2
    rw [k2] at h3; cases h3
    rw [k3] at h4; cases h4
    have CH := PySem.W.CodeHd.of h5 h6
    obtain ⟨⟨oc, vc, e1, _, e3, e4⟩, hP⟩ := h6
    have g2 := KX _ _ k4
    rw [g2] at e1; cases e1
    cases e3
    rw [k5] at e4; cases e4
    exact ⟨hP, CH⟩
  exact @head_callT I _ _ _ _ _ _ _ _ _ _ _ _ _ _ cs T KX G.T.g G.T.b G.T.builtins G.T.nolimit hg hobj hints (Nat.le_trans hlen (by decide)) hr hT nT hC G.T.bmain hF hb (hsp _ ns hlen hbits)
end Dw

/-! What is told of an error's class, by a row of truth values. -/
namespace Dw
open PySem PySem.Spec PyProof.Rows L2 LamX
theorem TabsOk.uniq [Tabs0] {Tt : List (Addr × Str)} (T : TabsOk Tt) {P : Addr} {q : Str} (h : (P, q) ∈ Tt) : ∀ p ∈ Tt, p.1 = P → p.2 = q := fun p hp e => by
  have h1 := T.sound p hp
  have h2 := T.sound (P, q) h
  rw [e] at h1
  rw [h1] at h2
  exact Option.some.inj h2
end Dw

/-! [f for a in xs if p for b in ys if q]; all of whole numbers. -/
namespace Dw
open PySem PySem.Spec PyProof.Rows L2
variable [Tabs0]
/-- what is walked stands out of the reach of what changes -/
structure ItK (W : Wd) (J : It) (xs : List D) : Prop where
  go : ∀ (W1 : Wd) (i : Nat) (x : D), (∀ a u, W.H a = some u → ¬ W.U a → W1.H a = some u ∧ ¬ W1.U a) → W1.P = W.P → xs[i]? = some x → J.go i W1.H ∧ ∀ v H', J.yld i W1.H v H' → Same W1.H H' ∧ Rep (W1.at H') x v
  stop : ∀ (W1 : Wd), (∀ a u, W.H a = some u → ¬ W.U a → W1.H a = some u ∧ ¬ W1.U a) → J.stop xs.length W1.H
def Ek (wi : TI) (Γ : Gam) (xs : List D) : Prop := ∀ (F : Addr → Prop) (σ : L2.St) (W : Wd) (R : It → Hp → Prop), SR F Γ σ W → (∀ J H, Same W.H H → ItK (W.at H) J xs → R J H) → wi σ W.H R
section
variable {K : PySem.W.Frag} {Γ : Gam} {t : TE} {ta : TA} {xs : List D}
theorem ek_r {w1 w2 : TI} (h : Ek w2 Γ xs) : Ek (fun σ H R => w1 σ H R ∨ w2 σ H R) Γ xs := fun F σ W R g k => .inr (h F σ W R g k)
theorem ek_rgO {n : Nat} (h : Ev t Γ (.rng 0 n)) (hn : n < 2 ^ 62) : Ek (iRgO t) Γ (rng n) := fun F σ W R g k => h F σ W _ g fun v H s ⟨p, ev, hp, nu⟩ =>
  ⟨p, 0, n, ev, hp, by omega, k (Itr 0 ((n : Int) - 0).toNat) H s ⟨fun W2 i x kp pu hx => by
    obtain ⟨hi, rfl⟩ := rng_get hx
    refine ⟨by show i < ((n : Int) - 0).toNat; omega, fun u H' ⟨e, hy⟩ => ?_⟩
    subst e hy
    exact ⟨Same.refl _, by show V.int (0 + (i : Int)) = V.int i; rw [Int.zero_add]⟩, fun W2 kp => by
      show ((n : Int) - 0).toNat ≤ _
      rw [rng_length]; omega⟩⟩
theorem ekj_rng {n : Nat} (h : Ev t Γ (.rng 0 n)) (hn : n < 2 ^ 62) : Ek (iAnyR K t) Γ (rng n) := ek_r (ek_rgO h hn)
end
section
variable {Γ : Gam} {wi wi1 : TI} {g g1 : TG} {tt tt1 : TT} {te : TE} {vs vs1 : List Nat}
theorem evn_lc2 {α β : Type} {xs : List α} {c : α → D} {p : α → Bool} {ys : α → List β} {c1 : α → β → D} {q : α → β → Bool} {f : α → β → D} (h : Ei wi Γ (xs.map c)) (hz : (xs.map fun x => (ys x).length).sum ≤ 1000000)
    (he : ∀ x ∈ xs, ∃ is Γ2, DG g is (c x) (wipeG Γ vs) Γ2 ∧ (∀ i ∈ is, i ∈ vs) ∧ EvT tt Γ2 (p x) ∧ (p x = true → Ek wi1 Γ2 ((ys x).map (c1 x)) ∧ ∀ y ∈ ys x, ∃ js Γ3, DG g1 js (c1 x y) (wipeG Γ2 vs1) Γ3 ∧ (∀ j ∈ js, j ∈ vs1) ∧ EvT tt1 Γ3 (q x y) ∧ (q x y = true → Ev te Γ3 (f x y)))) :
    EvN (tLc2 wi g tt wi1 g1 tt1 te vs vs1) Γ ((xs.filter p).flatMap fun x => ((ys x).filter (q x)).map (f x)) := fun F σ W R s k =>
  h F σ W _ s fun I H1 st it => fun Dn hD => by
    have wd : W.H Dn = none := st.free hD
    -- what is in the list behind i turns, and j of the next one
    obtain ⟨acc, eacc⟩ : ∃ acc : Nat → List D, acc = fun i => ((xs.take i).filter p).flatMap fun x => ((ys x).filter (q x)).map (f x) := ⟨_, rfl⟩
    have accS : ∀ {i : Nat} (hlt : i < xs.length), acc (i + 1) = acc i ++ (if p xs[i] = true then ((ys xs[i]).filter (q xs[i])).map (f xs[i]) else []) := fun {i} hlt => by
      rw [eacc]
      show List.flatMap _ _ = List.flatMap _ _ ++ _
      rw [List.take_add_one, List.getElem?_eq_getElem hlt, List.filter_append, List.flatMap_append]
      congr 1
      cases hp : p xs[i] <;> simp [hp]
    have accL : ∀ i, (acc i).length ≤ ((xs.take i).map fun x => (ys x).length).sum := fun i => by
      rw [eacc]
      show (List.flatMap _ ((xs.take i).filter p)).length ≤ _
      generalize xs.take i = l
      induction l with
      | nil => exact Nat.le_refl _
      | cons x l ih =>
        rw [List.map_cons, List.sum_cons, List.filter_cons]
        split
        · rw [List.flatMap_cons, List.length_append, List.length_map]
          have := List.length_filter_le (q x) (ys x)
          omega
        · omega
    have sumL : ∀ {i : Nat} (hlt : i < xs.length), ((xs.take i).map fun x => (ys x).length).sum + (ys xs[i]).length ≤ 1000000 := fun {i} hlt => by
      have e : xs = xs.take i ++ xs[i] :: xs.drop (i + 1) := by
        rw [← List.drop_eq_getElem_cons hlt, List.take_append_drop]
      rw [e, List.map_append, List.sum_append, List.map_cons, List.sum_cons] at hz
      omega
    have mv : ∀ {H3 H4 : Hp} {ds us}, Same H3 H4 → RepL (W.plus H3 Dn) ds us → RepL (W.plus H4 Dn) ds us := fun {H3 H4 ds us} s34 r => RepL.mono (W := W.plus H3 Dn) (W' := W.plus H4 Dn) (fun b u e n => ⟨s34 b u e, n⟩) (fun _ h => h) ds us r
    have un : ∀ {H4 : Hp} {ds us}, RepL (W.plus H4 Dn) ds us → ∀ o, RepL (W.plus (upd H4 Dn o) Dn) ds us := fun {H4 ds us} r o => RepL.mono (W := W.plus H4 Dn) (W' := W.plus (upd H4 Dn o) Dn) (fun b u e n => ⟨by
      show (upd H4 Dn o) b = some u
      rw [upd_ne (fun z : b = Dn => n (Or.inr z))]; exact e, n⟩) (fun _ h => h) ds us r
    refine ⟨fun i m H' => m = xs.length - i ∧ i ≤ xs.length ∧ Same H1 H' ∧ ∃ us, H' Dn = some (.lst us) ∧ RepL (W.plus H' Dn) (acc i) us, ⟨_, rfl, Nat.zero_le _, same_upd hD, [], upd_same, by rw [eacc]; rfl⟩, ?_⟩
    rintro i m H' ⟨rfl, hi, sm, us, hus, rus⟩
    by_cases hlt : i < xs.length
    · have hx : xs[i]? = some xs[i] := List.getElem?_eq_getElem hlt
      have hx' : (xs.map c)[i]? = some (c xs[i]) := by rw [List.getElem?_map, hx]; rfl
      obtain ⟨is, Γ2, hg, his, ht, hel⟩ := he xs[i] (List.getElem_mem hlt)
      obtain ⟨go, yl⟩ := it.go (W.plus H' Dn) i (c xs[i]) (fun b hb z => hb.elim (fun u => s.ok.dom b u ((Same.trans st sm).free z)) (fun e => by rw [e] at z; exact absurd (hus.symm.trans z) (fun q => nomatch q))) sm (fun b u e n z => z.elim n fun z => by rw [z] at e; exact absurd (e.symm.trans hD) (fun q => nomatch q)) rfl hx'
      refine .inr ⟨go, fun H2 => Same H1 H2 ∧ ∃ us, H2 Dn = some (.lst us) ∧ RepL (W.plus H2 Dn) (acc (i + 1)) us, fun H2 q => ⟨xs.length - (i + 1), by omega, rfl, hlt, q⟩, fun v H2 y => ?_⟩
      obtain ⟨sm2, rv⟩ := yl v H2 y
      have sW : Same W.H H2 := Same.trans st (Same.trans sm sm2)
      obtain ⟨_, gp, no0, _, np0⟩ := s.plus sW wd (by rw [sm2 _ _ hus]; exact fun z => nomatch z)
      have gp := (gp.frame (Or.inr rfl) np0 no0).wipe vs
      refine hg (Fp F Dn) _ (W.plus H2 Dn) v _ gp rv fun σ2 g2 w2 => ⟨by rw [w2 vs his, wipe_wipe], ?_⟩
      refine ht (Fp F Dn) σ2 (W.plus H2 Dn) _ g2 fun H3 s3 => ?_
      have rus3 : RepL (W.plus H3 Dn) (acc i) us := mv s3 (mv sm2 rus)
      have h3 : H3 Dn = some (.lst us) := s3 _ _ (sm2 _ _ hus)
      have s13 : Same H1 H3 := Same.trans (Same.trans sm sm2) s3
      cases hp : p xs[i] with
      | false =>
        rw [if_neg Bool.false_ne_true]
        refine ⟨s13, us, h3, ?_⟩
        rw [accS hlt, hp, if_neg Bool.false_ne_true, List.append_nil]
        exact rus3
      | true =>
        rw [if_pos rfl]
        obtain ⟨hi1, hel1⟩ := hel hp
        have g3 : SR (Fp F Dn) Γ2 σ2 (W.plus H3 Dn) := SR.same (W := W.plus H2 Dn) s3 g2
        refine hi1 (Fp F Dn) σ2 (W.plus H3 Dn) _ g3 fun J1 H4 s4 it1 => ?_
        have g4 : SR (Fp F Dn) Γ2 σ2 (W.plus H4 Dn) := SR.same (W := W.plus H3 Dn) s4 g3
        -- H5 is H4 but for the list, and more
        have kp : ∀ {H5 : Hp}, (∀ b u, H4 b = some u → b ≠ Dn → H5 b = some u) → ∀ b u, (W.plus H4 Dn).H b = some u → ¬ (W.plus H4 Dn).U b → (W.plus H5 Dn).H b = some u ∧ ¬ (W.plus H5 Dn).U b := fun {H5} k5 b u e n => ⟨k5 b u e fun z => n (Or.inr z), n⟩
        have g5 : ∀ {H5 : Hp}, (∀ b u, H4 b = some u → b ≠ Dn → H5 b = some u) → H5 Dn ≠ none → SR (Fp F Dn) Γ2 σ2 (W.plus H5 Dn) := fun {H5} k5 ne => by
          have nP : ∀ b, W.P b → b ≠ Dn := fun b hb z => s.ok.dom b (s.ok.pu b hb).1 (by rw [z]; exact wd)
          have own5 : ∀ b, W.P b → OwnAt H4 b → OwnAt H5 b := fun b hb o => by
            have nl : ∀ f, H4 Dn ≠ some (.ext f) := no_ext (s4 _ _ h3)
            unfold OwnAt at o ⊢
            cases nn : Tabs0.nm b with
            | none =>
              rw [nn] at o
              obtain ⟨x, y, a1, a2, a3, e⟩ := o
              exact ⟨x, y, a1, a2, a3, k5 _ _ e (nP b hb)⟩
            | some qn =>
              rw [nn] at o
              obtain ⟨ps, e1, e2, e3⟩ := o
              refine ⟨ps, k5 _ _ e1 (nP b hb), e2, fun pos cv hc => ?_⟩
              obtain ⟨c', e4, e5⟩ := e3 pos cv hc
              exact ⟨c', e4, k5 _ _ e5 fun z => nl _ (by rw [← z]; exact e5)⟩
          refine ⟨⟨fun b hb z => ?_, g4.ok.fu, fun b hb => let ⟨u, f, o⟩ := g4.ok.pu b hb; ⟨u, f, own5 b hb o⟩⟩, g4.len, fun j d e => ?_, fun j ds e => ?_, g4.apartX⟩
          · by_cases hb' : b = Dn
            · rw [hb'] at z; exact ne z
            · cases e : H4 b with
              | none => exact g4.ok.dom b hb e
              | some u => exact absurd ((k5 b u e hb').symm.trans z) (fun q => nomatch q)
          · obtain ⟨v, e1, r⟩ := g4.val j d e
            exact ⟨v, e1, Rep.mono (W := W.plus H4 Dn) (W' := W.plus H5 Dn) (kp k5) (fun _ h => h) d v r⟩
          · obtain ⟨a, ws, e1, u, f, pp, e2, r⟩ := g4.ownX j ds e
            have na : a ≠ Dn := fun z => f (Or.inr z)
            exact ⟨a, ws, e1, u, f, pp, k5 _ _ e2 na, RepL.mono (W := W.plus H4 Dn) (W' := W.plus H5 Dn) (kp k5) (fun _ h => h) _ _ r⟩
        refine ⟨fun j m H5 => m = (ys xs[i]).length - j ∧ j ≤ (ys xs[i]).length ∧ Same H1 H5 ∧ (∀ b u, H4 b = some u → b ≠ Dn → H5 b = some u) ∧ ∃ us, H5 Dn = some (.lst us) ∧ RepL (W.plus H5 Dn) (acc i ++ (((ys xs[i]).take j).filter (q xs[i])).map (f xs[i])) us,
          ⟨_, rfl, Nat.zero_le _, Same.trans s13 s4, fun b u e _ => e, us, s4 _ _ h3, by rw [List.take_zero, List.filter_nil, List.map_nil, List.append_nil]; exact mv s4 rus3⟩, ?_⟩
        rintro j m5 H5 ⟨rfl, hj, s15, k5, us5, hus5, rus5⟩
        have g5 := g5 k5 (by rw [hus5]; exact fun z => nomatch z)
        by_cases hjl : j < (ys xs[i]).length
        · have hy : (ys xs[i])[j]? = some (ys xs[i])[j] := List.getElem?_eq_getElem hjl
          have hy' : ((ys xs[i]).map (c1 xs[i]))[j]? = some (c1 xs[i] (ys xs[i])[j]) := by rw [List.getElem?_map, hy]; rfl
          obtain ⟨js, Γ3, hg1, hjs, ht1, hf⟩ := hel1 (ys xs[i])[j] (List.getElem_mem hjl)
          obtain ⟨go1, yl1⟩ := it1.go (W.plus H5 Dn) j _ (kp k5) rfl hy'
          refine .inr ⟨go1, fun H6 => Same H1 H6 ∧ (∀ b u, H4 b = some u → b ≠ Dn → H6 b = some u) ∧ ∃ us, H6 Dn = some (.lst us) ∧ RepL (W.plus H6 Dn) (acc i ++ (((ys xs[i]).take (j + 1)).filter (q xs[i])).map (f xs[i])) us, fun H6 z => ⟨(ys xs[i]).length - (j + 1), by omega, rfl, hjl, z⟩, fun v6 H6 y6 => ?_⟩
          obtain ⟨s56, rv6⟩ := yl1 v6 H6 y6
          have g6 : SR (Fp F Dn) (wipeG Γ2 vs1) (wipe σ2 vs1) (W.plus H6 Dn) := (SR.same (W := W.plus H5 Dn) s56 g5).wipe vs1
          refine hg1 (Fp F Dn) _ (W.plus H6 Dn) v6 _ g6 rv6 fun σ3 g7 w7 => ⟨by rw [w7 vs1 hjs, wipe_wipe], ?_⟩
          refine ht1 (Fp F Dn) σ3 (W.plus H6 Dn) _ g7 fun H7 s67 => ?_
          have r7 : RepL (W.plus H7 Dn) (acc i ++ (((ys xs[i]).take j).filter (q xs[i])).map (f xs[i])) us5 := mv s67 (mv s56 rus5)
          have h7 : H7 Dn = some (.lst us5) := s67 _ _ (s56 _ _ hus5)
          have e2 : ((ys xs[i]).take (j + 1)).filter (q xs[i]) = ((ys xs[i]).take j).filter (q xs[i]) ++ (if q xs[i] (ys xs[i])[j] = true then [(ys xs[i])[j]] else []) := by
            rw [List.take_add_one, hy, List.filter_append]
            congr 1
            cases hq : q xs[i] (ys xs[i])[j] <;> simp [hq]
          cases hq : q xs[i] (ys xs[i])[j] with
          | false =>
            rw [if_neg Bool.false_ne_true]
            refine ⟨Same.trans s15 (Same.trans s56 s67), fun b u e n => s67 _ _ (s56 _ _ (k5 b u e n)), us5, h7, ?_⟩
            rw [e2, hq, if_neg Bool.false_ne_true, List.append_nil]
            exact r7
          | true =>
            rw [if_pos rfl]
            refine hf hq (Fp F Dn) σ3 ((W.plus H6 Dn).at H7) _ (SR.same (W := W.plus H6 Dn) s67 g7) fun z H8 s78 rz => ?_
            have h8 : H8 Dn = some (.lst us5) := s78 _ _ h7
            refine ⟨us5, h8, ?_, fun b u e => ?_, fun b u e n => ?_, us5 ++ [z], upd_same, ?_⟩
            · rw [← r7.length, List.length_append, List.length_map]
              have a1 := accL i
              have a2 := sumL hlt
              have a3 := List.length_filter_le (q xs[i]) ((ys xs[i]).take j)
              rw [List.length_take] at a3
              refine Nat.lt_of_le_of_lt (m := 1000000) ?_ (show 1000000 < sizeLine by decide)
              omega
            · have nb : b ≠ Dn := fun z => by rw [z, hD] at e; cases e
              rw [upd_ne nb]
              exact s78 _ _ (s67 _ _ (s56 _ _ (s15 _ _ e)))
            · rw [upd_ne n]
              exact s78 _ _ (s67 _ _ (s56 _ _ (k5 b u e n)))
            · rw [e2, hq, if_pos rfl, List.map_append, ← List.append_assoc]
              exact un ((mv s78 r7).append (RepL.one rz)) _
        · have e : j = (ys xs[i]).length := by omega
          subst e
          refine .inl ⟨by have := it1.stop (W.plus H5 Dn) (kp k5); rw [List.length_map] at this; exact this, s15, us5, hus5, ?_⟩
          rw [accS hlt, hp, if_pos rfl]
          rw [List.take_length] at rus5
          exact rus5
    · have e : i = xs.length := by omega
      subst e
      refine .inl ⟨by have := it.stop H' sm; rw [List.length_map] at this; exact this, k Dn us H' (Same.trans st sm) wd hus ?_⟩
      have : acc xs.length = (xs.filter p).flatMap fun x => ((ys x).filter (q x)).map (f x) := by
        rw [eacc]
        show List.flatMap _ _ = _
        rw [List.take_length]
      rw [← this]
      exact rus
end

/-! ### all of whole numbers -/
theorem int_range : ∀ is : List Int, (List.range is.length).all (fun j => (is.getD j 0) != 0) = is.all fun z => z != 0
  | [] => rfl
  | b :: bs => by
    rw [List.length_cons, List.range_succ_eq_map, List.all_cons, List.all_map, List.all_cons, ← int_range bs]
    all_goals rfl
theorem truth_ints {prog : Program} {w : World} {A : Around} {is : List Int} {its : List Value} (e : Vals (is.map V.int) its) :
    TruthOf prog w A (fun i v => its.toArray[i]? = some v) (fun i => (is.getD i 0) != 0) := fun i v s Q E hv hq => by
  have hv' : its[i]? = some v := by simpa using hv
  have key : ∀ {is : List Int} {its : List Value} {i : Nat} {v : Value}, Vals (is.map V.int) its → its[i]? = some v → ∃ t, v = .int (is.getD i 0) t := by
    intro is its i v h
    induction is generalizing its i with
    | nil => cases h; intro z; simp at z
    | cons z is ih =>
      cases h with
      | cons r1 r2 =>
        intro hz
        cases i with
        | zero =>
          obtain ⟨t, e⟩ := r1
          rw [List.getElem?_cons_zero] at hz
          exact ⟨t, by rw [← Option.some.inj hz, e]; rfl⟩
        | succ i =>
          obtain ⟨t, e⟩ := ih r2 (by simpa using hz)
          exact ⟨t, by rw [e]; rfl⟩
  obtain ⟨t, rfl⟩ := key e hv'
  have hq' : Q ((is.getD i 0) != 0) s := hq
  exact PySem.P.truthy_int hq'
def rAllI (K : PySem.W.Frag) : List V → Hp → VK → Prop := fun vs H Q => ∃ (a : Addr) (is : List Int), vs = [V.ref a] ∧ SqL K H a (is.map V.int) ∧ Q (.bl (is.all fun z => z != 0)) H
theorem cr_allI {X : Cx} (hc : X.calm = true) : CallR X (.builtin "all") (rAllI X.K) := by
  intro pins s σ H vs us Q I r h
  obtain ⟨a, is, rfl, hs, q⟩ := h
  obtain ⟨its, rv, hl, _⟩ := I.list hs
  rw [Vals.ref1 r]
  refine call_all_walk (iter_any hl.isList fun s₂ e2 st hne => ?_)
  subst e2
  refine ⟨_, _, _, _, _, _, _, rfl, Walks.list (A := X.A.in1) (I.ok.hd hc) _ a hne its.toArray, st, truth_ints rv, fun h' tk hk => ?_⟩
  refine ⟨.bl _, H, I.kept fun b o eo => hk b o (fun hmem => ?_) (Heap.get?_push_of_some _ eo), ?_, q⟩
  · rcases List.mem_cons.mp hmem with e1 | hmem
    · exact absurd (e1 ▸ Heap.lt_size eo) (Nat.lt_irrefl _)
    · cases hmem
  · show Value.bool _ = Value.bool _
    have hl2 : its.length = is.length := by rw [← rv.length, List.length_map]
    rw [← int_range, List.size_toArray, hl2]
theorem allIA (K : PySem.W.Frag) {X : Cx} (hc : X.calm = true := by rfl) (hK : X.K = K := by rfl) : CallR X (.builtin "all") (rAllI K) := hK ▸ cr_allI hc
theorem ev_allI {K : PySem.W.Frag} {Γ : Gam} {ta : TE} {is : List Int} (h : EvB ta Γ (is.map D.int)) : Ev (tCB (rAllI K) (tCons ta tNil)) Γ (.bl (is.all fun z => z != 0)) := fun F σ W Q g k => h F σ W _ g fun p vs H s e l => ⟨p, is, rfl, .of (by rw [e, RepL.ints.mp l]), k _ H s rfl⟩
/-! ### xs = [e, ..], a list of one's own that is drawn -/
theorem ds_asg_ownL {Γ : Gam} {ta : TA} {De : DE} {i : Nat} (h : DlA ta Γ fun es Γ1 => es.length ≤ sizeLine ∧ De.nx (Γ1.set i (.own es))) : Ds (tAsg (tLst ta) (gName i)) Γ De := fun F σ W Dr g l => h F σ W _ g fun vs W1 es Γ1 s1 g1 r ⟨hz, q⟩ => ⟨by rw [← r.length]; exact hz, fun p hp => by
  have sm : Same W1.H (upd W1.H p (.lst vs)) := same_upd hp
  obtain ⟨st, g2⟩ := g1.setOwn (i := i) sm hp upd_same (RepL.plus (W := W1) hp sm r)
  exact l.nx _ (W1.plus _ p) _ (s1.trans st) g2 q⟩
end Dw

/-! max of a list; sorted of a tuple of whole numbers. -/
namespace Dw
open PySem PySem.Spec PyProof.Rows L2
variable [Tabs0]
theorem maxA {X : Cx} (K : PySem.W.Frag) (hc : X.calm = true := by rfl) (hK : X.K = K := by rfl) : CallR X (.builtin "max") (rMax K) := hK ▸ cr_max hc
section
variable {K : PySem.W.Frag} {Γ : Gam} {ta tb : TE}
theorem ev_max1 {ns : List Int} {M : Int} (h : EvB ta Γ (ns.map D.int)) (hne : 0 < ns.length) (hu : ∀ m ∈ ns, (∀ y ∈ ns, y ≤ m) → m = M) : Ev (tCB (rMax K) (tCons ta tNil)) Γ (.int M) := fun F σ W Q g k => h F σ W _ g fun a vs H s e l => by
  refine ⟨a, ns, rfl, .of (by rw [e, RepL.ints.mp l]), hne, fun m hm hy => ?_⟩
  obtain rfl := hu m hm hy
  exact k _ H s rfl
end
end Dw

/-! Errors with a field: made, asked for their class and their field, shown. -/
namespace Dw
open PySem PySem.Spec PyProof.Rows L2 LamX
variable [Tabs0]
/-! ### X(given), where X's __init__ stores it -/
section
variable {P : Program} {w : World} {K : PySem.W.Frag} {mg : Str → Option Value} {base : Heap}
end
/-! ### raise X(e) -/
/-! ### asking the held error -/
section
variable {X : Cx} {a D0 : Addr} {oe : Obj} {ed : Option Addr}
end
end Dw

/-! Errors with fields, as told's suite reads them; repr of any data. -/
namespace Dw
open PySem PySem.Spec PyProof.Rows L2 LamX
variable [Tabs0]
/-! ### repr of any data -/
/-! ### held readings -/
section
variable {Γ : Gam} {x : Exn} {ed : Option Addr} {t tr : TA} {te ta tb : TE} {d : D} {ds es : List D} {K : PySem.W.Frag}
end
end Dw

/-! x -= e; a = b = e. -/
namespace Dw
open PySem PySem.Spec PyProof.Rows L2
variable [Tabs0]
section
variable {Γ : Gam} {te : TE} {De : DE} {d : D}
end
end Dw

/-! A tuple of whole numbers in a list of such: in, index. -/
namespace Dw
open PySem PySem.Spec PyProof.Rows L2
variable [Tabs0]
def tupsD (l : List (List Nat)) : List D := l.map fun p => D.tup (ordN p)
theorem plain_ordN : ∀ o : List Nat, PyData.plainAll (pys (ordN o)) = true
  | [] => rfl
  | k :: o => by
    show (PyData.plain (.int k) && PyData.plainAll (pys (ordN o))) = true
    rw [plain_ordN o]; rfl
@[reducible] def dtT : PySem.W.Datum (List Nat) where
  toD o := py (.tup (ordN o))
  plain o := plain_ordN o
  eqv a b := eqv_ints a b
  depth := 1
  depth_le o := (dOk_py 1 (.tup (ordN o)) (dOks_map fun _ _ => rfl)).2.2
end Dw

/-! sorted of a list of tuples of whole numbers that stands in order; an expression read in one of two ways. -/
namespace Dw
open PySem PySem.Spec PyProof.Rows L2
variable [Tabs0]
def intN (o : List Nat) : List Int := o.map fun k : Nat => (k : Int)
theorem ordN_ints (o : List Nat) : ordN o = (intN o).map D.int := by unfold ordN intN; rw [List.map_map]; rfl
theorem rep_key {W : Wd} {o : List Nat} {v : V} (h : Rep W (.tup (ordN o)) v) : ∃ p, v = .ref p ∧ TupAt W.H p ((intN o).map V.int) := by
  obtain ⟨p, vs, eu, e, nu, l⟩ := h
  rw [ordN_ints] at l
  rw [RepL.ints.mp l] at e
  exact ⟨p, eu, e⟩
end Dw

/-! x, ys, zs = e, [..], [..] where ys and zs are one's own. -/
namespace Dw
open PySem PySem.Spec PyProof.Rows L2
variable [Tabs0]
end Dw

/-! sorted of alike data; sorted(xs, key=lambda x: (len(x), x)) of tuples of whole numbers. -/
namespace Dw
open PySem PySem.Spec PyProof.Rows L2 LamX
section
variable {X : Cx} {pins : List (Addr × Obj)} {σ : L2.St} {H : Hp} {s : Shared} {β : Type}
theorem each_vals {g : β → V} : ∀ {bs : List β} {its : List Value}, Vals (bs.map g) its → PySem.W.EachIs (fun v b => RelV (g b) v) its bs
  | [], _, .nil => .nil
  | _ :: _, _, .cons r rs => .cons r (each_vals rs)
theorem vals_each {g : β → V} : ∀ {bs : List β} {its : List Value}, PySem.W.EachIs (fun v b => RelV (g b) v) its bs → Vals (bs.map g) its
  | _, _, .nil => .nil
  | _, _, .cons r rs => .cons r (vals_each rs)
theorem each_reads (I : Inv X pins σ H s) : ∀ {bs : List (V × PyData)} {its : List Value}, PySem.W.EachIs (fun v (b : V × PyData) => RelV b.1 v) its bs → (∀ b ∈ bs, Dp X.K H b.1 b.2) → PySem.W.EachIs (fun v (b : V × PyData) => ∃ as, Reads s.heap v b.2 as) its bs
  | _, _, .nil, _ => .nil
  | b :: _, _, .cons r rs, h => .cons (Dp.reads I b.2 b.1 _ (h b List.mem_cons_self) r) (each_reads I rs fun c hc => h c (List.mem_cons_of_mem _ hc))
end
/-- sorted(xs), xs a list of alike data: a new list in order -/
def rSortD (K : PySem.W.Frag) : List V → Hp → VK → Prop := fun vs H Q => ∃ (a : Addr) (bs : List (V × PyData)), vs = [V.ref a] ∧ SqL K H a (bs.map (·.1)) ∧ (∀ b ∈ bs, Dp K H b.1 b.2) ∧ PySem.W.AllAlike (bs.map (·.2)) ∧ PySem.W.Sortable (bs.map (·.2)) ∧ (∀ b ∈ bs, b.2.depth ≤ 20) ∧
  ∀ p, H p = none → Q (.ref p) (upd H p (.lst ((bs.mergeSort (PySem.W.dataLe false (·.2))).map (·.1))))
theorem cr_sortD {X : Cx} (hu : X.A.units + 64 < cLine) : CallR X (.builtin "sorted") (rSortD X.K) := by
  intro pins s σ H vs us Q I r h
  obtain ⟨a, bs, rfl, hs, hD, hal, hsk, hdp, q⟩ := h
  obtain ⟨its, rv, hl, hz⟩ := I.list hs
  rw [Vals.ref1 r]
  have e := each_vals (g := fun b : V × PyData => b.1) rv
  refine PySem.W.sorted_data (enc := fun b : V × PyData => b.2) hl.isList e (each_reads I e hD) hal hsk (by rw [List.length_map] at hz; exact hz) (fun b hb => ?_) fun out ho eo => ?_
  · have := hdp b hb
    omega
  · obtain ⟨ep, he'⟩ := PyProof.Rows.sortedAll_at s.heap its (List.toArray out)
    have hlen : ((bs.mergeSort (PySem.W.dataLe false (·.2))).map (·.1)).length ≤ sizeLine := by
      rw [List.length_map, List.length_mergeSort]; rw [List.length_map] at hz; exact hz
    exact ⟨.ref _, upd H (s.heap.objs.size + 1) (.lst ((bs.mergeSort (PySem.W.dataLe false (·.2))).map (·.1))), I.laid (t' := s.toks) (fun _ _ => PyProof.Rows.sortedAll_old) (Nat.le_succ _) ⟨hlen, out, ep, vals_each eo, he'⟩, rfl, q _ (I.hok.fresh (Nat.le_succ _))⟩
/-! ### key=lambda x: (len(x), x) -/
def lenKey (ns : List Int) : PyData := .tuple [.int ns.length, .tuple (ns.map .int)]
theorem reads_ints {h : Heap} : ∀ {ns : List Int} {us : List Value}, Vals (ns.map V.int) us → ReadsAll h us (ns.map .int) []
  | [], _, .nil => .nil
  | n :: ns, _, .cons ⟨t, e⟩ rs => by
    subst e
    exact .cons (as := []) (bs := []) (.int n t) (reads_ints rs)
section
variable {X : Cx} {pins : List (Addr × Obj)} {σ : L2.St} {H : Hp} {s : Shared}
theorem lam_key_run {a qual : Str} {params : Arguments} {scope : Scope} {p1 p2 p3 p4 p5 : Pos} {cx : Nat} {f c' p : Addr} {pm ctv : Value} {A : Around} {ns : List Int} (I : Inv X pins σ H s)
    (hA : A.depth < recursionLimit)
    (hf : s.heap.get? f = some (PySem.W.kla_obj "<lambda>" qual params (.Tuple [.Call (.Name "len" p1) [.Name a p2] [] p3, .Name a p4] cx p5) scope [] pm c' ctv)) (hco : H c' = some (CodeO c' qual)) (ht : SqT X.K H p (ns.map V.int))
    (hbind : ∀ v, bindArgs (PySem.W.kla_fn "<lambda>" qual params (.Tuple [.Call (.Name "len" p1) [.Name a p2] [] p3, .Name a p4] cx p5) scope [] pm (.ref c') ctv) ⟨[v], []⟩ = pure [(a, v)])
    (kd : scope.kind = .function) (co : scope.isCoroutine = false) (gen : scope.isGenerator = false) (hcell : ∀ y ∈ scope.names, y.2 ≠ .cell) (hloc : scope.names.lookup a = some .local) (hlen : scope.names.lookup ("len" : Str) = some NameKind.globalImplicit) (hml : X.mg "len" = none)
    (hd : (a == ("__debug__" : Str)) = false := by decide) :
    wpAny (model X.prog X.w) A (call (.ref f) [.ref p]) (PySem.W.KeyPure (lenKey ns) s) (fun _ _ => False) s := by
  obtain ⟨⟨oc, vs, t, hoc, hdc, hvc⟩, _, _⟩ := I.hok c' _ hco
  obtain ⟨its, rv, hT, hz⟩ := I.tuple ht
  have hlen' := rv.length
  rw [List.length_map] at hlen' hz
  have hn := line63
  refine wpAny_call (PySem.W.kla_callFunE hA hf rfl co gen rfl ⟨c', oc, vs, t, rfl, hoc, hdc, hvc⟩ ?_)
  rw [hbind]
  refine wpAny_pure (wpAny_newFunctionEnv hcell (fun y hy => by rw [List.mem_singleton.mp hy]; exact hloc) (fun h₁ hns hsb => ⟨I.nolimit.fresh _ hsb, ?_⟩) kd)
  show codeAny _ _ (.expr _ (PySem.W.envX qual scope s.heap.objs.size f (.ref c') [])) _ _
  have kp : ∀ b o, s.heap.get? b = some o → h₁.get? b = some o := fun b o e => hsb.extBut b o (Nat.ne_of_lt (Heap.lt_size e)) (Heap.get?_push_of_some _ e)
  have hT1 : IsTup h₁ p its.toArray := let ⟨o, ho, r⟩ := hT; ⟨o, kp _ _ ho, r⟩
  have nm : ∀ {E : Value → Shared → Prop} {Q : Value → Shared → Prop} {A : Around} {tk : Nat} {g : Heap} {pz : Pos}, g.Ns s.heap.objs.size (fun x => [(a, Value.ref p)].reverse.lookup x) → Q (.ref p) { s with heap := g, toks := tk } →
      wpAny (model X.prog X.w) A (eval (.Name a pz) (PySem.W.envX qual scope s.heap.objs.size f (.ref c') [])) Q E { s with heap := g, toks := tk } := fun {E Q A tk g pz} hg hq =>
    wpAny_Name (wpAny_loadName_local kd hloc hg (by simp) hq) hd
  obtain ⟨mb, b1, b2⟩ := I.mod.blt
  have old : ∀ b o, X.base.get? b = some o → h₁.get? b = some o := fun b o e => kp _ _ (I.bk b o e)
  refine PySem.W.kla_codeExpr (wpAny_Tuple_spliced ?_)
  show wpAny _ _ (spliced ((false, eval (.Call (.Name "len" p1) [.Name a p2] [] p3) _) :: (false, eval (.Name a p4) _) :: [])) _ _ _
  refine Calls.spliced_cons (wpAny_Call_Name_kw (Calls.Name_function_global kd hlen (Calls.loadGlobal_builtin (I.mod.glob.keeps old) hml (b1.keeps old) ((b2 "len" (by decide)).trans rfl) ?_) (by decide)))
  refine PyProof.Rows.callWith_builtin1 (e := .Name a p2) (rest := []) (Calls.spliced_cons (nm hns (Calls.spliced_nil ?_))) rfl rfl
  refine PyProof.Rows.len_tuple hT1 (by simp only [List.size_toArray] <;> omega) ?_
  refine Calls.spliced_cons (nm hns (Calls.spliced_nil ⟨show 2 ≤ sizeLine by decide, ?_⟩))
  refine ⟨_, _, rfl, fun b o e => Heap.get?_push_of_some _ (kp b o e), ?_⟩
  obtain ⟨o, ho, hc, n, hdt⟩ := hT1
  refine Reads.tuple (as := []) (Heap.get?_push_size _ rfl) rfl rfl (ReadsAll.cons (as := []) (bs := []) ?_ (ReadsAll.cons (as := []) (bs := []) ?_ .nil))
  · rw [show its.toArray.size = ns.length by rw [List.size_toArray, hlen']]
    exact .int _ _
  · exact Reads.tuple (Heap.get?_push_of_some _ ho) hc hdt (by simpa using reads_ints rv)
end

theorem sqt_ext {K : PySem.W.Frag} {H H1 : Hp} {p : Addr} {xs : List V} (e : ExtN H H1) (h : SqT K H p xs) : SqT K H1 p xs := by
  rcases h with (h | ⟨o, h⟩) | h
  · exact .inl (.inl (e _ _ h fun _ z => nomatch z))
  · exact .inl (.inr ⟨o, e _ _ h fun _ z => nomatch z⟩)
  · exact .inr h
theorem sql_ext {K : PySem.W.Frag} {H H1 : Hp} {p : Addr} {xs : List V} (e : ExtN H H1) (h : SqL K H p xs) : SqL K H1 p xs := by
  rcases h with (h | ⟨o, h⟩) | h
  · exact .inl (.inl (e _ _ h fun _ z => nomatch z))
  · exact .inl (.inr ⟨o, e _ _ h fun _ z => nomatch z⟩)
  · exact .inr h
/-- sorted(xs, key=lambda x: (len(x), x)) -/
def tSortKL (K : PySem.W.Frag) (T : List (Addr × Str)) (P : Addr) (q : Str) (t : TE) : TE := fun σ H Q => t σ H fun v H0 => ∃ (a : Addr) (bs : List (V × List Int)), v = .ref a ∧ SqL K H0 a (bs.map (·.1)) ∧ (∀ b ∈ bs, ∃ p, b.1 = .ref p ∧ SqT K H0 p (b.2.map V.int)) ∧ Tabs T H0 ∧
  ∀ H1, Chg P q H0 H1 → Tabs T H1 → ∀ p, H1 p = none → Q (.ref p) (upd H1 p (.lst ((bs.mergeSort (PySem.W.dataLe false (fun b : V × List Int => lenKey b.2))).map (·.1))))
theorem key_alike (bs : List (V × List Int)) : PySem.W.AllAlike (bs.map fun b => lenKey b.2) := by
  refine PySem.W.AllAlike.of fun b b' => ?_
  have e := PySem.W.alike_ints b.2 b'.2
  show PySem.W.alike (.tuple [.int _, .tuple _]) (.tuple [.int _, .tuple _]) = true
  simp [PySem.W.alike, PySem.W.alikeAll, e]
theorem pe_sortKL {X : Cx} {T : List (Addr × Str)} {te : TE} {e : Expr} {a : Str} {c P : Addr} {params : Arguments} {scope : Scope} {p pos lpos kpos p1 p2 p3 p4 p5 : Pos} {cx : Nat} (he : PE X e te) (hg : Gl X "sorted") (hm : X.mg "sorted" = none) (hml : X.mg "len" = none)
    (TB : TabB X.base X.mg c P) (hcode : X.env.code = .ref c) (hmT : (P, X.env.qual ++ "<lambda>") ∈ T) (hu : ∀ p ∈ T, p.1 = P → p.2 = X.env.qual ++ "<lambda>") (hr : Room 1 X.A) (hdef : defaultsOf params X.env = ([], []))
    (hclo : cloFrom X.env.cells scope.names [] = []) (hfree : ∀ y ∈ scope.names, y.2 ≠ .free)
    (hbind : ∀ (q : Str) (cl : List (Str × Addr)) (pm cv ctv v : Value), bindArgs (PySem.W.kla_fn "<lambda>" q params (.Tuple [.Call (.Name "len" p1) [.Name a p2] [] p3, .Name a p4] cx p5) scope cl pm cv ctv) ⟨[v], []⟩ = pure [(a, v)])
    (kd : scope.kind = .function) (co : scope.isCoroutine = false) (gen : scope.isGenerator = false) (hcell : ∀ y ∈ scope.names, y.2 ≠ .cell) (hloc : scope.names.lookup a = some .local) (hlen : scope.names.lookup ("len" : Str) = some NameKind.globalImplicit)
    (hd : (a == ("__debug__" : Str)) = false := by decide) (hse : starEach [e] X.env = [(false, eval e X.env)] := by rfl) :
    PE X (.Call (.Name "sorted" p) [e] [⟨some "key", .Lambda params (.Tuple [.Call (.Name "len" p1) [.Name a p2] [] p3, .Name a p4] cx p5) scope lpos, kpos⟩] pos) (tSortKL X.K T P (X.env.qual ++ "<lambda>") te) := by
  refine ⟨fun pins s σ H Q I h => ?_⟩
  refine wpAny_Call_Name_kw (ld_blt (u := .builtin "sorted") I hg hm (by decide +kernel) ?_)
  refine PyProof.Rows.callWith_kw (e := e) (rest := []) ?_ (by rw [hse]; rfl) (by rw [hse]; rfl) rfl rfl
  rw [hse]
  show wpAny _ _ (spliced [(false, eval e X.env)]) _ _ s
  refine Calls.spliced_cons (thn (he.run pins s σ H _ I h) fun u s1 ⟨v, H0, I1, r1, q1⟩ => Calls.spliced_nil ?_)
  obtain ⟨l, bs, rfl, hs, hb, hT, q⟩ := q1
  obtain rfl : u = Value.ref l := r1
  show wpAny _ _ (evalAll [do let v ← eval (.Lambda params _ scope lpos) X.env; standAt pos; pure v]) _ _ s1
  refine wpAny_evalAll_cons (wpAny_bind (lam_make3 I1 TB hcode hmT hu hT hdef (fun y hy z => absurd z (hfree y hy)) fun f c' pm ctv H1 s2 I2 cg T1 hf hfn hfr hco => wpAny_bind (wpAny_standAt (wpAny_pure (wpAny_evalAll_nil ?_)))))
  rw [hclo] at hf
  show wpAny _ _ (call (.builtin "sorted") [.ref l] [(Str.ofString "key", .ref f)]) _ _ s2
  have ext := cg.ext
  obtain ⟨its, rv, hl, hz⟩ := I2.list (sql_ext ext hs)
  have hz' : bs.length ≤ sizeLine := by rw [List.length_map] at hz; exact hz
  have ee := each_vals (g := fun b : V × List Int => b.1) rv
  have hu2 := hr.un
  refine PySem.W.sorted_key_data (b := false) (fun b : V × List Int => lenKey b.2) hl.isList ee (key_alike bs) (PySem.W.Sortable.tuples fun _ => ⟨_, _, rfl⟩) hz' (fun b _ => ?_) (PyProof.Rows.ksk_s1 _ _) (fun _ => PyProof.Rows.ksk_l1 _ _) (fun _ => PyProof.Rows.ksk_t1 _ _) (fun v b hR hbm h tk kp => ?_) fun out c h' tk kp hnone hD hol eo => ?_
  · have hd : (lenKey b.2).depth ≤ 2 := by
      have := PySem.W.depth_ints b.2
      simp only [lenKey, PyData.depth, PyData.depthAll]
      omega
    omega
  · obtain ⟨p, ep, hp⟩ := hb b hbm
    rw [ep] at hR
    obtain rfl : v = Value.ref p := hR
    exact lam_key_run (I2.kept (t' := tk) kp) (show X.A.depth < _ from hr.depth) (kp f _ hf) hco (sqt_ext ext hp) (fun v => hbind _ _ _ _ _ v) kd co gen hcell hloc hlen hml hd
  · have hlen2 : ((bs.mergeSort (PySem.W.dataLe false (fun b : V × List Int => lenKey b.2))).map (·.1)).length ≤ sizeLine := by
      rw [List.length_map, List.length_mergeSort]; exact hz'
    exact ⟨.ref _, upd H1 (s2.heap.objs.size + 1) (.lst ((bs.mergeSort (PySem.W.dataLe false (fun b : V × List Int => lenKey b.2))).map (·.1))), I2.laid (t' := tk) kp (Nat.le_succ _) ⟨hlen2, out, c, vals_each eo, hD⟩, rfl, q H1 cg T1 _ (I2.hok.fresh (Nat.le_succ _))⟩
end Dw

/-! Tagged data (what stands beside it: all tables may change); sorted lots by data. -/
namespace Dw
open PySem PySem.Spec PyProof.Rows L2 LamX
variable [Tabs0]
/-! ### tags -/
section
variable {Γ : Gam} {t : TE} {d e : D} {i : Nat} {Q : D → Gam → Prop}
def TabIn (W : Wd) : Prop := ∀ p q, Tabs0.nm p = some q → W.P p
/-- a slot that knows of the tables -/
def TgS (s : Sl) : Prop := s = .val .purse ∨ ∃ d, s = .val (.tag d)
theorem TgS.purse : TgS (.val .purse) := .inl rfl
theorem TgS.tag {d : D} : TgS (.val (.tag d)) := .inr ⟨d, rfl⟩
theorem SR.tabs {F : Addr → Prop} {Γ : Gam} {σ : L2.St} {W : Wd} {s : Sl} (g : SR F Γ σ W) (h : Γ[i]? = some s) (ht : TgS s) : TabIn W := by
  rcases ht with rfl | ⟨d, rfl⟩
  · obtain ⟨_, _, _, _, _, _, t⟩ := g.val i .purse h
    exact t
  · obtain ⟨_, _, _, t⟩ := g.val i (.tag d) h
    exact t
theorem ev_untag (h : Ev t Γ (.tag d)) : Ev t Γ d := fun F σ W Q g k => h F σ W Q g fun v H s r => k v H s r.1
theorem ev_tag {s : Sl} (hs : Γ[i]? = some s) (ht : TgS s) (h : Ev t Γ d) : Ev t Γ (.tag d) := fun F σ W Q g k => h F σ W Q g fun v H s r => k v H s ⟨r, g.tabs hs ht⟩
end
/-! ### the order of lots -/
def lotLe (a b : List Nat) : Bool := decide (a.length < b.length ∨ (a.length = b.length ∧ a ≤ b))
theorem intN_lt : ∀ a b : List Nat, intN a < intN b ↔ a < b
  | [], [] => by constructor <;> intro h <;> exact absurd h (List.lt_irrefl _)
  | [], y :: ys => by
    show (([] : List Int) < (y : Int) :: intN ys) ↔ _
    simp
  | x :: xs, [] => by
    show ((x : Int) :: intN xs < []) ↔ _
    simp
  | x :: xs, y :: ys => by
    show ((x : Int) :: intN xs < (y : Int) :: intN ys) ↔ _
    rw [List.cons_lt_cons_iff, List.cons_lt_cons_iff, intN_lt xs ys, Int.ofNat_lt, Int.ofNat_inj]
theorem intN_len (a : List Nat) : (intN a).length = a.length := List.length_map ..
theorem pys_intN : ∀ a : List Nat, (intN a).map PyData.int = pys (ordN a)
  | [] => rfl
  | x :: xs => congrArg (PyData.int (x : Int) :: ·) (pys_intN xs)
theorem key_le (v w : V) (a b : List Nat) : PySem.W.dataLe false (fun b : V × List Int => lenKey b.2) (v, intN a) (w, intN b) = lotLe a b := by
  show (!PySem.W.dataLt (.tuple [.int (intN b).length, .tuple ((intN b).map .int)]) (.tuple [.int (intN a).length, .tuple ((intN a).map .int)])) = _
  rw [PySem.W.dataLt_pair (by simp [PySem.W.alike]) (by rw [PySem.W.alike]; exact PySem.W.alike_ints _ _), PySem.W.dataLt_int, PySem.W.dataLt_tuple]
  have e1 : PyData.eqv (.int (intN b).length) (.int (intN a).length) = decide (b.length = a.length) := by
    show (((intN b).length : Int) == ((intN a).length : Int)) = _
    rw [intN_len, intN_len, Bool.eq_iff_iff, beq_iff_eq, decide_eq_true_eq, Int.ofNat_inj]
  have e2 : PyData.eqv (.tuple ((intN b).map .int)) (.tuple ((intN a).map .int)) = decide (b = a) := by
    show PyData.eqvAll _ _ = _
    rw [pys_intN, pys_intN, eqv_ints]
  rw [e1, e2]
  have e3 : PyProof.Rows.lexLt itemOrd (PySem.W.keyToksAll ((intN b).map .int)) (PySem.W.keyToksAll ((intN a).map .int)) = decide (b < a) := by
    rw [show PyProof.Rows.lexLt itemOrd (PySem.W.keyToksAll ((intN b).map .int)) (PySem.W.keyToksAll ((intN a).map .int)) = PySem.W.rowLt ((intN b).map .int) ((intN a).map .int) from rfl, PySem.W.dataLt_ints]
    exact decide_eq_decide.mpr (intN_lt b a)
  rw [e3]
  unfold lotLe
  rw [intN_len, intN_len]
  by_cases h1 : b.length = a.length
  · rw [if_pos (decide_eq_true h1)]
    by_cases h2 : b = a
    · rw [if_pos (decide_eq_true h2), h2]
      simp
    · rw [if_neg (by simpa using h2)]
      by_cases h3 : b < a
      · have : ¬ a ≤ b := fun z => List.not_lt.mpr z h3
        simp [h1, h3, this]
      · have : a ≤ b := List.not_lt.mp h3
        simp [h1, h3, this]
  · rw [if_neg (by simpa using h1)]
    have e4 : PySem.W.dataLt (.int b.length) (.int a.length) = decide (b.length < a.length) := by
      rw [PySem.W.dataLt_int]
      exact decide_eq_decide.mpr Int.ofNat_lt
    rw [Bool.eq_iff_iff]
    simp only [Bool.not_eq_true', decide_eq_false_iff_not, decide_eq_true_eq]
    omega
theorem lotLe_trans (a b c : List Nat) : lotLe a b = true → lotLe b c = true → lotLe a c = true := by
  unfold lotLe
  simp only [decide_eq_true_eq]
  rintro (h | ⟨h, h'⟩) (k | ⟨k, k'⟩)
  · exact .inl (by omega)
  · exact .inl (by omega)
  · exact .inl (by omega)
  · exact .inr ⟨by omega, List.le_trans h' k'⟩
theorem lotLe_total (a b : List Nat) : (lotLe a b || lotLe b a) = true := by
  unfold lotLe
  simp only [Bool.or_eq_true, decide_eq_true_eq]
  rcases Nat.lt_trichotomy a.length b.length with h | h | h
  · exact .inl (.inl h)
  · rcases List.le_total a b with k | k
    · exact .inl (.inr ⟨h, k⟩)
    · exact .inr (.inr ⟨h.symm, k⟩)
  · exact .inr (.inl h)
/-! ### what is sorted, as data -/
theorem repL_pairs {α : Type} {W : Wd} {c : α → D} : ∀ {zs : List (V × α)}, (∀ z ∈ zs, Rep W (c z.2) z.1) → RepL W (zs.map fun z => c z.2) (zs.map fun z => z.1)
  | [], _ => rfl
  | z :: zs, h => ⟨z.1, _, rfl, h z List.mem_cons_self, repL_pairs fun y hy => h y (List.mem_cons_of_mem _ hy)⟩
theorem pairs_rep {α : Type} {W : Wd} {c : α → D} : ∀ {l : List α} {vs : List V}, RepL W (l.map c) vs → ∀ z ∈ vs.zip l, Rep W (c z.2) z.1
  | [], _, _, z, hz => by simp at hz
  | a :: l, _, ⟨v, r, e, h1, h2⟩, z, hz => by
    rw [e, List.zip_cons_cons] at hz
    rcases List.mem_cons.mp hz with rfl | hz
    · exact h1
    · exact pairs_rep h2 z hz
theorem zip_fst {α : Type} {W : Wd} {c : α → D} {l : List α} {vs : List V} (h : RepL W (l.map c) vs) : (vs.zip l).map (·.1) = vs ∧ (vs.zip l).map (·.2) = l := by
  have e := h.length
  rw [List.length_map] at e
  exact ⟨List.map_fst_zip (by omega), List.map_snd_zip (by omega)⟩
/-- a list of pairs sorted by what stands for the second -/
theorem sort_rep {α β : Type} {W : Wd} {c : α → D} {l : List α} {vs : List V} {f : α → β} {r : V × β → V × β → Bool} {le : α → α → Bool} (h : RepL W (l.map c) vs) (hr : ∀ v w a b, r (v, f a) (w, f b) = le a b) :
    RepL W ((l.mergeSort le).map c) ((((vs.zip l).map fun z => (z.1, f z.2)).mergeSort r).map (·.1)) := by
  have e1 : ((vs.zip l).map fun z => (z.1, f z.2)).mergeSort r = ((vs.zip l).mergeSort fun y z => le y.2 z.2).map fun z => (z.1, f z.2) :=
    (List.map_mergeSort (f := fun z : V × α => (z.1, f z.2)) (s := r) (r := fun y z => le y.2 z.2) fun a _ b _ => (hr _ _ _ _).symm).symm
  have e2 : ((vs.zip l).mergeSort fun y z => le y.2 z.2).map (·.2) = l.mergeSort le := by
    rw [List.map_mergeSort (s := le) fun a _ b _ => rfl, (zip_fst h).2]
  rw [e1, List.map_map, ← e2, List.map_map]
  exact repL_pairs fun z hz => pairs_rep h z ((List.mergeSort_perm _ _).mem_iff.mp hz)
section
variable {K : PySem.W.Frag} {Γ : Gam} {Tt : List (Addr × Str)} {P : Addr} {q : Str} {i : Nat} {te : TE} {l : List (List Nat)} {Q : D → Gam → Prop}
/-- sorted(lots, key=lambda lot: (len(lot), lot)) -/
theorem dl_sortKL {s : Sl} (T : TabsOk Tt) (hP : (P, q) ∈ Tt) (hs : Γ[i]? = some s) (ht : TgS s) (h : EvB te Γ (tupsD l)) (hq : Q (.lst (tupsD (l.mergeSort lotLe))) Γ) : Dl (tSortKL K Tt P q te) Γ Q := fun F σ W R g k =>
  h F σ W _ g fun a vs H st e r => by
    have g0 : SR F Γ σ (W.at H) := g.same st
    have tb : TabIn (W.at H) := g.tabs hs ht
    refine ⟨a, (vs.zip l).map fun z => (z.1, intN z.2), rfl, .of ?_, fun b hb => ?_, tabs_of g0.ok T tb, fun H1 c T1 p hp => ?_⟩
    · rw [List.map_map]
      exact ((zip_fst r).1.symm ▸ e : H a = some (.lst ((vs.zip l).map (·.1))))
    · obtain ⟨z, hz, rfl⟩ := List.mem_map.mp hb
      obtain ⟨p, ep, hp⟩ := rep_key (pairs_rep r z hz)
      exact ⟨p, ep, hp.sq⟩
    · obtain ⟨st1, g1⟩ := g0.chg T hP tb c T1
      have g1 : SR F Γ σ (W.at H1) := g1
      have r1 : RepL (W.at H1) (tupsD l) vs := r.stp st1
      have r2 := sort_rep (f := intN) (r := PySem.W.dataLe false (fun b : V × List Int => lenKey b.2)) (le := lotLe) r1 key_le
      have sm := same_upd (H := H1) (o := .lst ((((vs.zip l).map fun z => (z.1, intN z.2)).mergeSort (PySem.W.dataLe false (fun b : V × List Int => lenKey b.2))).map (·.1))) hp
      exact k (.ref p) (W.at (upd H1 p _)) _ Γ (((Stp.of_same g.ok st).trans st1).trans (Stp.of_same (W := W.at H1) g1.ok sm)) (SR.same (W := W.at H1) sm g1) (rep_new_lst (W := W.at H1) g1.ok.dom hp r2) hq
end
/-! ### sorted of alike data -/
theorem ev_sortD {K : PySem.W.Frag} {Γ : Gam} {ta : TE} {α : Type} {c : α → D} {l : List α} {le : α → α → Bool} (h : EvB ta Γ (l.map c)) (hp : ∀ a ∈ l, isPy (c a) = true) (hal : PySem.W.AllAlike (l.map fun a => py (c a))) (hsk : PySem.W.Sortable (l.map fun a => py (c a))) (hd : ∀ a ∈ l, (py (c a)).depth ≤ 20)
    (hle : ∀ a b, PySem.W.dataLe false (fun a => py (c a)) a b = le a b) : EvN (tCB (rSortD K) (tCons ta tNil)) Γ ((l.mergeSort le).map c) := fun F σ W Q g k =>
  h F σ W _ g fun a vs H s e r => by
    have g0 : SR F Γ σ (W.at H) := g.same s
    have es : ((vs.zip l).map fun z => (z.1, py (c z.2))).map (·.2) = l.map fun a => py (c a) := by
      have z : ((vs.zip l).map (·.2)).map (fun a => py (c a)) = l.map fun a => py (c a) := by rw [(zip_fst r).2]
      rw [← z, List.map_map, List.map_map]; rfl
    refine ⟨a, (vs.zip l).map fun z => (z.1, py (c z.2)), rfl, .of ?_, fun b hb => ?_, by rw [es]; exact hal, by rw [es]; exact hsk, fun b hb => ?_, fun p hn => ?_⟩
    · rw [List.map_map]
      exact ((zip_fst r).1.symm ▸ e : H a = some (.lst ((vs.zip l).map (·.1))))
    · obtain ⟨z, hz, rfl⟩ := List.mem_map.mp hb
      exact dp_of _ _ (hp _ (List.of_mem_zip hz).2) (pairs_rep r z hz)
    · obtain ⟨z, hz, rfl⟩ := List.mem_map.mp hb
      exact hd _ (List.of_mem_zip hz).2
    · have r2 := sort_rep (f := fun a => py (c a)) (r := PySem.W.dataLe false (fun b : V × PyData => b.2)) (le := le) r fun v w a b => hle a b
      exact k p _ _ (Same.trans s (same_upd hn)) (s.free hn) upd_same (RepL.plus (W := W.at H) hn (same_upd hn) r2)
theorem sortDA {X : Cx} {k : Nat} (K : PySem.W.Frag) (hr : Room k X.A) (hK : X.K = K := by rfl) : CallR X (.builtin "sorted") (rSortD K) := hK ▸ cr_sortD hr.units
end Dw

/-! A def that makes a lambda for sorted. -/
namespace Dw
open PySem PySem.Spec PyProof.Rows L2 LamX
variable [Tabs0]
section
variable {P : Program} {w : World} {K : PySem.W.Frag} {mg : Str → Option Value} {base : Heap}
theorem fnC_ok {x qual : Str} {st : Stmt} {f c : Addr} {fd : FuncData} {N ps : List Str} {k : Nat} {s : Spc} (F : FunC K x qual st f fd c) (S : FnScope N ps (defScope st)) (len : ∀ x, (s.args x).length = ps.length)
    (hbody : ∀ (A : Around) (outer : List Env) (s' : Shared) (H : Hp) (E : XK), Room k (A.deeper (envOfC qual (defScope st) s'.heap.objs.size f (.ref c))) →
      ∃ t, PSs (cxOf CX0 P w K mg base N qual (defScope st) f (.ref c) A outer s' H E).nox (defBody st) t ∧ ∀ x, s.ok x → Ds t (Gz0 N.length (s.args x)) ⟨fun _ => s.rel x .non, s.rel x, fun _ => False, fun _ => False⟩) :
    FnOk P w K mg base CX0 (k + 1) f fd ps (toSp s) := by
  obtain ⟨oc, od, kV, doc, pm, an, ct, osl, rfl, lk, hcd⟩ := F.ex
  refine fn_of lk hcd S (spc_len len) fun A outer sh H vs Q E hr hsp => ?_
  obtain ⟨t, p, hb⟩ := hbody A outer sh H E hr
  exact ⟨t, p.nox, body_of hsp hb⟩
end
end Dw
namespace Dw
open PySem PySem.Spec PyProof.Rows L2
variable [Tabs0]
/-- an own list, lent for the time of a test -/
theorem evt_lend {Γ : Gam} {t : TT} {b : Bool} (i : Nat) {ds : List D} (hi : Γ[i]? = some (.own ds)) (h : EvT t (Γ.set i (.val (.lst ds))) b) : EvT t Γ b := fun F σ W Q g k => by
  obtain ⟨a, vs, hs, _⟩ := g.own i ds hi
  obtain ⟨st, g2⟩ := g.freeze hi hs
  exact h F σ ⟨W.H, fun b => W.U b ∧ b ≠ a, W.P⟩ Q g2 k
end Dw
namespace Dw
open PySem PySem.Spec PyProof.Rows L2
variable [Tabs0]
end Dw

/-! told of what changes tables; several tables. -/
namespace Dw
open PySem PySem.Spec PyProof.Rows L2 LamX
variable [Tabs0]
section
variable {K : PySem.W.Frag} {Γ : Gam} {Tt : List (Addr × Str)} {P : Addr} {q wd : Str} {c1 c2 : Value} {n ie i : Nat} {ts : Addr → Value → Option Addr → TS} {t : XK → TE} {Q Q1 : D → Gam → Prop}
end
section
variable {Γ : Gam} {s : Spc} {sp : Sp} {ta tk : TA} {E : XK} {ds es : List D} {Q : D → Gam → Prop}
end
end Dw
namespace Dw
open PySem
theorem mem_lk {p : Addr} {q : Str} : ∀ {l : List (Addr × Str)}, l.lookup p = some q → (p, q) ∈ l
  | [], h => by cases h
  | a :: l, h => by
    cases e : p == a.1 with
    | true =>
      rw [List.lookup, e] at h
      have h : some a.2 = some q := h
      have e1 : p = a.1 := by simpa using e
      rw [e1, ← Option.some.inj h]
      exact List.mem_cons_self
    | false =>
      rw [List.lookup, e] at h
      exact List.mem_cons_of_mem _ (mem_lk h)
/-- tables by their list -/
theorem tabsOk_of {l : List (Addr × Str)} (nd : (l.map (·.1)).Nodup) : @TabsOk ⟨fun a => l.lookup a⟩ l := by
  refine @TabsOk.mk ⟨fun a => l.lookup a⟩ l (fun p hp => ?_) fun p q z => mem_lk z
  show l.lookup p.1 = some p.2
  induction l with
  | nil => cases hp
  | cons a l ih =>
    obtain ⟨n1, n2⟩ := List.nodup_cons.mp nd
    rcases List.mem_cons.mp hp with rfl | hp
    · simp [List.lookup]
    · have : p.1 ≠ a.1 := fun z => n1 (List.mem_map.mpr ⟨p, hp, z⟩)
      have e : (p.1 == a.1) = false := by simpa using this
      rw [List.lookup, e]
      exact ih n2 hp
theorem f_cons {α : Type} {P : α → Prop} {a : α} {l : List α} (h : P a) (t : ∀ p ∈ l, P p) : ∀ p ∈ a :: l, P p := fun p hp => (List.mem_cons.mp hp).elim (fun e => e ▸ h) (t p)
theorem f_nil {α : Type} {P : α → Prop} : ∀ p ∈ ([] : List α), P p := fun _ h => absurd h (by simp)
end Dw

/-! sorted(set(xs)), xs a list of whole numbers. -/
namespace Dw
open PySem PySem.Spec PyProof.Rows L2
variable [Tabs0]
section
variable {P : Program} {w : World} {A : Around} {E : Value → Shared → Prop} {s : Shared}
end
def rSetL (K : PySem.W.Frag) (w : World) : List V → Hp → VK → Prop := fun vs H Q => ∃ (a : Addr) (ns : List Int), vs = [V.ref a] ∧ SqL K H a (ns.map V.int) ∧ ns.length < 64 ∧
  ∀ (p : Addr) (c : Nat), H p = none → c ≤ ns.length → Q (.ref p) (upd H p (SetO w p (fun j => decide (j ∈ ns)) c))
end Dw

/-! own dicts: d = {}, d[k] = v, d[k] -/
namespace Dw
open PySem PySem.Spec PyProof.Rows L2
variable [Tabs0]
section
variable {K : PySem.W.Frag} {Γ : Gam} {ta tb te tk ty : TE} {De : DE} {ds : List D} {d : D}
end
end Dw

namespace K18
open PySem PySem.Spec PyProof.Rows L2 Dw
variable [Tabs0]
/-! ### the text by places -/
def topS (i : Nat) : Stmt := PySem.Challenge.pw_rankedrules_k18_whole_rules_exchanged.main.body.getD i (.Pass ⟨0, 0, 0, 0⟩)
abbrev s_is_name : Stmt := topS 17
abbrev N_is_name : List Str := ["value", "letter"]
theorem sc_is_name : FnScope N_is_name ["value"] (defScope s_is_name) := ⟨rfl, rfl, rfl, by decide +kernel, rfl, by decide +kernel, by decide +kernel⟩
abbrev s_are_names : Stmt := topS 18
abbrev N_are_names : List Str := ["values", "one", "other", "value"]
theorem sc_are_names : FnScope N_are_names ["values"] (defScope s_are_names) := ⟨rfl, rfl, rfl, by decide +kernel, rfl, by decide +kernel, by decide +kernel⟩
abbrev s_is_any_row : Stmt := topS 19
abbrev N_is_any_row : List Str := ["value", "sign"]
theorem sc_is_any_row : FnScope N_is_any_row ["value"] (defScope s_is_any_row) := ⟨rfl, rfl, rfl, by decide +kernel, rfl, by decide +kernel, by decide +kernel⟩
abbrev s_is_row : Stmt := topS 20
abbrev N_is_row : List Str := ["value", "many"]
theorem sc_is_row : FnScope N_is_row ["value", "many"] (defScope s_is_row) := ⟨rfl, rfl, rfl, by decide +kernel, rfl, by decide +kernel, by decide +kernel⟩
abbrev s_is_whole : Stmt := topS 21
abbrev N_is_whole : List Str := ["value"]
theorem sc_is_whole : FnScope N_is_whole ["value"] (defScope s_is_whole) := ⟨rfl, rfl, rfl, by decide +kernel, rfl, by decide +kernel, by decide +kernel⟩
abbrev s_is_index : Stmt := topS 22
abbrev N_is_index : List Str := ["value", "many"]
theorem sc_is_index : FnScope N_is_index ["value", "many"] (defScope s_is_index) := ⟨rfl, rfl, rfl, by decide +kernel, rfl, by decide +kernel, by decide +kernel⟩
abbrev s_check_rule : Stmt := topS 23
abbrev N_check_rule : List Str := ["rule", "many"]
theorem sc_check_rule : FnScope N_check_rule ["rule", "many"] (defScope s_check_rule) := ⟨rfl, rfl, rfl, by decide +kernel, rfl, by decide +kernel, by decide +kernel⟩
abbrev s_read_book : Stmt := topS 26
abbrev N_read_book : List Str := ["text", "head", "_", "tail", "names", "first", "rows", "row"]
theorem sc_read_book : FnScope N_read_book ["text"] (defScope s_read_book) := ⟨rfl, rfl, rfl, by decide +kernel, rfl, by decide +kernel, by decide +kernel⟩
abbrev s_check_book : Stmt := topS 30
abbrev N_check_book : List Str := ["book"]
theorem sc_check_book : FnScope N_check_book ["book"] (defScope s_check_book) := ⟨rfl, rfl, rfl, by decide +kernel, rfl, by decide +kernel, by decide +kernel⟩
abbrev s_head_of : Stmt := topS 32
abbrev N_head_of : List Str := ["rules", "rule"]
theorem sc_head_of : FnScope N_head_of ["rules"] (defScope s_head_of) := ⟨rfl, rfl, rfl, by decide +kernel, rfl, by decide +kernel, by decide +kernel⟩
abbrev s_rules_of : Stmt := topS 33
abbrev N_rules_of : List Str := ["head", "many", "rule"]
theorem sc_rules_of : FnScope N_rules_of ["head", "many"] (defScope s_rules_of) := ⟨rfl, rfl, rfl, by decide +kernel, rfl, by decide +kernel, by decide +kernel⟩
abbrev s_sides : Stmt := topS 34
abbrev N_sides : List Str := ["row", "better", "worse", "rule", "sign"]
theorem sc_sides : FnScope N_sides ["row"] (defScope s_sides) := ⟨rfl, rfl, rfl, by decide +kernel, rfl, by decide +kernel, by decide +kernel⟩
abbrev s_rules_behind : Stmt := topS 35
abbrev N_rules_behind : List Str := ["head", "told", "many", "taken", "better", "worse", "rule"]
theorem sc_rules_behind : FnScope N_rules_behind ["head", "told", "many"] (defScope s_rules_behind) := ⟨rfl, rfl, rfl, by decide +kernel, rfl, by decide +kernel, by decide +kernel⟩
abbrev s_steps : Stmt := topS 36
abbrev N_steps : List Str := ["rows", "many", "told", "row", "head"]
theorem sc_steps : FnScope N_steps ["rows", "many"] (defScope s_steps) := ⟨rfl, rfl, rfl, by decide +kernel, rfl, by decide +kernel, by decide +kernel⟩
abbrev s_openings : Stmt := topS 37
abbrev N_openings : List Str := ["behind", "ways", "head", "rules", "rule"]
theorem sc_openings : FnScope N_openings ["behind"] (defScope s_openings) := ⟨rfl, rfl, rfl, by decide +kernel, rfl, by decide +kernel, by decide +kernel⟩
abbrev s_endings : Stmt := topS 38
abbrev N_endings : List Str := ["behind", "ways", "head", "rule"]
theorem sc_endings : FnScope N_endings ["behind"] (defScope s_endings) := ⟨rfl, rfl, rfl, by decide +kernel, rfl, by decide +kernel, by decide +kernel⟩
abbrev s_count_fitting : Stmt := topS 39
abbrev N_count_fitting : List Str := ["rows", "many"]
theorem sc_count_fitting : FnScope N_count_fitting ["rows", "many"] (defScope s_count_fitting) := ⟨rfl, rfl, rfl, by decide +kernel, rfl, by decide +kernel, by decide +kernel⟩
abbrev s_heads_above : Stmt := topS 40
abbrev N_heads_above : List Str := ["rows", "many", "behind", "before", "after", "rule", "head", "rules"]
theorem sc_heads_above : FnScope N_heads_above ["rows", "many"] (defScope s_heads_above) := ⟨rfl, rfl, rfl, by decide +kernel, rfl, by decide +kernel, by decide +kernel⟩
abbrev s_has_sign : Stmt := topS 42
abbrev N_has_sign : List Str := ["row", "rules", "sign", "rule"]
theorem sc_has_sign : FnScope N_has_sign ["row", "rules", "sign"] (defScope s_has_sign) := ⟨rfl, rfl, rfl, by decide +kernel, rfl, by decide +kernel, by decide +kernel⟩
abbrev s_split : Stmt := topS 43
abbrev N_split : List Str := ["rows", "many", "made", "left", "still", "barred", "layer", "index", "row", "rule"]
theorem sc_split : FnScope N_split ["rows", "many"] (defScope s_split) := ⟨rfl, rfl, rfl, by decide +kernel, rfl, by decide +kernel, by decide +kernel⟩
abbrev s_some_fits : Stmt := topS 44
abbrev N_some_fits : List Str := ["rows", "many", "_", "still"]
theorem sc_some_fits : FnScope N_some_fits ["rows", "many"] (defScope s_some_fits) := ⟨rfl, rfl, rfl, by decide +kernel, rfl, by decide +kernel, by decide +kernel⟩
abbrev s_Book_rows : Stmt := inClass (topS 29) 3
abbrev N_Book_rows : List Str := ["self"]
theorem sc_Book_rows : FnScope N_Book_rows ["self"] (defScope s_Book_rows) := ⟨rfl, rfl, rfl, by decide +kernel, rfl, by decide +kernel, by decide +kernel⟩
abbrev s_Book_names : Stmt := inClass (topS 29) 2
abbrev N_Book_names : List Str := ["self"]
theorem sc_Book_names : FnScope N_Book_names ["self"] (defScope s_Book_names) := ⟨rfl, rfl, rfl, by decide +kernel, rfl, by decide +kernel, by decide +kernel⟩
abbrev s_check_some_fits : Stmt := topS 45
abbrev N_check_some_fits : List Str := ["book"]
theorem sc_check_some_fits : FnScope N_check_some_fits ["book"] (defScope s_check_some_fits) := ⟨rfl, rfl, rfl, by decide +kernel, rfl, by decide +kernel, by decide +kernel⟩
abbrev s_layers : Stmt := topS 46
abbrev N_layers : List Str := ["book", "made", "still"]
theorem sc_layers : FnScope N_layers ["book"] (defScope s_layers) := ⟨rfl, rfl, rfl, by decide +kernel, rfl, by decide +kernel, by decide +kernel⟩
abbrev s_left_over : Stmt := topS 47
abbrev N_left_over : List Str := ["book", "_", "still"]
theorem sc_left_over : FnScope N_left_over ["book"] (defScope s_left_over) := ⟨rfl, rfl, rfl, by decide +kernel, rfl, by decide +kernel, by decide +kernel⟩
abbrev s_how_many : Stmt := topS 49
abbrev N_how_many : List Str := ["book"]
theorem sc_how_many : FnScope N_how_many ["book"] (defScope s_how_many) := ⟨rfl, rfl, rfl, by decide +kernel, rfl, by decide +kernel, by decide +kernel⟩
abbrev s_places : Stmt := topS 50
abbrev N_places : List Str := ["book", "rule", "many", "numbers", "head"]
theorem sc_places : FnScope N_places ["book", "rule"] (defScope s_places) := ⟨rfl, rfl, rfl, by decide +kernel, rfl, by decide +kernel, by decide +kernel⟩
abbrev s_all_lots : Stmt := topS 52
abbrev N_all_lots : List Str := ["many", "lots", "head"]
theorem sc_all_lots : FnScope N_all_lots ["many"] (defScope s_all_lots) := ⟨rfl, rfl, rfl, by decide +kernel, rfl, by decide +kernel, by decide +kernel⟩
abbrev s_has_part : Stmt := topS 53
abbrev N_has_part : List Str := ["lot", "others", "other", "index"]
theorem sc_has_part : FnScope N_has_part ["lot", "others"] (defScope s_has_part) := ⟨rfl, rfl, rfl, by decide +kernel, rfl, by decide +kernel, by decide +kernel⟩
abbrev s_fits_without : Stmt := topS 55
abbrev N_fits_without : List Str := ["book", "lot", "rows", "index", "row"]
theorem sc_fits_without : FnScope N_fits_without ["book", "lot"] (defScope s_fits_without) := ⟨rfl, rfl, rfl, by decide +kernel, rfl, by decide +kernel, by decide +kernel⟩
abbrev s_struck : Stmt := topS 56
abbrev N_struck : List Str := ["book", "many", "least", "lot"]
theorem sc_struck : FnScope N_struck ["book"] (defScope s_struck) := ⟨rfl, rfl, rfl, by decide +kernel, rfl, by decide +kernel, by decide +kernel⟩
abbrev s_count_fallen : Stmt := topS 57
abbrev N_count_fallen : List Str := ["told", "head", "rule", "bit", "better", "worse"]
theorem sc_count_fallen : FnScope N_count_fallen ["told", "head", "rule"] (defScope s_count_fallen) := ⟨rfl, rfl, rfl, by decide +kernel, rfl, by decide +kernel, by decide +kernel⟩
abbrev s_least_wrong : Stmt := topS 58
abbrev N_least_wrong : List Str := ["rows", "row", "told", "behind", "least", "head", "rules", "rule", "after", "wrong", "one", "_"]
theorem sc_least_wrong : FnScope N_least_wrong ["rows", "row"] (defScope s_least_wrong) := ⟨rfl, rfl, rfl, by decide +kernel, rfl, by decide +kernel, by decide +kernel⟩
abbrev s_fewest_of_all : Stmt := topS 60
abbrev N_fewest_of_all : List Str := ["book"]
theorem sc_fewest_of_all : FnScope N_fewest_of_all ["book"] (defScope s_fewest_of_all) := ⟨rfl, rfl, rfl, by decide +kernel, rfl, by decide +kernel, by decide +kernel⟩
abbrev s_fewest_wrong : Stmt := topS 59
abbrev N_fewest_wrong : List Str := ["book"]
theorem sc_fewest_wrong : FnScope N_fewest_wrong ["book"] (defScope s_fewest_wrong) := ⟨rfl, rfl, rfl, by decide +kernel, rfl, by decide +kernel, by decide +kernel⟩
abbrev s_meets_all : Stmt := topS 63
abbrev N_meets_all : List Str := ["lot", "heads", "head"]
theorem sc_meets_all : FnScope N_meets_all ["lot", "heads"] (defScope s_meets_all) := ⟨rfl, rfl, rfl, by decide +kernel, rfl, by decide +kernel, by decide +kernel⟩
abbrev s_above : Stmt := topS 62
abbrev N_above : List Str := ["book", "many", "heads", "rules", "one", "two"]
theorem sc_above : FnScope N_above ["book"] (defScope s_above) := ⟨rfl, rfl, rfl, by decide +kernel, rfl, by decide +kernel, by decide +kernel⟩
abbrev s_least_lots : Stmt := topS 65
abbrev N_least_lots : List Str := ["heads", "many", "least", "lot"]
theorem sc_least_lots : FnScope N_least_lots ["heads", "many"] (defScope s_least_lots) := ⟨rfl, rfl, rfl, by decide +kernel, rfl, by decide +kernel, by decide +kernel⟩
abbrev s_reasons : Stmt := topS 64
abbrev N_reasons : List Str := ["book", "rule", "many"]
theorem sc_reasons : FnScope N_reasons ["book", "rule"] (defScope s_reasons) := ⟨rfl, rfl, rfl, by decide +kernel, rfl, by decide +kernel, by decide +kernel⟩
abbrev s_needless : Stmt := topS 66
abbrev N_needless : List Str := ["book", "many", "fitting", "index"]
theorem sc_needless : FnScope N_needless ["book"] (defScope s_needless) := ⟨rfl, rfl, rfl, by decide +kernel, rfl, by decide +kernel, by decide +kernel⟩
abbrev s__law_purse : Stmt := topS 68
abbrev N__law_purse : List Str := ["_law_script", "_law_spot", "_law_cell", "_law_seed", "_law_one"]
theorem sc__law_purse : FnScope N__law_purse ["_law_script", "_law_spot"] (defScope s__law_purse) := ⟨rfl, rfl, rfl, by decide +kernel, rfl, by decide +kernel, by decide +kernel⟩
abbrev s__law_draw : Stmt := topS 69
abbrev N__law_draw : List Str := ["_law_purse_here", "_law_many", "_law_digit"]
theorem sc__law_draw : FnScope N__law_draw ["_law_purse_here", "_law_many"] (defScope s__law_draw) := ⟨rfl, rfl, rfl, by decide +kernel, rfl, by decide +kernel, by decide +kernel⟩
abbrev s__law_labels : Stmt := topS 70
abbrev N__law_labels : List Str := ["_law_purse_here", "_law_many", "_law_some", "_law_k"]
theorem sc__law_labels : FnScope N__law_labels ["_law_purse_here", "_law_many"] (defScope s__law_labels) := ⟨rfl, rfl, rfl, by decide +kernel, rfl, by decide +kernel, by decide +kernel⟩
abbrev s__law_holds : Stmt := topS 71
abbrev N__law_holds : List Str := ["_law_row_here", "_law_order_here", "_law_signs_here", "_law_k"]
theorem sc__law_holds : FnScope N__law_holds ["_law_row_here", "_law_order_here"] (defScope s__law_holds) := ⟨rfl, rfl, rfl, by decide +kernel, rfl, by decide +kernel, by decide +kernel⟩
abbrev s__law_flipped : Stmt := topS 72
abbrev N__law_flipped : List Str := ["_law_row_here", "_law_sign"]
theorem sc__law_flipped : FnScope N__law_flipped ["_law_row_here"] (defScope s__law_flipped) := ⟨rfl, rfl, rfl, by decide +kernel, rfl, by decide +kernel, by decide +kernel⟩
abbrev s__law_signs : Stmt := topS 73
abbrev N__law_signs : List Str := ["_law_purse_here", "_law_many", "_law_k"]
theorem sc__law_signs : FnScope N__law_signs ["_law_purse_here", "_law_many"] (defScope s__law_signs) := ⟨rfl, rfl, rfl, by decide +kernel, rfl, by decide +kernel, by decide +kernel⟩
abbrev s__law_rows : Stmt := topS 74
abbrev N__law_rows : List Str := ["_law_purse_here", "_law_many", "_law_most", "_law_wrong", "_law_left", "_law_hidden_order", "_law_k", "_law_found", "_law_turn", "_law_row_here", "_law_is_kept"]
theorem sc__law_rows : FnScope N__law_rows ["_law_purse_here", "_law_many", "_law_most", "_law_wrong"] (defScope s__law_rows) := ⟨rfl, rfl, rfl, by decide +kernel, rfl, by decide +kernel, by decide +kernel⟩
abbrev s__law_spelled : Stmt := topS 75
abbrev N__law_spelled : List Str := ["_law_labels_here", "_law_rows_here"]
theorem sc__law_spelled : FnScope N__law_spelled ["_law_labels_here", "_law_rows_here"] (defScope s__law_spelled) := ⟨rfl, rfl, rfl, by decide +kernel, rfl, by decide +kernel, by decide +kernel⟩
abbrev s__law_book : Stmt := topS 76
abbrev N__law_book : List Str := ["_law_purse_here", "_law_least", "_law_span", "_law_most", "_law_many"]
theorem sc__law_book : FnScope N__law_book ["_law_purse_here", "_law_least", "_law_span", "_law_most"] (defScope s__law_book) := ⟨rfl, rfl, rfl, by decide +kernel, rfl, by decide +kernel, by decide +kernel⟩
abbrev s__law_shape : Stmt := topS 77
abbrev N__law_shape : List Str := ["_law_log", "_law_spots", "_law_many", "_law_made", "_law_found", "_law_k", "_law_back", "_law_layer", "_law_a", "_law_b", "_law_lot", "_law_j"]
theorem sc__law_shape : FnScope N__law_shape ["_law_log", "_law_spots"] (defScope s__law_shape) := ⟨rfl, rfl, rfl, by decide +kernel, rfl, by decide +kernel, by decide +kernel⟩
abbrev s_Book___init__ : Stmt := inClass (topS 29) 0
abbrev N_Book___init__ : List Str := ["self", "text", "parts"]
theorem sc_Book___init__ : FnScope N_Book___init__ ["self", "text"] (defScope s_Book___init__) := ⟨rfl, rfl, rfl, by decide +kernel, rfl, by decide +kernel, by decide +kernel⟩
abbrev s__law_right : Stmt := topS 78
abbrev N__law_right : List Str := ["_law_purse_here", "_law_turn", "_law_labels_here", "_law_rows_here", "_law_many", "_law_left", "_law_spots", "_law_k", "_law_later", "_law_log", "_law_mate", "_law_row_here"]
theorem sc__law_right : FnScope N__law_right ["_law_purse_here"] (defScope s__law_right) := ⟨rfl, rfl, rfl, by decide +kernel, rfl, by decide +kernel, by decide +kernel⟩
abbrev s_law : Stmt := topS 79
abbrev N_law : List Str := ["_law_script", "_law_spot"]
theorem sc_law : FnScope N_law ["_law_script"] (defScope s_law) := ⟨rfl, rfl, rfl, by decide +kernel, rfl, by decide +kernel, by decide +kernel⟩
/-! ### what the top has written -/
structure Txt (K : PySem.W.Frag) (w : World) (mg : Str → Option Value) where
  C_Book : Addr
  m_Book : mg "Book" = some (.ref C_Book)
  cl_Book : Cls K C_Book
  f_is_name : Addr
  e_is_name : FuncData
  F_is_name : Fun K "is_name" "is_name" s_is_name f_is_name e_is_name
  b_is_name : Binds K e_is_name ["value"] []
  m_is_name : mg "is_name" = some (.ref f_is_name)
  f_are_names : Addr
  e_are_names : FuncData
  F_are_names : Fun K "are_names" "are_names" s_are_names f_are_names e_are_names
  b_are_names : Binds K e_are_names ["values"] []
  m_are_names : mg "are_names" = some (.ref f_are_names)
  f_is_any_row : Addr
  e_is_any_row : FuncData
  F_is_any_row : Fun K "is_any_row" "is_any_row" s_is_any_row f_is_any_row e_is_any_row
  b_is_any_row : Binds K e_is_any_row ["value"] []
  m_is_any_row : mg "is_any_row" = some (.ref f_is_any_row)
  f_is_row : Addr
  e_is_row : FuncData
  F_is_row : Fun K "is_row" "is_row" s_is_row f_is_row e_is_row
  b_is_row : Binds K e_is_row ["value", "many"] []
  m_is_row : mg "is_row" = some (.ref f_is_row)
  f_is_whole : Addr
  e_is_whole : FuncData
  F_is_whole : Fun K "is_whole" "is_whole" s_is_whole f_is_whole e_is_whole
  b_is_whole : Binds K e_is_whole ["value"] []
  m_is_whole : mg "is_whole" = some (.ref f_is_whole)
  f_is_index : Addr
  e_is_index : FuncData
  F_is_index : Fun K "is_index" "is_index" s_is_index f_is_index e_is_index
  b_is_index : Binds K e_is_index ["value", "many"] []
  m_is_index : mg "is_index" = some (.ref f_is_index)
  f_check_rule : Addr
  e_check_rule : FuncData
  F_check_rule : Fun K "check_rule" "check_rule" s_check_rule f_check_rule e_check_rule
  b_check_rule : Binds K e_check_rule ["rule", "many"] []
  m_check_rule : mg "check_rule" = some (.ref f_check_rule)
  f_read_book : Addr
  e_read_book : FuncData
  F_read_book : Fun K "read_book" "read_book" s_read_book f_read_book e_read_book
  b_read_book : Binds K e_read_book ["text"] []
  m_read_book : mg "read_book" = some (.ref f_read_book)
  f_check_book : Addr
  e_check_book : FuncData
  F_check_book : Fun K "check_book" "check_book" s_check_book f_check_book e_check_book
  b_check_book : Binds K e_check_book ["book"] []
  m_check_book : mg "check_book" = some (.ref f_check_book)
  f_head_of : Addr
  e_head_of : FuncData
  F_head_of : Fun K "head_of" "head_of" s_head_of f_head_of e_head_of
  b_head_of : Binds K e_head_of ["rules"] []
  m_head_of : mg "head_of" = some (.ref f_head_of)
  f_rules_of : Addr
  e_rules_of : FuncData
  F_rules_of : Fun K "rules_of" "rules_of" s_rules_of f_rules_of e_rules_of
  b_rules_of : Binds K e_rules_of ["head", "many"] []
  m_rules_of : mg "rules_of" = some (.ref f_rules_of)
  f_sides : Addr
  e_sides : FuncData
  F_sides : Fun K "sides" "sides" s_sides f_sides e_sides
  b_sides : Binds K e_sides ["row"] []
  m_sides : mg "sides" = some (.ref f_sides)
  f_rules_behind : Addr
  e_rules_behind : FuncData
  F_rules_behind : Fun K "rules_behind" "rules_behind" s_rules_behind f_rules_behind e_rules_behind
  b_rules_behind : Binds K e_rules_behind ["head", "told", "many"] []
  m_rules_behind : mg "rules_behind" = some (.ref f_rules_behind)
  f_steps : Addr
  e_steps : FuncData
  F_steps : Fun K "steps" "steps" s_steps f_steps e_steps
  b_steps : Binds K e_steps ["rows", "many"] []
  m_steps : mg "steps" = some (.ref f_steps)
  f_openings : Addr
  e_openings : FuncData
  F_openings : Fun K "openings" "openings" s_openings f_openings e_openings
  b_openings : Binds K e_openings ["behind"] []
  m_openings : mg "openings" = some (.ref f_openings)
  f_endings : Addr
  e_endings : FuncData
  F_endings : Fun K "endings" "endings" s_endings f_endings e_endings
  b_endings : Binds K e_endings ["behind"] []
  m_endings : mg "endings" = some (.ref f_endings)
  f_count_fitting : Addr
  e_count_fitting : FuncData
  F_count_fitting : Fun K "count_fitting" "count_fitting" s_count_fitting f_count_fitting e_count_fitting
  b_count_fitting : Binds K e_count_fitting ["rows", "many"] []
  m_count_fitting : mg "count_fitting" = some (.ref f_count_fitting)
  f_heads_above : Addr
  e_heads_above : FuncData
  F_heads_above : Fun K "heads_above" "heads_above" s_heads_above f_heads_above e_heads_above
  b_heads_above : Binds K e_heads_above ["rows", "many"] []
  m_heads_above : mg "heads_above" = some (.ref f_heads_above)
  f_has_sign : Addr
  e_has_sign : FuncData
  F_has_sign : Fun K "has_sign" "has_sign" s_has_sign f_has_sign e_has_sign
  b_has_sign : Binds K e_has_sign ["row", "rules", "sign"] []
  m_has_sign : mg "has_sign" = some (.ref f_has_sign)
  f_split : Addr
  e_split : FuncData
  F_split : Fun K "split" "split" s_split f_split e_split
  b_split : Binds K e_split ["rows", "many"] []
  m_split : mg "split" = some (.ref f_split)
  f_some_fits : Addr
  e_some_fits : FuncData
  F_some_fits : Fun K "some_fits" "some_fits" s_some_fits f_some_fits e_some_fits
  b_some_fits : Binds K e_some_fits ["rows", "many"] []
  m_some_fits : mg "some_fits" = some (.ref f_some_fits)
  f_Book_rows : Addr
  e_Book_rows : FuncData
  F_Book_rows : Fun K "rows" "Book.rows" s_Book_rows f_Book_rows e_Book_rows
  b_Book_rows : Binds K e_Book_rows ["self"] []
  q_Book_rows : Addr
  p_Book_rows : PropOf K C_Book "rows" q_Book_rows f_Book_rows
  f_Book_names : Addr
  e_Book_names : FuncData
  F_Book_names : Fun K "names" "Book.names" s_Book_names f_Book_names e_Book_names
  b_Book_names : Binds K e_Book_names ["self"] []
  q_Book_names : Addr
  p_Book_names : PropOf K C_Book "names" q_Book_names f_Book_names
  f_check_some_fits : Addr
  e_check_some_fits : FuncData
  F_check_some_fits : Fun K "check_some_fits" "check_some_fits" s_check_some_fits f_check_some_fits e_check_some_fits
  b_check_some_fits : Binds K e_check_some_fits ["book"] []
  m_check_some_fits : mg "check_some_fits" = some (.ref f_check_some_fits)
  f_layers : Addr
  e_layers : FuncData
  F_layers : Fun K "layers" "layers" s_layers f_layers e_layers
  b_layers : Binds K e_layers ["book"] []
  m_layers : mg "layers" = some (.ref f_layers)
  f_left_over : Addr
  e_left_over : FuncData
  F_left_over : Fun K "left_over" "left_over" s_left_over f_left_over e_left_over
  b_left_over : Binds K e_left_over ["book"] []
  m_left_over : mg "left_over" = some (.ref f_left_over)
  f_how_many : Addr
  e_how_many : FuncData
  F_how_many : Fun K "how_many" "how_many" s_how_many f_how_many e_how_many
  b_how_many : Binds K e_how_many ["book"] []
  m_how_many : mg "how_many" = some (.ref f_how_many)
  f_places : Addr
  e_places : FuncData
  F_places : Fun K "places" "places" s_places f_places e_places
  b_places : Binds K e_places ["book", "rule"] []
  m_places : mg "places" = some (.ref f_places)
  f_all_lots : Addr
  e_all_lots : FuncData
  F_all_lots : Fun K "all_lots" "all_lots" s_all_lots f_all_lots e_all_lots
  b_all_lots : Binds K e_all_lots ["many"] []
  m_all_lots : mg "all_lots" = some (.ref f_all_lots)
  f_has_part : Addr
  e_has_part : FuncData
  F_has_part : Fun K "has_part" "has_part" s_has_part f_has_part e_has_part
  b_has_part : Binds K e_has_part ["lot", "others"] []
  m_has_part : mg "has_part" = some (.ref f_has_part)
  f_fits_without : Addr
  e_fits_without : FuncData
  F_fits_without : Fun K "fits_without" "fits_without" s_fits_without f_fits_without e_fits_without
  b_fits_without : Binds K e_fits_without ["book", "lot"] []
  m_fits_without : mg "fits_without" = some (.ref f_fits_without)
  f_struck : Addr
  e_struck : FuncData
  F_struck : Fun K "struck" "struck" s_struck f_struck e_struck
  b_struck : Binds K e_struck ["book"] []
  m_struck : mg "struck" = some (.ref f_struck)
  f_count_fallen : Addr
  e_count_fallen : FuncData
  F_count_fallen : Fun K "count_fallen" "count_fallen" s_count_fallen f_count_fallen e_count_fallen
  b_count_fallen : Binds K e_count_fallen ["told", "head", "rule"] []
  m_count_fallen : mg "count_fallen" = some (.ref f_count_fallen)
  f_least_wrong : Addr
  e_least_wrong : FuncData
  F_least_wrong : Fun K "least_wrong" "least_wrong" s_least_wrong f_least_wrong e_least_wrong
  b_least_wrong : Binds K e_least_wrong ["rows", "row"] []
  m_least_wrong : mg "least_wrong" = some (.ref f_least_wrong)
  f_fewest_of_all : Addr
  e_fewest_of_all : FuncData
  F_fewest_of_all : Fun K "fewest_of_all" "fewest_of_all" s_fewest_of_all f_fewest_of_all e_fewest_of_all
  b_fewest_of_all : Binds K e_fewest_of_all ["book"] []
  m_fewest_of_all : mg "fewest_of_all" = some (.ref f_fewest_of_all)
  f_fewest_wrong : Addr
  e_fewest_wrong : FuncData
  F_fewest_wrong : Fun K "fewest_wrong" "fewest_wrong" s_fewest_wrong f_fewest_wrong e_fewest_wrong
  b_fewest_wrong : Binds K e_fewest_wrong ["book"] []
  m_fewest_wrong : mg "fewest_wrong" = some (.ref f_fewest_wrong)
  f_meets_all : Addr
  e_meets_all : FuncData
  F_meets_all : Fun K "meets_all" "meets_all" s_meets_all f_meets_all e_meets_all
  b_meets_all : Binds K e_meets_all ["lot", "heads"] []
  m_meets_all : mg "meets_all" = some (.ref f_meets_all)
  f_above : Addr
  e_above : FuncData
  F_above : Fun K "above" "above" s_above f_above e_above
  b_above : Binds K e_above ["book"] []
  m_above : mg "above" = some (.ref f_above)
  f_least_lots : Addr
  e_least_lots : FuncData
  F_least_lots : Fun K "least_lots" "least_lots" s_least_lots f_least_lots e_least_lots
  b_least_lots : Binds K e_least_lots ["heads", "many"] []
  m_least_lots : mg "least_lots" = some (.ref f_least_lots)
  f_reasons : Addr
  e_reasons : FuncData
  F_reasons : Fun K "reasons" "reasons" s_reasons f_reasons e_reasons
  b_reasons : Binds K e_reasons ["book", "rule"] []
  m_reasons : mg "reasons" = some (.ref f_reasons)
  f_needless : Addr
  e_needless : FuncData
  F_needless : Fun K "needless" "needless" s_needless f_needless e_needless
  b_needless : Binds K e_needless ["book"] []
  m_needless : mg "needless" = some (.ref f_needless)
  f__law_purse : Addr
  e__law_purse : FuncData
  F__law_purse : Fun K "_law_purse" "_law_purse" s__law_purse f__law_purse e__law_purse
  b__law_purse : Binds K e__law_purse ["_law_script", "_law_spot"] []
  m__law_purse : mg "_law_purse" = some (.ref f__law_purse)
  f__law_draw : Addr
  e__law_draw : FuncData
  F__law_draw : Fun K "_law_draw" "_law_draw" s__law_draw f__law_draw e__law_draw
  b__law_draw : Binds K e__law_draw ["_law_purse_here", "_law_many"] []
  m__law_draw : mg "_law_draw" = some (.ref f__law_draw)
  f__law_labels : Addr
  e__law_labels : FuncData
  F__law_labels : Fun K "_law_labels" "_law_labels" s__law_labels f__law_labels e__law_labels
  b__law_labels : Binds K e__law_labels ["_law_purse_here", "_law_many"] []
  m__law_labels : mg "_law_labels" = some (.ref f__law_labels)
  f__law_holds : Addr
  e__law_holds : FuncData
  F__law_holds : Fun K "_law_holds" "_law_holds" s__law_holds f__law_holds e__law_holds
  b__law_holds : Binds K e__law_holds ["_law_row_here", "_law_order_here"] []
  m__law_holds : mg "_law_holds" = some (.ref f__law_holds)
  f__law_flipped : Addr
  e__law_flipped : FuncData
  F__law_flipped : Fun K "_law_flipped" "_law_flipped" s__law_flipped f__law_flipped e__law_flipped
  b__law_flipped : Binds K e__law_flipped ["_law_row_here"] []
  m__law_flipped : mg "_law_flipped" = some (.ref f__law_flipped)
  f__law_signs : Addr
  e__law_signs : FuncData
  F__law_signs : Fun K "_law_signs" "_law_signs" s__law_signs f__law_signs e__law_signs
  b__law_signs : Binds K e__law_signs ["_law_purse_here", "_law_many"] []
  m__law_signs : mg "_law_signs" = some (.ref f__law_signs)
  f__law_rows : Addr
  e__law_rows : FuncData
  F__law_rows : Fun K "_law_rows" "_law_rows" s__law_rows f__law_rows e__law_rows
  b__law_rows : Binds K e__law_rows ["_law_purse_here", "_law_many", "_law_most", "_law_wrong"] []
  m__law_rows : mg "_law_rows" = some (.ref f__law_rows)
  f__law_spelled : Addr
  e__law_spelled : FuncData
  F__law_spelled : Fun K "_law_spelled" "_law_spelled" s__law_spelled f__law_spelled e__law_spelled
  b__law_spelled : Binds K e__law_spelled ["_law_labels_here", "_law_rows_here"] []
  m__law_spelled : mg "_law_spelled" = some (.ref f__law_spelled)
  f__law_book : Addr
  e__law_book : FuncData
  F__law_book : Fun K "_law_book" "_law_book" s__law_book f__law_book e__law_book
  b__law_book : Binds K e__law_book ["_law_purse_here", "_law_least", "_law_span", "_law_most"] []
  m__law_book : mg "_law_book" = some (.ref f__law_book)
  f__law_shape : Addr
  e__law_shape : FuncData
  F__law_shape : Fun K "_law_shape" "_law_shape" s__law_shape f__law_shape e__law_shape
  b__law_shape : Binds K e__law_shape ["_law_log", "_law_spots"] []
  m__law_shape : mg "_law_shape" = some (.ref f__law_shape)
  f_Book___init__ : Addr
  e_Book___init__ : FuncData
  F_Book___init__ : Fun K "__init__" "Book.__init__" s_Book___init__ f_Book___init__ e_Book___init__
  b_Book___init__ : Binds K e_Book___init__ ["self", "text"] []
  mk_Book : Mk K C_Book f_Book___init__
  f__law_right : Addr
  e__law_right : FuncData
  F__law_right : Fun K "_law_right" "_law_right" s__law_right f__law_right e__law_right
  b__law_right : Binds K e__law_right ["_law_purse_here"] []
  m__law_right : mg "_law_right" = some (.ref f__law_right)
  f_law : Addr
  e_law : FuncData
  F_law : Fun K "law" "law" s_law f_law e_law
  b_law : Binds K e_law ["_law_script"] []
  m_law : mg "law" = some (.ref f_law)
  lc_all_lots : Addr
  lt_all_lots : Addr
  FC_all_lots : FunC K "all_lots" "all_lots" s_all_lots f_all_lots e_all_lots lc_all_lots
  tts : List (Addr × Str)
  tabs : TabsOk tts
  hm_all_lots : (lt_all_lots, (envOfC "all_lots" (defScope s_all_lots) 0 f_all_lots (.ref lc_all_lots)).qual ++ "<lambda>") ∈ tts
  n_abs : mg "abs" = none
  n_all : mg "all" = none
  n_any : mg "any" = none
  n_bool : mg "bool" = none
  n_divmod : mg "divmod" = none
  n_enumerate : mg "enumerate" = none
  n_int : mg "int" = none
  n_isinstance : mg "isinstance" = none
  n_len : mg "len" = none
  n_list : mg "list" = none
  n_max : mg "max" = none
  n_min : mg "min" = none
  n_range : mg "range" = none
  n_reversed : mg "reversed" = none
  n_sorted : mg "sorted" = none
  n_str : mg "str" = none
  n_sum : mg "sum" = none
  n_tuple : mg "tuple" = none
  n_zip : mg "zip" = none
  t_LETTERS : Tok
  c_LETTERS : mg "LETTERS" = some (.str "abcdefghijklmnopqrstuvwxyz" t_LETTERS)
  t_MOST_LETTERS : Tok
  c_MOST_LETTERS : mg "MOST_LETTERS" = some (.int 8 t_MOST_LETTERS)
  t_MOST_ROWS : Tok
  c_MOST_ROWS : mg "MOST_ROWS" = some (.int 20 t_MOST_ROWS)
  t_MOST_RULES : Tok
  c_MOST_RULES : mg "MOST_RULES" = some (.int 8 t_MOST_RULES)
  t_MOST_STRUCK : Tok
  c_MOST_STRUCK : mg "MOST_STRUCK" = some (.int 10 t_MOST_STRUCK)
  t_SIGNS : Tok
  c_SIGNS : mg "SIGNS" = some (.str "+-." t_SIGNS)
  no_text : NoAttr K C_Book "_text"
  no_names : NoAttr K C_Book "_names"
  no_rows : NoAttr K C_Book "_rows"
  ins_Book : InsOk K C_Book
end K18

namespace K18
open PySem PySem.Spec PyProof.Rows L2 Dw
variable [Tabs0]
/-- a row's signs, as codes -/
def isSign (c : Nat) : Prop := c = 43 ∨ c = 45 ∨ c = 46
structure RowOk (l : List Nat) (n : Nat) : Prop where
  len : l.length = n
  all : ∀ c ∈ l, isSign c
def sgn (l : List Nat) (k : Nat) : Nat := l.getD k 46
theorem ch_dot : (Str.ofString ".") = ch 46 := by decide +kernel
theorem ch_plus : (Str.ofString "+") = ch 43 := by decide +kernel
theorem ch_minus : (Str.ofString "-") = ch 45 := by decide +kernel
theorem sgn_at {l : List Nat} {n k : Nat} (h : l.length = n) (hk : k < n) : atI (tx l).cps.toList (k : Int) = some (sgn l k) := by
  have hl : k < l.length := by omega
  rw [tx_cps]
  refine atI_nat ?_
  unfold sgn
  rw [List.getElem?_eq_getElem hl, List.getD_eq_getElem?_getD, List.getElem?_eq_getElem hl]
  rfl
theorem sgn_is {l : List Nat} {n : Nat} (h : RowOk l n) (k : Nat) : isSign (sgn l k) := by
  unfold sgn
  rw [List.getD_eq_getElem?_getD]
  cases q : l[k]? with
  | none => exact .inr (.inr rfl)
  | some c => exact h.all c (List.mem_of_getElem? q)
theorem isSign.lt {c : Nat} (h : isSign c) : c < 1114112 := by rcases h with h | h | h <;> omega
/-- the signs of a row along an order, without the dots -/
def told (l : List Nat) (o : List Nat) : List Nat := (o.map (sgn l)).filter (fun c => !decide (c = 46))
/-- whether a row holds -/
def holdsB (l : List Nat) (o : List Nat) : Bool :=
  match told l o with
  | [] => true
  | c :: _ => decide (c = 43)
def ordD (o : List Nat) : List D := o.map fun (k : Nat) => D.int k
theorem small8 {n : Nat} (h : n ≤ 8) : n ≤ sizeLine := Nat.le_trans h (by decide)
theorem told_strs (l o : List Nat) : (o.filter fun k => !decide (ch (sgn l k) = Str.ofString ".")).map (fun k => D.str (ch (sgn l k))) = ((told l o).map ch).map D.str := by
  unfold told
  rw [List.filter_map, List.map_map, List.map_map]
  have e : (fun k => !decide (ch (sgn l k) = Str.ofString ".")) = ((fun c => !decide (c = 46)) ∘ sgn l) := by
    funext k
    show (!decide (ch (sgn l k) = Str.ofString ".")) = !decide (sgn l k = 46)
    rw [ch_dot, Bool.eq_iff_iff]
    simp [ch_eq]
  rw [e]
  rfl
theorem told_ok {l : List Nat} {n : Nat} (h : RowOk l n) (o : List Nat) : ∀ x ∈ (told l o).map ch, okS x := by
  intro x hx
  obtain ⟨c, hc, rfl⟩ := List.mem_map.mp hx
  obtain ⟨k, _, rfl⟩ := List.mem_map.mp (List.mem_filter.mp hc).1
  exact okS_ch (sgn_is h k).lt
def spHolds : Spc where
  ty := List Nat × List Nat × Bool
  args := fun x => [.str (tx x.1), if x.2.2 then .lst (ordD x.2.1) else .tup (ordD x.2.1)]
  ok := fun x => ∃ n, RowOk x.1 n ∧ n ≤ 8 ∧ x.2.1.length ≤ 8 ∧ ∀ k ∈ x.2.1, k < n
  rel := fun x d => d = .bl (holdsB x.1 x.2.1)
end K18

namespace K18
open PySem PySem.Spec PyProof.Rows L2 Dw
variable [Tabs0]
theorem d__law_holds {P : Program} {w : World} {K : PySem.W.Frag} {mg : Str → Option Value} {base : Heap} (T : Txt K w mg) : FnOk P w K mg base CX0 1 T.f__law_holds T.e__law_holds ["_law_row_here", "_law_order_here"] (toSp (spHolds)) := by
  refine fn_ok T.F__law_holds sc__law_holds (fun _ => rfl) fun cdv A outer s' H E hr => ?_
  refine ⟨_, (pss_cons (ps_setLc (i := 2) (own := [("_law_k", 3)]) rfl sc__law_holds.nd rfl rfl (sw_true rfl rfl rfl (by decide +kernel)) (piR K (pv 1)) (blkOk_by (own := [("_law_k", 3)]) (N := N__law_holds) (sc := (defScope s__law_holds)) (by decide +kernel)) (fun _ _ _ _ _ => pg_name (i := 3) sc__law_holds.nd rfl (Or.inl rfl)) (fun _ _ _ _ _ => pts_one (pt_cmpR (neA K hr.units) (pe_ix (ixA K) (pv 0) (pv 3) (fun _ _ => rfl)) pe_str (nomark _))) (fun _ _ _ _ _ => (pe_ix (ixA K) (pv 0) (pv 3) (fun _ _ => rfl)))) (pss_one (ps_ret (pe_or (pe_cmpR (eqA K hr.units) (pv 2) (pe_lst pa_nil) (nomark _)) (pe_one (pe_cmpR (eqA K hr.units) (pe_ix (ixA K) (pv 2) pe_int (fun _ _ => rfl)) pe_str (nomark _))))))), fun x hx => ?_⟩
  obtain ⟨x, o, l⟩ := x
  obtain ⟨n, hx, hn, ho, hk⟩ := hx
  have hx : RowOk x n := hx
  have ho : o.length ≤ 8 := ho
  have hk : ∀ k ∈ o, k < n := hk
  have hz : (tx x).length ≤ sizeLine := by rw [tx_len, hx.len]; exact small8 hn
  refine ds_seq (ds_asg (Ev.dl (EvN.ev (evn_lc (xs := o) (c := fun k : Nat => D.int k) (p := fun k => !decide (ch (sgn x k) = Str.ofString ".")) (f := fun k => .str (ch (sgn x k))) ?it (by omega) fun k hk' => ⟨[3], _, dg_name, fun i hi => hi,
    evt_test (ev_op (ev_op (ev_var rfl) (ev_var rfl) (dr2_ixS hz (sgn_at hx.len (hk k hk')))) ev_str ne_str'), fun _ => ev_op (ev_var rfl) (ev_var rfl) (dr2_ixS hz (sgn_at hx.len (hk k hk')))⟩)) ?_))
  case it =>
    cases l with
    | true => exact ej_list (ev_var rfl).b
    | false => exact ej_tup (ev_var rfl)
  rw [told_strs]
  have e0 := eq_strsL (K := K) (xs := (told x o).map ch) (ys := []) (told_ok hx o) (fun _ h => absurd h (by simp))
  have ht : holdsB x o = (decide ((told x o).map ch = []) || decide (ch ((told x o).getD 0 0) = Str.ofString "+")) := by
    unfold holdsB
    cases told x o with
    | nil => rfl
    | cons c r =>
      show decide (c = 43) = (decide (ch c :: r.map ch = []) || decide (ch c = Str.ofString "+"))
      rw [ch_plus, Bool.eq_iff_iff]
      simp [ch_eq]
  refine ds_ret (Ev.dl (ev_orV (b := decide (ch ((told x o).getD 0 0) = Str.ofString "+")) (ev_op (ev_var rfl) (evn_lst eva_nil (Nat.zero_le _)).ev e0) fun h => ev_op (ev_ix (ev_var rfl).b ev_int (d := .str (ch ((told x o).getD 0 0))) ?_) ev_str eq_str') ?_)
  · cases q : told x o with
    | nil => rw [q] at h; exact absurd h (by simp)
    | cons c r => exact atI_nat (j := 0) rfl
  · show D.bl _ = D.bl (holdsB x o)
    rw [ht]
end K18

namespace K18
open PySem PySem.Spec PyProof.Rows L2 Dw
variable [Tabs0]
/-! flipped -/
def flip1 (c : Nat) : Nat := if c = 43 then 45 else if c = 45 then 43 else 46
def flipped (l : List Nat) : List Nat := l.map flip1
theorem flip_get {c : Nat} (h : isSign c) : valV (mergeK [] ([(Str.ofString "+", Str.ofString "-"), (Str.ofString "-", Str.ofString "+"), (Str.ofString ".", Str.ofString ".")].map fun p => ((Sum.inr p.1 : Key), V.str p.2))) (Sum.inr (ch c)) = some (.str (ch (flip1 c))) := by
  rcases h with rfl | rfl | rfl <;> decide +kernel
theorem flip1_is {c : Nat} (h : isSign c) : isSign (flip1 c) := by
  rcases h with rfl | rfl | rfl <;> first | exact .inl rfl | exact .inr (.inl rfl) | exact .inr (.inr rfl)
def spFlip : Spc where
  ty := List Nat
  args := fun l => [.str (tx l)]
  ok := fun l => ∃ n, RowOk l n ∧ n ≤ 8
  rel := fun l d => d = .str (tx (flipped l))
def spSigns : Spc where
  ty := Nat
  args := fun n => [.purse, .int n]
  ok := fun n => n ≤ 8
  rel := fun n d => ∃ l, RowOk l n ∧ d = .str (tx l)
def spDraw : Spc where
  ty := Nat
  args := fun n => [.purse, .int n]
  ok := fun n => 0 < n ∧ n < 100000
  rel := fun n d => ∃ r : Nat, r < n ∧ d = .int r
end K18

namespace K18
open PySem PySem.Spec PyProof.Rows L2 Dw
variable [Tabs0]
theorem d__law_draw {P : Program} {w : World} {K : PySem.W.Frag} {mg : Str → Option Value} {base : Heap} (T : Txt K w mg) : FnOk P w K mg base CX0 1 T.f__law_draw T.e__law_draw ["_law_purse_here", "_law_many"] (toSp (spDraw)) := by
  refine fn_ok T.F__law_draw sc__law_draw (fun _ => rfl) fun cdv A outer s' H E hr => ?_
  refine ⟨_, (pss_cons (ps_if (pt_cmpR opGt (pe_ix (ixA K) (pv 0) pe_int (fun _ _ => rfl)) pe_int (nomark _)) (pss_cons (ps_asg (pe_callB call_divmod (by rfl) T.n_divmod (by decide +kernel) (pa_cons (pe_ix (ixA K) (pv 0) pe_int (fun _ _ => rfl)) (pa_cons (pv 1) pa_nil))) (tupA K 2 rfl (pgs_cons (pg_sub (pv 0) pe_int set_list) (pgs_cons (pg_name (i := 2) sc__law_draw.nd rfl (Or.inl rfl)) pgs_nil)))) (pss_one (ps_ret (pv 2)))) pss_nil) (pss_cons (ps_asg (pe_op op_mod (pe_callTy call_int1 (by rfl) T.n_int (by decide +kernel) (pa_cons (pe_op (plusE K) (pe_op opTimes (pe_ix (ixA K) (pv 0) pe_int (fun _ _ => rfl)) pe_int) pe_int) pa_nil)) pe_int) (pg_sub (pv 0) pe_int set_list)) (pss_one (ps_ret (pe_op op_mod (pe_callTy call_int1 (by rfl) T.n_int (by decide +kernel) (pa_cons (pe_op op_fdiv (pe_ix (ixA K) (pv 0) pe_int (fun _ _ => rfl)) pe_int) pa_nil)) (pv 1)))))), fun x hx => ?_⟩
  obtain ⟨x, rfl⟩ : ∃ n : Nat, n = x := ⟨x, rfl⟩
  obtain ⟨hn0, hn1⟩ := hx
  have hn0 : 0 < x := hn0
  have hn1 : x < 100000 := hn1
  refine fun F σ W Dr g l => ?_
  obtain ⟨v0, e0, a, ev, hp, nn, tb⟩ := g.val 0 .purse rfl
  obtain ⟨v1, e1, r1⟩ := g.val 1 (.int x) rfl
  subst ev
  rw [show v1 = V.int x from r1] at e1
  have l2 : 2 < σ.length := by rw [← g.len]; exact (show 2 < 3 by decide)
  obtain ⟨p, q, hp0, hq0, hq1, hH⟩ := (g.ok.pu a hp).2.2.purse nn
  have i0 : atI [V.int p, V.int q] 0 = some (V.int p) := atI_nat (j := 0) rfl
  have i1 : atI [V.int p, V.int q] 1 = some (V.int q) := atI_nat (j := 1) rfl
  have md : ∀ z : Int, (x : Int) ≠ 0 → ∃ r : Nat, r < x ∧ V.int (z % (x : Int)) = V.int r := fun z hz => ⟨(z % (x : Int)).toNat, by
    have h1 := Int.emod_nonneg z hz
    have h2 := Int.emod_lt_of_pos z (show (0 : Int) < x by omega)
    omega, by
    have h1 := Int.emod_nonneg z hz
    rw [Int.toNat_of_nonneg h1]⟩
  refine ⟨.ref a, e0, .inl ⟨a, _, 0, .int p, rfl, rfl, .of hH, i0, p, 0, rfl, rfl, _, rfl, ite2 (fun hpos => ?_) (fun _ => ?_)⟩⟩
  · refine ⟨.ref a, e0, .inl ⟨a, _, 0, .int p, rfl, rfl, .of hH, i0, .int x, e1, p, x, rfl, ⟨by omega, by omega⟩, fun t ht => ?_⟩⟩
    have na : a ≠ t := ne_of_none hH ht
    have s1 : Same W.H (upd W.H t (.tup [.int (p / x), .int (p % x)])) := same_upd ht
    obtain ⟨st, ok'⟩ := purse_step (x := p / x) (g.ok.same s1) hp nn (Int.ediv_nonneg hp0 (by omega)) hq0 hq1
    obtain ⟨r, hr1, hr2⟩ := md p (by omega)
    refine ⟨t, _, rfl, .of upd_same, rfl, .int (p / x), [.int (p % x)], rfl, .ref a, e0, ⟨a, _, 0, 0, rfl, rfl, (upd_ne na).trans hH, rfl, .int (p % x), [], rfl, rfl, ?_⟩⟩
    refine ⟨.int (p % x), List.getElem?_set_self l2, ?_⟩
    exact l.rt _ (Wd.at _ _) (.int r) ((Stp.of_same g.ok s1).trans st) ok' hr2 ⟨r, hr1, rfl⟩
  · refine ⟨.ref a, e0, .inl ⟨a, _, 1, .int q, rfl, rfl, .of hH, i1, .inl ⟨q, 48683, rfl, rfl, .inl ⟨by omega, by omega⟩, .inl (.inl ⟨q * 48683, 40503, rfl, rfl, .inl ⟨_, rfl, _, _, rfl, rfl, (show (0 : Int) < 2147483647 by decide), ?_⟩⟩)⟩⟩⟩
    have b0 := Int.emod_nonneg (q * 48683 + 40503) (show (2147483647 : Int) ≠ 0 by decide)
    have b1 := Int.emod_lt_of_pos (q * 48683 + 40503) (show (0 : Int) < 2147483647 by decide)
    obtain ⟨st, ok'⟩ := purse_step (x := p) (y := (q * 48683 + 40503) % 2147483647) g.ok hp nn hp0 b0 b1
    obtain ⟨r, hr1, hr2⟩ := md ((q * 48683 + 40503) % 2147483647 / 1024) (by omega)
    refine ⟨.ref a, e0, a, _, 1, 1, rfl, rfl, hH, rfl, ?_⟩
    refine ⟨.ref a, e0, .inl ⟨a, _, 1, .int ((q * 48683 + 40503) % 2147483647), rfl, rfl, .of upd_same, atI_nat (j := 1) rfl, _, 1024, rfl, rfl, ⟨by decide, by decide⟩, .inl ⟨_, rfl, .int x, e1, _, _, rfl, rfl, (show (0 : Int) < x by omega), ?_⟩⟩⟩
    exact l.rt _ (Wd.at _ _) (.int r) st ok' hr2 ⟨r, hr1, rfl⟩
end K18

namespace K18
open PySem PySem.Spec PyProof.Rows L2 Dw
variable [Tabs0]
theorem d__law_flipped {P : Program} {w : World} {K : PySem.W.Frag} {mg : Str → Option Value} {base : Heap} (T : Txt K w mg) : FnOk P w K mg base CX0 1 T.f__law_flipped T.e__law_flipped ["_law_row_here"] (toSp (spFlip)) := by
  refine fn_ok T.F__law_flipped sc__law_flipped (fun _ => rfl) fun cdv A outer s' H E hr => ?_
  refine ⟨_, (pss_one (ps_ret (joinA K pe_str (pe_lc (own := [("_law_sign", 1)]) rfl sc__law_flipped.nd (piR K (pv 0)) (blkOk_by (own := [("_law_sign", 1)]) (N := N__law_flipped) (sc := (defScope s__law_flipped)) (by decide +kernel)) (fun _ _ _ _ _ => pg_name (i := 1) sc__law_flipped.nd rfl (Or.inl rfl)) (fun _ _ _ _ _ => pts_nil) (fun _ _ _ _ _ => (pe_dget (hu_of hr) (pe_disp (pps_cons pe_str pe_str (pps_cons pe_str pe_str (pps_cons pe_str pe_str pps_nil))) (by rfl) (by rfl) (fun z => by cases z) (by decide)) (pv 1) (fun _ _ => rfl))))))), fun x hx => ?_⟩
  obtain ⟨l, rfl⟩ : ∃ l : List Nat, l = x := ⟨x, rfl⟩
  obtain ⟨n, hl, hn⟩ := hx
  have hl : RowOk l n := hl
  have it : Ei (iAnyR K (tVar 0)) (Gz0 2 (spFlip.args l)) (l.map fun c => D.str (ch c)) := by
    have := ej_str (K := K) (ta := tVar 0) (Γ := Gz0 2 (spFlip.args l)) (x := tx l) (ev_var rfl)
    rw [signs_tx, List.map_map] at this
    exact this
  refine ds_ret (Ev.dl (ev_join (x := Str.ofString "") (ys := (flipped l).map ch) ev_str (EvN.b ?_) ?_) ?_)
  · have e1 : (((flipped l).map ch).map D.str) = ((l.filter fun _ => true).map fun c => D.str (ch (flip1 c))) := by
      rw [List.filter_eq_self.mpr (fun _ _ => rfl)]
      unfold flipped
      rw [List.map_map, List.map_map]; rfl
    rw [e1]
    exact evn_lc (c := fun c => .str (ch c)) (p := fun _ => true) (f := fun c => .str (ch (flip1 c))) it (by rw [hl.len]; omega)
      fun c hc => ⟨[1], _, dg_name, fun i hi => hi, evt_yes, fun _ => ev_dget [(Str.ofString "+", Str.ofString "-"), (Str.ofString "-", Str.ofString "+"), (Str.ofString ".", Str.ofString ".")] rfl (by decide) (ev_var rfl) (flip_get (hl.all c hc))⟩
  · rw [chs_len]
    show (l.map flip1).length + ((l.map flip1).map ch).length * 0 ≤ _
    rw [List.length_map, hl.len]
    omega
  · show D.str _ = D.str _
    rw [join_chs]
end K18

namespace K18
open PySem PySem.Spec PyProof.Rows L2 Dw
variable [Tabs0]
theorem d__law_signs {P : Program} {w : World} {K : PySem.W.Frag} {mg : Str → Option Value} {base : Heap} (T : Txt K w mg) : FnOk P w K mg base CX0 2 T.f__law_signs T.e__law_signs ["_law_purse_here", "_law_many"] (toSp (spSigns)) := by
  refine fn_ok T.F__law_signs sc__law_signs (fun _ => rfl) fun cdv A outer s' H E hr => ?_
  refine ⟨_, (pss_one (ps_ret (joinA K pe_str (pe_lc (own := [("_law_k", 2)]) rfl sc__law_signs.nd (pi_range1 (by rfl) T.n_range (pa_cons (pv 1) pa_nil)) (blkOk_by (own := [("_law_k", 2)]) (N := N__law_signs) (sc := (defScope s__law_signs)) (by decide +kernel)) (fun _ _ _ _ _ => pg_name (i := 2) sc__law_signs.nd rfl (Or.inl rfl)) (fun _ _ _ _ _ => pts_nil) (fun _ _ _ _ _ => (pe_ix (ixA K) pe_str (pe_call (d__law_draw T) (hr.mono (by decide)) (by rfl) T.m__law_draw T.F__law_draw.kp T.b__law_draw .nil pass0 (pa_cons (pv 0) (pa_cons pe_int pa_nil))) (fun _ _ => rfl))))))), fun x hx => ?_⟩
  obtain ⟨n, rfl⟩ : ∃ n : Nat, n = x := ⟨x, rfl⟩
  have hn : n ≤ 8 := hx
  refine ds_ret (dl_join ev_str (dl_lc (di_range (dla_cons (Ev.dl (ev_var rfl) (dla_nil ⟨n, rfl, by omega, by rw [rng_length]; omega, fun i acc Γ' => Γ' = wipeG (Gz0 3 (spSigns.args n)) [2] ∧ ∃ l : List Nat, acc = (l.map ch).map D.str ∧ RowOk l i, ⟨rfl, [], rfl, rfl, fun c h => absurd h (by simp)⟩, fun i x acc Γ' hx' ⟨e, l, ea, hl⟩ => ?_, fun acc Γ' ⟨e, l, ea, hl⟩ => ?_⟩))))))
  · subst e
    refine ⟨[2], _, dg_name, fun i hi => hi, dlt_yes ⟨fun _ => ?_, fun h => nomatch h⟩⟩
    refine dl_op (Ev.dl ev_str (dl_call (dla_cons (Ev.dl (ev_var rfl) (dla_cons (Ev.dl ev_int (dla_nil ⟨(4 : Nat), rfl, ⟨by decide, by decide⟩, fun d hd => ?_⟩)))))))
    obtain ⟨r, hr', ed⟩ := hd
    subst ed
    have : ∃ c, isSign c ∧ atI (Str.ofString "+-..").cps.toList (r : Int) = some c := by
      rcases (show r = 0 ∨ r = 1 ∨ r = 2 ∨ r = 3 by omega) with rfl | rfl | rfl | rfl
      · exact ⟨43, .inl rfl, by decide +kernel⟩
      · exact ⟨45, .inr (.inl rfl), by decide +kernel⟩
      · exact ⟨46, .inr (.inr rfl), by decide +kernel⟩
      · exact ⟨46, .inr (.inr rfl), by decide +kernel⟩
    obtain ⟨c, hc, hat⟩ := this
    refine ⟨_, dr2_ixS (by decide +kernel) hat, rfl, l ++ [c], ?_, by rw [List.length_append, hl.len]; rfl, fun z hz => ?_⟩
    · rw [ea, List.map_append, List.map_append]; rfl
    · rcases List.mem_append.mp hz with hz | hz
      · exact hl.all z hz
      · rw [List.mem_singleton.mp hz]; exact hc
  · rw [rng_length] at hl
    refine ⟨l.map ch, congrArg D.lst ea, ?_, l, hl, by rw [join_chs]⟩
    rw [chs_len, List.length_map, hl.len]
    show n + n * 0 ≤ _
    omega
end K18

namespace K18
open PySem PySem.Spec PyProof.Rows L2 Dw
variable [Tabs0]
structure NameOk (l : List Nat) : Prop where
  lo : 1 ≤ l.length
  hi : l.length ≤ 8
  all : ∀ c ∈ l, 97 ≤ c ∧ c ≤ 122
theorem lettersS : Str.ofString "abcdefghijklmnopqrstuvwxyz" = tx ((List.range 26).map (97 + ·)) := by decide +kernel
theorem signsS : Str.ofString "+-." = tx [43, 45, 46] := by decide +kernel
theorem NameOk.len {l : List Nat} (h : NameOk l) : (tx l).length ≤ sizeLine := by rw [tx_len]; exact small8 h.hi
theorem RowOk.sz {l : List Nat} {n : Nat} (h : RowOk l n) (hn : n ≤ 8) : (tx l).length ≤ sizeLine := by rw [tx_len, h.len]; exact small8 hn
theorem ev_cast {t : TE} {Γ : Gam} {d d' : D} (h : d = d') (e : Ev t Γ d) : Ev t Γ d' := h ▸ e
def nameD (ls : List (List Nat)) : List D := ls.map fun l => D.str (tx l)
structure NamesOk (ls : List (List Nat)) : Prop where
  lo : 1 ≤ ls.length
  hi : ls.length ≤ 8
  all : ∀ l ∈ ls, NameOk l
  inc : ∀ p ∈ ls.zip (ls.drop 1), p.1 < p.2
theorem zip_names (ls ms : List (List Nat)) : zipD (nameD ls) (nameD ms) = (ls.zip ms).map fun p => D.tup [.str (tx p.1), .str (tx p.2)] := by
  unfold zipD nameD
  rw [List.zip_map, List.map_map]; rfl
end K18

namespace K18
open PySem PySem.Spec PyProof.Rows L2 Dw
variable [Tabs0]
theorem ev_notT {K : PySem.W.Frag} {t : TE} {Γ : Gam} {b : Bool} (h : EvT (tTru K t) Γ b) : Ev (tNotT K t) Γ (.bl (!b)) := fun F σ W Q g k => by
  have e := h F σ W (fun c H => Q (.bl (!c)) H) g fun H s => k _ H s rfl
  exact e
structure LotOk (o : List Nat) (m : Nat) : Prop where
  lt : ∀ k ∈ o, k < m
  inc : o.Pairwise (· < ·)
end K18

namespace K18
open PySem PySem.Spec PyProof.Rows L2 Dw
variable [Tabs0]
/-! plain data: what a claim or a certificate may be -/
mutual
def plW (z : Nat) : Nat → D → Bool
  | _, .non => true | _, .bl _ => true | _, .int _ => true | _, .str x => PyData.strOk x && decide (x.length ≤ 100000)
  | k + 1, .tup ds => decide (ds.length ≤ z) && plWs z k ds
  | k + 1, .lst ds => decide (ds.length ≤ z) && plWs z k ds
  | k + 1, .dct ks ds => decide (ds.length ≤ z) && plWs z k ds
  | 0, .tup _ => false | 0, .lst _ => false | 0, .dct _ _ => false
  | _, .obj _ _ _ => false | _, .raw _ => false | _, .purse => false | _, .rng _ _ => false | _, .scr _ _ => false | _, .tag _ => false | _, .tupN _ => false
def plWs (z : Nat) : Nat → List D → Bool
  | _, [] => true
  | k, d :: ds => plW z k d && plWs z k ds
end
abbrev plB := plW 60
abbrev plBs := plWs 60
theorem plWs_iff {z k : Nat} : ∀ {ds : List D}, plWs z k ds = true ↔ ∀ d ∈ ds, plW z k d = true
  | [] => by simp [plWs]
  | d :: ds => by
    have e : plWs z k (d :: ds) = (plW z k d && plWs z k ds) := by cases k <;> rfl
    rw [e, Bool.and_eq_true, plWs_iff (ds := ds)]
    simp
theorem plBs_iff {k : Nat} {ds : List D} : plBs k ds = true ↔ ∀ d ∈ ds, plB k d = true := plWs_iff
mutual
theorem plW_mono {z z' : Nat} (hz : z ≤ z') : ∀ (k m : Nat) (d : D), k ≤ m → plW z k d = true → plW z' m d = true
  | _, _, .non, _, _ => by unfold plW; rfl
  | _, _, .bl _, _, _ => by unfold plW; rfl
  | _, _, .int _, _, _ => by unfold plW; rfl
  | k, m, .str x, _, h => by
    have e : plW z k (.str x) = (PyData.strOk x && decide (x.length ≤ 100000)) := by cases k <;> rfl
    have e2 : plW z' m (.str x) = (PyData.strOk x && decide (x.length ≤ 100000)) := by cases m <;> rfl
    rw [e2, ← e, h]
  | k + 1, m + 1, .tup ds, hm, h => by
    have h : (decide (ds.length ≤ z) && plWs z k ds) = true := h
    show (decide (ds.length ≤ z') && plWs z' m ds) = true
    rw [Bool.and_eq_true] at h ⊢
    exact ⟨decide_eq_true (Nat.le_trans (of_decide_eq_true h.1) hz), plWs_mono hz k m ds (by omega) h.2⟩
  | k + 1, m + 1, .lst ds, hm, h => by
    have h : (decide (ds.length ≤ z) && plWs z k ds) = true := h
    show (decide (ds.length ≤ z') && plWs z' m ds) = true
    rw [Bool.and_eq_true] at h ⊢
    exact ⟨decide_eq_true (Nat.le_trans (of_decide_eq_true h.1) hz), plWs_mono hz k m ds (by omega) h.2⟩
  | k + 1, m + 1, .dct ks ds, hm, h => by
    have h : (decide (ds.length ≤ z) && plWs z k ds) = true := h
    show (decide (ds.length ≤ z') && plWs z' m ds) = true
    rw [Bool.and_eq_true] at h ⊢
    exact ⟨decide_eq_true (Nat.le_trans (of_decide_eq_true h.1) hz), plWs_mono hz k m ds (by omega) h.2⟩
  | 0, _, .tup _, _, h => nomatch h
  | 0, _, .lst _, _, h => nomatch h
  | 0, _, .dct _ _, _, h => nomatch h
  | k + 1, 0, .tup _, hm, _ => absurd hm (by omega)
  | k + 1, 0, .lst _, hm, _ => absurd hm (by omega)
  | k + 1, 0, .dct _ _, hm, _ => absurd hm (by omega)
  | k, _, .obj _ _ _, _, h => by cases k <;> exact nomatch h
  | k, _, .raw _, _, h => by cases k <;> exact nomatch h
  | k, _, .purse, _, h => by cases k <;> exact nomatch h
  | k, _, .rng _ _, _, h => by cases k <;> exact nomatch h
  | k, _, .scr _ _, _, h => by cases k <;> exact nomatch h
  | k, _, .tag _, _, h => by cases k <;> exact nomatch h
  | k, _, .tupN _, _, h => by cases k <;> exact nomatch h
theorem plWs_mono {z z' : Nat} (hz : z ≤ z') : ∀ (k m : Nat) (ds : List D), k ≤ m → plWs z k ds = true → plWs z' m ds = true
  | _, _, [], _, _ => by unfold plWs; rfl
  | k, m, d :: ds, hm, h => by
    have e : plWs z k (d :: ds) = (plW z k d && plWs z k ds) := by cases k <;> rfl
    have e2 : plWs z' m (d :: ds) = (plW z' m d && plWs z' m ds) := by cases m <;> rfl
    rw [e, Bool.and_eq_true] at h
    rw [e2, plW_mono hz k m d hm h.1, plWs_mono hz k m ds hm h.2]; rfl
end
theorem plB_mono (k m : Nat) (d : D) (h : k ≤ m) (q : plB k d = true) : plB m d = true := plW_mono (Nat.le_refl _) k m d h q
mutual
theorem plB_np : ∀ (k : Nat) (d : D), plB k d = true → noP d = true
  | _, .non, _ => rfl
  | _, .bl _, _ => rfl
  | _, .int _, _ => rfl
  | _, .str _, _ => rfl
  | k + 1, .tup ds, h => plBs_np k ds (by have h : (decide (ds.length ≤ 60) && plBs k ds) = true := h; rw [Bool.and_eq_true] at h; exact h.2)
  | k + 1, .lst ds, h => plBs_np k ds (by have h : (decide (ds.length ≤ 60) && plBs k ds) = true := h; rw [Bool.and_eq_true] at h; exact h.2)
  | k + 1, .dct _ ds, h => plBs_np k ds (by have h : (decide (ds.length ≤ 60) && plBs k ds) = true := h; rw [Bool.and_eq_true] at h; exact h.2)
  | 0, .tup _, h => nomatch h
  | 0, .lst _, h => nomatch h
  | 0, .dct _ _, h => nomatch h
  | k, .obj _ _ _, h => by cases k <;> exact nomatch h
  | _, .raw _, _ => rfl
  | k, .purse, h => by cases k <;> exact nomatch h
  | _, .rng _ _, _ => rfl
  | k, .scr _ _, h => by cases k <;> exact nomatch h
  | k, .tag _, h => by cases k <;> exact nomatch h
  | k, .tupN _, h => by cases k <;> exact nomatch h
theorem plBs_np : ∀ (k : Nat) (ds : List D), plBs k ds = true → noPs ds = true
  | _, [], _ => rfl
  | k, d :: ds, h => by
    have e : plBs k (d :: ds) = (plB k d && plBs k ds) := by cases k <;> rfl
    rw [e, Bool.and_eq_true] at h
    show (noP d && noPs ds) = true
    rw [plB_np k d h.1, plBs_np k ds h.2]; rfl
end
/-- a plain value -/
def Pv (d : D) : Prop := plB 12 d = true
theorem Pv.ty {d : D} (h : Pv d) : hasTy d = true := by
  cases d <;> first | rfl | exact nomatch h
theorem Pv.np {d : D} (h : Pv d) : noP d = true := plB_np _ _ h
theorem Pv.str {x : Str} (h : Pv (.str x)) : okS x ∧ x.length ≤ 100000 := by
  have h : (PyData.strOk x && decide (x.length ≤ 100000)) = true := h
  rw [Bool.and_eq_true, decide_eq_true_eq] at h
  exact h
theorem Pv.tup {ds : List D} (h : Pv (.tup ds)) : ds.length ≤ 60 ∧ ∀ d ∈ ds, Pv d := by
  have h : (decide (ds.length ≤ 60) && plBs 11 ds) = true := h
  rw [Bool.and_eq_true, decide_eq_true_eq] at h
  exact ⟨h.1, fun d hd => plB_mono 11 12 d (by decide) (plBs_iff.mp h.2 d hd)⟩
theorem np1 {d : D} {r : List D} (h : Pv d) (hr : noPs r = true) : noPs (d :: r) = true := by
  show (noP d && noPs r) = true
  rw [h.np, hr]; rfl
theorem pv_strs {l : List Nat} (h : ∀ c ∈ l, c < 1114112) (hz : l.length ≤ 100000) : Pv (.str (tx l)) := by
  show (PyData.strOk (tx l) && decide ((tx l).length ≤ 100000)) = true
  rw [show PyData.strOk (tx l) = true from okS_tx h, tx_len, decide_eq_true hz]; rfl
/-! what isinstance tells -/
def isStrB : D → Bool | .str _ => true | _ => false
def isIntB : D → Bool | .int _ => true | .bl _ => true | _ => false
def isBoolB : D → Bool | .bl _ => true | _ => false
section
variable {K : PySem.W.Frag} {d : D}
theorem kit_str (h : hasTy d = true) : PySem.W.kitOne K (tyD d) (.type "str") = some (isStrB d) := by cases d <;> first | rfl | exact nomatch h
theorem kit_int (h : hasTy d = true) : PySem.W.kitOne K (tyD d) (.type "int") = some (isIntB d) := by cases d <;> first | rfl | exact nomatch h
theorem kit_bool (h : hasTy d = true) : PySem.W.kitOne K (tyD d) (.type "bool") = some (isBoolB d) := by cases d <;> first | rfl | exact nomatch h
theorem str_of (h : isStrB d = true) : ∃ x, d = .str x := by cases d <;> first | exact ⟨_, rfl⟩ | exact nomatch h
end
def wholeB : D → Bool | .int _ => true | _ => false
theorem whole_eq (d : D) : (isIntB d && !isBoolB d) = wholeB d := by cases d <;> rfl
theorem whole_of {d : D} (h : wholeB d = true) : ∃ i, d = .int i := by cases d <;> first | exact ⟨_, rfl⟩ | exact nomatch h
def spWholeG : Spc where
  ty := D
  args := fun d => [d]
  ok := fun d => Pv d
  rel := fun d e => e = .bl (wholeB d)
def idxB : D → Int → Bool | .int i, m => decide (0 ≤ i) && decide (i < m) | _, _ => false
theorem idx_whole (d : D) (m : Int) : (wholeB d && idxB d m) = idxB d m := by cases d <;> first | rfl | exact Bool.true_and _
def spIndexG : Spc where
  ty := D × Nat
  args := fun x => [x.1, .int x.2]
  ok := fun x => Pv x.1
  rel := fun x e => e = .bl (idxB x.1 x.2)
/-- a text of some codes -/
def rowC (l : List Nat) : Bool := decide (1 ≤ l.length) && decide (l.length ≤ 8) && l.all fun c => decide (c ∈ [43, 45, 46])
def anyRowB : D → Bool | .str x => rowC x.cps.toList | _ => false
theorem rowC_ok {l : List Nat} : rowC l = true ↔ RowOk l l.length ∧ 1 ≤ l.length ∧ l.length ≤ 8 := by
  unfold rowC
  rw [Bool.and_eq_true, Bool.and_eq_true, decide_eq_true_eq, decide_eq_true_eq, List.all_eq_true]
  constructor
  · rintro ⟨⟨h1, h2⟩, h⟩
    refine ⟨⟨rfl, fun c hc => ?_⟩, h1, h2⟩
    have := of_decide_eq_true (h c hc)
    simp only [List.mem_cons, List.not_mem_nil, or_false] at this
    exact this
  · rintro ⟨h, h1, h2⟩
    refine ⟨⟨h1, h2⟩, fun c hc => decide_eq_true ?_⟩
    rcases h.all c hc with rfl | rfl | rfl <;> decide
def spAnyG : Spc where
  ty := D
  args := fun d => [d]
  ok := fun d => Pv d
  rel := fun d e => e = .bl (anyRowB d)
def lenB : D → Nat → Bool | .str x, n => decide (x.length = n) | _, _ => false
def rowB (d : D) (n : Nat) : Bool := anyRowB d && lenB d n
def spRowG : Spc where
  ty := D × Nat
  args := fun x => [x.1, .int x.2]
  ok := fun x => Pv x.1
  rel := fun x e => e = .bl (rowB x.1 x.2)
theorem rowB_iff {d : D} {n : Nat} : rowB d n = true ↔ ∃ l, d = .str (tx l) ∧ RowOk l n ∧ 1 ≤ n ∧ n ≤ 8 := by
  constructor
  · intro h
    unfold rowB at h
    rw [Bool.and_eq_true] at h
    cases d <;> first | exact absurd h.1 Bool.false_ne_true | skip
    rename_i x
    obtain ⟨h1, h2⟩ := h
    obtain ⟨r, a, b⟩ := rowC_ok.mp h1
    have h2 : decide (x.length = n) = true := h2
    rw [decide_eq_true_eq] at h2
    have e : x.cps.toList.length = n := by rw [← h2]; rfl
    rw [e] at r a b
    exact ⟨x.cps.toList, congrArg D.str (of_tx x), r, a, b⟩
  · rintro ⟨l, rfl, r, a, b⟩
    show (rowC (tx l).cps.toList && decide ((tx l).length = n)) = true
    rw [tx_cps, tx_len, r.len, decide_eq_true rfl, Bool.and_true]
    exact rowC_ok.mpr (by rw [r.len]; exact ⟨r, a, b⟩)
def letterC (c : Nat) : Bool := decide (c ∈ (List.range 26).map (97 + ·))
theorem letter_iff {c : Nat} : letterC c = true ↔ 97 ≤ c ∧ c ≤ 122 := by
  unfold letterC
  rw [decide_eq_true_eq, List.mem_map]
  constructor
  · rintro ⟨a, h, rfl⟩
    have := List.mem_range.mp h
    omega
  · rintro ⟨h1, h2⟩
    exact ⟨c - 97, List.mem_range.mpr (by omega), by omega⟩
def nmC (l : List Nat) : Bool := decide (1 ≤ l.length) && decide (l.length ≤ 8) && l.all letterC
theorem nmC_ok {l : List Nat} : nmC l = true ↔ NameOk l := by
  unfold nmC
  rw [Bool.and_eq_true, Bool.and_eq_true, decide_eq_true_eq, decide_eq_true_eq, List.all_eq_true]
  exact ⟨fun ⟨⟨h1, h2⟩, h⟩ => ⟨h1, h2, fun c hc => letter_iff.mp (h c hc)⟩, fun h => ⟨⟨h.lo, h.hi⟩, fun c hc => letter_iff.mpr (h.all c hc)⟩⟩
def nmB : D → Bool | .str x => nmC x.cps.toList | _ => false
def spNameG : Spc where
  ty := D
  args := fun d => [d]
  ok := fun d => Pv d
  rel := fun d e => e = .bl (nmB d)
theorem nmB_iff {d : D} : nmB d = true ↔ ∃ l, d = .str (tx l) ∧ NameOk l := by
  constructor
  · intro h
    cases d <;> first | exact absurd h Bool.false_ne_true | skip
    rename_i x
    exact ⟨x.cps.toList, congrArg D.str (of_tx x), nmC_ok.mp h⟩
  · rintro ⟨l, rfl, h⟩
    show nmC (tx l).cps.toList = true
    rw [tx_cps]
    exact nmC_ok.mpr h
end K18

namespace K18
open PySem PySem.Spec PyProof.Rows L2 Dw
variable [Tabs0]
theorem d_is_whole {P : Program} {w : World} {K : PySem.W.Frag} {mg : Str → Option Value} {base : Heap} (T : Txt K w mg) : FnOk P w K mg base CX0 1 T.f_is_whole T.e_is_whole ["value"] (toSp (spWholeG)) := by
  refine fn_ok T.F_is_whole sc_is_whole (fun _ => rfl) fun cdv A outer s' H E hr => ?_
  refine ⟨_, (pss_one (ps_ret (pe_and (pe_callB (isiA K) (by rfl) T.n_isinstance (by decide +kernel) (pa_cons (pv 0) (pa_cons (pe_bltn (v := .ty "int") (by rfl) T.n_int (by decide +kernel) rfl) pa_nil))) (pe_one (notA K (pe_callB (isiA K) (by rfl) T.n_isinstance (by decide +kernel) (pa_cons (pv 0) (pa_cons (pe_bltn (v := .ty "bool") (by rfl) T.n_bool (by decide +kernel) rfl) pa_nil)))))))), fun x hx => ?_⟩
  obtain ⟨d, rfl⟩ : ∃ l : D, l = x := ⟨x, rfl⟩
  have hd : Pv d := hx
  refine ds_ret (Ev.dl (ev_cast (congrArg D.bl (whole_eq d)) (ev_andV (a := isIntB d) (b := !isBoolB d) (ev_isi (ev_var rfl) ev_raw (.inl hd.ty) (.ty "int") (kit_int hd.ty)) fun _ => ev_notT (b := isBoolB d) (evt_tru_bl (ev_isi (ev_var rfl) ev_raw (.inl hd.ty) (.ty "bool") (kit_bool hd.ty))))) rfl)
end K18

namespace K18
open PySem PySem.Spec PyProof.Rows L2 Dw
variable [Tabs0]
theorem d_is_index {P : Program} {w : World} {K : PySem.W.Frag} {mg : Str → Option Value} {base : Heap} (T : Txt K w mg) : FnOk P w K mg base CX0 2 T.f_is_index T.e_is_index ["value", "many"] (toSp (spIndexG)) := by
  refine fn_ok T.F_is_index sc_is_index (fun _ => rfl) fun cdv A outer s' H E hr => ?_
  refine ⟨_, (pss_one (ps_ret (pe_and (pe_call (d_is_whole T) (hr.mono (by decide)) (by rfl) T.m_is_whole T.F_is_whole.kp T.b_is_whole .nil pass0 (pa_cons (pv 0) pa_nil)) (pe_one (pe_chain opLe opLt pe_int (pv 0) (pv 1)))))), fun x hx => ?_⟩
  obtain ⟨d, m⟩ := x
  have hd : Pv d := hx
  refine ds_ret (Ev.dl (ev_cast (congrArg D.bl (idx_whole d m)) (ev_andV (a := wholeB d) (b := idxB d m) (ev_call (s := spWholeG) (x := d) (eva_cons (ev_var rfl) eva_nil) (np1 hd rfl) hd fun d h => h) fun h => ?_)) rfl)
  obtain ⟨i, rfl⟩ := whole_of h
  exact ev_chain ev_int (ev_var rfl) (fun _ => ev_var rfl) dr2_le fun _ => lt_int'
end K18

namespace K18
open PySem PySem.Spec PyProof.Rows L2 Dw
variable [Tabs0]
theorem d_is_any_row {P : Program} {w : World} {K : PySem.W.Frag} {mg : Str → Option Value} {base : Heap} (T : Txt K w mg) : FnOk P w K mg base CX0 1 T.f_is_any_row T.e_is_any_row ["value"] (toSp (spAnyG)) := by
  refine fn_ok T.F_is_any_row sc_is_any_row (fun _ => rfl) fun cdv A outer s' H E hr => ?_
  refine ⟨_, (pss_cons (ps_if (PW.pt (pw_or (pt_not (truA K (pe_callB (isiA K) (by rfl) T.n_isinstance (by decide +kernel) (pa_cons (pv 0) (pa_cons (pe_bltn (v := .ty "str") (by rfl) T.n_str (by decide +kernel) rfl) pa_nil))))) (pw_or1 (pt_not (pt_chain opLe opLe pe_int (pe_callB (lenA K) (by rfl) T.n_len (by decide +kernel) (pa_cons (pv 0) pa_nil)) (pe_glob (v := .int 8) (by rfl) T.c_MOST_RULES ⟨_, rfl⟩)))))) (pss_one (ps_ret pe_bl)) pss_nil) (pss_one (ps_ret (pe_callB (allA K) (by rfl) T.n_all (by decide +kernel) (pa_cons (pe_lc (own := [("sign", 1)]) rfl sc_is_any_row.nd (piR K (pv 0)) (blkOk_by (own := [("sign", 1)]) (N := N_is_any_row) (sc := (defScope s_is_any_row)) (by decide +kernel)) (fun _ _ _ _ _ => pg_name (i := 1) sc_is_any_row.nd rfl (Or.inl rfl)) (fun _ _ _ _ _ => pts_nil) (fun _ _ _ _ _ => (pe_cmpR (inA K) (pv 1) (pe_glob (v := .str "+-.") (by rfl) T.c_SIGNS ⟨_, rfl⟩) (by rfl)))) pa_nil))))), fun x hx => ?_⟩
  obtain ⟨d, rfl⟩ : ∃ l : D, l = x := ⟨x, rfl⟩
  have hd : Pv d := hx
  by_cases hs : isStrB d = true
  · obtain ⟨s, rfl⟩ := str_of hs
    obtain ⟨l, rfl⟩ : ∃ l, s = tx l := ⟨_, of_tx s⟩
    have hz := hd.str.2
    rw [tx_len] at hz
    have hc : (decide ((1 : Int) ≤ ((tx l).length : Int)) && decide (((tx l).length : Int) ≤ 8)) = (decide (1 ≤ l.length) && decide (l.length ≤ 8)) := by
      rw [tx_len]
      congr 1
      · exact decide_eq_decide.mpr (by omega)
      · exact decide_eq_decide.mpr (by omega)
    refine ds_seq (ds_if (EvT.dl (b := !(decide (1 ≤ l.length) && decide (l.length ≤ 8))) ?_ ⟨fun h => ?_, fun h => ?_⟩))
    · have e := evt_or (Γ := Gz0 2 (spAnyG.args (.str (tx l)))) (a := false) (b := !(decide ((1 : Int) ≤ ((tx l).length : Int)) && decide (((tx l).length : Int) ≤ 8))) (evt_not (a := true) (evt_tru_bl (K := K) (ev_isi (K := K) (ta := tVar 0) (d := .str (tx l)) (ev_var rfl) ev_raw (.inl rfl) (.ty "str") rfl))) fun _ => evt_not (evt_chain (ta := tC (.int 1)) (tb := tCB (Dw.rLen K) (tCons (tVar 0) tNil)) (tc := tC (.int 8)) ev_int (ev_lenS (ev_var rfl) (small (by rw [tx_len]; exact hz))) (fun _ => ev_int) dr2_le fun _ => dr2_le)
      rw [hc] at e
      exact e
    · refine ds_ret (Ev.dl ev_bl ?_)
      show D.bl false = D.bl (rowC (tx l).cps.toList)
      unfold rowC
      rw [tx_cps, show (decide (1 ≤ l.length) && decide (l.length ≤ 8)) = false by rw [Bool.not_eq_true'] at h; exact h]; rfl
    · refine ds_next (ds_ret (Ev.dl (ev_all_lc (xs := l) (c := fun c => .str (ch c)) (b := fun c => decide (c ∈ [43, 45, 46])) ?_ (by omega) fun c hc => ⟨[1], _, dg_name, fun i hi => hi, evt_yes, ev_op (ev_var rfl) ev_str ?_⟩) ?_))
      · have := ej_str (K := K) (ta := tVar 0) (Γ := Gz0 2 (spAnyG.args (.str (tx l)))) (x := tx l) (ev_var rfl)
        rw [signs_tx, List.map_map] at this
        exact this
      · rw [signsS]; exact in_code
      · show D.bl _ = D.bl (rowC (tx l).cps.toList)
        unfold rowC
        rw [tx_cps, show (decide (1 ≤ l.length) && decide (l.length ≤ 8)) = true by rw [Bool.not_eq_false'] at h; exact h]; rfl
  · have hs : isStrB d = false := by simpa using hs
    refine ds_seq (ds_if (EvT.dl (b := true) (evt_or (a := true) (b := false) (evt_not (a := false) (evt_tru_bl (ev_isi (ev_var rfl) ev_raw (.inl hd.ty) (.ty "str") (by rw [kit_str hd.ty, hs])))) fun h => (nomatch h)) ⟨fun _ => ds_ret (Ev.dl ev_bl ?_), fun h => (nomatch h)⟩))
    cases d <;> first | rfl | exact nomatch hs
end K18

namespace K18
open PySem PySem.Spec PyProof.Rows L2 Dw
variable [Tabs0]
theorem d_is_row {P : Program} {w : World} {K : PySem.W.Frag} {mg : Str → Option Value} {base : Heap} (T : Txt K w mg) : FnOk P w K mg base CX0 2 T.f_is_row T.e_is_row ["value", "many"] (toSp (spRowG)) := by
  refine fn_ok T.F_is_row sc_is_row (fun _ => rfl) fun cdv A outer s' H E hr => ?_
  refine ⟨_, (pss_one (ps_ret (pe_and (pe_call (d_is_any_row T) (hr.mono (by decide)) (by rfl) T.m_is_any_row T.F_is_any_row.kp T.b_is_any_row .nil pass0 (pa_cons (pv 0) pa_nil)) (pe_one (pe_cmpR (eqA K hr.units) (pe_callB (lenA K) (by rfl) T.n_len (by decide +kernel) (pa_cons (pv 0) pa_nil)) (pv 1) (nomark _)))))), fun x hx => ?_⟩
  obtain ⟨d, n⟩ := x
  have hd : Pv d := hx
  refine ds_ret (Ev.dl (ev_andV (a := anyRowB d) (b := lenB d n) (ev_call (s := spAnyG) (x := d) (eva_cons (ev_var rfl) eva_nil) (np1 hd rfl) hd fun d h => h) fun h => ?_) rfl)
  cases d <;> first | exact absurd h Bool.false_ne_true | skip
  rename_i s
  refine ev_op (ev_lenS (ev_var rfl) (small hd.str.2)) (ev_var rfl) (eq_ib ?_)
  exact decide_eq_decide.mpr (by omega)
end K18

namespace K18
open PySem PySem.Spec PyProof.Rows L2 Dw
variable [Tabs0]
theorem d_is_name {P : Program} {w : World} {K : PySem.W.Frag} {mg : Str → Option Value} {base : Heap} (T : Txt K w mg) : FnOk P w K mg base CX0 1 T.f_is_name T.e_is_name ["value"] (toSp (spNameG)) := by
  refine fn_ok T.F_is_name sc_is_name (fun _ => rfl) fun cdv A outer s' H E hr => ?_
  refine ⟨_, (pss_cons (ps_if (PW.pt (pw_or (pt_not (truA K (pe_callB (isiA K) (by rfl) T.n_isinstance (by decide +kernel) (pa_cons (pv 0) (pa_cons (pe_bltn (v := .ty "str") (by rfl) T.n_str (by decide +kernel) rfl) pa_nil))))) (pw_or1 (pt_not (pt_chain opLe opLe pe_int (pe_callB (lenA K) (by rfl) T.n_len (by decide +kernel) (pa_cons (pv 0) pa_nil)) (pe_glob (v := .int 8) (by rfl) T.c_MOST_LETTERS ⟨_, rfl⟩)))))) (pss_one (ps_ret pe_bl)) pss_nil) (pss_one (ps_ret (pe_callB (allA K) (by rfl) T.n_all (by decide +kernel) (pa_cons (pe_lc (own := [("letter", 1)]) rfl sc_is_name.nd (piR K (pv 0)) (blkOk_by (own := [("letter", 1)]) (N := N_is_name) (sc := (defScope s_is_name)) (by decide +kernel)) (fun _ _ _ _ _ => pg_name (i := 1) sc_is_name.nd rfl (Or.inl rfl)) (fun _ _ _ _ _ => pts_nil) (fun _ _ _ _ _ => (pe_cmpR (inA K) (pv 1) (pe_glob (v := .str "abcdefghijklmnopqrstuvwxyz") (by rfl) T.c_LETTERS ⟨_, rfl⟩) (by rfl)))) pa_nil))))), fun x hx => ?_⟩
  obtain ⟨d, rfl⟩ : ∃ l : D, l = x := ⟨x, rfl⟩
  have hd : Pv d := hx
  by_cases hs : isStrB d = true
  · obtain ⟨s, rfl⟩ := str_of hs
    obtain ⟨l, rfl⟩ : ∃ l, s = tx l := ⟨_, of_tx s⟩
    have hz := hd.str.2
    rw [tx_len] at hz
    have hc : (decide ((1 : Int) ≤ ((tx l).length : Int)) && decide (((tx l).length : Int) ≤ 8)) = (decide (1 ≤ l.length) && decide (l.length ≤ 8)) := by
      rw [tx_len]
      congr 1
      · exact decide_eq_decide.mpr (by omega)
      · exact decide_eq_decide.mpr (by omega)
    refine ds_seq (ds_if (EvT.dl (b := !(decide (1 ≤ l.length) && decide (l.length ≤ 8))) ?_ ⟨fun h => ?_, fun h => ?_⟩))
    · have e := evt_or (Γ := Gz0 2 (spNameG.args (.str (tx l)))) (a := false) (b := !(decide ((1 : Int) ≤ ((tx l).length : Int)) && decide (((tx l).length : Int) ≤ 8))) (evt_not (a := true) (evt_tru_bl (K := K) (ev_isi (K := K) (ta := tVar 0) (d := .str (tx l)) (ev_var rfl) ev_raw (.inl rfl) (.ty "str") rfl))) fun _ => evt_not (evt_chain (ta := tC (.int 1)) (tb := tCB (Dw.rLen K) (tCons (tVar 0) tNil)) (tc := tC (.int 8)) ev_int (ev_lenS (ev_var rfl) (small (by rw [tx_len]; exact hz))) (fun _ => ev_int) dr2_le fun _ => dr2_le)
      rw [hc] at e
      exact e
    · refine ds_ret (Ev.dl ev_bl ?_)
      show D.bl false = D.bl (nmC (tx l).cps.toList)
      unfold nmC
      rw [tx_cps, show (decide (1 ≤ l.length) && decide (l.length ≤ 8)) = false by rw [Bool.not_eq_true'] at h; exact h]; rfl
    · refine ds_next (ds_ret (Ev.dl (ev_all_lc (xs := l) (c := fun c => .str (ch c)) (b := letterC) ?_ (by omega) fun c hc => ⟨[1], _, dg_name, fun i hi => hi, evt_yes, ev_op (ev_var rfl) ev_str ?_⟩) ?_))
      · have := ej_str (K := K) (ta := tVar 0) (Γ := Gz0 2 (spNameG.args (.str (tx l)))) (x := tx l) (ev_var rfl)
        rw [signs_tx, List.map_map] at this
        exact this
      · rw [lettersS]; exact in_code
      · show D.bl _ = D.bl (nmC (tx l).cps.toList)
        unfold nmC
        rw [tx_cps, show (decide (1 ≤ l.length) && decide (l.length ≤ 8)) = true by rw [Bool.not_eq_false'] at h; exact h]; rfl
  · have hs : isStrB d = false := by simpa using hs
    refine ds_seq (ds_if (EvT.dl (b := true) (evt_or (a := true) (b := false) (evt_not (a := false) (evt_tru_bl (ev_isi (ev_var rfl) ev_raw (.inl hd.ty) (.ty "str") (by rw [kit_str hd.ty, hs])))) fun h => (nomatch h)) ⟨fun _ => ds_ret (Ev.dl ev_bl ?_), fun h => (nomatch h)⟩))
    cases d <;> first | rfl | exact nomatch hs

end K18

namespace K18
open PySem PySem.Spec PyProof.Rows L2 Dw
variable [Tabs0]
def bookTx (ls rs : List (List Nat)) : List Nat := TL.joinL [32] ((TL.joinL [32] ls ++ [58]) :: rs)
def bookD (C : Addr) (ls rs : List (List Nat)) : D := .obj C ["_text", "_names", "_rows"] [.str (tx (bookTx ls rs)), .tup (nameD ls), .tup (nameD rs)]
structure BookOk (ls rs : List (List Nat)) : Prop where
  names : NamesOk ls
  few : rs.length ≤ 20
  rows : ∀ r ∈ rs, RowOk r ls.length
theorem kit_self {K : PySem.W.Frag} {C : Addr} : PySem.W.kitOne K (.ref C) (.ref C) = some true := by
  unfold PySem.W.kitOne
  rw [if_pos]
  first | exact beq_self_eq_true _ | simp | rfl
abbrev Bk := List (List Nat) × List (List Nat)
def spCheck (C : Addr) : Spc where
  ty := Bk
  args := fun x => [bookD C x.1 x.2]
  ok := fun _ => True
  rel := fun _ d => d = .non
def spBNames (C : Addr) : Spc where
  ty := Bk
  args := fun x => [bookD C x.1 x.2]
  ok := fun _ => True
  rel := fun x d => d = .tup (nameD x.1)
def spBRows (C : Addr) : Spc where
  ty := Bk
  args := fun x => [bookD C x.1 x.2]
  ok := fun _ => True
  rel := fun x d => d = .tup (nameD x.2)
/-! signs fused -/
def chD (l : List Nat) : List D := l.map fun c => D.str (ch c)
theorem inV_ch (c : Nat) : ∀ l : List Nat, inV (.str (ch c)) ((chD l).map scV) = decide (c ∈ l)
  | [] => rfl
  | b :: l => by
    show ((ch b == ch c) || inV (.str (ch c)) ((chD l).map scV)) = _
    rw [inV_ch c l, Bool.eq_iff_iff]
    simp only [Bool.or_eq_true, beq_iff_eq, ch_eq, decide_eq_true_eq, List.mem_cons]
    constructor
    · rintro (h | h)
      · exact .inl h.symm
      · exact .inr h
    · rintro (h | h)
      · exact .inl h.symm
      · exact .inr h
theorem sc_ch (l : List Nat) : (chD l).all isSc = true := by
  induction l with
  | nil => rfl
  | cons c l ih => exact ih
end K18

namespace K18
open PySem PySem.Spec PyProof.Rows L2 Dw
variable [Tabs0]
theorem d_check_book {P : Program} {w : World} {K : PySem.W.Frag} {mg : Str → Option Value} {base : Heap} (T : Txt K w mg) : FnOk P w K mg base CX0 1 T.f_check_book T.e_check_book ["book"] (toSp (spCheck T.C_Book)) := by
  refine fn_ok T.F_check_book sc_check_book (fun _ => rfl) fun cdv A outer s' H E hr => ?_
  refine ⟨_, (pss_one (ps_if (pt_not (truA K (pe_callB (isiA K) (by rfl) T.n_isinstance (by decide +kernel) (pa_cons (pv 0) (pa_cons (pe_glob (v := .ref T.C_Book) (by rfl) T.m_Book rfl) pa_nil))))) (pss_one ps_never) pss_nil)), fun x hx => ?_⟩
  obtain ⟨ls, rs⟩ := x
  exact ds_if (EvT.dl (b := false) (evt_not (a := true) (evt_tru_bl (ev_isi (ev_var rfl) ev_raw (.inr ⟨_, _, _, rfl, T.ins_Book⟩) (.own _) kit_self))) ⟨fun h => (nomatch h), fun _ => ds_next rfl⟩)
end K18

namespace K18
open PySem PySem.Spec PyProof.Rows L2 Dw
variable [Tabs0]
theorem d_Book_names {P : Program} {w : World} {K : PySem.W.Frag} {mg : Str → Option Value} {base : Heap} (T : Txt K w mg) : FnOk P w K mg base CX0 1 T.f_Book_names T.e_Book_names ["self"] (toSp (spBNames T.C_Book)) := by
  refine fn_ok T.F_Book_names sc_Book_names (fun _ => rfl) fun cdv A outer s' H E hr => ?_
  refine ⟨_, (pss_one (ps_ret (fldA K (pv 0)))), fun x hx => ?_⟩
  obtain ⟨ls, rs⟩ := x
  exact ds_ret (Ev.dl (ev_fld T.cl_Book T.no_names (ev_var rfl) (by rfl)) rfl)
end K18

namespace K18
open PySem PySem.Spec PyProof.Rows L2 Dw
variable [Tabs0]
theorem d_Book_rows {P : Program} {w : World} {K : PySem.W.Frag} {mg : Str → Option Value} {base : Heap} (T : Txt K w mg) : FnOk P w K mg base CX0 1 T.f_Book_rows T.e_Book_rows ["self"] (toSp (spBRows T.C_Book)) := by
  refine fn_ok T.F_Book_rows sc_Book_rows (fun _ => rfl) fun cdv A outer s' H E hr => ?_
  refine ⟨_, (pss_one (ps_ret (fldA K (pv 0)))), fun x hx => ?_⟩
  obtain ⟨ls, rs⟩ := x
  exact ds_ret (Ev.dl (ev_fld T.cl_Book T.no_rows (ev_var rfl) (by rfl)) rfl)
end K18

namespace K18
open PySem PySem.Spec PyProof.Rows L2 Dw
variable [Tabs0]
theorem np_name (ls : List (List Nat)) : noPs (nameD ls) = true := noPs_map (fun _ => rfl) ls
theorem np_ord (o : List Nat) : noPs (ordD o) = true := noPs_map (fun _ => rfl) o
theorem np_tup {ds : List D} (h : noPs ds = true) : noPs [.tup ds] = true := by show (noPs ds && true) = true; rw [h]; rfl
theorem np_book (C : Addr) (ls rs : List (List Nat)) : noPs [bookD C ls rs] = true := by
  show ((true && ((noPs (nameD ls)) && (noPs (nameD rs) && true))) && true) = true
  rw [np_name, np_name]; rfl
theorem joinL_len {m : Nat} : ∀ ls : List (List Nat), (∀ p ∈ ls, p.length ≤ m) → (TL.joinL [32] ls).length ≤ ls.length * (m + 1)
  | [], _ => Nat.zero_le _
  | [p], h => by
    have := h p (List.mem_singleton.mpr rfl)
    show p.length ≤ 1 * (m + 1)
    omega
  | p :: q :: r, h => by
    have h1 := h p List.mem_cons_self
    have h2 := joinL_len (q :: r) fun x hx => h x (List.mem_cons_of_mem _ hx)
    show (p ++ ([32] ++ TL.joinL [32] (q :: r))).length ≤ (List.length (q :: r) + 1) * (m + 1)
    rw [List.length_append, List.length_append, Nat.add_mul]
    show p.length + (1 + _) ≤ _
    omega
theorem joinL_mem {c : Nat} : ∀ ls : List (List Nat), c ∈ TL.joinL [32] ls → c = 32 ∨ ∃ p ∈ ls, c ∈ p
  | [], h => absurd h (by simp [TL.joinL])
  | [p], h => .inr ⟨p, List.mem_singleton.mpr rfl, h⟩
  | p :: q :: r, h => by
    have h : c ∈ p ++ ([32] ++ TL.joinL [32] (q :: r)) := h
    rcases List.mem_append.mp h with h | h
    · exact .inr ⟨p, List.mem_cons_self, h⟩
    · rcases List.mem_append.mp h with h | h
      · exact .inl (List.mem_singleton.mp h)
      · rcases joinL_mem (q :: r) h with h | ⟨x, hx, hc⟩
        · exact .inl h
        · exact .inr ⟨x, List.mem_cons_of_mem _ hx, hc⟩
theorem bookTx_eq (ls : List (List Nat)) : ∀ rs : List (List Nat), bookTx ls rs = TL.joinL [32] ls ++ ([58] ++ TL.joinL [32] ([] :: rs))
  | [] => rfl
  | q :: r => by
    show (TL.joinL [32] ls ++ [58]) ++ ([32] ++ TL.joinL [32] (q :: r)) = TL.joinL [32] ls ++ ([58] ++ ([] ++ ([32] ++ TL.joinL [32] (q :: r))))
    rw [List.nil_append, List.append_assoc]
theorem spaceS : Str.ofString " " = tx [32] := by decide +kernel
theorem colonS : Str.ofString ":" = tx [58] := by decide +kernel
theorem split_sp {ps : List (List Nat)} (hne : ps ≠ []) (h : ∀ p ∈ ps, 32 ∉ p) : Txt.split (tx (TL.joinL [32] ps)) (Str.ofString " ") = ps.map tx := by
  rw [spaceS]
  refine (SX.split_S (a := TL.joinL [32] ps) (b := [32]) (by simp) (by decide)).trans ?_
  rw [SX.spl_join hne h]; rfl
theorem part_sp {p q : List Nat} (h : 58 ∉ p) : Txt.partition (tx (p ++ ([58] ++ q))) (Str.ofString ":") = (tx p, tx [58], tx q) := by
  rw [colonS]
  exact SX.partition_some (by simp) (SX.par_head q h)
theorem BookOk.h58 {ls rs : List (List Nat)} (h : BookOk ls rs) : 58 ∉ TL.joinL [32] ls := fun hm => by
  rcases joinL_mem ls hm with h' | ⟨p, hp, hc⟩
  · cases h'
  · have := (h.names.all p hp).all 58 hc; omega
theorem BookOk.h32 {ls rs : List (List Nat)} (h : BookOk ls rs) : ∀ p ∈ ls, 32 ∉ p := fun p hp hc => by
  have := (h.names.all p hp).all 32 hc; omega
theorem BookOk.r32 {ls rs : List (List Nat)} (h : BookOk ls rs) : ∀ p ∈ [] :: rs, 32 ∉ p := fun p hp hc => by
  rcases List.mem_cons.mp hp with rfl | hp
  · exact absurd hc (by simp)
  · rcases (h.rows p hp).all 32 hc with h | h | h <;> cases h
theorem BookOk.hl {ls rs : List (List Nat)} (h : BookOk ls rs) : (TL.joinL [32] ls).length ≤ 72 := by
  have := joinL_len (m := 8) ls fun p hp => (h.names.all p hp).hi
  have := h.names.hi
  omega
theorem BookOk.tl {ls rs : List (List Nat)} (h : BookOk ls rs) : (TL.joinL [32] ([] :: rs)).length ≤ 189 := by
  have e := joinL_len (m := 8) ([] :: rs) fun p hp => by
    rcases List.mem_cons.mp hp with rfl | hp
    · exact Nat.zero_le _
    · rw [(h.rows p hp).len]; exact h.names.hi
  rw [List.length_cons] at e
  have := h.few
  omega
theorem BookOk.len {ls rs : List (List Nat)} (h : BookOk ls rs) : (tx (bookTx ls rs)).length ≤ 300 := by
  rw [tx_len, bookTx_eq, List.length_append, List.length_append]
  have := h.hl
  have := h.tl
  show _ + (1 + _) ≤ _
  omega
def spInit : Spc where
  ty := Bk
  args := fun x => [.str (tx (bookTx x.1 x.2))]
  ok := fun x => BookOk x.1 x.2
  rel := fun x d => d = .tup [.str (tx (bookTx x.1 x.2)), .tup (nameD x.1), .tup (nameD x.2)]
theorem nameD_map (ls : List (List Nat)) : (ls.map tx).map D.str = nameD ls := by rw [List.map_map]; rfl
end K18

namespace K18
open PySem PySem.Spec PyProof.Rows L2 Dw
variable [Tabs0]
structure FuOk (ls rs : List (List Nat)) (o : List Nat) : Prop where
  book : BookOk ls rs
  lot : LotOk o rs.length
theorem inc_len {m : Nat} : ∀ (o : List Nat) (lo : Nat), lo ≤ m → (∀ k ∈ o, lo ≤ k ∧ k < m) → o.Pairwise (· < ·) → o.length + lo ≤ m
  | [], lo, h, _, _ => by rw [List.length_nil]; omega
  | a :: o, lo, h, hk, hp => by
    obtain ⟨h1, h2⟩ := hk a List.mem_cons_self
    obtain ⟨p1, p2⟩ := List.pairwise_cons.mp hp
    have := inc_len o (a + 1) (by omega) (fun k hm => ⟨p1 k hm, (hk k (List.mem_cons_of_mem _ hm)).2⟩) p2
    rw [List.length_cons]; omega
theorem lot_len {o : List Nat} {m : Nat} (h : LotOk o m) : o.length ≤ m := inc_len o 0 (Nat.zero_le _) (fun k hk => ⟨Nat.zero_le _, h.lt k hk⟩) h.inc
end K18

namespace K18
open PySem PySem.Spec PyProof.Rows L2 Dw
variable [Tabs0]
def lots : Nat → List (List Nat)
  | 0 => [[]]
  | n + 1 => lots n ++ (lots n).map (· ++ [n])
theorem lots_len : ∀ n, (lots n).length = 2 ^ n
  | 0 => rfl
  | n + 1 => by
    show (lots n ++ (lots n).map _).length = _
    rw [List.length_append, List.length_map, lots_len n, Nat.pow_succ]; omega
theorem lots_ok : ∀ n, ∀ o ∈ lots n, LotOk o n
  | 0, o, h => by
    rw [List.mem_singleton.mp h]
    exact ⟨fun k h => absurd h (by simp), List.Pairwise.nil⟩
  | n + 1, o, h => by
    rcases List.mem_append.mp h with h | h
    · have := lots_ok n o h
      exact ⟨fun k hk => Nat.lt_succ_of_lt (this.lt k hk), this.inc⟩
    · obtain ⟨p, hp, rfl⟩ := List.mem_map.mp h
      have := lots_ok n p hp
      refine ⟨fun k hk => ?_, List.pairwise_append.mpr ⟨this.inc, List.pairwise_singleton _ _, fun a ha b hb => ?_⟩⟩
      · rcases List.mem_append.mp hk with hk | hk
        · exact Nat.lt_succ_of_lt (this.lt k hk)
        · rw [List.mem_singleton.mp hk]; exact Nat.lt_succ_self n
      · rw [List.mem_singleton.mp hb]; exact this.lt a ha
def ordT (os : List (List Nat)) : List D := os.map fun o => D.tup (ordD o)
theorem ordD_snoc (o : List Nat) (i : Nat) : ordD o ++ [D.int i] = ordD (o ++ [i]) := by
  unfold ordD
  rw [List.map_append]; rfl
theorem ordD_len (o : List Nat) : (ordD o).length = o.length := List.length_map ..
theorem ordT_len (o : List (List Nat)) : (ordT o).length = o.length := List.length_map ..
end K18

namespace K18
open PySem PySem.Spec PyProof.Rows L2 Dw
variable [Tabs0]
theorem erase_map {α β : Type} (f : α → β) : ∀ (l : List α) (i : Nat), (l.map f).eraseIdx i = (l.eraseIdx i).map f
  | [], i => rfl
  | a :: l, 0 => rfl
  | a :: l, i + 1 => congrArg (f a :: ·) (erase_map f l i)
theorem perm_erase {α : Type} {a : α} : ∀ {l : List α} {i : Nat}, l[i]? = some a → (a :: l.eraseIdx i).Perm l
  | [], i, h => by cases h
  | b :: l, 0, h => by
    have : b = a := by simpa using h
    subst this
    exact .refl _
  | b :: l, i + 1, h => (List.Perm.swap b a (l.eraseIdx i)).trans ((perm_erase (l := l) (i := i) (by simpa using h)).cons b)
def strs0 : List Str := ["a", "b", "cost", "far", "level", "near", "safe", "t", "width", "zzzzzzzz"]
def lab0 : List (List Nat) := strs0.map fun s => s.cps.toList
theorem lab0_D : nameD lab0 = strs0.map D.str := by
  unfold nameD lab0
  rw [List.map_map]
  exact List.map_congr_left fun s _ => congrArg D.str (of_tx s).symm
def nameB (l : List Nat) : Bool := decide (1 ≤ l.length) && decide (l.length ≤ 8) && l.all fun c => decide (97 ≤ c) && decide (c ≤ 122)
theorem nameB_ok {l : List Nat} (h : nameB l = true) : NameOk l := by
  unfold nameB at h
  rw [Bool.and_eq_true, Bool.and_eq_true, List.all_eq_true] at h
  exact ⟨of_decide_eq_true h.1.1, of_decide_eq_true h.1.2, fun c hc => by
    have := h.2 c hc
    rw [Bool.and_eq_true] at this
    exact ⟨of_decide_eq_true this.1, of_decide_eq_true this.2⟩⟩
theorem lab0_ok : ∀ l ∈ lab0, NameOk l := by
  have h : lab0.all nameB = true := by decide +kernel
  exact fun l hl => nameB_ok (List.all_eq_true.mp h l hl)
theorem lab0_nd : lab0.Nodup := by decide +kernel
theorem lab0_len : lab0.length = 10 := rfl
theorem lt_of_ne : ∀ a b : List Nat, a ≠ b → ¬ b < a → a < b
  | [], [], h, _ => absurd rfl h
  | [], b :: bs, _, _ => List.nil_lt_cons b bs
  | a :: as, [], _, h => absurd (List.nil_lt_cons a as) h
  | a :: as, b :: bs, h, h' => by
    rw [List.cons_lt_cons_iff] at h' ⊢
    by_cases e : a = b
    · subst e
      exact .inr ⟨rfl, lt_of_ne as bs (fun z => h (by rw [z])) fun z => h' (.inr ⟨rfl, z⟩)⟩
    · exact .inl (by
        have : ¬ b < a := fun z => h' (.inl z)
        omega)
theorem rising_inc : ∀ (x : Str) (r : List Str), risingS x r = true → (x :: r).Nodup → ∀ p ∈ (((x :: r).map fun s => s.cps.toList).zip (r.map fun s => s.cps.toList)), p.1 < p.2
  | x, [], _, _, p, hp => by cases hp
  | x, y :: r, h, nd, p, hp => by
    have h : (!ltCps y.cps.toList x.cps.toList && risingS y r) = true := h
    rw [Bool.and_eq_true, ltCps_eq, Bool.not_eq_true', decide_eq_false_iff_not] at h
    obtain ⟨n1, n2⟩ := List.nodup_cons.mp nd
    rcases List.mem_cons.mp hp with rfl | hp
    · exact lt_of_ne _ _ (fun z => n1 (by
        have z' : x.cps.toList = y.cps.toList := z
        have : x = y := by rw [of_tx x, of_tx y, z']
        rw [this]; exact List.mem_cons_self)) h.1
    · exact rising_inc y r h.2 n2 p hp
def spLabels : Spc where
  ty := Nat
  args := fun n => [.purse, .int n]
  ok := fun n => 1 ≤ n ∧ n ≤ 8
  rel := fun n d => ∃ ls, d = .lst (nameD ls) ∧ NamesOk ls ∧ ls.length = n
theorem nameD_len (ls : List (List Nat)) : (nameD ls).length = ls.length := List.length_map ..
theorem nodup_tx {l : List (List Nat)} (h : l.Nodup) : (l.map tx).Nodup := by
  rw [List.nodup_iff_pairwise_ne] at h ⊢
  exact List.pairwise_map.mpr (h.imp fun h z => h (tx_eq.mp z))
theorem names_of {zs : List Str} {acc left : List (List Nat)} {n : Nat} (hp : (acc ++ left).Perm lab0) (hz : zs.Perm (acc.map tx)) (hs : sortedS zs = true) (hl : acc.length = n) (h1 : 1 ≤ n) (h8 : n ≤ 8) :
    NamesOk (zs.map fun s => s.cps.toList) := by
  have ln : zs.length = n := by rw [hz.length_eq, List.length_map, hl]
  have nd : zs.Nodup := hz.nodup_iff.mpr (nodup_tx (List.nodup_append.mp (hp.nodup_iff.mpr lab0_nd)).1)
  refine ⟨by rw [List.length_map]; omega, by rw [List.length_map]; omega, fun l h => ?_, ?_⟩
  · obtain ⟨s, h1, rfl⟩ := List.mem_map.mp h
    obtain ⟨m, h2, rfl⟩ := List.mem_map.mp (hz.mem_iff.mp h1)
    show NameOk (tx m).cps.toList
    rw [tx_cps]
    exact lab0_ok m (hp.mem_iff.mp (List.mem_append_left _ h2))
  · cases zs with
    | nil => exact fun p hp => by cases hp
    | cons x r => exact rising_inc x r hs nd
end K18

namespace K18
open PySem PySem.Spec PyProof.Rows L2 Dw
variable [Tabs0]
theorem d__law_labels {P : Program} {w : World} {K : PySem.W.Frag} {mg : Str → Option Value} {base : Heap} (T : Txt K w mg) : FnOk P w K mg base CX0 2 T.f__law_labels T.e__law_labels ["_law_purse_here", "_law_many"] (toSp (spLabels)) := by
  refine fn_ok T.F__law_labels sc__law_labels (fun _ => rfl) fun cdv A outer s' H E hr => ?_
  refine ⟨_, (pss_cons (ps_set (i := 2) sc__law_labels.nd rfl (Or.inr rfl) (pe_lst (pa_cons pe_str (pa_cons pe_str (pa_cons pe_str (pa_cons pe_str (pa_cons pe_str (pa_cons pe_str (pa_cons pe_str (pa_cons pe_str (pa_cons pe_str (pa_cons pe_str pa_nil)))))))))))) (pss_one (ps_ret (pe_callB (sortedA K) (by rfl) T.n_sorted (by decide +kernel) (pa_cons (pe_lc (own := [("_law_k", 3)]) rfl sc__law_labels.nd (pi_range1 (by rfl) T.n_range (pa_cons (pv 1) pa_nil)) (blkOk_by (own := [("_law_k", 3)]) (N := N__law_labels) (sc := (defScope s__law_labels)) (by decide +kernel)) (fun _ _ _ _ _ => pg_name (i := 3) sc__law_labels.nd rfl (Or.inl rfl)) (fun _ _ _ _ _ => pts_nil) (fun _ _ _ _ _ => (bmA K PySem.F.plainAttrs_list PySem.F.slot_list_pop PySem.F.type_list_pop mt_popAt (pv 2) (pa_cons (pe_call (d__law_draw T) (hr.mono (by decide)) (by rfl) T.m__law_draw T.F__law_draw.kp T.b__law_draw .nil pass0 (pa_cons (pv 0) (pa_cons (pe_callB (lenA K) (by rfl) T.n_len (by decide +kernel) (pa_cons (pv 2) pa_nil)) pa_nil))) pa_nil)))) pa_nil))))), fun x hx => ?_⟩
  obtain ⟨n, rfl⟩ : ∃ l : Nat, l = x := ⟨x, rfl⟩
  obtain ⟨h1, h8⟩ := hx
  have h1 : 1 ≤ n := h1
  have h8 : n ≤ 8 := h8
  refine ds_seq (ds_asg_own (ds := nameD lab0) ?_ ?_)
  · rw [lab0_D]
    exact evn_lst (eva_cons ev_str (eva_cons ev_str (eva_cons ev_str (eva_cons ev_str (eva_cons ev_str (eva_cons ev_str (eva_cons ev_str (eva_cons ev_str (eva_cons ev_str (eva_cons ev_str eva_nil)))))))))) (small (show 10 ≤ 100000 by decide))
  refine ds_ret (dl_sortedS (dl_lc (di_range (dla_cons (Ev.dl (ev_var rfl) (dla_nil ⟨n, rfl, by omega, by rw [rng_length]; omega,
    fun i acc Γ' => ∃ ys left : List (List Nat), Γ' = [.val .purse, .val (.int n), .own (nameD left), .unset] ∧ acc = nameD ys ∧ (ys ++ left).Perm lab0 ∧ ys.length = i,
    ⟨[], lab0, rfl, rfl, .refl _, rfl⟩, fun i x acc Γ' hx' ⟨ys, left, e, ea, hp, hl⟩ => ?_, fun acc Γ' ⟨ys, left, e, ea, hp, hl⟩ => ?_⟩))))))
  · subst e
    obtain ⟨hi, rfl⟩ := rng_get hx'
    have hlen : left.length = 10 - i := by
      have := hp.length_eq
      rw [List.length_append, hl, lab0_len] at this
      omega
    refine ⟨[3], _, dg_name, fun i hi => hi, dlt_yes ⟨fun _ => ?_, fun h => nomatch h⟩⟩
    refine dl_popAt ⟨_, rfl⟩ (dla_cons (dl_call (s := spDraw) (dla_cons (Ev.dl (ev_var rfl) (dla_cons (Ev.dl (ev_len (evb_own (ds := nameD left) rfl)) (dla_nil ⟨(nameD left).length, rfl, ⟨by rw [nameD_len]; omega, by rw [nameD_len]; omega⟩, fun d hd => ?_⟩)))))))
    obtain ⟨r, hr1, rfl⟩ := hd
    rw [nameD_len] at hr1
    have hg : left[r]? = some left[r] := List.getElem?_eq_getElem hr1
    refine dla_nil ⟨r, r, nameD left, .str (tx left[r]), rfl, rfl, by omega, by omega, ?_, ?_, ys ++ [left[r]], left.eraseIdx r, ?_, ?_, ?_, ?_⟩
    · rw [nameD_len]
      unfold seqIndex?
      have : ¬ ((r : Int) < 0) := by omega
      simp only [this, if_false]
      rw [if_pos (by simp; omega)]
      rfl
    · unfold nameD
      rw [List.getElem?_map, hg]; rfl
    · show [Sl.val .purse, .val (.int n), .own ((nameD left).eraseIdx r), .unset] = _
      rw [show (nameD left).eraseIdx r = nameD (left.eraseIdx r) from erase_map _ left r]
    · rw [ea]; unfold nameD; rw [List.map_append]; rfl
    · rw [List.append_assoc]
      exact (List.Perm.append_left ys (perm_erase hg)).trans hp
    · rw [List.length_append, hl]; rfl
  · rw [rng_length] at hl
    refine ⟨ys.map tx, ?_, by rw [List.length_map]; omega, fun zs hz hs => ⟨zs.map fun s => s.cps.toList, ?_, names_of hp hz hs hl h1 h8, ?_⟩⟩
    · rw [ea, nameD_map]
    · unfold nameD
      rw [List.map_map]
      exact congrArg D.lst (List.map_congr_left fun s _ => congrArg D.str (of_tx s))
    · rw [List.length_map, hz.length_eq, List.length_map, hl]
end K18

namespace K18
open PySem PySem.Spec PyProof.Rows L2 Dw
variable [Tabs0]
def spRows : Spc where
  ty := Nat × Nat × Nat
  args := fun x => [.purse, .int x.1, .int x.2.1, .int x.2.2]
  ok := fun x => 1 ≤ x.1 ∧ x.1 ≤ 8 ∧ x.2.1 < 1000 ∧ 0 < x.2.2 ∧ x.2.2 < 1000
  rel := fun x d => ∃ rs, d = .lst (nameD rs) ∧ rs.length ≤ x.2.1 ∧ ∀ r ∈ rs, RowOk r x.1
theorem flipped_ok {l : List Nat} {n : Nat} (h : RowOk l n) : RowOk (flipped l) n := by
  refine ⟨by unfold flipped; rw [List.length_map, h.len], fun c hc => ?_⟩
  unfold flipped at hc
  obtain ⟨b, hb, rfl⟩ := List.mem_map.mp hc
  exact flip1_is (h.all b hb)
end K18

namespace K18
open PySem PySem.Spec PyProof.Rows L2 Dw
variable [Tabs0]
theorem d__law_rows {P : Program} {w : World} {K : PySem.W.Frag} {mg : Str → Option Value} {base : Heap} (T : Txt K w mg) : FnOk P w K mg base CX0 3 T.f__law_rows T.e__law_rows ["_law_purse_here", "_law_many", "_law_most", "_law_wrong"] (toSp (spRows)) := by
  refine fn_ok T.F__law_rows sc__law_rows (fun _ => rfl) fun cdv A outer s' H E hr => ?_
  refine ⟨_, (pss_cons (ps_par (i := 4) (j := 5) (by rfl) sc__law_rows.nd rfl rfl (by decide) rfl rfl (pa_cons (pe_listRg rfl (by rfl) T.n_list (prg_1 (by rfl) T.n_range (pv 1))) (pa_cons (pe_lst pa_nil) pa_nil)) (by rfl)) (pss_cons (ps_for PassesOwn.never rfl (pi_range1 (by rfl) T.n_range (pa_cons (pv 1) pa_nil)) (pg_name (i := 6) sc__law_rows.nd rfl (Or.inl rfl)) (pss_one (ps_expr (bmA K PySem.F.plainAttrs_list PySem.F.slot_list_append PySem.F.type_list_append mt_append (pv 5) (pa_cons (bmA K PySem.F.plainAttrs_list PySem.F.slot_list_pop PySem.F.type_list_pop mt_popAt (pv 4) (pa_cons (pe_call (d__law_draw T) (hr.mono (by decide)) (by rfl) T.m__law_draw T.F__law_draw.kp T.b__law_draw .nil pass0 (pa_cons (pv 0) (pa_cons (pe_callB (lenA K) (by rfl) T.n_len (by decide +kernel) (pa_cons (pv 4) pa_nil)) pa_nil))) pa_nil)) pa_nil))))) (pss_cons (ps_set (i := 7) sc__law_rows.nd rfl (Or.inl rfl) (pe_lst pa_nil)) (pss_cons (ps_for PassesOwn.never rfl (pi_range1 (by rfl) T.n_range (pa_cons (pe_call (d__law_draw T) (hr.mono (by decide)) (by rfl) T.m__law_draw T.F__law_draw.kp T.b__law_draw .nil pass0 (pa_cons (pv 0) (pa_cons (pe_op (plusE K) (pv 2) pe_int) pa_nil))) pa_nil)) (pg_name (i := 8) sc__law_rows.nd rfl (Or.inl rfl)) (pss_cons (ps_set (i := 9) sc__law_rows.nd rfl (Or.inl rfl) (pe_call (d__law_signs T) (hr.mono (by decide)) (by rfl) T.m__law_signs T.F__law_signs.kp T.b__law_signs .nil pass0 (pa_cons (pv 0) (pa_cons (pv 1) pa_nil)))) (pss_cons (ps_set (i := 10) sc__law_rows.nd rfl (Or.inl rfl) (pe_cmpR opGt (pe_call (d__law_draw T) (hr.mono (by decide)) (by rfl) T.m__law_draw T.F__law_draw.kp T.b__law_draw .nil pass0 (pa_cons (pv 0) (pa_cons (pv 3) pa_nil))) pe_int (nomark _))) (pss_one (ps_expr (bmA K PySem.F.plainAttrs_list PySem.F.slot_list_append PySem.F.type_list_append mt_append (pv 7) (pa_cons (pe_ifExp (PW.pt (pw_or (truA K (pe_call (d__law_holds T) (hr.mono (by decide)) (by rfl) T.m__law_holds T.F__law_holds.kp T.b__law_holds .nil pass0 (pa_cons (pv 9) (pa_cons (pv 5) pa_nil)))) (pw_or1 (pt_not (truA K (pv 10)))))) (pv 9) (pe_call (d__law_flipped T) (hr.mono (by decide)) (by rfl) T.m__law_flipped T.F__law_flipped.kp T.b__law_flipped .nil pass0 (pa_cons (pv 9) pa_nil))) pa_nil))))))) (pss_one (ps_ret (pv 7))))))), fun x hx => ?_⟩
  obtain ⟨n, most, wrong⟩ := x
  obtain ⟨h1, h8, hm, hw, hw2⟩ := hx
  have h1 : 1 ≤ n := h1
  have h8 : n ≤ 8 := h8
  have hm : most < 1000 := hm
  have hw : 0 < wrong := hw
  have hw2 : wrong < 1000 := hw2
  refine ds_seq (ds_par_oo (evn_listRg (n := n) (ev_var rfl) (by omega)) (evn_lst eva_nil (Nat.zero_le _)) ?_)
  refine ds_seq (ds_for (fun xs i Γ' => xs = rng n ∧ ∃ (left hid : List Nat) (s6 : Sl), Γ' = [.val .purse, .val (.int n), .val (.int most), .val (.int wrong), .own (ordD left), .own (ordD hid), s6, .unset, .unset, .unset, .unset] ∧ left.length + i = n ∧ hid.length = i ∧ (∀ k ∈ left, k < n) ∧ ∀ k ∈ hid, k < n)
    (di_range (dla_cons (Ev.dl (ev_var rfl) (dla_nil ⟨n, rfl, by omega, ⟨rfl, List.range n, [], _, rfl, List.length_range, rfl, fun k h => List.mem_range.mp h, fun k h => absurd h (by simp)⟩, fun i x Γ' hx' ⟨exs, left, hid, s6, e, l1, l2, k1, k2⟩ => ?_, fun Γ' ⟨exs, left, hid, s6, e, l1, l2, k1, k2⟩ => ?_⟩)))))
  · subst e
    obtain ⟨hi, rfl⟩ := rng_get hx'
    refine ⟨[6], _, dg_name, ds_drop (dl_append ⟨_, rfl⟩ (dla_cons (dl_popAt ⟨_, rfl⟩ (dla_cons (dl_call (s := spDraw) (dla_cons (Ev.dl (ev_var rfl) (dla_cons (Ev.dl (ev_len (evb_own (ds := ordD left) rfl)) (dla_nil ⟨(ordD left).length, rfl, ⟨by rw [ordD_len]; omega, by rw [ordD_len]; omega⟩, fun d hd => ?_⟩)))))))))) ⟩
    obtain ⟨r, hr1, rfl⟩ := hd
    rw [ordD_len] at hr1
    have hg : left[r]? = some left[r] := List.getElem?_eq_getElem hr1
    refine dla_nil ⟨r, r, ordD left, .int left[r], rfl, rfl, by omega, by omega, ?_, ?_, dla_nil ⟨_, ordD hid, rfl, rfl, ?_, rfl, left.eraseIdx r, hid ++ [left[r]], .val (.int i), ?_, ?_, ?_, ?_⟩⟩
    · rw [ordD_len]
      unfold seqIndex?
      have : ¬ ((r : Int) < 0) := by omega
      simp only [this, if_false]
      rw [if_pos (by simp; omega)]
      rfl
    · unfold ordD
      rw [List.getElem?_map, hg]; rfl
    · rw [ordD_len, l2]; exact Nat.lt_of_lt_of_le (by omega : i < 9) (by decide)
    · show [Sl.val .purse, .val (.int n), .val (.int most), .val (.int wrong), .own ((ordD left).eraseIdx r), .own (ordD hid ++ [.int left[r]]), .val (.int i), .unset, .unset, .unset, .unset] = _
      rw [show (ordD left).eraseIdx r = ordD (left.eraseIdx r) from erase_map _ left r, ordD_snoc]
    · rw [List.length_eraseIdx, if_pos hr1]; omega
    · rw [List.length_append, l2]; rfl
    · exact ⟨fun k hk => k1 k (List.mem_of_mem_eraseIdx hk), fun k hk => by
        rcases List.mem_append.mp hk with hk | hk
        · exact k2 k hk
        · rw [List.mem_singleton.mp hk]; exact k1 _ (List.getElem_mem hr1)⟩
  · subst e
    rw [rng_length] at l2
    refine ds_freeze 5 rfl (ds_seq (ds_asg_own (evn_lst eva_nil (Nat.zero_le _)) ?_))
    refine ds_seq (ds_for (fun xs i Γ' => xs.length ≤ most ∧ ∃ (rs : List (List Nat)) (s8 s9 s10 : Sl), Γ' = [.val .purse, .val (.int n), .val (.int most), .val (.int wrong), .own (ordD left), .val (.lst (ordD hid)), s6, .own (nameD rs), s8, s9, s10] ∧ rs.length = i ∧ ∀ r ∈ rs, RowOk r n)
      (di_range (dla_cons (dl_call (s := spDraw) (dla_cons (Ev.dl (ev_var rfl) (dla_cons (Ev.dl (ev_op (ev_var rfl) ev_int pl_int) (dla_nil ⟨most + 1, rfl, ⟨by omega, by omega⟩, fun d hd => ?_⟩)))))))))
    obtain ⟨r, hr1, rfl⟩ := hd
    refine dla_nil ⟨r, rfl, by omega, ⟨by rw [rng_length]; omega, [], _, _, _, rfl, rfl, fun k h => absurd h (by simp)⟩, fun i x Γ' hx' ⟨exs, rs, s8, s9, s10, e, p1, p2⟩ => ?_, fun Γ' ⟨exs, rs, s8, s9, s10, e, p1, p2⟩ => ?_⟩
    · subst e
      obtain ⟨hi, rfl⟩ := rng_get hx'
      refine ⟨[8], _, dg_name, ds_seq (ds_asg (dl_call (s := spSigns) (dla_cons (Ev.dl (ev_var rfl) (dla_cons (Ev.dl (ev_var rfl) (dla_nil ⟨n, rfl, h8, fun d hd => ?_⟩)))))))⟩
      obtain ⟨row, hrow, rfl⟩ := hd
      refine ds_seq (ds_asg (dl_op (dl_call (s := spDraw) (dla_cons (Ev.dl (ev_var rfl) (dla_cons (Ev.dl (ev_var rfl) (dla_nil ⟨wrong, rfl, ⟨hw, by omega⟩, fun d hd => ?_⟩))))))))
      obtain ⟨z, hz, rfl⟩ := hd
      refine Ev.dl ev_int ⟨_, dr2_gt, ?_⟩
      refine ds_drop (dl_append ⟨_, rfl⟩ (dla_cons (Ev.dl (ev_cast (d' := .str (tx (if (holdsB row hid || !decide ((0 : Int) < (z : Int))) = true then row else flipped row))) ?_ (ev_if (a := holdsB row hid || !decide ((0 : Int) < (z : Int))) (evt_or (evt_tru_bl (ev_call (s := spHolds) (x := (row, hid, true)) (eva_cons (ev_var rfl) (eva_cons (ev_var rfl) eva_nil)) ?_ ⟨n, hrow, h8, by rw [l2]; exact h8, k2⟩ fun d h => h)) fun _ => evt_not (evt_tru_bl (ev_var rfl))) (fun _ => ev_var (d := .str (tx row)) rfl) fun _ => ev_call (s := spFlip) (x := row) (eva_cons (ev_var rfl) eva_nil) rfl ⟨n, hrow, h8⟩ fun d h => h)) (dla_nil ⟨_, nameD rs, rfl, rfl, ?_, ?_⟩))))
      · cases (holdsB row hid || !decide ((0 : Int) < (z : Int))) <;> rfl
      · show ((noPs (ordD hid)) && true) = true
        rw [np_ord]; rfl
      · rw [nameD_len, p1]; exact Nat.lt_of_lt_of_le (by omega : i < 1001) (by decide)
      · refine ⟨exs, rs ++ [if (holdsB row hid || !decide ((0 : Int) < (z : Int))) = true then row else flipped row], .val (.int i), .val (.str (tx row)), .val (.bl (decide ((0 : Int) < (z : Int)))), ?_, by rw [List.length_append, p1]; rfl, fun q hq => ?_⟩
        · unfold nameD
          rw [List.map_append]; rfl
        · rcases List.mem_append.mp hq with hq | hq
          · exact p2 q hq
          · rw [List.mem_singleton.mp hq]
            cases (holdsB row hid || !decide ((0 : Int) < (z : Int)))
            · exact flipped_ok hrow
            · exact hrow
    · subst e
      exact ds_ret_own rfl ⟨rs, rfl, by rw [p1]; exact exs, p2⟩
end K18

namespace K18
open PySem PySem.Spec PyProof.Rows L2 Dw
variable [Tabs0]
def spSpelled : Spc where
  ty := Bk
  args := fun x => [.lst (nameD x.1), .lst (nameD x.2)]
  ok := fun x => BookOk x.1 x.2
  rel := fun x d => d = .str (tx (bookTx x.1 x.2))
theorem sum_tx {m : Nat} : ∀ ls : List (List Nat), (∀ p ∈ ls, p.length ≤ m) → ((ls.map tx).map (·.length)).sum ≤ ls.length * m
  | [], _ => Nat.zero_le _
  | p :: r, h => by
    have h1 := h p List.mem_cons_self
    have h2 := sum_tx r fun x hx => h x (List.mem_cons_of_mem _ hx)
    rw [List.map_cons, List.map_cons, List.sum_cons, tx_len, List.length_cons, Nat.add_mul]
    omega
theorem join_sp (ls : List (List Nat)) : Txt.join (Str.ofString " ") (ls.map tx) = tx (TL.joinL [32] ls) := by rw [spaceS, join_tx]
end K18

namespace K18
open PySem PySem.Spec PyProof.Rows L2 Dw
variable [Tabs0]
theorem d__law_spelled {P : Program} {w : World} {K : PySem.W.Frag} {mg : Str → Option Value} {base : Heap} (T : Txt K w mg) : FnOk P w K mg base CX0 1 T.f__law_spelled T.e__law_spelled ["_law_labels_here", "_law_rows_here"] (toSp (spSpelled)) := by
  refine fn_ok T.F__law_spelled sc__law_spelled (fun _ => rfl) fun cdv A outer s' H E hr => ?_
  refine ⟨_, (pss_one (ps_ret (joinA K pe_str (pe_op (plusE K) (pe_lst (pa_cons (pe_op (plusE K) (joinA K pe_str (pv 0)) pe_str) pa_nil)) (pe_callTy (listA K) (by rfl) T.n_list (by decide +kernel) (pa_cons (pv 1) pa_nil)))))), fun x hx => ?_⟩
  obtain ⟨ls, rs⟩ := x
  have hb : BookOk ls rs := hx
  have h8 := hb.names.hi
  have h20 := hb.few
  have hl := hb.hl
  have s1 := sum_tx (m := 8) ls fun p hp => (hb.names.all p hp).hi
  have s2 := sum_tx (m := 8) rs fun p hp => by rw [(hb.rows p hp).len]; exact h8
  refine ds_ret (Ev.dl (ev_cast (d := .str (Txt.join (Str.ofString " ") (((TL.joinL [32] ls ++ [58]) :: rs).map tx))) ?_ (ev_join ev_str (EvN.b (ds := (((TL.joinL [32] ls ++ [58]) :: rs).map tx).map D.str) ?_) ?_)) rfl)
  · rw [join_sp]; rfl
  · have e : (((TL.joinL [32] ls ++ [58]) :: rs).map tx).map D.str = [D.str (tx (TL.joinL [32] ls) ++ Str.ofString ":")] ++ nameD rs := by
      rw [colonS, tx_append, List.map_cons, List.map_cons, nameD_map]; rfl
    rw [e]
    refine pl_evn (EvN.b (evn_lst (eva_cons (ev_op (ev_cast (d' := .str (tx (TL.joinL [32] ls))) ?_ (ev_join (x := Str.ofString " ") (ys := ls.map tx) ev_str ?_ ?_)) ev_str (pl_str ?_)) eva_nil) (small (show 1 ≤ 100000 by decide)))) (EvN.b (evn_list (ev_var (d := .lst (nameD rs)) rfl).b)) ?_
    · rw [join_sp]
    · rw [nameD_map]; exact (ev_var rfl).b
    · rw [List.length_map, spaceS, tx_len]
      show _ + ls.length * 1 ≤ _
      omega
    · rw [tx_len, colonS, tx_len]
      show _ + 1 ≤ _
      exact small (by omega)
    · rw [nameD_len]
      show 1 + _ ≤ _
      exact small (by omega)
  · rw [List.map_cons, List.map_cons, List.sum_cons, List.length_cons, List.length_map, tx_len, List.length_append, spaceS, tx_len]
    show (_ + 1) + _ + (rs.length + 1) * 1 ≤ _
    omega
end K18

namespace K18
open PySem PySem.Spec PyProof.Rows L2 Dw
variable [Tabs0]
theorem dr2_pow {i j : Int} (h : CPow i j) : DR2 (rI CPow fun i j => .int (i ^ j.toNat)) (.int i) (.int j) (.int (i ^ j.toNat)) := dr2_rI h fun _ => rfl
theorem ds_runS {t u : TS} {F : Addr → Prop} {σ : L2.St} {W : Wd} {Dr : Ends} {Γ : Gam} {Γ' : Gam → Prop} (h : Ds t Γ ⟨Γ', fun _ => False, fun _ => False, fun _ => False⟩) (g : SR F Γ σ W) (k : ∀ σ' W' Γ2, Stp F W W' → SR F Γ2 σ' W' → Γ' Γ2 → u Dr σ' W'.H) : tSeq t u Dr σ W.H :=
  h F σ W { Dr with nx := u Dr } g ⟨k, fun _ _ _ _ _ _ h => h.elim, fun _ _ _ _ _ h => h.elim, fun _ _ _ _ _ h => h.elim⟩
theorem scr_at {ns : List Int} {spot : Nat} (h : spot < ns.length) : atI (ns.map V.int) (spot : Int) = some (.int (ns.getD spot 0)) := by
  refine atI_nat ?_
  rw [List.getElem?_map, List.getElem?_eq_getElem h, List.getD_eq_getElem?_getD, List.getElem?_eq_getElem h]; rfl
theorem seed_ok {s z : Int} : 0 ≤ (s * 41539 + z % 2147483647 + 101) % 2147483647 ∧ (s * 41539 + z % 2147483647 + 101) % 2147483647 < 2147483647 := ⟨Int.emod_nonneg _ (by decide), Int.emod_lt_of_pos _ (by decide)⟩
end K18

namespace K18
open PySem PySem.Spec PyProof.Rows L2 Dw
variable [Tabs0]
theorem d__law_purse {P : Program} {w : World} {K : PySem.W.Frag} {mg : Str → Option Value} {base : Heap} (T : Txt K w mg) : FnOk P w K mg base CX0 1 T.f__law_purse T.e__law_purse ["_law_script", "_law_spot"] (toPurse K) := by
  refine T.F__law_purse.ok sc__law_purse (fun vs H Q E ⟨F, W, ns, spot, _, _, r, _⟩ => by rw [← r.length]; rfl) fun cdv A outer s' H vs Q E hr h => ?_
  refine ⟨_, (pss_cons (ps_set (i := 2) sc__law_purse.nd rfl (Or.inl rfl) (pe_ifExp (pt_cmpR opLt (pv 1) (pe_callB (lenA K) (by rfl) T.n_len (by decide +kernel) (pa_cons (pv 0) pa_nil)) (nomark _)) (pe_ix (ixA K) (pv 0) (pv 1) (fun _ _ => rfl)) (pe_op opTimes pe_int (pe_op (plusE K) (pv 1) pe_int)))) (pss_cons (ps_set (i := 3) sc__law_purse.nd rfl (Or.inl rfl) (pe_op (plusE K) pe_int (pv 1))) (pss_cons (ps_for PassesOwn.never rfl (piR K (pe_op (plusE K) (pe_slice (slXA K) (pv 0) po_none (po_some pe_int)) (pe_lst (pa_cons (pv 2) pa_nil)))) (pg_name (i := 4) sc__law_purse.nd rfl (Or.inl rfl)) (pss_one (ps_set (i := 3) sc__law_purse.nd rfl (Or.inl rfl) (pe_op op_mod (pe_callTy call_int1 (by rfl) T.n_int (by decide +kernel) (pa_cons (pe_op (plusE K) (pe_op (plusE K) (pe_op opTimes (pv 3) pe_int) (pe_op op_mod (pe_callTy call_int1 (by rfl) T.n_int (by decide +kernel) (pa_cons (pv 4) pa_nil)) pe_int)) pe_int) pa_nil)) pe_int)))) (pss_one (ps_ret (pe_lst (pa_cons (pe_ifExp (pt_cmpR opGe (pe_callB call_abs (by rfl) T.n_abs (by decide +kernel) (pa_cons (pv 2) pa_nil)) (pe_op op_pow pe_int pe_int) (nomark _)) (pe_callB call_abs (by rfl) T.n_abs (by decide +kernel) (pa_cons (pv 2) pa_nil)) pe_int) (pa_cons (pv 3) pa_nil)))))))), ?_⟩
  obtain ⟨F, W, ns, spot, rfl, ok, r, hz, hs, hbit, k⟩ := h
  have g0 : SR F (Gz0 5 [.scr K (ns.map V.int), .int spot]) (L2.start N__law_purse vs) W := sr_start (N := N__law_purse) ok r
  have l0 : (ns.map V.int).length = ns.length := List.length_map ..
  refine ds_runS (Γ' := fun Γ => ∃ cell : Int, Γ = [.val (.scr K (ns.map V.int)), .val (.int spot), .val (.int cell), .unset, .unset]) (ds_asg (Ev.dl (ev_if (a := decide ((spot : Int) < ((ns.map V.int).length : Int))) (evt_test (ev_op (ev_var rfl) (ev_lenX (ev_var rfl)) lt_int')) (fun h => ev_ixX (z := ns.getD spot 0) (ev_var rfl) (ev_var rfl) (scr_at ?_)) fun h => ev_op ev_int (ev_op (ev_var rfl) ev_int pl_int) (times_int ?_)) ?_)) g0 fun σ1 W1 Γ1 st1 g1 ⟨cell, e1⟩ => ?_
  · have := of_decide_eq_true h
    rw [l0] at this; omega
  · exact .inl ⟨by decide, by decide⟩
  · by_cases h : (spot : Int) < ((ns.map V.int).length : Int)
    · rw [if_pos (decide_eq_true h)]; exact ⟨_, rfl⟩
    · rw [if_neg (fun z => h (of_decide_eq_true z))]; exact ⟨_, rfl⟩
  subst e1
  refine ds_runS (Γ' := fun Γ => ∃ seed : Int, Γ = [.val (.scr K (ns.map V.int)), .val (.int spot), .val (.int cell), .val (.int seed), .unset] ∧ 0 ≤ seed ∧ seed < 2147483647) (ds_asg (Ev.dl (ev_op ev_int (ev_var rfl) pl_int) ⟨907 + (spot : Int), rfl, by omega, by omega⟩)) g1 fun σ2 W2 Γ2 st2 g2 ⟨seed, e2, b0, b1⟩ => ?_
  subst e2
  refine ds_runS (Γ' := fun Γ => ∃ (seed : Int) (s4 : Sl), Γ = [.val (.scr K (ns.map V.int)), .val (.int spot), .val (.int cell), .val (.int seed), s4] ∧ 0 ≤ seed ∧ seed < 2147483647)
    (ds_for (fun xs i Γ' => (∀ x ∈ xs, ∃ z : Int, x = .int z) ∧ ∃ (seed : Int) (s4 : Sl), Γ' = [.val (.scr K (ns.map V.int)), .val (.int spot), .val (.int cell), .val (.int seed), s4] ∧ 0 ≤ seed ∧ seed < 2147483647)
      (dj_list (Ev.dl (EvN.ev (pl_evn (EvN.b (evn_sliceXY (hi := some 5) (ev_var rfl) eo_none (eo_some ev_int))) (EvN.b (evn_lst (eva_cons (ev_var rfl) eva_nil) (small (show 1 ≤ 100000 by decide)))) ?_)) ⟨_, rfl, ⟨fun x hx => ?_, seed, _, rfl, b0, b1⟩, fun i x Γ' hx' ⟨hx0, seed', s4, e, c0, c1⟩ => ?_, fun Γ' ⟨hx0, seed', s4, e, c0, c1⟩ => ⟨seed', s4, e, c0, c1⟩⟩))) g2 fun σ3 W3 Γ3 st3 g3 ⟨seed', s4, e3, c0, c1⟩ => ?_
  · unfold Dw.intD Dw.cutI
    rw [List.length_map, List.length_take, List.length_drop]
    show _ + 1 ≤ _
    exact small (by omega)
  · rcases List.mem_append.mp hx with hx | hx
    · obtain ⟨z, _, rfl⟩ := List.mem_map.mp hx
      exact ⟨z, rfl⟩
    · rw [List.mem_singleton.mp hx]; exact ⟨cell, rfl⟩
  · subst e
    obtain ⟨z, rfl⟩ := hx0 x (List.mem_of_getElem? hx')
    refine ⟨[4], _, dg_name, ds_asg (Ev.dl (ev_op (ev_int1 (ev_op (ev_op (ev_op (ev_var rfl) ev_int (times_int ?_)) (ev_op (ev_int1 (ev_var rfl)) ev_int (dr2_mod (by decide))) pl_int) ev_int pl_int)) ev_int (dr2_mod (by decide))) ⟨hx0, _, _, rfl, seed_ok.1, seed_ok.2⟩)⟩
    exact .inr ⟨by decide, by decide⟩
  subst e3
  have st := st1.trans (st2.trans st3)
  have ea : ∀ c : Int, 0 ≤ (if c < 0 then -c else c) := fun c => by by_cases h : c < 0 <;> simp [h] <;> omega
  have ep : (10 : Int) ^ (18 : Int).toNat = 1000000000000000000 := by decide +kernel
  refine evn_lst (ds := [.int (if (decide ((10 : Int) ^ (18 : Int).toNat ≤ (if cell < 0 then -cell else cell))) = true then (if cell < 0 then -cell else cell) else 0), .int seed']) (eva_cons (ev_cast ?_ (ev_if (a := decide ((10 : Int) ^ (18 : Int).toNat ≤ (if cell < 0 then -cell else cell))) (evt_test (ev_op (ev_abs (ev_var rfl)) (ev_op ev_int ev_int (dr2_pow ?_)) dr2_ge)) (fun _ => ev_abs (ev_var rfl)) fun _ => ev_int)) (eva_cons (ev_var rfl) eva_nil)) (small (show 2 ≤ 100000 by decide)) F σ3 W3 _ g3 fun a vs H' sm hn ha rl => ?_
  · cases decide ((10 : Int) ^ (18 : Int).toNat ≤ (if cell < 0 then -cell else cell)) <;> rfl
  · exact ⟨by decide, by decide, by decide⟩
  · have ev := RepL.ints (ns := [_, _]) |>.mp rl
    rw [ev] at ha
    refine k a _ _ W3 H' st g3.ok sm hn ha ?_ c0 c1
    cases decide ((10 : Int) ^ (18 : Int).toNat ≤ (if cell < 0 then -cell else cell))
    · exact Int.le_refl _
    · exact ea cell

end K18

namespace K18
open PySem PySem.Spec PyProof.Rows L2 Dw
variable [Tabs0]
/-! lots and rankings of any plain values -/
theorem eqv_ints : ∀ xs ys : List Int, PyData.eqvAll (pys (xs.map D.int)) (pys (ys.map D.int)) = decide (xs = ys)
  | [], [] => rfl
  | [], y :: ys => by
    show false = _
    simp
  | x :: xs, [] => by
    show false = _
    simp
  | x :: xs, y :: ys => by
    show ((x == y) && PyData.eqvAll (pys (xs.map D.int)) (pys (ys.map D.int))) = _
    rw [eqv_ints xs ys, Bool.eq_iff_iff]
    simp
/-! names of any plain values -/
def codesOf : D → List Nat | .str x => x.cps.toList | _ => []
def incB (ls : List (List Nat)) : Bool := (ls.zip (ls.drop 1)).all fun p => decide (p.1 < p.2)
def namesB (ds : List D) : Bool := ds.all nmB && incB (ds.map codesOf)
theorem all_names : ∀ {ds : List D}, ds.all nmB = true → ds = nameD (ds.map codesOf) ∧ ∀ l ∈ ds.map codesOf, NameOk l
  | [], _ => ⟨rfl, fun l h => absurd h (by simp)⟩
  | d :: r, h => by
    rw [List.all_cons, Bool.and_eq_true] at h
    obtain ⟨l, rfl, hl⟩ := nmB_iff.mp h.1
    obtain ⟨e, hr⟩ := all_names h.2
    have ec : codesOf (.str (tx l)) = l := tx_cps l
    rw [List.map_cons, ec]
    refine ⟨?_, fun x hx => ?_⟩
    · show D.str (tx l) :: r = D.str (tx l) :: nameD (r.map codesOf)
      rw [← e]
    · rcases List.mem_cons.mp hx with rfl | hx
      · exact hl
      · exact hr x hx
theorem codes_name (ls : List (List Nat)) : (nameD ls).map codesOf = ls := by
  unfold nameD
  rw [List.map_map]
  have e : (codesOf ∘ fun l => D.str (tx l)) = id := by funext l; exact tx_cps l
  rw [e, List.map_id]
theorem namesB_iff {ds : List D} : namesB ds = true ↔ ∃ ls, ds = nameD ls ∧ (∀ l ∈ ls, NameOk l) ∧ ∀ p ∈ ls.zip (ls.drop 1), p.1 < p.2 := by
  unfold namesB incB
  rw [Bool.and_eq_true]
  constructor
  · rintro ⟨h1, h2⟩
    obtain ⟨e, hn⟩ := all_names h1
    exact ⟨_, e, hn, fun p hp => of_decide_eq_true (List.all_eq_true.mp h2 p hp)⟩
  · rintro ⟨ls, rfl, h1, h2⟩
    rw [codes_name]
    refine ⟨?_, List.all_eq_true.mpr fun p hp => decide_eq_true (h2 p hp)⟩
    unfold nameD
    rw [List.all_map, List.all_eq_true]
    exact fun l hl => nmB_iff.mpr ⟨l, rfl, h1 l hl⟩
def spNamesG : Spc where
  ty := List D
  args := fun ds => [.tup ds]
  ok := fun ds => Pv (.tup ds)
  rel := fun ds e => e = .bl (namesB ds)
theorem cut_tail (ds : List D) : Dw.cutD ds (some 1) none = ds.drop 1 := by
  unfold Dw.cutD
  rw [HT.sIx_none]
  have e : HT.sIx ds.length 0 (some 1) = min 1 ds.length := by
    show (if (1 : Int) < 0 then ((1 : Int) + (ds.length : Int)).toNat else min (1 : Int).toNat ds.length) = _
    rw [if_neg (by decide)]; rfl
  rw [e]
  cases ds with
  | nil => rfl
  | cons d r =>
    rw [show min 1 (d :: r).length = 1 by simp [Nat.min_def], List.take_of_length_le (by simp)]
theorem names_ok {ls : List (List Nat)} (h : NamesOk ls) : namesB (nameD ls) = true := namesB_iff.mpr ⟨ls, rfl, h.all, h.inc⟩
theorem row_ok {l : List Nat} {n : Nat} (h : RowOk l n) (h1 : 1 ≤ n) (h8 : n ≤ 8) : rowB (.str (tx l)) n = true := rowB_iff.mpr ⟨l, rfl, h, h1, h8⟩
end K18

namespace K18
open PySem PySem.Spec PyProof.Rows L2 Dw
variable [Tabs0]
theorem d_are_names {P : Program} {w : World} {K : PySem.W.Frag} {mg : Str → Option Value} {base : Heap} (T : Txt K w mg) : FnOk P w K mg base CX0 2 T.f_are_names T.e_are_names ["values"] (toSp (spNamesG)) := by
  refine fn_ok T.F_are_names sc_are_names (fun _ => rfl) fun cdv A outer s' H E hr => ?_
  refine ⟨_, (pss_cons (ps_if (pt_not (truA K (pe_callB (allA K) (by rfl) T.n_all (by decide +kernel) (pa_cons (pe_lc (own := [("value", 3)]) rfl sc_are_names.nd (piR K (pv 0)) (blkOk_by (own := [("value", 3)]) (N := N_are_names) (sc := (defScope s_are_names)) (by decide +kernel)) (fun _ _ _ _ _ => pg_name (i := 3) sc_are_names.nd rfl (Or.inl rfl)) (fun _ _ _ _ _ => pts_nil) (fun _ _ _ _ _ => (pe_call (d_is_name T) (hr.mono (by decide)) (by rfl) T.m_is_name T.F_is_name.kp T.b_is_name .nil pass0 (pa_cons (pv 3) pa_nil)))) pa_nil)))) (pss_one (ps_ret pe_bl)) pss_nil) (pss_one (ps_ret (pe_callB (allA K) (by rfl) T.n_all (by decide +kernel) (pa_cons (pe_lc (own := [("one", 1), ("other", 2)]) rfl sc_are_names.nd (zipA K (by rfl) T.n_zip (pa_cons (pv 0) (pa_cons (pe_slice (slXA K) (pv 0) (po_some pe_int) po_none) pa_nil))) (blkOk_by (own := [("one", 1), ("other", 2)]) (N := N_are_names) (sc := (defScope s_are_names)) (by decide +kernel)) (fun _ _ _ _ _ => tupA K 2 rfl (pgs_cons (pg_name (i := 1) sc_are_names.nd rfl (Or.inl rfl)) (pgs_cons (pg_name (i := 2) sc_are_names.nd rfl (Or.inl rfl)) pgs_nil))) (fun _ _ _ _ _ => pts_nil) (fun _ _ _ _ _ => (pe_cmpR opLt (pv 1) (pv 2) (nomark _)))) pa_nil))))), fun x hx => ?_⟩
  obtain ⟨ds, rfl⟩ : ∃ l : List D, l = x := ⟨x, rfl⟩
  have hd : Pv (.tup ds) := hx
  obtain ⟨hz, hp⟩ := hd.tup
  refine ds_seq (ds_if (EvT.dl (b := !ds.all nmB) (evt_not (evt_tru_bl (ev_all_lc (K := K) (xs := ds) (c := fun d => d) (b := nmB) ?it (by omega) fun k hk => ⟨[3], _, dg_name, fun i hi => hi, evt_yes, ev_call (s := spNameG) (x := k) (eva_cons (ev_var rfl) eva_nil) (np1 (hp k hk) rfl) (hp k hk) fun d h => h⟩))) ⟨fun h => ?_, fun h => ds_next ?_⟩))
  case it => rw [List.map_id']; exact ej_tup (ev_var rfl)
  · refine ds_ret (Ev.dl ev_bl ?_)
    show D.bl false = D.bl (namesB ds)
    unfold namesB
    rw [Bool.not_eq_true'] at h
    rw [h]; rfl
  · rw [Bool.not_eq_false'] at h
    obtain ⟨e, hn⟩ := all_names h
    generalize hls : ds.map codesOf = ls at e hn
    subst e
    have el : (nameD ls).length = ls.length := List.length_map ..
    refine ds_ret (Ev.dl (ev_all_lc (xs := ls.zip (ls.drop 1)) (c := fun p => .tup [.str (tx p.1), .str (tx p.2)]) (b := fun p => decide (p.1 < p.2)) ?_ ?_ ?_) ?_)
    · rw [← zip_names]
      have e : nameD (ls.drop 1) = Dw.cutD (nameD ls) (some 1) none := by
        rw [cut_tail]
        unfold nameD
        rw [List.map_drop]
      rw [e]
      exact ei_zipT (ev_var rfl) (ev_sliceTY (ev_var rfl) (eo_some ev_int) eo_none)
    · rw [List.length_zip]; omega
    · intro p hp
      exact ⟨[1] ++ [2], _, dg_tup2 dg_name dg_name, fun i hi => hi, evt_yes, ev_op (ev_var rfl) (ev_var rfl) lt_tx⟩
    · show D.bl (incB ls) = D.bl (namesB (nameD ls))
      unfold namesB
      rw [h, codes_name]; rfl

end K18

namespace K18
open PySem PySem.Spec PyProof.Rows L2 Dw
variable [Tabs0]
/-! the layers -/
def rowAt (rs : List (List Nat)) (i : Nat) : List Nat := rs.getD i []
def minB (rs : List (List Nat)) (still : List Nat) (k : Nat) : Bool := still.any fun i => decide (sgn (rowAt rs i) k = 45)
def plusB (rs : List (List Nat)) (lay : List Nat) (i : Nat) : Bool := lay.any fun k => decide (sgn (rowAt rs i) k = 43)
def openB (rs : List (List Nat)) (i : Nat) : Bool := (rowAt rs i).any fun c => !decide (c = 46)
def open0 (rs : List (List Nat)) : List Nat := (List.range rs.length).filter (openB rs)
def layF (rs : List (List Nat)) : Nat → List (List Nat) → List Nat → List Nat → List (List Nat) × List Nat
  | 0, made, _, still => (made, still)
  | f + 1, made, left, still =>
    if still = [] then (if left = [] then made else made ++ [left], [])
    else if left.filter (fun k => !minB rs still k) = [] then (made, still)
    else layF rs f (made ++ [left.filter fun k => !minB rs still k]) (left.filter (minB rs still)) (still.filter fun i => !plusB rs (left.filter fun k => !minB rs still k) i)
def splitM (rs : List (List Nat)) (n : Nat) : List (List Nat) × List Nat := layF rs (n + 1) [] (List.range n) (open0 rs)
/-- a row that some layer settles, all ahead of it being dots, and none of it a minus -/
def Settled (rs : List (List Nat)) (made : List (List Nat)) (i : Nat) : Prop := ∃ pre lay post, made = pre ++ lay :: post ∧ (∀ l ∈ pre, ∀ k ∈ l, sgn (rowAt rs i) k = 46) ∧ (∀ k ∈ lay, sgn (rowAt rs i) k ≠ 45) ∧ ∃ k ∈ lay, sgn (rowAt rs i) k = 43
structure LayI (rs : List (List Nat)) (n : Nat) (made : List (List Nat)) (left still : List Nat) : Prop where
  perm : (made.flatten ++ left).Perm (List.range n)
  ne : ∀ l ∈ made, l ≠ []
  sub : still.Sublist (open0 rs)
  dots : ∀ i ∈ still, ∀ l ∈ made, ∀ k ∈ l, sgn (rowAt rs i) k = 46
  done : ∀ i ∈ open0 rs, i ∉ still → Settled rs made i
  inc : left.Sublist (List.range n)
theorem Settled.more {rs made i} (l : List (List Nat)) (h : Settled rs made i) : Settled rs (made ++ l) i := by
  obtain ⟨pre, lay, post, rfl, h1, h2, h3⟩ := h
  exact ⟨pre, lay, post ++ l, by simp, h1, h2, h3⟩
theorem filter_split (p : Nat → Bool) : ∀ l : List Nat, ((l.filter fun k => !p k) ++ l.filter p).Perm l
  | [] => .refl _
  | a :: l => by
    have ih := filter_split p l
    cases h : p a with
    | true =>
      rw [List.filter_cons_of_neg (by simp [h]), List.filter_cons_of_pos h]
      exact (List.perm_middle).trans (ih.cons a)
    | false =>
      rw [List.filter_cons_of_pos (by simp [h]), List.filter_cons_of_neg (by simp [h])]
      exact ih.cons a
theorem LayI.next {rs n made left still} (hs : ∀ i c, sgn (rowAt rs i) c = 43 ∨ sgn (rowAt rs i) c = 45 ∨ sgn (rowAt rs i) c = 46) (h : LayI rs n made left still) (hl : left.filter (fun k => !minB rs still k) ≠ []) :
    LayI rs n (made ++ [left.filter fun k => !minB rs still k]) (left.filter (minB rs still)) (still.filter fun i => !plusB rs (left.filter fun k => !minB rs still k) i) := by
  have nomin : ∀ i ∈ still, ∀ k ∈ left.filter (fun k => !minB rs still k), sgn (rowAt rs i) k ≠ 45 := fun i hi k hk z => by
    have h1 := (List.mem_filter.mp hk).2
    have : minB rs still k = true := List.any_eq_true.mpr ⟨i, hi, decide_eq_true z⟩
    rw [this] at h1; cases h1
  refine ⟨?_, fun l hm => ?_, (List.filter_sublist).trans h.sub, fun i hi l hm k hk => ?_, fun i hi hn => ?_, (List.filter_sublist).trans h.inc⟩
  · rw [List.flatten_append, List.append_assoc]
    refine (List.Perm.append_left _ ?_).trans h.perm
    simp only [List.flatten_cons, List.flatten_nil, List.append_nil]
    exact filter_split _ left
  · rcases List.mem_append.mp hm with hm | hm
    · exact h.ne l hm
    · rw [List.mem_singleton.mp hm]; exact hl
  · obtain ⟨hi, hp⟩ := List.mem_filter.mp hi
    rcases List.mem_append.mp hm with hm | hm
    · exact h.dots i hi l hm k hk
    · rw [List.mem_singleton.mp hm] at hk
      rcases hs i k with z | z | z
      · have : plusB rs (left.filter fun k => !minB rs still k) i = true := List.any_eq_true.mpr ⟨k, hk, decide_eq_true z⟩
        rw [this] at hp; cases hp
      · exact absurd z (nomin i hi k hk)
      · exact z
  · by_cases hi2 : i ∈ still
    · have hp : plusB rs (left.filter fun k => !minB rs still k) i = true := by
        cases q : plusB rs (left.filter fun k => !minB rs still k) i with
        | true => rfl
        | false => exact absurd (List.mem_filter.mpr ⟨hi2, by rw [q]; rfl⟩) hn
      obtain ⟨k, hk, z⟩ := List.any_eq_true.mp hp
      exact ⟨made, _, [], by simp, fun l hm k hk => h.dots i hi2 l hm k hk, nomin i hi2, k, hk, of_decide_eq_true z⟩
    · exact (h.done i hi hi2).more _
theorem lay_len {rs : List (List Nat)} {left still : List Nat} (hl : left.filter (fun k => !minB rs still k) ≠ []) : (left.filter (minB rs still)).length < left.length := by
  have := (filter_split (minB rs still) left).length_eq
  rw [List.length_append] at this
  have h2 : 0 < (left.filter fun k => !minB rs still k).length := List.length_pos_iff.mpr hl
  omega
theorem layI_0 (rs : List (List Nat)) (n : Nat) : LayI rs n [] (List.range n) (open0 rs) :=
  ⟨.refl _, fun l h => absurd h (by simp), List.Sublist.refl _, fun i _ l h => absurd h (by simp), fun i h h' => absurd h h', List.Sublist.refl _⟩
/-- how the making ends -/
theorem layF_end {rs : List (List Nat)} {n : Nat} (hs : ∀ i c, sgn (rowAt rs i) c = 43 ∨ sgn (rowAt rs i) c = 45 ∨ sgn (rowAt rs i) c = 46) : ∀ (f : Nat) (made : List (List Nat)) (left still : List Nat), LayI rs n made left still → left.length < f →
    (∃ ls, layF rs f made left still = (ls, []) ∧ LayI rs n ls [] []) ∨ (∃ ls lf st, layF rs f made left still = (ls, st) ∧ st ≠ [] ∧ LayI rs n ls lf st ∧ lf.filter (fun k => !minB rs st k) = [])
  | 0, _, _, _, _, h => absurd h (Nat.not_lt_zero _)
  | f + 1, made, left, still, h, hf => by
    unfold layF
    by_cases h1 : still = []
    · subst h1
      rw [if_pos rfl]
      refine .inl ⟨_, rfl, ?_⟩
      by_cases h2 : left = []
      · rw [if_pos h2]; subst h2; exact h
      · rw [if_neg h2]
        refine ⟨?_, fun l hm => ?_, h.sub, fun i hi => absurd hi (by simp), fun i hi hn => (h.done i hi hn).more _, List.nil_sublist _⟩
        · have := h.perm
          simpa using this
        · rcases List.mem_append.mp hm with hm | hm
          · exact h.ne l hm
          · rw [List.mem_singleton.mp hm]; exact h2
    · rw [if_neg h1]
      by_cases h2 : left.filter (fun k => !minB rs still k) = []
      · rw [if_pos h2]; exact .inr ⟨_, _, _, rfl, h1, h, h2⟩
      · rw [if_neg h2]
        exact layF_end hs f _ _ _ (h.next hs h2) (by have := lay_len h2; omega)
/-- a row along an order: dots, then a sign -/
theorem told_dots {l : List Nat} : ∀ {p : List Nat}, (∀ k ∈ p, sgn l k = 46) → told l p = []
  | [], _ => rfl
  | k :: p, h => by
    have ih := told_dots (l := l) (p := p) fun j hj => h j (List.mem_cons_of_mem _ hj)
    unfold told at ih ⊢
    rw [List.map_cons, List.filter_cons_of_neg (by rw [h k List.mem_cons_self]; decide)]
    exact ih
theorem told_app (l p q : List Nat) : told l (p ++ q) = told l p ++ told l q := by
  unfold told
  rw [List.map_append, List.filter_append]
theorem holds_lay {l : List Nat} : ∀ {q : List Nat}, (∀ k ∈ q, sgn l k = 43 ∨ sgn l k = 46) → (∃ k ∈ q, sgn l k = 43) → ∀ r, holdsB l (q ++ r) = true
  | [], _, h, _ => by obtain ⟨k, hk, _⟩ := h; cases hk
  | k :: q, h, h2, r => by
    rcases h k List.mem_cons_self with z | z
    · unfold holdsB told
      rw [List.cons_append, List.map_cons, List.filter_cons_of_pos (by rw [z]; decide), z]; rfl
    · have : told l (k :: q ++ r) = told l (q ++ r) := by
        unfold told
        rw [List.cons_append, List.map_cons, List.filter_cons_of_neg (by rw [z]; decide)]
      unfold holdsB
      rw [this]
      obtain ⟨j, hj, zj⟩ := h2
      rcases List.mem_cons.mp hj with rfl | hj
      · rw [z] at zj; cases zj
      · exact holds_lay (fun x hx => h x (List.mem_cons_of_mem _ hx)) ⟨j, hj, zj⟩ r
theorem holds_pre {l p q : List Nat} (h : ∀ k ∈ p, sgn l k = 46) : holdsB l (p ++ q) = holdsB l q := by
  unfold holdsB
  rw [told_app, told_dots h]; rfl
theorem holds_dots {l p : List Nat} (h : ∀ k ∈ p, sgn l k = 46) : holdsB l p = true := by
  unfold holdsB
  rw [told_dots h]
/-- layers each in some order -/
def walked (g : List Nat → List Nat) (ls : List (List Nat)) : List Nat := (ls.map g).flatten
theorem walked_perm {g : List Nat → List Nat} (hg : ∀ l, (g l).Perm l) : ∀ ls : List (List Nat), (walked g ls).Perm ls.flatten
  | [] => .refl _
  | l :: ls => by
    show (g l ++ walked g ls).Perm (l ++ ls.flatten)
    exact (hg l).append (walked_perm hg ls)
theorem settled_holds {rs : List (List Nat)} {ls : List (List Nat)} {i : Nat} (hs : ∀ i c, sgn (rowAt rs i) c = 43 ∨ sgn (rowAt rs i) c = 45 ∨ sgn (rowAt rs i) c = 46) {g : List Nat → List Nat} (hg : ∀ l, (g l).Perm l) (h : Settled rs ls i) : holdsB (rowAt rs i) (walked g ls) = true := by
  obtain ⟨pre, lay, post, rfl, h1, h2, k, hk, hk2⟩ := h
  have e : walked g (pre ++ lay :: post) = walked g pre ++ (g lay ++ walked g post) := by
    unfold walked
    simp
  rw [e, holds_pre fun k hk => ?_]
  · refine holds_lay (fun j hj => ?_) ⟨k, (hg lay).mem_iff.mpr hk, hk2⟩ _
    rcases hs i j with z | z | z
    · exact .inl z
    · exact absurd z (h2 j ((hg lay).mem_iff.mp hj))
    · exact .inr z
  · have hm := (walked_perm hg pre).mem_iff.mp hk
    obtain ⟨l, hl, hk⟩ := List.mem_flatten.mp hm
    exact h1 l hl k hk
theorem closed_dots {rs : List (List Nat)} {i : Nat} (hi : i < rs.length) (h : i ∉ open0 rs) (k : Nat) : sgn (rowAt rs i) k = 46 := by
  have hn : openB rs i = false := by
    cases q : openB rs i with
    | false => rfl
    | true => exact absurd (List.mem_filter.mpr ⟨List.mem_range.mpr hi, q⟩) h
  unfold openB at hn
  unfold sgn
  rw [List.getD_eq_getElem?_getD]
  cases q : (rowAt rs i)[k]? with
  | none => rfl
  | some c =>
    have := (List.any_eq_false.mp hn) c (List.mem_of_getElem? q)
    simpa using this
/-- where the layers end well, each order through them fits -/
theorem lay_fits {rs : List (List Nat)} {n : Nat} {ls : List (List Nat)} (hs : ∀ i c, sgn (rowAt rs i) c = 43 ∨ sgn (rowAt rs i) c = 45 ∨ sgn (rowAt rs i) c = 46) (h : LayI rs n ls [] []) {g : List Nat → List Nat} (hg : ∀ l, (g l).Perm l) :
    (walked g ls).Perm (List.range n) ∧ ∀ i, i < rs.length → holdsB (rowAt rs i) (walked g ls) = true := by
  refine ⟨(walked_perm hg ls).trans (by have := h.perm; simpa using this), fun i hi => ?_⟩
  by_cases ho : i ∈ open0 rs
  · exact settled_holds hs hg (h.done i ho (by simp))
  · exact holds_dots fun k _ => closed_dots hi ho k
/-- where they end badly, no order fits -/
theorem lay_stuck' {rs : List (List Nat)} {n : Nat} {ls : List (List Nat)} {lf st : List Nat} (h : LayI rs n ls lf st) (hne : st ≠ []) (hl : lf.filter (fun k => !minB rs st k) = []) (hr : ∀ i, i < rs.length → (rowAt rs i).length ≤ n) (o : List Nat) (ho : o.Perm (List.range n)) : ∃ i ∈ st, holdsB (rowAt rs i) o = false := by
  have bar : ∀ k ∈ lf, ∃ i ∈ st, sgn (rowAt rs i) k = 45 := fun k hk => by
    have : minB rs st k = true := by
      cases q : minB rs st k with
      | true => rfl
      | false =>
        have hm : k ∈ lf.filter (fun k => !minB rs st k) := List.mem_filter.mpr ⟨hk, by rw [q]; rfl⟩
        rw [hl] at hm; cases hm
    obtain ⟨i, hi, z⟩ := List.any_eq_true.mp this
    exact ⟨i, hi, of_decide_eq_true z⟩
  have inn : ∀ i ∈ st, i < rs.length := fun i hi => List.mem_range.mp (List.mem_filter.mp (h.sub.subset hi)).1
  have pl : ∀ k < n, k ∉ lf → ∀ i ∈ st, sgn (rowAt rs i) k = 46 := fun k hk hn i hi => by
    have : k ∈ ls.flatten ++ lf := h.perm.mem_iff.mpr (List.mem_range.mpr hk)
    rcases List.mem_append.mp this with hm | hm
    · obtain ⟨l, hl, hk⟩ := List.mem_flatten.mp hm
      exact h.dots i hi l hl k hk
    · exact absurd hm hn
  have hlf : ∃ k ∈ lf, k < n := by
    obtain ⟨i, hi⟩ := List.exists_mem_of_ne_nil st hne
    have ho := (List.mem_filter.mp (h.sub.subset hi)).2
    obtain ⟨c, hc, z⟩ := List.any_eq_true.mp ho
    obtain ⟨k, hk, e⟩ := List.mem_iff_getElem.mp hc
    have hkn : k < n := Nat.lt_of_lt_of_le hk (hr i (inn i hi))
    by_cases hk2 : k ∈ lf
    · exact ⟨k, hk2, hkn⟩
    · have := pl k hkn hk2 i hi
      unfold sgn at this
      rw [List.getD_eq_getElem?_getD, List.getElem?_eq_getElem hk] at this
      have this : (rowAt rs i)[k] = 46 := this
      rw [e] at this
      rw [this] at z; cases z
  obtain ⟨k0, hk0, hk0n⟩ := hlf
  -- the first of the order that is in no layer
  have first : ∀ o : List Nat, (∃ k ∈ o, k ∈ lf) → ∃ p k q, o = p ++ k :: q ∧ k ∈ lf ∧ ∀ j ∈ p, j ∉ lf := fun o => by
    induction o with
    | nil => rintro ⟨k, hk, _⟩; cases hk
    | cons a o ih =>
      intro hx
      by_cases ha : a ∈ lf
      · exact ⟨[], a, o, rfl, ha, fun j hj => absurd hj (by simp)⟩
      · obtain ⟨k, hk, hk2⟩ := hx
        rcases List.mem_cons.mp hk with rfl | hk
        · exact absurd hk2 ha
        · obtain ⟨p, j, q, e, h1, h2⟩ := ih ⟨k, hk, hk2⟩
          refine ⟨a :: p, j, q, by rw [e]; rfl, h1, fun x hx => ?_⟩
          rcases List.mem_cons.mp hx with rfl | hx
          · exact ha
          · exact h2 x hx
  obtain ⟨p, k, q, e, h1, h2⟩ := first o ⟨k0, ho.mem_iff.mpr (List.mem_range.mpr hk0n), hk0⟩
  obtain ⟨i, hi, z⟩ := bar k h1
  refine ⟨i, hi, ?_⟩
  rw [e, holds_pre fun j hj => pl j (List.mem_range.mp (ho.mem_iff.mp (by rw [e]; exact List.mem_append_left _ hj))) (h2 j hj) i hi]
  unfold holdsB told
  rw [List.map_cons, List.filter_cons_of_pos (by rw [z]; decide), z]; rfl
/-! all orders -/
def allM (n : Nat) : Nat → List (List Nat)
  | 0 => [[]]
  | i + 1 => (allM n i).flatMap fun o => ((List.range n).filter fun k => !decide (k ∈ o)).map fun k => o ++ [k]
theorem allM_mem (n : Nat) : ∀ (i : Nat) (o : List Nat), o ∈ allM n i ↔ o.length = i ∧ o.Nodup ∧ ∀ k ∈ o, k < n
  | 0, o => by
    show o ∈ [[]] ↔ _
    constructor
    · intro h; rw [List.mem_singleton.mp h]; exact ⟨rfl, List.nodup_nil, fun k h => absurd h (by simp)⟩
    · rintro ⟨h, _⟩
      rw [List.length_eq_zero_iff.mp h]; exact List.mem_singleton.mpr rfl
  | i + 1, o => by
    show o ∈ List.flatMap _ _ ↔ _
    rw [List.mem_flatMap]
    constructor
    · rintro ⟨p, hp, ho⟩
      obtain ⟨k, hk, rfl⟩ := List.mem_map.mp ho
      obtain ⟨hk1, hk2⟩ := List.mem_filter.mp hk
      obtain ⟨l, nd, lt⟩ := (allM_mem n i p).mp hp
      have hkp : k ∉ p := by simpa using hk2
      refine ⟨by rw [List.length_append, l]; rfl, ?_, fun j hj => ?_⟩
      · rw [List.nodup_append]
        exact ⟨nd, by simp, fun a ha b hb e => by rw [List.mem_singleton.mp hb] at e; subst e; exact hkp ha⟩
      · rcases List.mem_append.mp hj with hj | hj
        · exact lt j hj
        · rw [List.mem_singleton.mp hj]; exact List.mem_range.mp hk1
    · rintro ⟨l, nd, lt⟩
      have hne : o ≠ [] := fun z => by rw [z] at l; cases l
      have e := List.dropLast_concat_getLast hne
      have nd' := nd
      rw [← e, List.nodup_append] at nd'
      refine ⟨o.dropLast, (allM_mem n i _).mpr ⟨by rw [List.length_dropLast, l]; rfl, nd'.1, fun k hk => lt k (List.dropLast_subset o hk)⟩, List.mem_map.mpr ⟨o.getLast hne, List.mem_filter.mpr ⟨List.mem_range.mpr (lt _ (List.getLast_mem hne)), ?_⟩, e⟩⟩
      have : o.getLast hne ∉ o.dropLast := fun z => nd'.2.2 _ z _ (List.mem_singleton.mpr rfl) rfl
      simpa using this
theorem nd_perm : ∀ (o m : List Nat), o.Nodup → (∀ k ∈ o, k ∈ m) → m.length ≤ o.length → o.Perm m
  | [], m, _, _, h => by
    have : m = [] := List.length_eq_zero_iff.mp (Nat.le_zero.mp h)
    subst this; exact .refl _
  | a :: o, m, nd, hm, hl => by
    have p := List.perm_cons_erase (hm a List.mem_cons_self)
    obtain ⟨n1, n2⟩ := List.nodup_cons.mp nd
    refine ((nd_perm o (m.erase a) n2 (fun k hk => (List.mem_erase_of_ne (fun e : k = a => n1 (by rw [← e]; exact hk))).mpr (hm k (List.mem_cons_of_mem _ hk))) ?_).cons a).trans p.symm
    have := p.length_eq
    rw [List.length_cons] at this hl
    omega
theorem perm_iff {n : Nat} {o : List Nat} : o.Perm (List.range n) ↔ o.length = n ∧ o.Nodup ∧ ∀ k ∈ o, k < n := by
  constructor
  · intro h
    exact ⟨by rw [h.length_eq, List.length_range], h.nodup_iff.mpr List.nodup_range, fun k hk => List.mem_range.mp (h.mem_iff.mp hk)⟩
  · rintro ⟨l, nd, lt⟩
    exact nd_perm o _ nd (fun k hk => List.mem_range.mpr (lt k hk)) (by rw [List.length_range, l]; exact Nat.le_refl _)
def fitM (rs : List (List Nat)) (n : Nat) : List (List Nat) := (allM n n).filter fun o => rs.all fun r => holdsB r o
theorem fitM_mem {rs : List (List Nat)} {n : Nat} {o : List Nat} : o ∈ fitM rs n ↔ o.Perm (List.range n) ∧ ∀ r ∈ rs, holdsB r o = true := by
  unfold fitM
  rw [List.mem_filter, allM_mem, perm_iff, List.all_eq_true]
theorem all_rows {rs : List (List Nat)} {p : List Nat → Prop} : (∀ r ∈ rs, p r) ↔ ∀ i, i < rs.length → p (rowAt rs i) := by
  constructor
  · intro h i hi
    unfold rowAt
    rw [List.getD_eq_getElem?_getD, List.getElem?_eq_getElem hi]
    exact h _ (List.getElem_mem hi)
  · intro h r hr
    obtain ⟨i, hi, rfl⟩ := List.mem_iff_getElem.mp hr
    have := h i hi
    unfold rowAt at this
    rw [List.getD_eq_getElem?_getD, List.getElem?_eq_getElem hi] at this
    exact this
end K18

namespace K18
open PySem PySem.Spec PyProof.Rows L2 Dw
variable [Tabs0]
theorem np_to {o : List Nat} {r : List D} (h : noPs r = true) : noPs (.tup (ordD o) :: r) = true := by show (noPs (ordD o) && noPs r) = true; rw [np_ord, h]; rfl
theorem np_lo {o : List Nat} {r : List D} (h : noPs r = true) : noPs (.lst (ordD o) :: r) = true := by show (noPs (ordD o) && noPs r) = true; rw [np_ord, h]; rfl
theorem np_tn {o : List (List Nat)} {r : List D} (h : noPs r = true) : noPs (.tup (nameD o) :: r) = true := by show (noPs (nameD o) && noPs r) = true; rw [np_name, h]; rfl
theorem np_ln {o : List (List Nat)} {r : List D} (h : noPs r = true) : noPs (.lst (nameD o) :: r) = true := by show (noPs (nameD o) && noPs r) = true; rw [np_name, h]; rfl
theorem np_bk {C : Addr} {ls rs : List (List Nat)} {r : List D} (h : noPs r = true) : noPs (bookD C ls rs :: r) = true := by
  have e := np_book C ls rs
  have e : (noP (bookD C ls rs) && true) = true := e
  rw [Bool.and_true] at e
  show (noP (bookD C ls rs) && noPs r) = true
  rw [e, h]; rfl
theorem rowAt_at {rs : List (List Nat)} {i : Nat} (h : i < rs.length) : atI (nameD rs) (i : Int) = some (.str (tx (rowAt rs i))) := by
  refine atI_nat ?_
  unfold nameD rowAt
  rw [List.getElem?_map, List.getElem?_eq_getElem h, List.getD_eq_getElem?_getD, List.getElem?_eq_getElem h]; rfl
theorem rowAt_ok {rs : List (List Nat)} {n i : Nat} (h : ∀ r ∈ rs, RowOk r n) (hi : i < rs.length) : RowOk (rowAt rs i) n := by
  unfold rowAt
  rw [List.getD_eq_getElem?_getD, List.getElem?_eq_getElem hi]
  exact h _ (List.getElem_mem hi)
theorem rowAt_sgn {rs : List (List Nat)} {n : Nat} (h : ∀ r ∈ rs, RowOk r n) (i c : Nat) : sgn (rowAt rs i) c = 43 ∨ sgn (rowAt rs i) c = 45 ∨ sgn (rowAt rs i) c = 46 := by
  by_cases hi : i < rs.length
  · exact sgn_is (rowAt_ok h hi) c
  · unfold rowAt sgn
    rw [List.getD_eq_getElem?_getD (l := rs), List.getElem?_eq_none (by omega)]
    exact .inr (.inr rfl)
/-- the plain texts of a row -/
theorem ev_inC {K : PySem.W.Frag} {ta t : TE} {Γ : Gam} {r' : R2} {c : Nat} {l : List Nat} (ha : Ev ta Γ (.str (ch c))) (h : EvB t Γ (chD l)) : Ev (tOp (rOr (rIn K false) r') ta t) Γ (.bl (decide (c ∈ l))) := by
  have e := ev_in (neg := false) (K := K) (r' := r') ha h rfl (sc_ch l)
  rw [show (if false = true then !inV (scV (.str (ch c))) ((chD l).map scV) else inV (scV (.str (ch c))) ((chD l).map scV)) = decide (c ∈ l) from inV_ch c l] at e
  exact e
theorem sgn_ev {K : PySem.W.Frag} {ta tb : TE} {Γ : Gam} {l : List Nat} {n k : Nat} (h : RowOk l n) (h8 : n ≤ 8) (hk : k < n) (ha : Ev ta Γ (.str (tx l))) (hb : Ev tb Γ (.int k)) : Ev (tOp (rIx K) ta tb) Γ (.str (ch (sgn l k))) := ev_op ha hb (dr2_ixS (h.sz h8) (sgn_at h.len hk))
theorem mem_mapB {l : List Nat} {f : Nat → Nat} {c : Nat} : decide (c ∈ l.map f) = l.any fun k => decide (f k = c) := by
  rw [Bool.eq_iff_iff, decide_eq_true_eq, List.mem_map, List.any_eq_true]
  simp only [decide_eq_true_eq]
def spHasSign : Spc where
  ty := List Nat × List Nat × Nat
  args := fun x => [.str (tx x.1), .lst (ordD x.2.1), .str (ch x.2.2)]
  ok := fun x => ∃ n, RowOk x.1 n ∧ n ≤ 8 ∧ x.2.1.length ≤ 8 ∧ ∀ k ∈ x.2.1, k < n
  rel := fun x d => d = .bl (x.2.1.any fun k => decide (sgn x.1 k = x.2.2))
def rowsD (b : Bool) (rs : List (List Nat)) : D := if b = true then .lst (nameD rs) else .tup (nameD rs)
def spSplit : Spc where
  ty := List (List Nat) × Nat × Bool
  args := fun x => [rowsD x.2.2 x.1, .int x.2.1]
  ok := fun x => (∀ r ∈ x.1, RowOk r x.2.1) ∧ x.2.1 ≤ 8 ∧ x.1.length ≤ 1000
  rel := fun x d => d = .tup [.lst (ordT (splitM x.1 x.2.1).1), .lst (ordD (splitM x.1 x.2.1).2)]
theorem np_rd {b : Bool} {o : List (List Nat)} {r : List D} (h : noPs r = true) : noPs (rowsD b o :: r) = true := by
  cases b with
  | true => exact np_ln h
  | false => exact np_tn h
theorem ev_rowsD {K : PySem.W.Frag} {ta tb : TE} {Γ : Gam} {b : Bool} {rs : List (List Nat)} {i : Nat} (hi : i < rs.length) (ha : Ev ta Γ (rowsD b rs)) (hb : Ev tb Γ (.int i)) : Ev (tOp (rIx K) ta tb) Γ (.str (tx (rowAt rs i))) := by
  cases b with
  | true => exact ev_ix (Ev.b (ds := nameD rs) ha) hb (rowAt_at hi)
  | false => exact ev_ixT (ds := nameD rs) ha hb (rowAt_at hi)
theorem ei_rowsD {K : PySem.W.Frag} {ta : TE} {Γ : Gam} {b : Bool} {rs : List (List Nat)} (ha : Ev ta Γ (rowsD b rs)) : Ei (fun σ H R => iEnum K (tCons ta tNil) σ H R ∨ iEnumT K (tCons ta tNil) σ H R) Γ (enumD (nameD rs)) := by
  cases b with
  | true => exact ei_enumL (Ev.b (ds := nameD rs) ha)
  | false => exact ei_enumT ha
theorem enum_rows (rs : List (List Nat)) : enumD (nameD rs) = (List.range rs.length).map fun (i : Nat) => D.tup [.int i, .str (tx (rowAt rs i))] := by
  apply List.ext_getElem?
  intro i
  by_cases hi : i < rs.length
  · obtain ⟨x, hx⟩ : ∃ x, (enumD (nameD rs))[i]? = some x := ⟨_, List.getElem?_eq_getElem (by rw [enumD_length, nameD_len]; exact hi)⟩
    obtain ⟨y, hy, rfl⟩ := enumD_get hx
    rw [hx, List.getElem?_map, List.getElem?_range hi]
    have hy' : (rs.map fun l => D.str (tx l))[i]? = some y := hy
    rw [List.getElem?_map, List.getElem?_eq_getElem hi] at hy'
    cases hy'
    show _ = some (D.tup [.int i, .str (tx (rowAt rs i))])
    unfold rowAt
    rw [List.getD_eq_getElem?_getD, List.getElem?_eq_getElem hi]; rfl
  · rw [List.getElem?_eq_none (by rw [enumD_length, nameD_len]; omega), List.getElem?_eq_none (by simpa using hi)]
theorem open_of {rs : List (List Nat)} {n i : Nat} (h : RowOk (rowAt rs i) n) : (decide (43 ∈ rowAt rs i) || decide (45 ∈ rowAt rs i)) = openB rs i := by
  unfold openB
  rw [Bool.eq_iff_iff, Bool.or_eq_true, decide_eq_true_eq, decide_eq_true_eq, List.any_eq_true]
  constructor
  · rintro (h | h)
    · exact ⟨_, h, rfl⟩
    · exact ⟨_, h, rfl⟩
  · rintro ⟨c, hc, hn⟩
    rcases h.all c hc with rfl | rfl | rfl
    · exact .inl hc
    · exact .inr hc
    · exact absurd hn (by decide)
theorem nin_filter {p : Nat → Bool} (l : List Nat) : (l.filter fun k => !decide (k ∈ l.filter p)) = l.filter fun k => !p k := by
  refine List.filter_congr fun k hk => ?_
  congr 1
  rw [Bool.eq_iff_iff, decide_eq_true_eq, List.mem_filter]
  exact ⟨fun h => h.2, fun h => ⟨hk, h⟩⟩
theorem isEmpty_ord (l : List Nat) : (ordD l).isEmpty = decide (l = []) := by cases l <;> rfl
theorem ordT_snoc (ms : List (List Nat)) (l : List Nat) : ordT ms ++ [D.tup (ordD l)] = ordT (ms ++ [l]) := by unfold ordT; rw [List.map_append]; rfl
end K18

namespace K18
open PySem PySem.Spec PyProof.Rows L2 Dw
variable [Tabs0]
theorem d_has_sign {P : Program} {w : World} {K : PySem.W.Frag} {mg : Str → Option Value} {base : Heap} (T : Txt K w mg) : FnOk P w K mg base CX0 1 T.f_has_sign T.e_has_sign ["row", "rules", "sign"] (toSp (spHasSign)) := by
  refine fn_ok T.F_has_sign sc_has_sign (fun _ => rfl) fun cdv A outer s' H E hr => ?_
  refine ⟨_, (pss_one (ps_ret (pe_cmpR (inA K) (pv 2) (pe_lc (own := [("rule", 3)]) rfl sc_has_sign.nd (piR K (pv 1)) (blkOk_by (own := [("rule", 3)]) (N := N_has_sign) (sc := (defScope s_has_sign)) (by decide +kernel)) (fun _ _ _ _ _ => pg_name (i := 3) sc_has_sign.nd rfl (Or.inl rfl)) (fun _ _ _ _ _ => pts_nil) (fun _ _ _ _ _ => (pe_ix (ixA K) (pv 0) (pv 3) (fun _ _ => rfl)))) (by rfl)))), fun x hx => ?_⟩
  obtain ⟨l, o, c⟩ := x
  obtain ⟨n, hl, h8, hz, hk⟩ := hx
  have hl : RowOk l n := hl
  have hz : o.length ≤ 8 := hz
  have hk : ∀ k ∈ o, k < n := hk
  refine ds_ret (Ev.dl (ev_cast (congrArg D.bl mem_mapB) (ev_inC (l := o.map (sgn l)) (ev_var rfl) (EvN.b ?_))) rfl)
  have e : chD (o.map (sgn l)) = o.map fun k => D.str (ch (sgn l k)) := by unfold chD; rw [List.map_map]; rfl
  rw [e]
  exact evn_lc1 (xs := o) (c := fun k : Nat => D.int k) (ej_list (ev_var (d := .lst (ordD o)) rfl).b) (by omega) fun k hk' => ⟨[3], _, dg_name, fun i hi => hi, evt_yes, sgn_ev hl h8 (hk k hk') (ev_var rfl) (ev_var rfl)⟩
end K18

namespace K18
open PySem PySem.Spec PyProof.Rows L2 Dw
variable [Tabs0]
theorem lay_step {rs : List (List Nat)} {f : Nat} {made : List (List Nat)} {left still : List Nat} (h1 : still ≠ []) : layF rs (f + 1) made left still = if left.filter (fun k => !minB rs still k) = [] then (made, still) else layF rs f (made ++ [left.filter fun k => !minB rs still k]) (left.filter (minB rs still)) (still.filter fun i => !plusB rs (left.filter fun k => !minB rs still k) i) := by
  show (if still = [] then _ else _) = _
  rw [if_neg h1]
theorem lay_done {rs : List (List Nat)} {f : Nat} {made : List (List Nat)} {left : List Nat} : layF rs (f + 1) made left [] = (if left = [] then made else made ++ [left], []) := by
  show (if _ then _ else _) = _
  rw [if_pos rfl]
/-- what stays so while layers are made -/
structure Mk (rs : List (List Nat)) (n m : Nat) (made : List (List Nat)) (left still : List Nat) : Prop where
  eq : layF rs m made left still = splitM rs n
  lt : left.length < m
  few : made.length + left.length ≤ n
  ltn : ∀ k ∈ left, k < n
  ltr : ∀ i ∈ still, i < rs.length
  fst : still.length ≤ rs.length
  flat : made.flatten.length + left.length ≤ n
theorem mk_0 (rs : List (List Nat)) (n : Nat) : Mk rs n (n + 1) [] (List.range n) (open0 rs) := ⟨rfl, by rw [List.length_range]; omega, by rw [List.length_range]; exact Nat.le_of_eq (Nat.zero_add n), fun k h => List.mem_range.mp h, fun i h => List.mem_range.mp (List.mem_filter.mp h).1, by
  have := List.length_filter_le (openB rs) (List.range rs.length)
  rw [List.length_range] at this; exact this, by rw [List.length_range]; exact Nat.le_of_eq (Nat.zero_add n)⟩
theorem Mk.next {rs n m made left still} (h : Mk rs n (m + 1) made left still) (h1 : still ≠ []) (h2 : left.filter (fun k => !minB rs still k) ≠ []) : Mk rs n m (made ++ [left.filter fun k => !minB rs still k]) (left.filter (minB rs still)) (still.filter fun i => !plusB rs (left.filter fun k => !minB rs still k) i) := by
  have l := lay_len h2
  have e := h.eq
  rw [lay_step h1, if_neg h2] at e
  refine ⟨e, by have := h.lt; omega, ?_, fun k hk => h.ltn k (List.mem_filter.mp hk).1, fun i hi => h.ltr i (List.mem_filter.mp hi).1, Nat.le_trans (List.length_filter_le _ _) h.fst, ?_⟩
  · have := h.few
    rw [List.length_append]
    show made.length + 1 + _ ≤ n
    omega
  · have := h.flat
    have e2 := (filter_split (minB rs still) left).length_eq
    rw [List.length_append] at e2
    rw [List.flatten_append, List.length_append]
    simp only [List.flatten_cons, List.flatten_nil, List.append_nil]
    omega
def layOut (rs : List (List Nat)) (n : Nat) : D := .tup [.lst (ordT (splitM rs n).1), .lst (ordD (splitM rs n).2)]
theorem minB_any {rs : List (List Nat)} {still : List Nat} {k : Nat} : decide (45 ∈ still.map fun i => sgn (rowAt rs i) k) = minB rs still k := mem_mapB
def spLay (C : Addr) : Spc where
  ty := Bk
  args := fun x => [bookD C x.1 x.2]
  ok := fun x => BookOk x.1 x.2
  rel := fun x d => d = if (splitM x.2 x.1.length).2 = [] then .tup (ordT (splitM x.2 x.1.length).1) else .non
def spOver (C : Addr) : Spc where
  ty := Bk
  args := fun x => [bookD C x.1 x.2]
  ok := fun x => BookOk x.1 x.2
  rel := fun x d => d = if (splitM x.2 x.1.length).2 = [] then .non else .tup (ordD (splitM x.2 x.1.length).2)
theorem BookOk.n8 {ls rs} (h : BookOk ls rs) : ls.length ≤ 8 := h.names.hi
theorem ev_names {C : Addr} {K : PySem.W.Frag} {t : TE} {Γ : Gam} {ls rs : List (List Nat)} (h : Ev t Γ (.tup (nameD ls))) : Ev (tCB (Dw.rLen K) (tCons t tNil)) Γ (.int (ls.length : Nat)) := ev_cast (congrArg (fun n : Nat => D.int n) (nameD_len ls)) (ev_lenT (ds := nameD ls) h)
end K18

namespace K18
open PySem PySem.Spec PyProof.Rows L2 Dw
variable [Tabs0]
theorem d_split {P : Program} {w : World} {K : PySem.W.Frag} {mg : Str → Option Value} {base : Heap} (T : Txt K w mg) : FnOk P w K mg base CX0 2 T.f_split T.e_split ["rows", "many"] (toSp (spSplit)) := by
  refine fn_ok T.F_split sc_split (fun _ => rfl) fun cdv A outer s' H E hr => ?_
  refine ⟨_, (pss_cons (ps_set (i := 2) sc_split.nd rfl (Or.inl rfl) (pe_lst pa_nil)) (pss_cons (ps_set (i := 3) sc_split.nd rfl (Or.inl rfl) (pe_listRg rfl (by rfl) T.n_list (prg_1 (by rfl) T.n_range (pv 1)))) (pss_cons (ps_set (i := 4) sc_split.nd rfl (Or.inr rfl) (pe_lc (own := [("index", 7), ("row", 8)]) rfl sc_split.nd (enumTA K (by rfl) T.n_enumerate (pa_cons (pv 0) pa_nil)) (blkOk_by (own := [("index", 7), ("row", 8)]) (N := N_split) (sc := (defScope s_split)) (by decide +kernel)) (fun _ _ _ _ _ => tupA K 2 rfl (pgs_cons (pg_name (i := 7) sc_split.nd rfl (Or.inl rfl)) (pgs_cons (pg_name (i := 8) sc_split.nd rfl (Or.inl rfl)) pgs_nil))) (fun _ _ _ _ _ => pts_one (PW.pt (pw_or (pt_cmpR (inA K) pe_str (pv 8) (by rfl)) (pw_or1 (pt_cmpR (inA K) pe_str (pv 8) (by rfl)))))) (fun _ _ _ _ _ => (pv 7)))) (pss_cons (ps_while PassesOwn.never (truA K (pv 4)) (pss_cons (ps_set (i := 5) sc_split.nd rfl (Or.inr rfl) (pe_lc (own := [("rule", 9)]) rfl sc_split.nd (piR K (pv 3)) (blkOk_by (own := [("rule", 9)]) (N := N_split) (sc := (defScope s_split)) (by decide +kernel)) (fun _ _ _ _ _ => pg_name (i := 9) sc_split.nd rfl (Or.inr rfl)) (fun _ _ _ _ _ => pts_one (pt_cmpR (inA K) pe_str (pe_lc (own := [("index", 7)]) rfl sc_split.nd (piR K (pv 4)) (blkOk_by (own := [("index", 7)]) (N := N_split) (sc := (relS { kind := .function, names := [(".0", .local), ("rule", .cell), ("rows", .free), ("still", .free)], isGenerator := false, isCoroutine := false, more := [] } (defScope s_split))) (by decide +kernel)) (fun _ _ _ _ _ => pg_name (i := 7) sc_split.nd rfl (Or.inl rfl)) (fun _ _ _ _ _ => pts_nil) (fun _ _ _ _ _ => (pe_ix (ixA K) (pe_ix (ixA K) (pv 0) (pv 7) (fun _ _ => rfl)) (pv 9) (fun _ _ => rfl)))) (by rfl))) (fun _ _ _ _ _ => (pv 9)))) (pss_cons (ps_set (i := 6) sc_split.nd rfl (Or.inr rfl) (pe_lc (own := [("rule", 9)]) rfl sc_split.nd (piR K (pv 3)) (blkOk_by (own := [("rule", 9)]) (N := N_split) (sc := (defScope s_split)) (by decide +kernel)) (fun _ _ _ _ _ => pg_name (i := 9) sc_split.nd rfl (Or.inl rfl)) (fun _ _ _ _ _ => pts_one (pt_cmpR (ninA K) (pv 9) (pv 5) (by rfl))) (fun _ _ _ _ _ => (pv 9)))) (pss_cons (ps_if (pt_not (truA K (pv 6))) (pss_one (ps_ret (pe_tup (pa_cons (pv 2) (pa_cons (pv 4) pa_nil))))) pss_nil) (pss_cons (ps_expr (bmA K PySem.F.plainAttrs_list PySem.F.slot_list_append PySem.F.type_list_append mt_append (pv 2) (pa_cons (pe_callTy (tupleA K) (by rfl) T.n_tuple (by decide +kernel) (pa_cons (pv 6) pa_nil)) pa_nil))) (pss_cons (ps_set (i := 3) sc_split.nd rfl (Or.inl rfl) (pv 5)) (pss_one (ps_set (i := 4) sc_split.nd rfl (Or.inr rfl) (pe_lc (own := [("index", 7)]) rfl sc_split.nd (piR K (pv 4)) (blkOk_by (own := [("index", 7)]) (N := N_split) (sc := (defScope s_split)) (by decide +kernel)) (fun _ _ _ _ _ => pg_name (i := 7) sc_split.nd rfl (Or.inl rfl)) (fun _ _ _ _ _ => pts_one (pt_not (truA K (pe_call (d_has_sign T) (hr.mono (by decide)) (by rfl) T.m_has_sign T.F_has_sign.kp T.b_has_sign .nil pass0 (pa_cons (pe_ix (ixA K) (pv 0) (pv 7) (fun _ _ => rfl)) (pa_cons (pv 6) (pa_cons pe_str pa_nil))))))) (fun _ _ _ _ _ => (pv 7))))))))))) (pss_cons (ps_if (truA K (pv 3)) (pss_one (ps_expr (bmA K PySem.F.plainAttrs_list PySem.F.slot_list_append PySem.F.type_list_append mt_append (pv 2) (pa_cons (pe_callTy (tupleA K) (by rfl) T.n_tuple (by decide +kernel) (pa_cons (pv 3) pa_nil)) pa_nil)))) pss_nil) (pss_one (ps_ret (pe_tup (pa_cons (pv 2) (pa_cons (pv 4) pa_nil)))))))))), fun x hx => ?_⟩
  obtain ⟨rs, n, b⟩ := x
  obtain ⟨hr', h8, hz⟩ := hx
  have hr' : ∀ r ∈ rs, RowOk r n := hr'
  have h8 : n ≤ 8 := h8
  have hz : rs.length ≤ 1000 := hz
  have hat : ∀ i, i < rs.length → RowOk (rowAt rs i) n := fun i hi => rowAt_ok hr' hi
  refine ds_seq (ds_asg_own (evn_lst eva_nil (Nat.zero_le _)) ?_)
  refine ds_seq (ds_asg (Ev.dl (EvN.ev (evn_listRg (n := n) (ev_var rfl) (by omega))) ?_))
  refine ds_seq (ds_asg (Ev.dl (ev_cast (d' := .lst (ordD (open0 rs))) rfl (EvN.ev (evn_lc (xs := List.range rs.length) (c := fun (i : Nat) => D.tup [.int i, .str (tx (rowAt rs i))]) (p := openB rs) (f := fun (i : Nat) => D.int i) ?it (by rw [List.length_range]; omega) fun i hi => ⟨[7] ++ [8], _, dg_tup2 dg_name dg_name, fun i hi => hi, ?tst, fun _ => ev_var rfl⟩))) ?_))
  case it =>
    rw [← enum_rows]
    exact ei_rowsD (ev_var rfl)
  case tst =>
    rw [← open_of (hat i (List.mem_range.mp hi))]
    have e1 := in_code (K := K) (l := rowAt rs i) (c := 43)
    have e2 := in_code (K := K) (l := rowAt rs i) (c := 45)
    rw [← ch_plus] at e1
    rw [← ch_minus] at e2
    exact evt_or (evt_test (ev_op ev_str (ev_var rfl) e1)) fun _ => evt_test (ev_op ev_str (ev_var rfl) e2)
  refine ds_seq (ds_while (fun m Γ' => ∃ (made : List (List Nat)) (left still : List Nat) (s5 s6 s7 s8 s9 : Sl), Γ' = [.val (rowsD b rs), .val (.int n), .own (ordT made), .val (.lst (ordD left)), .val (.lst (ordD still)), s5, s6, s7, s8, s9] ∧ Mk rs n m made left still)
    (n + 1) ⟨[], List.range n, open0 rs, _, _, _, _, _, rfl, mk_0 rs n⟩ fun m Γ' ⟨made, left, still, s5, s6, s7, s8, s9, e, mk⟩ => ?_)
  subst e
  obtain ⟨f, rfl⟩ : ∃ f, m = f + 1 := ⟨m - 1, by have := mk.lt; omega⟩
  refine EvT.dl (evt_tru_lst (ev_var (d := .lst (ordD still)) rfl).b) ⟨fun h => ?_, fun h => ?_⟩
  · have h1 : still ≠ [] := fun z => by rw [z] at h; cases h
    have l8 : left.length ≤ 8 := by have := mk.few; omega
    refine ds_seq (ds_asg (Ev.dl (ev_cast (d' := .lst (ordD (left.filter (minB rs still)))) rfl (EvN.ev (evn_lc (xs := left) (c := fun k : Nat => D.int k) (p := minB rs still) (f := fun k : Nat => D.int k) (ej_list (ev_var (d := .lst (ordD left)) rfl).b) (by omega) fun k hk => ⟨[9], _, dg_name, fun i hi => hi, ?bt, fun _ => ev_var rfl⟩))) ?_))
    case bt =>
      rw [← minB_any]
      refine evt_test (ev_inC (l := still.map fun i => sgn (rowAt rs i) k) (ev_cast (congrArg D.str ch_minus) ev_str) (EvN.b ?_))
      have e : chD (still.map fun i => sgn (rowAt rs i) k) = still.map fun i => D.str (ch (sgn (rowAt rs i) k)) := by unfold chD; rw [List.map_map]; rfl
      rw [e]
      exact evn_lc1 (xs := still) (c := fun i : Nat => D.int i) (ej_list (ev_var (d := .lst (ordD still)) rfl).b) (by have := mk.fst; omega) fun i hi => ⟨[7], _, dg_name, fun i hi => hi, evt_yes, sgn_ev (hat i (mk.ltr i hi)) h8 (mk.ltn k hk) (ev_rowsD (mk.ltr i hi) (ev_var (d := rowsD b rs) rfl) (ev_var rfl)) (ev_var rfl)⟩
    refine ds_seq (ds_asg (Ev.dl (ev_cast (d' := .lst (ordD (left.filter fun k => !minB rs still k))) ?c1 (EvN.ev (evn_lc (xs := left) (c := fun k : Nat => D.int k) (p := fun k => !decide (k ∈ left.filter (minB rs still))) (f := fun k : Nat => D.int k) (ej_list (ev_var (d := .lst (ordD left)) rfl).b) (by omega) fun k hk => ⟨[9], _, dg_name, fun i hi => hi, evt_test (ev_inO (neg := true) (l := left.filter (minB rs still)) (ev_var rfl) (ev_var (d := .lst (ordD (left.filter (minB rs still)))) rfl).b), fun _ => ev_var rfl⟩))) ?_))
    case c1 => rw [nin_filter]; rfl
    refine ds_seq (ds_if (EvT.dl (evt_not (evt_tru_lst (ev_var (d := .lst (ordD (left.filter fun k => !minB rs still k))) rfl).b)) ⟨fun h2 => ?_, fun h2 => ds_next ?_⟩))
    · rw [isEmpty_ord, Bool.not_not] at h2
      have h2 := of_decide_eq_true h2
      have e := mk.eq
      rw [lay_step h1, if_pos h2] at e
      refine ds_freeze 2 rfl (ds_ret (Ev.dl (ev_tup (eva_cons (ev_var (d := .lst (ordT made)) rfl) (eva_cons (ev_var (d := .lst (ordD still)) rfl) eva_nil)) (small (show 2 ≤ 100000 by decide))) ?_))
      show D.tup [.lst (ordT made), .lst (ordD still)] = layOut rs n
      unfold layOut
      rw [← e]
    · rw [isEmpty_ord, Bool.not_not] at h2
      have h2 := of_decide_eq_false h2
      have mk2 := mk.next h1 h2
      refine ds_seq (ds_drop (dl_append ⟨_, rfl⟩ (dla_cons (Ev.dl (ev_tuple (ev_var (d := .lst (ordD (left.filter fun k => !minB rs still k))) rfl).b) (dla_nil ⟨_, ordT made, rfl, rfl, ?_, ?_⟩)))))
      · rw [ordT_len]; have := mk.few; exact Nat.lt_of_le_of_lt (by omega : made.length ≤ 8) (by decide)
      · rw [ordT_snoc]
        refine ds_seq (ds_asg (Ev.dl (ev_var (d := .lst (ordD (left.filter (minB rs still)))) rfl) ?_))
        refine ds_asg (Ev.dl (EvN.ev (evn_lc (xs := still) (c := fun k : Nat => D.int k) (p := fun i => !plusB rs (left.filter fun k => !minB rs still k) i) (f := fun k : Nat => D.int k) (ej_list (ev_var (d := .lst (ordD still)) rfl).b) (by have := mk.fst; omega) fun i hi => ⟨[7], _, dg_name, fun i hi => hi, evt_not (evt_tru_bl (ev_call (s := spHasSign) (x := (rowAt rs i, left.filter fun k => !minB rs still k, 43)) (eva_cons (ev_rowsD (mk.ltr i hi) (ev_var (d := rowsD b rs) rfl) (ev_var rfl)) (eva_cons (ev_var rfl) (eva_cons (ev_cast (congrArg D.str ch_plus) ev_str) eva_nil))) (np_lo (r := [_]) rfl) ⟨n, hat i (mk.ltr i hi), h8, Nat.le_trans (List.length_filter_le _ _) l8, fun k hk => mk.ltn k (List.mem_filter.mp hk).1⟩ fun d h => h)), fun _ => ev_var rfl⟩)) ?_)
        exact ⟨f, Nat.lt_succ_self f, _, _, _, _, _, _, _, _, rfl, mk2⟩
  · have h1 : still = [] := by
      rw [isEmpty_ord] at h
      simpa using h
    subst h1
    have e := mk.eq
    rw [lay_done] at e
    have fin : ∀ (ms : List (List Nat)) (s3 s4' : Sl), ms = (splitM rs n).1 → Ds (tRet (tTup (tCons (tVar 2) (tCons (tVar 4) tNil)))) [.val (rowsD b rs), .val (.int n), .own (ordT ms), s3, .val (.lst (ordD [])), s5, s6, s7, s8, s9] { nx := fun _ => spSplit.rel (rs, n, b) D.non, rt := spSplit.rel (rs, n, b) } := fun ms s3 s4' hm => by
      refine ds_freeze 2 rfl (ds_ret (Ev.dl (ev_tup (eva_cons (ev_var (d := .lst (ordT ms)) rfl) (eva_cons (ev_var (d := .lst (ordD [])) rfl) eva_nil)) (small (show 2 ≤ 100000 by decide))) ?_))
      show D.tup [.lst (ordT ms), .lst (ordD [])] = layOut rs n
      unfold layOut
      rw [hm, show (splitM rs n).2 = [] by rw [← e]]
    refine ds_seq (ds_if (EvT.dl (evt_tru_lst (ev_var (d := .lst (ordD left)) rfl).b) ⟨fun h2 => ?_, fun h2 => ds_next ?_⟩))
    · have h2 : left ≠ [] := fun z => by rw [z] at h2; cases h2
      rw [if_neg h2] at e
      refine ds_drop (dl_append ⟨_, rfl⟩ (dla_cons (Ev.dl (ev_tuple (ev_var (d := .lst (ordD left)) rfl).b) (dla_nil ⟨_, ordT made, rfl, rfl, ?_, ?_⟩))))
      · rw [ordT_len]; have := mk.few; exact Nat.lt_of_le_of_lt (by omega : made.length ≤ 8) (by decide)
      · rw [ordT_snoc]
        exact fin _ _ s5 (by rw [← e])
    · have h2 : left = [] := by rw [isEmpty_ord] at h2; simpa using h2
      rw [if_pos h2] at e
      exact fin _ _ s5 (by rw [← e])
end K18

namespace K18
open PySem PySem.Spec PyProof.Rows L2 Dw
variable [Tabs0]
theorem d_layers {P : Program} {w : World} {K : PySem.W.Frag} {mg : Str → Option Value} {base : Heap} (T : Txt K w mg) : FnOk P w K mg base CX0 3 T.f_layers T.e_layers ["book"] (toSp (spLay T.C_Book)) := by
  refine fn_ok T.F_layers sc_layers (fun _ => rfl) fun cdv A outer s' H E hr => ?_
  refine ⟨_, (pss_cons (ps_expr (pe_call (d_check_book T) (hr.mono (by decide)) (by rfl) T.m_check_book T.F_check_book.kp T.b_check_book .nil pass0 (pa_cons (pv 0) pa_nil))) (pss_cons (ps_asg (pe_call (d_split T) (hr.mono (by decide)) (by rfl) T.m_split T.F_split.kp T.b_split .nil pass0 (pa_cons (pe_prop (pv 0) T.cl_Book T.p_Book_rows (d_Book_rows T) (hr.mono (by decide)) T.b_Book_rows .nil pass0 rfl) (pa_cons (pe_callB (lenA K) (by rfl) T.n_len (by decide +kernel) (pa_cons (pe_prop (pv 0) T.cl_Book T.p_Book_names (d_Book_names T) (hr.mono (by decide)) T.b_Book_names .nil pass0 rfl) pa_nil)) pa_nil))) (tupA K 2 rfl (pgs_cons (pg_name (i := 1) sc_layers.nd rfl (Or.inl rfl)) (pgs_cons (pg_name (i := 2) sc_layers.nd rfl (Or.inl rfl)) pgs_nil)))) (pss_one (ps_ret (pe_ifExp (truA K (pv 2)) pe_non (pe_callTy (tupleA K) (by rfl) T.n_tuple (by decide +kernel) (pa_cons (pv 1) pa_nil))))))), fun x hx => ?_⟩
  obtain ⟨ls, rs⟩ := x
  have hb : BookOk ls rs := hx
  refine ds_seq (ds_drop (Ev.dl (ev_call (s := spCheck T.C_Book) (x := (ls, rs)) (eva_cons (ev_var rfl) eva_nil) (np_book _ ls rs) trivial fun d h => h) ?_))
  refine ds_seq (ds_asg_g (Ev.dl (ev_call (s := spSplit) (x := (rs, ls.length, false)) (eva_cons (ev_prop (s := spBRows T.C_Book) (x := (ls, rs)) (ev_var rfl) rfl (np_book _ ls rs) trivial fun d h => h) (eva_cons (ev_names (C := T.C_Book) (rs := rs) (ev_prop (s := spBNames T.C_Book) (x := (ls, rs)) (ev_var rfl) rfl (np_book _ ls rs) trivial fun d h => h)) eva_nil)) (np_rd (b := false) (r := [_]) rfl) ⟨hb.rows, hb.n8, Nat.le_trans hb.few (by decide)⟩ fun d h => h) ⟨[1] ++ [2], _, dg_tup2 dg_name dg_name, ?_⟩))
  refine ds_ret (Ev.dl (ev_if (a := !(ordD (splitM rs ls.length).2).isEmpty) (evt_tru_lst (ev_var (d := .lst (ordD (splitM rs ls.length).2)) rfl).b) (fun _ => ev_non) fun _ => ev_tuple (ev_var (d := .lst (ordT (splitM rs ls.length).1)) rfl).b) ?_)
  show (if _ then _ else _) = if _ then _ else _
  rw [isEmpty_ord]
  by_cases h : (splitM rs ls.length).2 = []
  · rw [if_pos h, if_neg (by rw [h]; decide)]
  · rw [if_neg h, if_pos (by simp [h])]
end K18

namespace K18
open PySem PySem.Spec PyProof.Rows L2 Dw
variable [Tabs0]
theorem d_left_over {P : Program} {w : World} {K : PySem.W.Frag} {mg : Str → Option Value} {base : Heap} (T : Txt K w mg) : FnOk P w K mg base CX0 3 T.f_left_over T.e_left_over ["book"] (toSp (spOver T.C_Book)) := by
  refine fn_ok T.F_left_over sc_left_over (fun _ => rfl) fun cdv A outer s' H E hr => ?_
  refine ⟨_, (pss_cons (ps_expr (pe_call (d_check_book T) (hr.mono (by decide)) (by rfl) T.m_check_book T.F_check_book.kp T.b_check_book .nil pass0 (pa_cons (pv 0) pa_nil))) (pss_cons (ps_asg (pe_call (d_split T) (hr.mono (by decide)) (by rfl) T.m_split T.F_split.kp T.b_split .nil pass0 (pa_cons (pe_prop (pv 0) T.cl_Book T.p_Book_rows (d_Book_rows T) (hr.mono (by decide)) T.b_Book_rows .nil pass0 rfl) (pa_cons (pe_callB (lenA K) (by rfl) T.n_len (by decide +kernel) (pa_cons (pe_prop (pv 0) T.cl_Book T.p_Book_names (d_Book_names T) (hr.mono (by decide)) T.b_Book_names .nil pass0 rfl) pa_nil)) pa_nil))) (tupA K 2 rfl (pgs_cons (pg_name (i := 1) sc_left_over.nd rfl (Or.inl rfl)) (pgs_cons (pg_name (i := 2) sc_left_over.nd rfl (Or.inl rfl)) pgs_nil)))) (pss_one (ps_ret (pe_ifExp (truA K (pv 2)) (pe_callTy (tupleA K) (by rfl) T.n_tuple (by decide +kernel) (pa_cons (pv 2) pa_nil)) pe_non))))), fun x hx => ?_⟩
  obtain ⟨ls, rs⟩ := x
  have hb : BookOk ls rs := hx
  refine ds_seq (ds_drop (Ev.dl (ev_call (s := spCheck T.C_Book) (x := (ls, rs)) (eva_cons (ev_var rfl) eva_nil) (np_book _ ls rs) trivial fun d h => h) ?_))
  refine ds_seq (ds_asg_g (Ev.dl (ev_call (s := spSplit) (x := (rs, ls.length, false)) (eva_cons (ev_prop (s := spBRows T.C_Book) (x := (ls, rs)) (ev_var rfl) rfl (np_book _ ls rs) trivial fun d h => h) (eva_cons (ev_names (C := T.C_Book) (rs := rs) (ev_prop (s := spBNames T.C_Book) (x := (ls, rs)) (ev_var rfl) rfl (np_book _ ls rs) trivial fun d h => h)) eva_nil)) (np_rd (b := false) (r := [_]) rfl) ⟨hb.rows, hb.n8, Nat.le_trans hb.few (by decide)⟩ fun d h => h) ⟨[1] ++ [2], _, dg_tup2 dg_name dg_name, ?_⟩))
  refine ds_ret (Ev.dl (ev_if (a := !(ordD (splitM rs ls.length).2).isEmpty) (evt_tru_lst (ev_var (d := .lst (ordD (splitM rs ls.length).2)) rfl).b) (fun _ => ev_tuple (ev_var (d := .lst (ordD (splitM rs ls.length).2)) rfl).b) fun _ => ev_non) ?_)
  show (if _ then _ else _) = if _ then _ else _
  rw [isEmpty_ord]
  by_cases h : (splitM rs ls.length).2 = []
  · rw [if_pos h, if_neg (by rw [h]; decide)]
  · rw [if_neg h, if_pos (by simp [h])]
end K18

namespace K18
open PySem PySem.Spec PyProof.Rows L2 Dw
variable [Tabs0]
theorem ev_inOT {K : PySem.W.Frag} {Γ : Gam} {ta tb : TE} {neg : Bool} {r' : R2} {c : Nat} {l : List Nat} (ha : Ev ta Γ (.int c)) (h : Ev tb Γ (.tup (ordN l))) : Ev (tOp (rOr (rIn K neg) r') ta tb) Γ (.bl (if neg then !decide (c ∈ l) else decide (c ∈ l))) := by
  have e := ev_inT (neg := neg) (K := K) (r' := r') ha h rfl (sc_ord l)
  rw [show scV (.int (c : Int)) = V.int (c : Int) from rfl, inV_ord c l] at e
  exact e
def spBook : Spc where
  ty := Nat × Nat × Nat
  args := fun x => [.purse, .int x.1, .int x.2.1, .int x.2.2]
  ok := fun x => 1 ≤ x.1 ∧ 1 ≤ x.2.1 ∧ x.1 + x.2.1 ≤ 9 ∧ x.2.2 ≤ 20
  rel := fun x d => ∃ ls rs, d = .tup [.lst (nameD ls), .lst (nameD rs)] ∧ BookOk ls rs ∧ x.1 ≤ ls.length ∧ ls.length < x.1 + x.2.1 ∧ rs.length ≤ x.2.2
end K18

namespace K18
open PySem PySem.Spec PyProof.Rows L2 Dw
variable [Tabs0]
/-! rankings as tuples that may be asked for a place -/
end K18

namespace K18
open PySem PySem.Spec PyProof.Rows L2 Dw
variable [Tabs0]
theorem d__law_book {P : Program} {w : World} {K : PySem.W.Frag} {mg : Str → Option Value} {base : Heap} (T : Txt K w mg) : FnOk P w K mg base CX0 4 T.f__law_book T.e__law_book ["_law_purse_here", "_law_least", "_law_span", "_law_most"] (toSp (spBook)) := by
  refine fn_ok T.F__law_book sc__law_book (fun _ => rfl) fun cdv A outer s' H E hr => ?_
  refine ⟨_, (pss_cons (ps_set (i := 4) sc__law_book.nd rfl (Or.inl rfl) (pe_op (plusE K) (pv 1) (pe_call (d__law_draw T) (hr.mono (by decide)) (by rfl) T.m__law_draw T.F__law_draw.kp T.b__law_draw .nil pass0 (pa_cons (pv 0) (pa_cons (pv 2) pa_nil))))) (pss_one (ps_ret (pe_tup (pa_cons (pe_call (d__law_labels T) (hr.mono (by decide)) (by rfl) T.m__law_labels T.F__law_labels.kp T.b__law_labels .nil pass0 (pa_cons (pv 0) (pa_cons (pv 4) pa_nil))) (pa_cons (pe_call (d__law_rows T) (hr.mono (by decide)) (by rfl) T.m__law_rows T.F__law_rows.kp T.b__law_rows .nil pass0 (pa_cons (pv 0) (pa_cons (pv 4) (pa_cons (pv 3) (pa_cons pe_int pa_nil))))) pa_nil)))))), fun x hx => ?_⟩
  obtain ⟨lo, sp, most⟩ := x
  obtain ⟨h1, h2, h3, h4⟩ := hx
  have h1 : 1 ≤ lo := h1
  have h2 : 1 ≤ sp := h2
  have h3 : lo + sp ≤ 9 := h3
  have h4 : most ≤ 20 := h4
  refine ds_seq (ds_asg (dl_op (Ev.dl (ev_var rfl) (dl_call (s := spDraw) (dla_cons (Ev.dl (ev_var rfl) (dla_cons (Ev.dl (ev_var rfl) (dla_nil ⟨sp, rfl, ⟨by omega, by omega⟩, fun d hd => ?_⟩)))))))))
  obtain ⟨r, hr1, rfl⟩ := hd
  refine ⟨.int ((lo + r : Nat) : Int), pl_int, ?_⟩
  refine ds_ret (dl_tup (dla_cons (dl_call (s := spLabels) (dla_cons (Ev.dl (ev_var rfl) (dla_cons (Ev.dl (ev_var rfl) (dla_nil ⟨lo + r, rfl, ⟨by omega, by omega⟩, fun d hd => ?_⟩))))))))
  obtain ⟨ls, rfl, hl, hn⟩ := hd
  refine dla_cons (dl_call (s := spRows) (dla_cons (Ev.dl (ev_var rfl) (dla_cons (Ev.dl (ev_var rfl) (dla_cons (Ev.dl (ev_var rfl) (dla_cons (Ev.dl ev_int (dla_nil ⟨(lo + r, most, 9), rfl, ⟨by show 1 ≤ lo + r; omega, by show lo + r ≤ 8; omega, by show most < 1000; omega, by show 0 < 9; decide, by show 9 < 1000; decide⟩, fun d hd => ?_⟩))))))))))
  obtain ⟨rs, rfl, hm, hrs⟩ := hd
  have hm : rs.length ≤ most := hm
  exact dla_nil ⟨small (show 2 ≤ 100000 by decide), ls, rs, rfl, ⟨hl, by omega, fun q hq => by rw [hn]; exact hrs q hq⟩, by show lo ≤ ls.length; omega, by show ls.length < lo + sp; omega, hm⟩
end K18

namespace K18
open PySem PySem.Spec PyProof.Rows L2 Dw
variable [Tabs0]
def selQ (rs : List (List Nat)) (o : List Nat) : List (List Nat) := o.map fun i => rowAt rs i
def Fit (rs : List (List Nat)) (n : Nat) : Prop := ∃ o : List Nat, o.Perm (List.range n) ∧ ∀ r ∈ rs, holdsB r o = true
def SgnOk (rs : List (List Nat)) (n : Nat) : Prop := (∀ i c, sgn (rowAt rs i) c = 43 ∨ sgn (rowAt rs i) c = 45 ∨ sgn (rowAt rs i) c = 46) ∧ ∀ i, i < rs.length → (rowAt rs i).length ≤ n
theorem selQ_len (rs : List (List Nat)) (o : List Nat) : (selQ rs o).length = o.length := List.length_map ..
theorem selQ_at {rs : List (List Nat)} {o : List Nat} {j : Nat} (h : j < o.length) : rowAt (selQ rs o) j = rowAt rs o[j] := by
  unfold selQ
  conv => lhs; unfold rowAt
  rw [List.getD_eq_getElem?_getD, List.getElem?_map, List.getElem?_eq_getElem h]; rfl
theorem fit_sel {rs : List (List Nat)} {n : Nat} {p q : List Nat} (h : Fit (selQ rs q) n) (hs : ∀ k ∈ p, k ∈ q) : Fit (selQ rs p) n := by
  obtain ⟨o, ho, hh⟩ := h
  refine ⟨o, ho, fun r hr => ?_⟩
  obtain ⟨k, hk, rfl⟩ := List.mem_map.mp hr
  exact hh _ (List.mem_map.mpr ⟨k, hs k hk, rfl⟩)
/-- where the layers end badly, the rows that stay open fit no order -/
theorem stuck_open {rs : List (List Nat)} {n : Nat} {ls : List (List Nat)} {lf st : List Nat} (h : LayI rs n ls lf st) (hne : st ≠ []) (hl : lf.filter (fun k => !minB rs st k) = []) (hr : ∀ i, i < rs.length → (rowAt rs i).length ≤ n) : ¬ Fit (selQ rs st) n := by
  rintro ⟨o, ho, hh⟩
  obtain ⟨i, hi, z⟩ := lay_stuck' h hne hl hr o ho
  rw [hh _ (List.mem_map.mpr ⟨i, hi, rfl⟩)] at z; cases z
def Still (rs : List (List Nat)) (n : Nat) : List Nat := (splitM rs n).2
theorem still_cases {rs : List (List Nat)} {n : Nat} (h : SgnOk rs n) : (Still rs n = [] ∧ Fit rs n) ∨ ∃ ls lf, Still rs n ≠ [] ∧ LayI rs n ls lf (Still rs n) ∧ lf.filter (fun k => !minB rs (Still rs n) k) = [] ∧ ¬ Fit (selQ rs (Still rs n)) n := by
  rcases layF_end h.1 (n + 1) [] (List.range n) (open0 rs) (layI_0 rs n) (by rw [List.length_range]; omega) with ⟨ls, e, hh⟩ | ⟨ls, lf, st, e, h1, hh, h2⟩
  · have e : splitM rs n = (ls, []) := e
    refine .inl ⟨by unfold Still; rw [e], ?_⟩
    obtain ⟨w1, w2⟩ := lay_fits h.1 hh (g := fun l => l) (fun l => .refl _)
    exact ⟨_, w1, all_rows.mpr w2⟩
  · have e : splitM rs n = (ls, st) := e
    have e2 : Still rs n = st := by unfold Still; rw [e]
    refine .inr ⟨ls, lf, ?_⟩
    rw [e2]
    exact ⟨h1, hh, h2, stuck_open hh h1 h2 h.2⟩
theorem still_fit {rs : List (List Nat)} {n : Nat} (h : SgnOk rs n) : Still rs n = [] ↔ Fit rs n := by
  constructor
  · intro e
    rcases still_cases h with ⟨_, f⟩ | ⟨_, _, z, _⟩
    · exact f
    · exact absurd e z
  · intro f
    rcases still_cases h with ⟨e, _⟩ | ⟨ls, lf, z, hh, h2, nf⟩
    · exact e
    · obtain ⟨o, ho, hf⟩ := f
      refine absurd ⟨o, ho, fun r hr => ?_⟩ nf
      obtain ⟨k, hk, rfl⟩ := List.mem_map.mp hr
      exact all_rows.mp hf k (List.mem_range.mp (List.mem_filter.mp (hh.sub.subset hk)).1)
/-! the lot that is told -/
def qStep (rs : List (List Nat)) (n : Nat) (kept : List Nat) (i : Nat) : List Nat :=
  if Still (selQ rs (kept.filter fun j => !decide (j = i))) n = [] then kept else kept.filter fun j => !decide (j = i)
structure QI (rs : List (List Nat)) (n : Nat) (kept seen : List Nat) : Prop where
  sub : kept.Sublist (List.range rs.length)
  nf : ¬ Fit (selQ rs kept) n
  min : ∀ i ∈ seen, i ∈ kept → Fit (selQ rs (kept.filter fun j => !decide (j = i))) n
theorem sel_sgn {rs : List (List Nat)} {n : Nat} (h : SgnOk rs n) {o : List Nat} (ho : ∀ k ∈ o, k < rs.length) : SgnOk (selQ rs o) n := by
  refine ⟨fun i c => ?_, fun i hi => ?_⟩
  · by_cases hi : i < o.length
    · rw [selQ_at hi]; exact h.1 _ _
    · unfold rowAt sgn
      rw [List.getD_eq_getElem?_getD (l := selQ rs o), List.getElem?_eq_none (by rw [selQ_len]; omega)]
      exact .inr (.inr rfl)
  · rw [selQ_len] at hi
    rw [selQ_at hi]
    exact h.2 _ (ho _ (List.getElem_mem hi))
theorem QI.next {rs : List (List Nat)} {n : Nat} (h : SgnOk rs n) {kept seen : List Nat} (q : QI rs n kept seen) (i : Nat) : QI rs n (qStep rs n kept i) (seen ++ [i]) := by
  have hf : ∀ k ∈ kept.filter (fun j => !decide (j = i)), k < rs.length := fun k hk => List.mem_range.mp (q.sub.subset (List.mem_filter.mp hk).1)
  unfold qStep
  by_cases e : Still (selQ rs (kept.filter fun j => !decide (j = i))) n = []
  · rw [if_pos e]
    refine ⟨q.sub, q.nf, fun j hj hk => ?_⟩
    rcases List.mem_append.mp hj with hj | hj
    · exact q.min j hj hk
    · rw [List.mem_singleton.mp hj]
      exact (still_fit (sel_sgn h hf)).mp e
  · rw [if_neg e]
    refine ⟨List.filter_sublist.trans q.sub, fun f => e ((still_fit (sel_sgn h hf)).mpr f), fun j hj hk => ?_⟩
    have hk' := (List.mem_filter.mp hk).1
    rcases List.mem_append.mp hj with hj | hj
    · refine fit_sel (q.min j hj hk') fun k hk2 => ?_
      obtain ⟨a, b⟩ := List.mem_filter.mp hk2
      exact List.mem_filter.mpr ⟨(List.mem_filter.mp a).1, b⟩
    · have := (List.mem_filter.mp hk).2
      rw [List.mem_singleton.mp hj] at this
      simp at this
/-! all lots of some things -/
theorem sgnOk {rs : List (List Nat)} {n : Nat} (h : ∀ r ∈ rs, RowOk r n) : SgnOk rs n := ⟨rowAt_sgn h, fun i hi => Nat.le_of_eq (rowAt_ok h hi).len⟩
theorem fit_iff {rs : List (List Nat)} {n : Nat} : fitM rs n ≠ [] ↔ Fit rs n := by
  constructor
  · intro h
    obtain ⟨o, ho⟩ := List.exists_mem_of_ne_nil _ h
    obtain ⟨p, q⟩ := fitM_mem.mp ho
    exact ⟨o, p, q⟩
  · rintro ⟨o, p, q⟩ z
    have := fitM_mem.mpr ⟨p, q⟩
    rw [z] at this; cases this
def spSome : Spc where
  ty := List (List Nat) × Nat × Bool
  args := fun x => [rowsD x.2.2 x.1, .int x.2.1]
  ok := fun x => (∀ r ∈ x.1, RowOk r x.2.1) ∧ x.2.1 ≤ 8 ∧ x.1.length ≤ 1000
  rel := fun x d => d = .bl (decide (Still x.1 x.2.1 = []))
end K18

namespace K18
open PySem PySem.Spec PyProof.Rows L2 Dw
variable [Tabs0]
theorem d_some_fits {P : Program} {w : World} {K : PySem.W.Frag} {mg : Str → Option Value} {base : Heap} (T : Txt K w mg) : FnOk P w K mg base CX0 3 T.f_some_fits T.e_some_fits ["rows", "many"] (toSp (spSome)) := by
  refine fn_ok T.F_some_fits sc_some_fits (fun _ => rfl) fun cdv A outer s' H E hr => ?_
  refine ⟨_, (pss_cons (ps_asg (pe_call (d_split T) (hr.mono (by decide)) (by rfl) T.m_split T.F_split.kp T.b_split .nil pass0 (pa_cons (pv 0) (pa_cons (pv 1) pa_nil))) (tupA K 2 rfl (pgs_cons (pg_name (i := 2) sc_some_fits.nd rfl (Or.inl rfl)) (pgs_cons (pg_name (i := 3) sc_some_fits.nd rfl (Or.inl rfl)) pgs_nil)))) (pss_one (ps_ret (notA K (pv 3))))), fun x hx => ?_⟩
  obtain ⟨rs, n, b⟩ := x
  obtain ⟨hr', h8, hz⟩ := hx
  refine ds_seq (ds_asg_g (Ev.dl (ev_call (s := spSplit) (x := (rs, n, b)) (eva_cons (ev_var rfl) (eva_cons (ev_var rfl) eva_nil)) (np_rd (r := [_]) rfl) ⟨hr', h8, hz⟩ fun d h => h) ⟨[2] ++ [3], _, dg_tup2 dg_name dg_name, ?_⟩))
  refine ds_ret (Ev.dl (ev_notT (evt_tru_lst (ev_var (d := .lst (ordD (splitM rs n).2)) rfl).b)) ?_)
  show D.bl _ = D.bl _
  rw [isEmpty_ord, Bool.not_not]; rfl
end K18

namespace K18
open PySem PySem.Spec PyProof.Rows L2 Dw
variable [Tabs0]
/-! heads as bits -/
def headOf (l : List Nat) : Nat := (l.map fun k => 2 ^ k).sum
def hd (p : Nat → Bool) (n : Nat) : Nat := headOf ((List.range n).filter p)
theorem headOf_snoc (l : List Nat) (k : Nat) : headOf (l ++ [k]) = headOf l + 2 ^ k := by unfold headOf; rw [List.map_append, List.sum_append]; simp
theorem hd_succ (p : Nat → Bool) (n : Nat) : hd p (n + 1) = hd p n + if p n = true then 2 ^ n else 0 := by
  unfold hd
  rw [List.range_succ, List.filter_append]
  cases h : p n with
  | true => rw [List.filter_cons_of_pos h, List.filter_nil, headOf_snoc, if_pos rfl]
  | false => rw [List.filter_cons_of_neg (by rw [h]; decide), List.filter_nil, List.append_nil, if_neg (by decide)]; rfl
theorem hd_lt (p : Nat → Bool) : ∀ n, hd p n < 2 ^ n
  | 0 => by
    have : hd p 0 = 0 := rfl
    rw [this]; decide
  | n + 1 => by
    have := hd_lt p n
    rw [hd_succ, Nat.pow_succ]
    split <;> omega
theorem hd_bit (p : Nat → Bool) : ∀ n k, (hd p n).testBit k = (decide (k < n) && p k)
  | 0, k => by
    have : hd p 0 = 0 := rfl
    rw [this]; simp
  | n + 1, k => by
    have ih := hd_bit p n k
    have lt := hd_lt p n
    rw [hd_succ]
    cases h : p n with
    | false =>
      rw [if_neg (by decide), Nat.add_zero, ih]
      by_cases hk : k = n
      · subst hk; rw [h]; simp
      · have : decide (k < n + 1) = decide (k < n) := decide_eq_decide.mpr (by omega)
        rw [this]
    | true =>
      have e := Nat.two_pow_add_eq_or_of_lt lt 1
      rw [Nat.mul_one] at e
      rw [if_pos rfl, Nat.add_comm, e, Nat.testBit_or, Nat.testBit_two_pow, ih]
      by_cases hk : k = n
      · subst hk; rw [h]; simp
      · have e1 : decide (n = k) = false := decide_eq_false (by omega)
        have : decide (k < n + 1) = decide (k < n) := decide_eq_decide.mpr (by omega)
        rw [e1, this]; rfl
theorem and_zero {a b : Nat} : a &&& b = 0 ↔ ∀ k, ¬ (a.testBit k = true ∧ b.testBit k = true) := by
  constructor
  · intro h k hk
    have := congrArg (fun z => z.testBit k) h
    simp only [Nat.testBit_and, Nat.zero_testBit, hk.1, hk.2] at this
    cases this
  · intro h
    apply Nat.eq_of_testBit_eq
    intro k
    rw [Nat.testBit_and, Nat.zero_testBit]
    cases p : a.testBit k with
    | false => rfl
    | true =>
      cases q : b.testBit k with
      | false => rfl
      | true => exact absurd ⟨p, q⟩ (h k)
def sideM (c : Nat) (r : List Nat) : Nat := hd (fun k => decide (sgn r k = c)) r.length
def sidesM (r : List Nat) : Nat × Nat := (sideM 43 r, sideM 45 r)
theorem side_bit {c : Nat} {r : List Nat} {k : Nat} (hc : c ≠ 46) : (sideM c r).testBit k = decide (sgn r k = c) := by
  unfold sideM
  rw [hd_bit]
  by_cases h : k < r.length
  · simp [h]
  · have : sgn r k = 46 := by unfold sgn; rw [List.getD_eq_getElem?_getD, List.getElem?_eq_none (by omega)]; rfl
    rw [this]
    have : decide (46 = c) = false := decide_eq_false fun z => hc z.symm
    rw [this]; simp
def takenM (head : Nat) (told : List (Nat × Nat)) : Nat := told.foldl (fun t s => if s.1 &&& head = 0 then t ||| s.2 else t) head
theorem taken_bit (head k : Nat) : ∀ (told : List (Nat × Nat)) (t : Nat), (told.foldl (fun t s => if s.1 &&& head = 0 then t ||| s.2 else t) t).testBit k = (t.testBit k || told.any fun s => decide (s.1 &&& head = 0) && s.2.testBit k)
  | [], t => by simp
  | s :: told, t => by
    rw [List.foldl_cons, taken_bit head k told, List.any_cons]
    by_cases h : s.1 &&& head = 0
    · rw [if_pos h, Nat.testBit_or, decide_eq_true h, Bool.true_and, Bool.or_assoc]
    · rw [if_neg h, decide_eq_false h, Bool.false_and, Bool.false_or]
def behindM (head : Nat) (told : List (Nat × Nat)) (n : Nat) : List Nat := (List.range n).filter fun k => decide (takenM head told &&& 2 ^ k = 0)
theorem two_bit {a k : Nat} : decide (a &&& 2 ^ k = 0) = !a.testBit k := by
  rw [Bool.eq_iff_iff, decide_eq_true_eq, and_zero, Bool.not_eq_true']
  constructor
  · intro h
    cases q : a.testBit k with
    | false => rfl
    | true => exact absurd ⟨q, by rw [Nat.testBit_two_pow]; simp⟩ (h k)
  · rintro h j ⟨h1, h2⟩
    rw [Nat.testBit_two_pow] at h2
    have : k = j := of_decide_eq_true h2
    subst this
    rw [h] at h1; cases h1
/-- whether k may come right behind the head: no row has a minus for it, and no plus in the head -/
def openBit (rs : List (List Nat)) (head k : Nat) : Bool := !head.testBit k && rs.all fun r => !(decide (sideM 43 r &&& head = 0) && decide (sgn r k = 45))
theorem behind_eq (rs : List (List Nat)) (head n : Nat) : behindM head (rs.map sidesM) n = (List.range n).filter (openBit rs head) := by
  unfold behindM
  refine List.filter_congr fun k _ => ?_
  rw [two_bit]
  unfold takenM openBit
  rw [taken_bit, Bool.not_or, List.any_map]
  congr 1
  rw [List.not_any_eq_all_not]
  congr 1
  funext r
  show (!(decide (sideM 43 r &&& head = 0) && (sideM 45 r).testBit k)) = _
  rw [side_bit (by decide)]
def stepsM (rs : List (List Nat)) (n : Nat) : List (List Nat) := (List.range (2 ^ n)).map fun head => behindM head (rs.map sidesM) n
/-- the ways, head by head from the last one down -/
def endStep (behind : List (List Nat)) (ways : List Nat) (head : Nat) : List Nat := ways.set head (((behind.getD head []).map fun k => ways.getD (head ||| 2 ^ k) 0).sum)
def endTo (behind : List (List Nat)) (i : Nat) : List Nat := ((List.range (behind.length - 1)).reverse.take i).foldl (endStep behind) (List.replicate behind.length 1)
def endM (behind : List (List Nat)) : List Nat := endTo behind (behind.length - 1)
def countM (rs : List (List Nat)) (n : Nat) : Nat := (endM (stepsM rs n)).getD 0 0
theorem endTo_len (behind : List (List Nat)) : ∀ i, (endTo behind i).length = behind.length := by
  intro i
  unfold endTo
  generalize (List.range (behind.length - 1)).reverse.take i = l
  have : ∀ (l : List Nat) (w : List Nat), (l.foldl (endStep behind) w).length = w.length := fun l => by
    induction l with
    | nil => intro w; rfl
    | cons a l ih => intro w; rw [List.foldl_cons, ih]; unfold endStep; rw [List.length_set]
  rw [this, List.length_replicate]
theorem rev_get {m i : Nat} (h : i < m) : (List.range m).reverse[i]? = some (m - 1 - i) := by
  rw [List.getElem?_reverse (by simpa using h), List.length_range, List.getElem?_range (by omega)]
theorem endTo_succ {behind : List (List Nat)} {i : Nat} (h : i < behind.length - 1) : endTo behind (i + 1) = endStep behind (endTo behind i) (behind.length - 1 - 1 - i) := by
  unfold endTo
  rw [List.take_add_one, rev_get h, List.foldl_append]; rfl
theorem getD_set_ne {l : List Nat} {i j v : Nat} (h : i ≠ j) : (l.set i v).getD j 0 = l.getD j 0 := by
  rw [List.getD_eq_getElem?_getD, List.getElem?_set_ne h, ← List.getD_eq_getElem?_getD]
theorem getD_set_self {l : List Nat} {i v : Nat} (h : i < l.length) : (l.set i v).getD i 0 = v := by
  rw [List.getD_eq_getElem?_getD, List.getElem?_set_self h]; rfl
/-- what is written stays: ways from the head m - 1 - i on are final once i steps are done -/
theorem endTo_keep {behind : List (List Nat)} {i : Nat} (h : i ≤ behind.length - 1) {j : Nat} (hj : behind.length - 1 - i ≤ j) : (endM behind).getD j 0 = (endTo behind i).getD j 0 := by
  unfold endM
  obtain ⟨d, hd⟩ : ∃ d, behind.length - 1 = i + d := ⟨behind.length - 1 - i, by omega⟩
  have : ∀ d, i + d ≤ behind.length - 1 → (endTo behind (i + d)).getD j 0 = (endTo behind i).getD j 0 := fun d => by
    induction d with
    | zero => intro _; rfl
    | succ d ih =>
      intro hd
      rw [← Nat.add_assoc, endTo_succ (by omega)]
      unfold endStep
      rw [getD_set_ne (by omega)]
      exact ih (by omega)
  conv => lhs; rw [hd]
  exact this d (by omega)
theorem end_last {behind : List (List Nat)} (h : 0 < behind.length) : (endM behind).getD (behind.length - 1) 0 = 1 := by
  rw [endTo_keep (i := 0) (by omega) (by omega)]
  unfold endTo
  simp only [List.take_zero, List.foldl_nil]
  rw [List.getD_eq_getElem?_getD, List.getElem?_replicate, if_pos (by omega)]; rfl
theorem end_at {behind : List (List Nat)} {head : Nat} (h : head < behind.length - 1) (up : ∀ k ∈ behind.getD head [], head < head ||| 2 ^ k) : (endM behind).getD head 0 = ((behind.getD head []).map fun k => (endM behind).getD (head ||| 2 ^ k) 0).sum := by
  obtain ⟨i, hi⟩ : ∃ i, head = behind.length - 1 - 1 - i ∧ i < behind.length - 1 := ⟨behind.length - 1 - 1 - head, by omega, by omega⟩
  rw [endTo_keep (i := i + 1) (by omega) (j := head) (by omega), endTo_succ hi.2, ← hi.1]
  unfold endStep
  rw [getD_set_self (by rw [endTo_len]; omega)]
  congr 1
  refine List.map_congr_left fun k hk => ?_
  exact (endTo_keep (i := i) (by omega) (by have := up k hk; omega)).symm
theorem steps_len (rs : List (List Nat)) (n : Nat) : (stepsM rs n).length = 2 ^ n := by unfold stepsM; rw [List.length_map, List.length_range]
theorem steps_at {rs : List (List Nat)} {n head : Nat} (h : head < 2 ^ n) : (stepsM rs n).getD head [] = (List.range n).filter (openBit rs head) := by
  unfold stepsM
  rw [List.getD_eq_getElem?_getD, List.getElem?_map, List.getElem?_range h]
  show behindM _ _ _ = _
  rw [behind_eq]
theorem or_up {head k : Nat} (h : head.testBit k = false) : head < head ||| 2 ^ k := by
  have h1 : head ≤ head ||| 2 ^ k := Nat.left_le_or
  rcases Nat.lt_or_eq_of_le h1 with h2 | h2
  · exact h2
  · have := congrArg (fun z => z.testBit k) h2
    simp only [Nat.testBit_or, Nat.testBit_two_pow] at this
    rw [h] at this; simp at this
theorem open_bit {rs : List (List Nat)} {head k : Nat} (h : openBit rs head k = true) : head.testBit k = false := by
  unfold openBit at h
  rw [Bool.and_eq_true, Bool.not_eq_true'] at h
  exact h.1
end K18

namespace K18
open PySem PySem.Spec PyProof.Rows L2 Dw
variable [Tabs0]
theorem sum_cast : ∀ l : List Nat, ((l.map fun k : Nat => (k : Int)).sum : Int) = ((l.sum : Nat) : Int)
  | [] => rfl
  | a :: l => by rw [List.map_cons, List.sum_cons, List.sum_cons, sum_cast l]; omega
def lolD (l : List (List Nat)) : List D := l.map fun o => D.lst (ordN o)
def sidD (l : List (Nat × Nat)) : List D := l.map fun s => D.tup [.int (s.1 : Nat), .int (s.2 : Nat)]
theorem np_ll {o : List (List Nat)} {r : List D} (h : noPs r = true) : noPs (.lst (lolD o) :: r) = true := by
  have e : noPs (lolD o) = true := noPs_map (f := fun o => D.lst (ordN o)) (fun l => np_ord l) o
  show (noPs (lolD o) && noPs r) = true; rw [e, h]; rfl
theorem np_sd {o : List (Nat × Nat)} {r : List D} (h : noPs r = true) : noPs (.lst (sidD o) :: r) = true := by
  have e : noPs (sidD o) = true := noPs_map (f := fun s : Nat × Nat => D.tup [.int (s.1 : Nat), .int (s.2 : Nat)]) (fun l => rfl) o
  show (noPs (sidD o) && noPs r) = true; rw [e, h]; rfl
def ordX (b : Bool) (l : List Nat) : D := if b = true then .lst (ordD l) else .tup (ordD l)
def spHeadOf : Spc where
  ty := List Nat × Bool
  args := fun x => [ordX x.2 x.1]
  ok := fun x => x.1.length ≤ 1000 ∧ ∀ k ∈ x.1, k ≤ 1000
  rel := fun x d => d = .int (headOf x.1 : Nat)
theorem ei_ordX {K : PySem.W.Frag} {ta : TE} {Γ : Gam} {b : Bool} {l : List Nat} (ha : Ev ta Γ (ordX b l)) : Ei (iAnyR K ta) Γ (l.map fun k : Nat => D.int k) := by
  cases b with
  | true => exact ej_list (Ev.b (ds := ordD l) ha)
  | false => exact ej_tup ha
def spSides : Spc where
  ty := List Nat
  args := fun r => [.str (tx r)]
  ok := fun r => ∃ n, RowOk r n ∧ n ≤ 8
  rel := fun r d => d = .tup [.int (sideM 43 r : Nat), .int (sideM 45 r : Nat)]
theorem enum_signs (r : List Nat) : enumD (Dw.signs (tx r)) = (List.range r.length).map fun (i : Nat) => D.tup [.int i, .str (ch (sgn r i))] := by
  apply List.ext_getElem?
  intro i
  have ls : (Dw.signs (tx r)).length = r.length := by rw [signs_tx, List.length_map, List.length_map]
  by_cases hi : i < r.length
  · obtain ⟨x, hx⟩ : ∃ x, (enumD (Dw.signs (tx r)))[i]? = some x := ⟨_, List.getElem?_eq_getElem (by rw [enumD_length, ls]; exact hi)⟩
    obtain ⟨y, hy, rfl⟩ := enumD_get hx
    rw [hx, List.getElem?_map, List.getElem?_range hi]
    rw [signs_tx, List.map_map, List.getElem?_map, List.getElem?_eq_getElem hi] at hy
    cases hy
    show _ = some (D.tup [D.int i, D.str (ch (sgn r i))])
    unfold sgn
    rw [List.getD_eq_getElem?_getD, List.getElem?_eq_getElem hi]; rfl
  · rw [List.getElem?_eq_none (by rw [enumD_length, ls]; omega), List.getElem?_eq_none (by simpa using hi)]
def spBehind : Spc where
  ty := Nat × List (Nat × Nat) × Nat
  args := fun x => [.int (x.1 : Nat), .lst (sidD x.2.1), .int (x.2.2 : Nat)]
  ok := fun x => x.2.2 ≤ 8 ∧ x.2.1.length ≤ 1000
  rel := fun x d => d = .lst (ordD (behindM x.1 x.2.1 x.2.2))
def spSteps : Spc where
  ty := List (List Nat) × Nat × Bool
  args := fun x => [rowsD x.2.2 x.1, .int (x.2.1 : Nat)]
  ok := fun x => (∀ r ∈ x.1, RowOk r x.2.1) ∧ x.2.1 ≤ 8 ∧ x.1.length ≤ 1000
  rel := fun x d => d = .lst (lolD (stepsM x.1 x.2.1))
structure EndOk (b : List (List Nat)) : Prop where
  lo : 1 ≤ b.length
  hi : b.length ≤ 256
  in_ : ∀ head, head < b.length → ∀ k ∈ b.getD head [], head ||| 2 ^ k < b.length ∧ k ≤ 8
  few : ∀ head, (b.getD head []).length ≤ 8
def spEnd : Spc where
  ty := List (List Nat)
  args := fun b => [.lst (lolD b)]
  ok := fun b => EndOk b
  rel := fun b d => d = .lst (ordD (endM b))
def spCount : Spc where
  ty := List (List Nat) × Nat × Bool
  args := fun x => [rowsD x.2.2 x.1, .int (x.2.1 : Nat)]
  ok := fun x => (∀ r ∈ x.1, RowOk r x.2.1) ∧ x.2.1 ≤ 8 ∧ x.1.length ≤ 1000
  rel := fun x d => d = .int (countM x.1 x.2.1 : Nat)
theorem pow8 {n : Nat} (h : n ≤ 8) : 2 ^ n ≤ 256 := Nat.le_trans (Nat.pow_le_pow_right (by decide) h) (by decide)
theorem steps_ok {rs : List (List Nat)} {n : Nat} (h : n ≤ 8) : EndOk (stepsM rs n) := by
  refine ⟨by rw [steps_len]; exact Nat.two_pow_pos n, by rw [steps_len]; exact pow8 h, fun head hh k hk => ?_, fun head => ?_⟩
  · rw [steps_len] at hh ⊢
    rw [steps_at hh] at hk
    have kn := List.mem_range.mp (List.mem_filter.mp hk).1
    exact ⟨Nat.or_lt_two_pow hh (Nat.pow_lt_pow_right (by decide) kn), by omega⟩
  · by_cases hh : head < 2 ^ n
    · rw [steps_at hh]
      have := List.length_filter_le (openBit rs head) (List.range n)
      rw [List.length_range] at this
      omega
    · rw [List.getD_eq_getElem?_getD, List.getElem?_eq_none (by rw [steps_len]; omega)]; exact Nat.zero_le _
theorem ei_rows {K : PySem.W.Frag} {ta : TE} {Γ : Gam} {b : Bool} {rs : List (List Nat)} (ha : Ev ta Γ (rowsD b rs)) : Ei (iAnyR K ta) Γ (rs.map fun r => D.str (tx r)) := by
  cases b with
  | true => exact ej_list (Ev.b (ds := nameD rs) ha)
  | false => exact ej_tup ha
theorem lolD_at {l : List (List Nat)} {i : Nat} (h : i < l.length) : atI (lolD l) (i : Int) = some (.lst (ordD (l.getD i []))) := by
  refine atI_nat ?_
  unfold lolD
  rw [List.getElem?_map, List.getElem?_eq_getElem h, List.getD_eq_getElem?_getD, List.getElem?_eq_getElem h]; rfl
theorem ordD_at {l : List Nat} {i : Nat} (h : i < l.length) : atI (ordD l) (i : Int) = some (.int (l.getD i 0 : Nat)) := by
  refine atI_nat ?_
  unfold ordD
  rw [List.getElem?_map, List.getElem?_eq_getElem h, List.getD_eq_getElem?_getD, List.getElem?_eq_getElem h]; rfl
theorem ordD_set (l : List Nat) (i v : Nat) : (ordD l).set i (.int (v : Nat)) = ordD (l.set i v) := by unfold ordD; rw [List.map_set]
theorem rep_one (m : Nat) : (List.replicate m [D.int (1 : Nat)]).flatten = ordD (List.replicate m 1) := by
  unfold ordD
  rw [List.map_replicate]
  induction m with
  | zero => rfl
  | succ m ih => rw [List.replicate_succ, List.flatten_cons, ih, List.replicate_succ]; rfl
theorem nz_nat (a : Nat) : (!(((a : Nat) : Int) != 0)) = decide (a = 0) := by
  rw [Bool.eq_iff_iff]; simp
end K18

namespace K18
open PySem PySem.Spec PyProof.Rows L2 Dw
variable [Tabs0]
theorem d_head_of {P : Program} {w : World} {K : PySem.W.Frag} {mg : Str → Option Value} {base : Heap} (T : Txt K w mg) : FnOk P w K mg base CX0 1 T.f_head_of T.e_head_of ["rules"] (toSp (spHeadOf)) := by
  refine fn_ok T.F_head_of sc_head_of (fun _ => rfl) fun cdv A outer s' H E hr => ?_
  refine ⟨_, (pss_one (ps_ret (pe_callB (sumA K) (by rfl) T.n_sum (by decide +kernel) (pa_cons (pe_lc (own := [("rule", 1)]) rfl sc_head_of.nd (piR K (pv 0)) (blkOk_by (own := [("rule", 1)]) (N := N_head_of) (sc := (defScope s_head_of)) (by decide +kernel)) (fun _ _ _ _ _ => pg_name (i := 1) sc_head_of.nd rfl (Or.inl rfl)) (fun _ _ _ _ _ => pts_nil) (fun _ _ _ _ _ => (pe_op op_shl pe_int (pv 1)))) pa_nil)))), fun x hx => ?_⟩
  obtain ⟨l, b⟩ := x
  obtain ⟨hz, hk⟩ := hx
  have hz : l.length ≤ 1000 := hz
  have hk : ∀ k ∈ l, k ≤ 1000 := hk
  refine ds_ret (Ev.dl (ev_cast (d' := .int (headOf l : Nat)) ?c (ev_sum (ns := l.map fun k => ((2 ^ k : Nat) : Int)) (EvN.b ?e))) rfl)
  case c =>
    unfold headOf
    rw [← sum_cast, List.map_map]; rfl
  case e =>
    rw [List.map_map]
    exact evn_lc1 (xs := l) (c := fun k : Nat => D.int k) (f := fun k => D.int ((2 ^ k : Nat) : Int)) (ei_ordX (b := b) (ev_var (d := ordX b l) rfl)) (by omega) fun k hk' => ⟨[1], _, dg_name, fun i hi => hi, evt_yes, ev_op ev_int (ev_var rfl) (dr2_shl1 (hk k hk'))⟩
end K18

namespace K18
open PySem PySem.Spec PyProof.Rows L2 Dw
variable [Tabs0]
theorem d_sides {P : Program} {w : World} {K : PySem.W.Frag} {mg : Str → Option Value} {base : Heap} (T : Txt K w mg) : FnOk P w K mg base CX0 2 T.f_sides T.e_sides ["row"] (toSp (spSides)) := by
  refine fn_ok T.F_sides sc_sides (fun _ => rfl) fun cdv A outer s' H E hr => ?_
  refine ⟨_, (pss_cons (ps_set (i := 1) sc_sides.nd rfl (Or.inl rfl) (pe_call (d_head_of T) (hr.mono (by decide)) (by rfl) T.m_head_of T.F_head_of.kp T.b_head_of .nil pass0 (pa_cons (pe_lc (own := [("rule", 3), ("sign", 4)]) rfl sc_sides.nd (enumSA (by rfl) T.n_enumerate (pa_cons (pv 0) pa_nil)) (blkOk_by (own := [("rule", 3), ("sign", 4)]) (N := N_sides) (sc := (defScope s_sides)) (by decide +kernel)) (fun _ _ _ _ _ => tupA K 2 rfl (pgs_cons (pg_name (i := 3) sc_sides.nd rfl (Or.inl rfl)) (pgs_cons (pg_name (i := 4) sc_sides.nd rfl (Or.inl rfl)) pgs_nil))) (fun _ _ _ _ _ => pts_one (pt_cmpR (eqA K hr.units) (pv 4) pe_str (nomark _))) (fun _ _ _ _ _ => (pv 3))) pa_nil))) (pss_cons (ps_set (i := 2) sc_sides.nd rfl (Or.inl rfl) (pe_call (d_head_of T) (hr.mono (by decide)) (by rfl) T.m_head_of T.F_head_of.kp T.b_head_of .nil pass0 (pa_cons (pe_lc (own := [("rule", 3), ("sign", 4)]) rfl sc_sides.nd (enumSA (by rfl) T.n_enumerate (pa_cons (pv 0) pa_nil)) (blkOk_by (own := [("rule", 3), ("sign", 4)]) (N := N_sides) (sc := (defScope s_sides)) (by decide +kernel)) (fun _ _ _ _ _ => tupA K 2 rfl (pgs_cons (pg_name (i := 3) sc_sides.nd rfl (Or.inl rfl)) (pgs_cons (pg_name (i := 4) sc_sides.nd rfl (Or.inl rfl)) pgs_nil))) (fun _ _ _ _ _ => pts_one (pt_cmpR (eqA K hr.units) (pv 4) pe_str (nomark _))) (fun _ _ _ _ _ => (pv 3))) pa_nil))) (pss_one (ps_ret (pe_tup (pa_cons (pv 1) (pa_cons (pv 2) pa_nil))))))), fun x hx => ?_⟩
  obtain ⟨r, rfl⟩ : ∃ l : List Nat, l = x := ⟨x, rfl⟩
  obtain ⟨n, hr', h8⟩ := hx
  have hr' : RowOk r n := hr'
  have rl : r.length ≤ 8 := by rw [hr'.len]; exact h8
  have sl : ∀ c, ((List.range r.length).filter fun i => decide (sgn r i = c)).length ≤ 1000 := fun c => by
    have := List.length_filter_le (fun i => decide (sgn r i = c)) (List.range r.length)
    rw [List.length_range] at this
    omega
  have sk : ∀ c, ∀ k ∈ (List.range r.length).filter fun i => decide (sgn r i = c), k ≤ 1000 := fun c k hk => by
    have := List.mem_range.mp (List.mem_filter.mp hk).1
    omega
  refine ds_seq (ds_asg (Ev.dl (ev_call (s := spHeadOf) (d := .int (sideM 43 r : Nat)) (x := ((List.range r.length).filter fun i => decide (sgn r i = 43), true)) (eva_cons (EvN.ev (evn_lc (xs := List.range r.length) (c := fun (i : Nat) => D.tup [.int i, .str (ch (sgn r i))]) (p := fun i => decide (sgn r i = 43)) (f := fun (i : Nat) => D.int i) ?i1 (by rw [List.length_range]; omega) fun i hi => ⟨[3] ++ [4], _, dg_tup2 dg_name dg_name, fun i hi => hi, ?t1, fun _ => ev_var rfl⟩)) eva_nil) (np_lo (r := []) rfl) ⟨sl 43, sk 43⟩ fun d h => h) ?_))
  case i1 => rw [← enum_signs]; exact ei_enumS (ev_var rfl)
  case t1 => exact evt_test (ev_op (ev_var rfl) ev_str (eq_sb (by rw [ch_plus, Bool.eq_iff_iff]; simp [ch_eq])))
  refine ds_seq (ds_asg (Ev.dl (ev_call (s := spHeadOf) (d := .int (sideM 45 r : Nat)) (x := ((List.range r.length).filter fun i => decide (sgn r i = 45), true)) (eva_cons (EvN.ev (evn_lc (xs := List.range r.length) (c := fun (i : Nat) => D.tup [.int i, .str (ch (sgn r i))]) (p := fun i => decide (sgn r i = 45)) (f := fun (i : Nat) => D.int i) ?i2 (by rw [List.length_range]; omega) fun i hi => ⟨[3] ++ [4], _, dg_tup2 dg_name dg_name, fun i hi => hi, ?t2, fun _ => ev_var rfl⟩)) eva_nil) (np_lo (r := []) rfl) ⟨sl 45, sk 45⟩ fun d h => h) ?_))
  case i2 => rw [← enum_signs]; exact ei_enumS (ev_var rfl)
  case t2 => exact evt_test (ev_op (ev_var rfl) ev_str (eq_sb (by rw [ch_minus, Bool.eq_iff_iff]; simp [ch_eq])))
  exact ds_ret (Ev.dl (ev_tup (eva_cons (ev_var rfl) (eva_cons (ev_var rfl) eva_nil)) (small (show 2 ≤ 100000 by decide))) rfl)
end K18

namespace K18
open PySem PySem.Spec PyProof.Rows L2 Dw
variable [Tabs0]
theorem d_rules_behind {P : Program} {w : World} {K : PySem.W.Frag} {mg : Str → Option Value} {base : Heap} (T : Txt K w mg) : FnOk P w K mg base CX0 1 T.f_rules_behind T.e_rules_behind ["head", "told", "many"] (toSp (spBehind)) := by
  refine fn_ok T.F_rules_behind sc_rules_behind (fun _ => rfl) fun cdv A outer s' H E hr => ?_
  refine ⟨_, (pss_cons (ps_set (i := 3) sc_rules_behind.nd rfl (Or.inr rfl) (pv 0)) (pss_cons (ps_for PassesOwn.never rfl (piR K (pv 1)) (tupA K 2 rfl (pgs_cons (pg_name (i := 4) sc_rules_behind.nd rfl (Or.inl rfl)) (pgs_cons (pg_name (i := 5) sc_rules_behind.nd rfl (Or.inl rfl)) pgs_nil))) (pss_one (ps_if (pt_not (truA K (pe_op op_and (pv 4) (pv 0)))) (pss_one (ps_aug (i := 3) sc_rules_behind.nd rfl (Or.inr rfl) (pv 5) iop_or)) pss_nil))) (pss_one (ps_ret (pe_lc (own := [("rule", 6)]) rfl sc_rules_behind.nd (pi_range1 (by rfl) T.n_range (pa_cons (pv 2) pa_nil)) (blkOk_by (own := [("rule", 6)]) (N := N_rules_behind) (sc := (defScope s_rules_behind)) (by decide +kernel)) (fun _ _ _ _ _ => pg_name (i := 6) sc_rules_behind.nd rfl (Or.inl rfl)) (fun _ _ _ _ _ => pts_one (pt_not (truA K (pe_op op_and (pv 3) (pe_op op_shl pe_int (pv 6)))))) (fun _ _ _ _ _ => (pv 6))))))), fun x hx => ?_⟩
  obtain ⟨head, told, n⟩ := x
  obtain ⟨h8, hz⟩ := hx
  have h8 : n ≤ 8 := h8
  have hz : told.length ≤ 1000 := hz
  refine ds_seq (ds_asg (Ev.dl (ev_var (d := .int (head : Nat)) rfl) ?_))
  refine ds_seq (ds_for (fun xs i Γ' => xs = sidD told ∧ ∃ s4 s5 : Sl, Γ' = [.val (.int (head : Nat)), .val (.lst (sidD told)), .val (.int (n : Nat)), .val (.int (((told.take i).foldl (fun t s => if s.1 &&& head = 0 then t ||| s.2 else t) head : Nat) : Int)), s4, s5, .unset])
    (dj_list (Ev.dl (ev_var rfl) ⟨sidD told, rfl, ⟨rfl, _, _, rfl⟩, fun i x Γ' hx' ⟨exs, s4, s5, e⟩ => ?_, fun Γ' ⟨exs, s4, s5, e⟩ => ?_⟩)))
  · subst e
    have hx3 : (told.map fun s => D.tup [.int (s.1 : Nat), .int (s.2 : Nat)])[i]? = some x := hx'
    rw [List.getElem?_map] at hx3
    cases q : told[i]? with
    | none => rw [q] at hx3; cases hx3
    | some s =>
      rw [q] at hx3; cases hx3
      have nx : (told.take (i + 1)).foldl (fun t s => if s.1 &&& head = 0 then t ||| s.2 else t) head = if s.1 &&& head = 0 then ((told.take i).foldl (fun t s => if s.1 &&& head = 0 then t ||| s.2 else t) head) ||| s.2 else (told.take i).foldl (fun t s => if s.1 &&& head = 0 then t ||| s.2 else t) head := by
        rw [List.take_add_one, q, List.foldl_append]; rfl
      have fin : ∀ (t : Nat) (s4 s5 : Sl), t = (told.take (i + 1)).foldl (fun t s => if s.1 &&& head = 0 then t ||| s.2 else t) head → sidD told = sidD told ∧ ∃ s4' s5' : Sl, [Sl.val (.int (head : Nat)), .val (.lst (sidD told)), .val (.int (n : Nat)), .val (.int ((t : Nat) : Int)), s4, s5, .unset] = [.val (.int (head : Nat)), .val (.lst (sidD told)), .val (.int (n : Nat)), .val (.int (((told.take (i + 1)).foldl (fun t s => if s.1 &&& head = 0 then t ||| s.2 else t) head : Nat) : Int)), s4', s5', .unset] := fun t s4 s5 ht => ⟨rfl, s4, s5, by rw [ht]⟩
      generalize (told.take i).foldl (fun t s => if s.1 &&& head = 0 then t ||| s.2 else t) head = t at nx
      refine ⟨[4] ++ [5], _, dg_tup2 dg_name dg_name, ds_if (EvT.dl (evt_not (evt_tru_int (ev_op (ev_var (d := .int (s.1 : Nat)) rfl) (ev_var (d := .int (head : Nat)) rfl) dr2_and))) ⟨fun h => ?_, fun h => ?_⟩)⟩
      · rw [nz_nat] at h
        have h := of_decide_eq_true h
        exact ds_orI (a := t) (b := s.2) rfl (ev_var rfl) (fin (t ||| s.2) _ _ (by rw [nx, if_pos h]))
      · rw [nz_nat] at h
        have h := of_decide_eq_false h
        exact ds_next (fin t _ _ (by rw [nx, if_neg h]))
  · subst e
    have lt : (sidD told).length = told.length := List.length_map ..
    rw [lt, List.take_length]
    refine ds_ret (Ev.dl (EvN.ev (evn_lc (xs := List.range n) (c := fun k : Nat => D.int k) (p := fun k => decide (takenM head told &&& 2 ^ k = 0)) (f := fun k : Nat => D.int k) (ei_range (n := n) (eva_cons (ev_var rfl) eva_nil) (by omega)) (by rw [List.length_range]; omega) fun k hk => ⟨[6], _, dg_name, fun i hi => hi, ?t, fun _ => ev_var rfl⟩)) rfl)
    have hk := List.mem_range.mp hk
    rw [← nz_nat]
    exact evt_not (evt_tru_int (ev_op (ev_var (d := .int (takenM head told : Nat)) rfl) (ev_op ev_int (ev_var rfl) (dr2_shl1 (by omega))) dr2_and))
end K18

namespace K18
open PySem PySem.Spec PyProof.Rows L2 Dw
variable [Tabs0]
theorem d_steps {P : Program} {w : World} {K : PySem.W.Frag} {mg : Str → Option Value} {base : Heap} (T : Txt K w mg) : FnOk P w K mg base CX0 3 T.f_steps T.e_steps ["rows", "many"] (toSp (spSteps)) := by
  refine fn_ok T.F_steps sc_steps (fun _ => rfl) fun cdv A outer s' H E hr => ?_
  refine ⟨_, (pss_cons (ps_set (i := 2) sc_steps.nd rfl (Or.inr rfl) (pe_lc (own := [("row", 3)]) rfl sc_steps.nd (piR K (pv 0)) (blkOk_by (own := [("row", 3)]) (N := N_steps) (sc := (defScope s_steps)) (by decide +kernel)) (fun _ _ _ _ _ => pg_name (i := 3) sc_steps.nd rfl (Or.inl rfl)) (fun _ _ _ _ _ => pts_nil) (fun _ _ _ _ _ => (pe_call (d_sides T) (hr.mono (by decide)) (by rfl) T.m_sides T.F_sides.kp T.b_sides .nil pass0 (pa_cons (pv 3) pa_nil))))) (pss_one (ps_ret (pe_lc (own := [("head", 4)]) rfl sc_steps.nd (pi_range1 (by rfl) T.n_range (pa_cons (pe_op op_shl pe_int (pv 1)) pa_nil)) (blkOk_by (own := [("head", 4)]) (N := N_steps) (sc := (defScope s_steps)) (by decide +kernel)) (fun _ _ _ _ _ => pg_name (i := 4) sc_steps.nd rfl (Or.inl rfl)) (fun _ _ _ _ _ => pts_nil) (fun _ _ _ _ _ => (pe_call (d_rules_behind T) (hr.mono (by decide)) (by rfl) T.m_rules_behind T.F_rules_behind.kp T.b_rules_behind .nil pass0 (pa_cons (pv 4) (pa_cons (pv 2) (pa_cons (pv 1) pa_nil))))))))), fun x hx => ?_⟩
  obtain ⟨rs, n, b⟩ := x
  obtain ⟨hr', h8, hz⟩ := hx
  have hr' : ∀ r ∈ rs, RowOk r n := hr'
  have h8 : n ≤ 8 := h8
  have hz : rs.length ≤ 1000 := hz
  have p8 := pow8 h8
  refine ds_seq (ds_asg (Ev.dl (ev_cast (d' := .lst (sidD (rs.map sidesM))) ?c1 (EvN.ev (evn_lc1 (xs := rs) (c := fun r => .str (tx r)) (f := fun r => D.tup [.int (sideM 43 r : Nat), .int (sideM 45 r : Nat)]) (ei_rows (b := b) (ev_var (d := rowsD b rs) rfl)) (by omega) fun r hr => ⟨[3], _, dg_name, fun i hi => hi, evt_yes, ev_call (s := spSides) (x := r) (eva_cons (ev_var rfl) eva_nil) rfl ⟨n, hr' r hr, h8⟩ fun d h => h⟩))) ?_))
  case c1 => unfold sidD; rw [List.map_map]; rfl
  refine ds_ret (Ev.dl (ev_cast (d' := .lst (lolD (stepsM rs n))) ?c2 (EvN.ev (evn_lc1 (xs := List.range (2 ^ n)) (c := fun k : Nat => D.int k) (f := fun head => D.lst (ordD (behindM head (rs.map sidesM) n))) (ei_range (n := 2 ^ n) (eva_cons (ev_op ev_int (ev_var rfl) (dr2_shl1 (by omega))) eva_nil) (by omega)) (by rw [List.length_range]; omega) fun head hh => ⟨[4], _, dg_name, fun i hi => hi, evt_yes, ev_call (s := spBehind) (x := (head, rs.map sidesM, n)) (eva_cons (ev_var rfl) (eva_cons (ev_var rfl) (eva_cons (ev_var rfl) eva_nil))) (np_sd (r := [_]) rfl) ⟨h8, by show (rs.map sidesM).length ≤ 1000; rw [List.length_map]; exact hz⟩ fun d h => h⟩))) rfl)
  unfold lolD stepsM
  rw [List.map_map]; rfl
end K18

namespace K18
open PySem PySem.Spec PyProof.Rows L2 Dw
variable [Tabs0]
theorem d_endings {P : Program} {w : World} {K : PySem.W.Frag} {mg : Str → Option Value} {base : Heap} (T : Txt K w mg) : FnOk P w K mg base CX0 1 T.f_endings T.e_endings ["behind"] (toSp (spEnd)) := by
  refine fn_ok T.F_endings sc_endings (fun _ => rfl) fun cdv A outer s' H E hr => ?_
  refine ⟨_, (pss_cons (ps_set (i := 1) sc_endings.nd rfl (Or.inr rfl) (pe_op opTimes (pe_lst (pa_cons pe_int pa_nil)) (pe_callB (lenA K) (by rfl) T.n_len (by decide +kernel) (pa_cons (pv 0) pa_nil)))) (pss_cons (ps_for PassesOwn.never rfl (pi_revR (by rfl) T.n_reversed (prg_1 (by rfl) T.n_range (pe_op op_sub (pe_callB (lenA K) (by rfl) T.n_len (by decide +kernel) (pa_cons (pv 0) pa_nil)) pe_int))) (pg_name (i := 2) sc_endings.nd rfl (Or.inr rfl)) (pss_one (ps_asg (pe_callB (sumA K) (by rfl) T.n_sum (by decide +kernel) (pa_cons (pe_lc (own := [("rule", 3)]) rfl sc_endings.nd (piR K (pe_ix (ixA K) (pv 0) (pv 2) (fun _ _ => rfl))) (blkOk_by (own := [("rule", 3)]) (N := N_endings) (sc := (defScope s_endings)) (by decide +kernel)) (fun _ _ _ _ _ => pg_name (i := 3) sc_endings.nd rfl (Or.inl rfl)) (fun _ _ _ _ _ => pts_nil) (fun _ _ _ _ _ => (pe_ix (ixA K) (pv 1) (pe_op op_or (pv 2) (pe_op op_shl pe_int (pv 3))) (fun _ _ => rfl)))) pa_nil)) (pg_sub (pv 1) (pv 2) set_list)))) (pss_one (ps_ret (pv 1))))), fun x hx => ?_⟩
  obtain ⟨b, rfl⟩ : ∃ l : List (List Nat), l = x := ⟨x, rfl⟩
  have hb : EndOk b := hx
  have hi := hb.hi
  have lb : (lolD b).length = b.length := List.length_map ..
  refine ds_seq (ds_asg_own (ds := ordD (List.replicate b.length 1)) ?e1 ?_)
  case e1 =>
    rw [← rep_one]
    exact evn_rep (ds := [.int (1 : Nat)]) (n := b.length) (EvN.b (evn_lst (eva_cons ev_int eva_nil) (small (show 1 ≤ 100000 by decide)))) (ev_cast (congrArg (fun n : Nat => D.int n) lb) (ev_len (ds := lolD b) (ev_var rfl).b)) (by show 1 * b.length ≤ _; exact small (by omega)) (by omega)
  refine ds_seq (ds_for (fun xs i Γ' => xs = (rng (b.length - 1)).reverse ∧ ∃ s2 : Sl, Γ' = [.val (.lst (lolD b)), .own (ordD (endTo b i)), s2, .unset])
    (di_rev (n := b.length - 1) (ev_cast (congrArg D.int (by have := hb.lo; rw [lb]; omega)) (ev_op (ev_len (ds := lolD b) (ev_var rfl).b) ev_int (dr2_sub (i := ((lolD b).length : Nat)) (j := 1)))) (by omega) ⟨⟨rfl, _, rfl⟩, fun i x Γ' hx' ⟨exs, s2, e⟩ => ?_, fun Γ' ⟨exs, s2, e⟩ => ?_⟩))
  · subst e
    have hil : i < b.length - 1 := by
      have := (List.getElem?_eq_some_iff.mp hx').1
      rw [List.length_reverse, rng_length] at this
      exact this
    have hx2 : x = .int ((b.length - 1 - 1 - i : Nat) : Int) := by
      rw [List.getElem?_reverse (by rw [rng_length]; exact hil), rng_length] at hx'
      exact (rng_get hx').2
    subst hx2
    obtain ⟨head, hh⟩ : ∃ head, head = b.length - 1 - 1 - i := ⟨_, rfl⟩
    rw [← hh]
    have hl : head < b.length := by omega
    have wl := endTo_len b i
    refine ⟨[2], _, dg_name, ds_sub ⟨_, rfl⟩ (Ev.dl (ev_cast (d' := .int ((((b.getD head []).map fun k => (endTo b i).getD (head ||| 2 ^ k) 0).sum : Nat) : Int)) ?c (ev_sum (ns := (b.getD head []).map fun k => (((endTo b i).getD (head ||| 2 ^ k) 0 : Nat) : Int)) (EvN.b ?e))) ⟨ordD (endTo b i), head, rfl, ev_var rfl, by rw [ordD_len, wl]; exact hl, exs, .val (.int (head : Nat)), ?n⟩)⟩
    case c => rw [← sum_cast, List.map_map]; rfl
    case e =>
      rw [List.map_map]
      refine evn_lc1 (xs := b.getD head []) (c := fun k : Nat => D.int k) (f := fun k => D.int (((endTo b i).getD (head ||| 2 ^ k) 0 : Nat) : Int)) (ej_list (Ev.b (ds := ordD (b.getD head [])) (ev_ix (ds := lolD b) (ev_var rfl).b (ev_var rfl) (lolD_at hl)))) (by have := hb.few head; omega) fun k hk => ⟨[3], _, dg_name, fun i hi => hi, evt_yes, ?_⟩
      obtain ⟨k1, k2⟩ := hb.in_ head hl k hk
      exact ev_ix (evb_own (ds := ordD (endTo b i)) rfl) (ev_op (ev_var (d := .int (head : Nat)) rfl) (ev_op ev_int (ev_var rfl) (dr2_shl1 (by omega))) dr2_or) (ordD_at (by rw [wl]; exact k1))
    case n =>
      show [Sl.val (.lst (lolD b)), .own ((ordD (endTo b i)).set head (.int (_ : Nat))), .val (.int (head : Nat)), .unset] = _
      rw [ordD_set, endTo_succ hil, ← hh]; rfl
  · subst e
    rw [List.length_reverse, rng_length]
    exact ds_ret_own rfl rfl
end K18

namespace K18
open PySem PySem.Spec PyProof.Rows L2 Dw
variable [Tabs0]
theorem d_count_fitting {P : Program} {w : World} {K : PySem.W.Frag} {mg : Str → Option Value} {base : Heap} (T : Txt K w mg) : FnOk P w K mg base CX0 4 T.f_count_fitting T.e_count_fitting ["rows", "many"] (toSp (spCount)) := by
  refine fn_ok T.F_count_fitting sc_count_fitting (fun _ => rfl) fun cdv A outer s' H E hr => ?_
  refine ⟨_, (pss_one (ps_ret (pe_ix (ixA K) (pe_call (d_endings T) (hr.mono (by decide)) (by rfl) T.m_endings T.F_endings.kp T.b_endings .nil pass0 (pa_cons (pe_call (d_steps T) (hr.mono (by decide)) (by rfl) T.m_steps T.F_steps.kp T.b_steps .nil pass0 (pa_cons (pv 0) (pa_cons (pv 1) pa_nil))) pa_nil)) pe_int (fun _ _ => rfl)))), fun x hx => ?_⟩
  obtain ⟨rs, n, b⟩ := x
  obtain ⟨hr', h8, hz⟩ := hx
  have h8 : n ≤ 8 := h8
  have so := steps_ok (rs := rs) h8
  refine ds_ret (Ev.dl (ev_ix (ds := ordD (endM (stepsM rs n))) (Ev.b (ev_call (s := spEnd) (x := stepsM rs n) (eva_cons (ev_call (s := spSteps) (x := (rs, n, b)) (eva_cons (ev_var rfl) (eva_cons (ev_var rfl) eva_nil)) (np_rd (r := [_]) rfl) ⟨hr', h8, hz⟩ fun d h => h) eva_nil) (np_ll (r := []) rfl) so fun d h => h)) ev_int (ordD_at (i := 0) ?_)) rfl)
  unfold endM
  rw [endTo_len]; exact so.lo
end K18

namespace K18
open PySem PySem.Spec PyProof.Rows L2 Dw
variable [Tabs0]
/-! any text, read as a book -/
def splitL : List Nat → List (List Nat)
  | [] => [[]]
  | c :: l => if c = 32 then [] :: splitL l else match splitL l with | [] => [[c]] | p :: r => (c :: p) :: r
theorem splitL_ne : ∀ l : List Nat, splitL l ≠ []
  | [] => fun h => nomatch h
  | c :: l => by
    unfold splitL
    by_cases h : c = 32
    · rw [if_pos h]; exact fun h => nomatch h
    · rw [if_neg h]
      cases splitL l <;> exact fun h => nomatch h
theorem splitL_cons {c : Nat} {l : List Nat} (h : c ≠ 32) {p : List Nat} {r : List (List Nat)} (e : splitL l = p :: r) : splitL (c :: l) = (c :: p) :: r := by
  show (if c = 32 then [] :: splitL l else match splitL l with | [] => [[c]] | p :: r => (c :: p) :: r) = _
  rw [if_neg h, e]
theorem splitL_sp (l : List Nat) : splitL (32 :: l) = [] :: splitL l := if_pos rfl
theorem splitL_ind {P : List Nat → List (List Nat) → Prop} (h0 : P [] [[]]) (h1 : ∀ l ps, ps ≠ [] → P l ps → P (32 :: l) ([] :: ps)) (h2 : ∀ c l p r, c ≠ 32 → P l (p :: r) → P (c :: l) ((c :: p) :: r)) : ∀ l, P l (splitL l)
  | [] => h0
  | c :: l => by
    have ih := splitL_ind h0 h1 h2 l
    by_cases h : c = 32
    · subst h
      rw [splitL_sp]
      exact h1 l _ (splitL_ne l) ih
    · cases e : splitL l with
      | nil => exact absurd e (splitL_ne l)
      | cons p r =>
        rw [splitL_cons h e]
        rw [e] at ih
        exact h2 c l p r h ih
theorem joinX_cons (p : List Nat) {r : List (List Nat)} (h : r ≠ []) : TL.joinL [32] (p :: r) = p ++ ([32] ++ TL.joinL [32] r) := by
  cases r with
  | nil => exact absurd rfl h
  | cons q r => simp [TL.joinL]
theorem joinL_one (p : List Nat) : TL.joinL [32] [p] = p := by simp [TL.joinL]
theorem joinL_head (c : Nat) (p : List Nat) (r : List (List Nat)) : TL.joinL [32] ((c :: p) :: r) = c :: TL.joinL [32] (p :: r) := by
  cases r with
  | nil => rw [joinL_one, joinL_one]
  | cons q r => rw [joinX_cons (c :: p) (r := q :: r) (by simp), joinX_cons p (r := q :: r) (by simp)]; rfl
theorem splitL_join (l : List Nat) : TL.joinL [32] (splitL l) = l := splitL_ind (P := fun l ps => TL.joinL [32] ps = l) rfl (fun l ps hn h => by rw [joinX_cons _ hn, h]; rfl) (fun c l p r _ h => by rw [joinL_head, h]) l
theorem splitL_no (l : List Nat) : ∀ p ∈ splitL l, 32 ∉ p := splitL_ind (P := fun _ ps => ∀ p ∈ ps, 32 ∉ p) (fun p h => by rw [List.mem_singleton.mp h]; simp) (fun l ps _ h p hp => by
  rcases List.mem_cons.mp hp with rfl | hp
  · simp
  · exact h p hp) (fun c l p r hc h q hq => by
  rcases List.mem_cons.mp hq with rfl | hq
  · have := h p List.mem_cons_self
    intro hm
    rcases List.mem_cons.mp hm with e | hm
    · exact hc e.symm
    · exact this hm
  · exact h q (List.mem_cons_of_mem _ hq)) l
theorem splitL_len (l : List Nat) : (splitL l).length ≤ l.length + 1 := splitL_ind (P := fun l ps => ps.length ≤ l.length + 1) (Nat.le_refl _) (fun l ps _ h => by simp; omega) (fun c l p r _ h => by simp at h ⊢; omega) l
theorem splitL_sub (l : List Nat) : ∀ p ∈ splitL l, p.length ≤ l.length ∧ ∀ c ∈ p, c ∈ l := splitL_ind (P := fun l ps => ∀ p ∈ ps, p.length ≤ l.length ∧ ∀ c ∈ p, c ∈ l) (fun p h => by rw [List.mem_singleton.mp h]; simp) (fun l ps _ h p hp => by
  rcases List.mem_cons.mp hp with rfl | hp
  · simp
  · obtain ⟨a, b⟩ := h p hp
    exact ⟨by simp; omega, fun c hc => List.mem_cons_of_mem _ (b c hc)⟩) (fun c l p r _ h q hq => by
  rcases List.mem_cons.mp hq with rfl | hq
  · obtain ⟨a, b⟩ := h p List.mem_cons_self
    refine ⟨by simp; omega, fun d hd => ?_⟩
    rcases List.mem_cons.mp hd with rfl | hd
    · exact List.mem_cons_self
    · exact List.mem_cons_of_mem _ (b d hd)
  · obtain ⟨a, b⟩ := h q (List.mem_cons_of_mem _ hq)
    exact ⟨by simp; omega, fun d hd => List.mem_cons_of_mem _ (b d hd)⟩) l
theorem splitL_app {p l : List Nat} (h : 32 ∉ p) : ∀ {q : List Nat} {r : List (List Nat)}, splitL l = q :: r → splitL (p ++ l) = (p ++ q) :: r := by
  induction p with
  | nil => intro q r e; exact e
  | cons c p ih =>
    intro q r e
    have hc : c ≠ 32 := fun z => h (by rw [z]; exact List.mem_cons_self)
    exact splitL_cons hc (ih (fun z => h (List.mem_cons_of_mem _ z)) e)
theorem splitL_of : ∀ {ps : List (List Nat)}, ps ≠ [] → (∀ p ∈ ps, 32 ∉ p) → splitL (TL.joinL [32] ps) = ps
  | [], h, _ => absurd rfl h
  | [p], _, h => by
    have := splitL_app (l := []) (h p List.mem_cons_self) (q := []) (r := []) rfl
    rw [List.append_nil] at this
    rw [joinL_one, this]
  | p :: q :: r, _, h => by
    rw [joinX_cons _ (by simp)]
    have ih := splitL_of (ps := q :: r) (by simp) fun x hx => h x (List.mem_cons_of_mem _ hx)
    have := splitL_app (l := [32] ++ TL.joinL [32] (q :: r)) (h p List.mem_cons_self) (q := []) (r := q :: r) (by rw [show [32] ++ TL.joinL [32] (q :: r) = 32 :: TL.joinL [32] (q :: r) from rfl, splitL_sp, ih])
    rw [List.append_nil] at this
    exact this
theorem splitS (l : List Nat) : Txt.split (tx l) (Str.ofString " ") = (splitL l).map tx := by
  have := split_sp (splitL_ne l) (splitL_no l)
  rw [splitL_join] at this
  exact this
def cutAt : List Nat → Option (List Nat × List Nat)
  | [] => none
  | c :: l => if c = 58 then some ([], l) else (cutAt l).map fun x => (c :: x.1, x.2)
theorem cutAt_some : ∀ {l p q : List Nat}, cutAt l = some (p, q) → l = p ++ ([58] ++ q) ∧ 58 ∉ p
  | [], p, q, h => nomatch h
  | c :: l, p, q, h => by
    unfold cutAt at h
    by_cases hc : c = 58
    · rw [if_pos hc] at h
      cases h
      exact ⟨by rw [hc]; rfl, by simp⟩
    · rw [if_neg hc] at h
      cases e : cutAt l with
      | none => rw [e] at h; cases h
      | some x =>
        obtain ⟨a, b⟩ := x
        rw [e] at h; cases h
        obtain ⟨h1, h2⟩ := cutAt_some e
        refine ⟨by rw [h1]; rfl, fun hm => ?_⟩
        rcases List.mem_cons.mp hm with z | hm
        · exact hc z.symm
        · exact h2 hm
theorem cutAt_none : ∀ {l : List Nat}, cutAt l = none ↔ 58 ∉ l
  | [] => by simp [cutAt]
  | c :: l => by
    unfold cutAt
    by_cases hc : c = 58
    · rw [if_pos hc]
      simp [hc]
    · rw [if_neg hc, Option.map_eq_none_iff, cutAt_none (l := l), List.mem_cons, not_or]
      exact ⟨fun h => ⟨fun z => hc z.symm, h⟩, fun h => h.2⟩
theorem cutAt_of : ∀ {p q : List Nat}, 58 ∉ p → cutAt (p ++ ([58] ++ q)) = some (p, q)
  | [], q, _ => if_pos rfl
  | c :: p, q, h => by
    show (if c = 58 then some ([], p ++ ([58] ++ q)) else (cutAt (p ++ ([58] ++ q))).map fun x => (c :: x.1, x.2)) = _
    rw [if_neg (fun z => h (by rw [z]; exact List.mem_cons_self)), cutAt_of fun z => h (List.mem_cons_of_mem _ z)]; rfl
/-- the tests of a text's head and tail -/
def headB (ns : List (List Nat)) (f : List Nat) : Bool := decide (f = []) && decide (ns.length ≤ 8) && namesB (nameD ns)
def tailB (rows : List (List Nat)) (n : Nat) : Bool := decide (rows.length ≤ 20) && rows.all fun r => rowB (.str (tx r)) n
def bookP (ns : List (List Nat)) : List (List Nat) → Option Bk
  | [] => none
  | f :: rows => if (headB ns f && tailB rows ns.length) = true then some (ns, rows) else none
def bookQ (l : List Nat) : Option Bk := (cutAt l).bind fun x => bookP (splitL x.1) (splitL x.2)
theorem bookQ_tx {ls rs : List (List Nat)} (h : BookOk ls rs) : bookQ (bookTx ls rs) = some (ls, rs) := by
  unfold bookQ
  rw [bookTx_eq, cutAt_of h.h58]
  show bookP (splitL (TL.joinL [32] ls)) (splitL (TL.joinL [32] ([] :: rs))) = _
  rw [splitL_of (fun e => by have := h.names.lo; rw [e] at this; cases this) h.h32, splitL_of (by simp) h.r32]
  refine if_pos ?_
  unfold headB tailB
  rw [decide_eq_true rfl, decide_eq_true h.names.hi, names_ok h.names, decide_eq_true h.few, List.all_eq_true.mpr fun r hr => row_ok (h.rows r hr) h.names.lo h.names.hi]; rfl
theorem okS_codes {l : List Nat} (h : okS (tx l)) : ∀ c ∈ l, c < 1114112 := fun c hc => by
  have h : (tx l).cps.all (fun c => decide (c < 1114112)) = true := h
  rw [← Array.all_toList, List.all_eq_true, tx_cps] at h
  exact of_decide_eq_true (h c hc)
def pairD (b : Bk) : D := .tup [.tup (nameD b.1), .tup (nameD b.2)]
def bookOf : D → Option Bk
  | .str x => bookQ x.cps.toList
  | _ => none
def optD : Option Bk → D
  | some b => pairD b
  | none => .non
/-- a text that is not long beyond sense -/
def shT : D → Bool
  | .str x => decide (x.length ≤ 15000)
  | _ => true
def spReadG : Spc where
  ty := D
  args := fun d => [d]
  ok := fun d => Pv d ∧ shT d = true
  rel := fun d e => e = optD (bookOf d)
theorem bookOf_tx {ls rs : List (List Nat)} (h : BookOk ls rs) : bookOf (.str (tx (bookTx ls rs))) = some (ls, rs) := by
  show bookQ (tx (bookTx ls rs)).cps.toList = _
  rw [tx_cps]; exact bookQ_tx h
theorem not_str {d : D} (h : isStrB d = false) : bookOf d = none := by cases d <;> first | rfl | exact nomatch h
theorem bk_none {l : List Nat} (h : bookQ l = none) : D.non = optD (bookOf (.str (tx l))) := by
  show _ = optD (bookQ (tx l).cps.toList)
  rw [tx_cps, h]; rfl
end K18

namespace K18
open PySem PySem.Spec PyProof.Rows L2 Dw
variable [Tabs0]
theorem d_read_book {P : Program} {w : World} {K : PySem.W.Frag} {mg : Str → Option Value} {base : Heap} (T : Txt K w mg) : FnOk P w K mg base CX0 3 T.f_read_book T.e_read_book ["text"] (toSp (spReadG)) := by
  refine fn_ok T.F_read_book sc_read_book (fun _ => rfl) fun cdv A outer s' H E hr => ?_
  refine ⟨_, (pss_cons (ps_if (PW.pt (pw_or (pt_not (truA K (pe_callB (isiA K) (by rfl) T.n_isinstance (by decide +kernel) (pa_cons (pv 0) (pa_cons (pe_bltn (v := .ty "str") (by rfl) T.n_str (by decide +kernel) rfl) pa_nil))))) (pw_or1 (pt_cmpR (ninA K) pe_str (pv 0) (by rfl))))) (pss_one (ps_ret pe_non)) pss_nil) (pss_cons (ps_asg (pe_partition (pv 0) pe_str) (tupA K 3 rfl (pgs_cons (pg_name (i := 1) sc_read_book.nd rfl (Or.inl rfl)) (pgs_cons (pg_name (i := 2) sc_read_book.nd rfl (Or.inl rfl)) (pgs_cons (pg_name (i := 3) sc_read_book.nd rfl (Or.inl rfl)) pgs_nil))))) (pss_cons (ps_set (i := 4) sc_read_book.nd rfl (Or.inr rfl) (pe_callTy (tupleA K) (by rfl) T.n_tuple (by decide +kernel) (pa_cons (pe_split (pv 1) pe_str) pa_nil))) (pss_cons (ps_asg (pe_split (pv 3) pe_str) (star1XA K rfl (pg_name (i := 5) sc_read_book.nd rfl (Or.inl rfl)) (pg_name (i := 6) sc_read_book.nd rfl (Or.inl rfl)))) (pss_cons (ps_if (PW.pt (pw_or (pt_cmpR (neA K hr.units) (pv 5) pe_str (nomark _)) (pw_or (pt_cmpR opGt (pe_callB (lenA K) (by rfl) T.n_len (by decide +kernel) (pa_cons (pv 4) pa_nil)) (pe_glob (v := .int 8) (by rfl) T.c_MOST_RULES ⟨_, rfl⟩) (nomark _)) (pw_or1 (pt_not (truA K (pe_call (d_are_names T) (hr.mono (by decide)) (by rfl) T.m_are_names T.F_are_names.kp T.b_are_names .nil pass0 (pa_cons (pv 4) pa_nil)))))))) (pss_one (ps_ret pe_non)) pss_nil) (pss_cons (ps_if (PW.pt (pw_or (pt_cmpR opGt (pe_callB (lenA K) (by rfl) T.n_len (by decide +kernel) (pa_cons (pv 6) pa_nil)) (pe_glob (v := .int 20) (by rfl) T.c_MOST_ROWS ⟨_, rfl⟩) (nomark _)) (pw_or1 (pt_not (truA K (pe_callB (allA K) (by rfl) T.n_all (by decide +kernel) (pa_cons (pe_lc (own := [("row", 7)]) rfl sc_read_book.nd (piR K (pv 6)) (blkOk_by (own := [("row", 7)]) (N := N_read_book) (sc := (defScope s_read_book)) (by decide +kernel)) (fun _ _ _ _ _ => pg_name (i := 7) sc_read_book.nd rfl (Or.inl rfl)) (fun _ _ _ _ _ => pts_nil) (fun _ _ _ _ _ => (pe_call (d_is_row T) (hr.mono (by decide)) (by rfl) T.m_is_row T.F_is_row.kp T.b_is_row .nil pass0 (pa_cons (pv 7) (pa_cons (pe_callB (lenA K) (by rfl) T.n_len (by decide +kernel) (pa_cons (pv 4) pa_nil)) pa_nil))))) pa_nil))))))) (pss_one (ps_ret pe_non)) pss_nil) (pss_one (ps_ret (pe_tup (pa_cons (pv 4) (pa_cons (pe_callTy (tupleA K) (by rfl) T.n_tuple (by decide +kernel) (pa_cons (pv 6) pa_nil)) pa_nil))))))))))), fun x hx => ?_⟩
  obtain ⟨d, rfl⟩ : ∃ l : D, l = x := ⟨x, rfl⟩
  obtain ⟨hd, hsh⟩ := hx
  have hd : Pv d := hd
  by_cases hs : isStrB d = true
  · obtain ⟨s, rfl⟩ := str_of hs
    obtain ⟨l, rfl⟩ : ∃ l, s = tx l := ⟨_, of_tx s⟩
    have hc := hd.str.1
    have hl : l.length ≤ 15000 := by
      have : decide ((tx l).length ≤ 15000) = true := hsh
      rw [tx_len] at this
      exact of_decide_eq_true this
    have hz : (tx l).length ≤ sizeLine := small (by rw [tx_len]; omega)
    have e58 := nin_code (K := K) (l := l) (c := 58)
    rw [show ch 58 = Str.ofString ":" by decide +kernel] at e58
    refine ds_seq (ds_if (EvT.dl (b := false || !decide (58 ∈ l)) (evt_or (a := false) (b := !decide (58 ∈ l)) (evt_not (a := true) (evt_tru_bl (ev_isi (ev_var rfl) ev_raw (.inl rfl) (.ty "str") rfl))) fun _ => evt_test (ev_op ev_str (ev_var rfl) e58)) ⟨fun h => ds_ret (Ev.dl ev_non (bk_none ?no)), fun h => ds_next ?_⟩))
    case no =>
      have : 58 ∉ l := by simpa using h
      unfold bookQ
      rw [cutAt_none.mpr this]; rfl
    obtain ⟨p, q, e⟩ : ∃ p q, cutAt l = some (p, q) := by
      cases e : cutAt l with
      | none => exact absurd (cutAt_none.mp e) (by simpa using h)
      | some x => exact ⟨x.1, x.2, rfl⟩
    obtain ⟨el, h58⟩ := cutAt_some e
    have eb : bookQ l = bookP (splitL p) (splitL q) := by
      unfold bookQ
      rw [e]; rfl
    have lpq : p.length + q.length ≤ l.length := by rw [el]; simp
    have hp : Txt.partition (tx l) (Str.ofString ":") = (tx p, tx [58], tx q) := by rw [el]; exact part_sp h58
    refine ds_seq (ds_asg_g (Ev.dl (ev_cast (d' := .tup [.str (tx p), .str (tx [58]), .str (tx q)]) (by rw [hp]) (ev_partition (ev_var rfl) ev_str (by decide +kernel) hz)) ⟨[1] ++ ([2] ++ [3]), _, dg_tup3 dg_name dg_name dg_name, ?_⟩))
    refine ds_seq (ds_asg (Ev.dl (ev_cast (d' := .tup (nameD (splitL p))) ?e1 (ev_tuple (EvN.b (evn_split (a := tx p) (ev_var rfl) ev_str (by decide +kernel) ?z1)))) ?_))
    case e1 => rw [splitS, nameD_map]
    case z1 => rw [tx_len]; exact small (by omega)
    have lq := splitL_len q
    cases eq : splitL q with
    | nil => exact absurd eq (splitL_ne q)
    | cons f rows =>
      rw [eq, List.length_cons] at lq
      have eb : bookQ l = if (headB (splitL p) f && tailB rows (splitL p).length) = true then some (splitL p, rows) else none := by rw [eb, eq]; rfl
      refine ds_seq (ds_starL (Ev.dl (EvN.ev (evn_split (a := tx q) (ev_var rfl) ev_str (by decide +kernel) ?z2)) ⟨.str (tx f), nameD rows, .inl ?e2, ?z3, ?_⟩))
      case e2 => rw [splitS, eq]; show D.lst ((tx f :: rows.map tx).map D.str) = _; rw [List.map_cons, nameD_map]
      case z2 => rw [tx_len]; exact small (by omega)
      case z3 => unfold nameD; rw [List.length_map]; omega
      have l1 : (nameD (splitL p)).length = (splitL p).length := List.length_map ..
      have l2 : (nameD rows).length = rows.length := List.length_map ..
      have sub := splitL_sub p
      have subq := splitL_sub q
      have codes : ∀ c ∈ l, c < 1114112 := fun c hc' => okS_codes hc c hc'
      have pcodes : ∀ c ∈ p, c ∈ l := fun c hc' => by rw [el]; exact List.mem_append_left _ hc'
      have qcodes : ∀ c ∈ q, c ∈ l := fun c hc' => by rw [el]; simp [hc']
      have t1 : (!decide (f = [])) = (!decide (tx f = Str.ofString "")) := by
        congr 1
        rw [show Str.ofString "" = tx [] by decide +kernel]
        exact decide_eq_decide.mpr tx_eq.symm
      refine ds_seq (ds_if (EvT.dl (b := !headB (splitL p) f) ?hd ⟨fun h2 => ds_ret (Ev.dl ev_non (bk_none ?no2)), fun h2 => ds_next ?_⟩))
      case hd =>
        have e3 : (!headB (splitL p) f) = (!decide (f = []) || (!decide ((splitL p).length ≤ 8) || !namesB (nameD (splitL p)))) := by
          unfold headB
          cases decide (f = []) <;> cases decide ((splitL p).length ≤ 8) <;> cases namesB (nameD (splitL p)) <;> rfl
        rw [e3]
        refine evt_or (evt_test (ev_op (ev_var rfl) ev_str (ne_sb t1.symm))) fun _ => evt_or (evt_test (ev_op (ev_lenT (ds := nameD (splitL p)) (ev_var rfl)) ev_int (gt_b ?g))) fun h9 => evt_not (evt_tru_bl (ev_call (s := spNamesG) (x := nameD (splitL p)) (eva_cons (ev_var rfl) eva_nil) (np_tup (np_name _)) ?pv fun d h => h))
        case g =>
          rw [l1]
          have : decide ((8 : Int) < ((splitL p).length : Int)) = !decide ((splitL p).length ≤ 8) := by
            rw [← decide_not]
            exact decide_eq_decide.mpr (by omega)
          exact this
        case pv =>
          have h9 : (splitL p).length ≤ 8 := by simpa using h9
          show (decide ((nameD (splitL p)).length ≤ 60) && plBs 11 (nameD (splitL p))) = true
          rw [l1, decide_eq_true (by omega), Bool.true_and, plBs_iff]
          intro d hd'
          obtain ⟨w, hw, rfl⟩ := List.mem_map.mp hd'
          obtain ⟨s1, s2⟩ := sub w hw
          exact pv_strs (fun c hc' => codes c (pcodes c (s2 c hc'))) (by omega)
      case no2 =>
        rw [eb, if_neg]
        rw [Bool.not_eq_true'] at h2
        rw [h2]; simp
      rw [Bool.not_eq_false'] at h2
      have h2' := h2
      unfold headB at h2'
      rw [Bool.and_eq_true, Bool.and_eq_true, decide_eq_true_eq, decide_eq_true_eq] at h2'
      refine ds_seq (ds_if (EvT.dl (b := !tailB rows (splitL p).length) ?tl ⟨fun h3 => ds_ret (Ev.dl ev_non (bk_none ?no3)), fun h3 => ds_next ?_⟩))
      case tl =>
        have e3 : (!tailB rows (splitL p).length) = (!decide (rows.length ≤ 20) || !rows.all fun r => rowB (.str (tx r)) (splitL p).length) := by
          unfold tailB
          cases decide (rows.length ≤ 20) <;> rfl
        rw [e3]
        refine evt_or (evt_test (ev_op (ev_len (ds := nameD rows) (ev_var rfl).b) ev_int (gt_b ?g2))) fun h9 => evt_not (evt_tru_bl (ev_all_lc (K := K) (xs := rows) (c := fun l => .str (tx l)) (b := fun r => rowB (.str (tx r)) (splitL p).length) (ej_list (ev_var (d := .lst (nameD rows)) rfl).b) ?z4 fun r hr' => ⟨[7], _, dg_name, fun i hi => hi, evt_yes, ev_call (s := spRowG) (x := (.str (tx r), (splitL p).length)) (eva_cons (ev_var rfl) (eva_cons (ev_cast (congrArg (fun n : Nat => D.int n) l1) (ev_lenT (ds := nameD (splitL p)) (ev_var rfl))) eva_nil)) rfl ?pr fun d h => h⟩))
        case g2 =>
          rw [l2]
          have : decide ((20 : Int) < (rows.length : Int)) = !decide (rows.length ≤ 20) := by
            rw [← decide_not]
            exact decide_eq_decide.mpr (by omega)
          exact this
        case z4 => omega
        case pr =>
          obtain ⟨s1, s2⟩ := subq r (by rw [eq]; exact List.mem_cons_of_mem _ hr')
          exact pv_strs (fun c hc' => codes c (qcodes c (s2 c hc'))) (by omega)
      case no3 =>
        rw [eb, if_neg]
        rw [Bool.not_eq_true'] at h3
        rw [h3]; simp
      rw [Bool.not_eq_false'] at h3
      refine ds_ret (Ev.dl (ev_tup (eva_cons (ev_var rfl) (eva_cons (ev_tuple (ev_var (d := .lst (nameD rows)) rfl).b) eva_nil)) (small (show 2 ≤ 100000 by decide))) ?_)
      show _ = optD (bookQ (tx l).cps.toList)
      rw [tx_cps, eb, h2, h3]; rfl
  · have hs : isStrB d = false := by simpa using hs
    refine ds_seq (ds_if (EvT.dl (b := true) (evt_or (a := true) (b := false) (evt_not (a := false) (evt_tru_bl (ev_isi (ev_var rfl) ev_raw (.inl hd.ty) (.ty "str") (by rw [kit_str hd.ty, hs])))) fun h => (nomatch h)) ⟨fun _ => ds_ret (Ev.dl ev_non ?_), fun h => (nomatch h)⟩))
    show D.non = optD (bookOf d)
    rw [not_str hs]; rfl

end K18

namespace K18
open PySem PySem.Spec PyProof.Rows L2 Dw
variable [Tabs0]
/-! books made of texts, by any reading -/
theorem sh_book {ls rs : List (List Nat)} (h : BookOk ls rs) : shT (.str (tx (bookTx ls rs))) = true := decide_eq_true (Nat.le_trans h.len (by decide))
theorem joinX_all {p : Nat → Prop} (h32 : p 32) : ∀ ls : List (List Nat), (∀ l ∈ ls, ∀ c ∈ l, p c) → ∀ c ∈ TL.joinL [32] ls, p c
  | [], _, c, hc => absurd hc (by simp [TL.joinL])
  | [l], h, c, hc => h l List.mem_cons_self c (by simpa [TL.joinL] using hc)
  | l :: m :: r, h, c, hc => by
    rw [joinX_cons l (r := m :: r) (by simp), List.mem_append, List.mem_append] at hc
    rcases hc with hc | hc | hc
    · exact h l List.mem_cons_self c hc
    · rw [List.mem_singleton.mp hc]; exact h32
    · exact joinX_all h32 (m :: r) (fun l' hl => h l' (List.mem_cons_of_mem _ hl)) c hc
theorem bookX_codes {ls rs : List (List Nat)} (h : BookOk ls rs) : ∀ c ∈ bookTx ls rs, c < 1114112 := by
  unfold bookTx
  refine joinX_all (p := fun c => c < 1114112) (by decide) _ fun l hl c hc => ?_
  rcases List.mem_cons.mp hl with rfl | hl
  · rcases List.mem_append.mp hc with hc | hc
    · refine joinX_all (p := fun c => c < 1114112) (by decide) _ (fun l hl c hc => ?_) c hc
      have := ((h.names.all l hl).all c hc).2
      omega
    · rw [List.mem_singleton.mp hc]; decide
  · exact ((h.rows l hl).all c hc).lt
theorem pv_book {ls rs : List (List Nat)} (h : BookOk ls rs) : Pv (.str (tx (bookTx ls rs))) := pv_strs (bookX_codes h) (by have := h.len; rw [tx_len] at this; omega)
theorem opt_book {ls rs : List (List Nat)} (h : BookOk ls rs) : optD (bookOf (.str (tx (bookTx ls rs)))) = .tup [.tup (nameD ls), .tup (nameD rs)] := by
  rw [bookOf_tx h]; rfl
end K18

namespace K18
open PySem PySem.Spec PyProof.Rows L2 Dw
variable [Tabs0]
theorem d_Book___init__ {P : Program} {w : World} {K : PySem.W.Frag} {mg : Str → Option Value} {base : Heap} (T : Txt K w mg) : FnOk P w K mg base CX0 4 T.f_Book___init__ T.e_Book___init__ ["self", "text"] (toIn T.C_Book ["_text", "_names", "_rows"] spInit) := by
  refine in_ok T.F_Book___init__ sc_Book___init__ (fun _ => rfl) fun cdv A outer s' H E hr => ?_
  refine ⟨_, (pss_cons (ps_set (i := 2) sc_Book___init__.nd rfl (Or.inl rfl) (pe_call (d_read_book T) (hr.mono (by decide)) (by rfl) T.m_read_book T.F_read_book.kp T.b_read_book .nil pass0 (pa_cons (pv 1) pa_nil))) (pss_cons (ps_if (pt_cmpR op_isN (pv 2) pe_non (nomark _)) (pss_one ps_never) pss_nil) (pss_cons (ps_fld (pv 0) (pv 1) rfl) (pss_one (ps_asg (pv 2) (tupA K 2 rfl (pgs_cons (pg_fld (pv 0)) (pgs_cons (pg_fld (pv 0)) pgs_nil)))))))), fun x hx a => ?_⟩
  obtain ⟨ls, rs⟩ := x
  have hb : BookOk ls rs := hx
  refine di_seq (di_of (ds_asg (Ev.dl (ev_call (s := spReadG) (d := .tup [.tup (nameD ls), .tup (nameD rs)]) (x := .str (tx (bookTx ls rs))) (eva_cons (ev_var rfl) eva_nil) rfl ⟨pv_book hb, sh_book hb⟩ fun d h => by rw [h]; exact opt_book hb) ?_)))
  refine di_seq (di_of (ds_if (EvT.dl (b := false) (evt_test (ev_op (ev_var rfl) ev_non (dr2_isN fun W v h => ?_))) ⟨fun h => (nomatch h), fun _ => ds_next ?_⟩)))
  · obtain ⟨p, vs, e, _⟩ := h
    rw [e]; exact decide_eq_false fun h => nomatch h
  refine di_seq (di_fld T.cl_Book T.no_text (by simp) (by decide) (ev_var rfl) (ev_var rfl) ?_)
  exact di_fld2 T.cl_Book T.no_names T.no_rows (by decide +kernel) (by decide +kernel) (by decide) (ev_var rfl) (ev_var rfl) ⟨rfl, rfl⟩


end K18

namespace K18
open PySem PySem.Spec PyProof.Rows L2 Dw
variable [Tabs0]
def spMany (C : Addr) : Spc where
  ty := Bk
  args := fun x => [bookD C x.1 x.2]
  ok := fun x => BookOk x.1 x.2
  rel := fun x d => d = .int (countM x.2 x.1.length : Nat)
def spCkFits (C : Addr) : Spc where
  ty := Bk
  args := fun x => [bookD C x.1 x.2]
  ok := fun x => BookOk x.1 x.2 ∧ Still x.2 x.1.length = []
  rel := fun _ d => d = .non
def needM (rs : List (List Nat)) (n : Nat) : List Nat := (List.range rs.length).filter fun i => decide (countM (rs.take i ++ rs.drop (i + 1)) n = countM rs n)
def spNeed (C : Addr) : Spc where
  ty := Bk
  args := fun x => [bookD C x.1 x.2]
  ok := fun x => BookOk x.1 x.2
  rel := fun x d => d = .tup (ordD (needM x.2 x.1.length))
theorem cut_to {ds : List D} {k : Nat} (h : k ≤ ds.length) : Dw.cutD ds none (some (k : Int)) = ds.take k := by
  unfold Dw.cutD
  have e1 : HT.sIx ds.length 0 none = 0 := HT.sIx_none ..
  have e2 : HT.sIx ds.length ds.length (some (k : Int)) = k := by
    show (if (k : Int) < 0 then ((k : Int) + (ds.length : Int)).toNat else min (k : Int).toNat ds.length) = k
    rw [if_neg (by omega), Int.toNat_natCast]; omega
  rw [e1, e2, List.drop_zero, Nat.sub_zero]
theorem cut_from {ds : List D} {k : Nat} (h : k ≤ ds.length) : Dw.cutD ds (some (k : Int)) none = ds.drop k := by
  unfold Dw.cutD
  have e1 : HT.sIx ds.length ds.length none = ds.length := HT.sIx_none ..
  have e2 : HT.sIx ds.length 0 (some (k : Int)) = k := by
    show (if (k : Int) < 0 then ((k : Int) + (ds.length : Int)).toNat else min (k : Int).toNat ds.length) = k
    rw [if_neg (by omega), Int.toNat_natCast]; omega
  rw [e1, e2, List.take_of_length_le (by simp)]
theorem eq_nat {K : PySem.W.Frag} (a b : Nat) : DR2 (rEqX K) (.int (a : Nat)) (.int (b : Nat)) (.bl (decide (a = b))) := by
  have e := eq_int' (K := K) (i := (a : Int)) (j := (b : Int))
  rw [show decide ((a : Int) = (b : Int)) = decide (a = b) from decide_eq_decide.mpr (by omega)] at e
  exact e
theorem rows_app {rs qs : List (List Nat)} {n : Nat} (h1 : ∀ r ∈ rs, RowOk r n) (h2 : ∀ r ∈ qs, RowOk r n) : ∀ r ∈ rs ++ qs, RowOk r n := fun r hr => by
  rcases List.mem_append.mp hr with h | h
  · exact h1 r h
  · exact h2 r h
theorem rows_one {r : List Nat} {n : Nat} (h : RowOk r n) : ∀ q ∈ [r], RowOk q n := fun q hq => by rw [List.mem_singleton.mp hq]; exact h
theorem BookOk.snoc {ls rs : List (List Nat)} {r : List Nat} (h : BookOk ls rs) (hr : RowOk r ls.length) (h2 : rs.length < 20) : BookOk ls (rs ++ [r]) := ⟨h.names, by rw [List.length_append]; show rs.length + 1 ≤ 20; omega, rows_app h.rows (rows_one hr)⟩
end K18

namespace K18
open PySem PySem.Spec PyProof.Rows L2 Dw
variable [Tabs0]
/-! the numbers are those of the rankings that fit -/
theorem nodup_ext {α : Type} [DecidableEq α] : ∀ {l m : List α}, l.Nodup → m.Nodup → (∀ a, a ∈ l ↔ a ∈ m) → l.Perm m
  | [], m, _, _, h => by
    cases m with
    | nil => exact .refl _
    | cons x m => exact absurd ((h x).mpr List.mem_cons_self) (by simp)
  | x :: l, m, nl, nm, h => by
    have hx : x ∈ m := (h x).mp List.mem_cons_self
    have p := List.perm_cons_erase hx
    obtain ⟨n1, n2⟩ := List.nodup_cons.mp nl
    refine ((nodup_ext (m := m.erase x) n2 (nm.erase x) fun k => ?_).cons x).trans p.symm
    constructor
    · intro hk
      have hne : k ≠ x := fun e => n1 (by rw [← e]; exact hk)
      exact (List.mem_erase_of_ne hne).mpr ((h k).mp (List.mem_cons_of_mem _ hk))
    · intro hk
      have hk2 := List.mem_of_mem_erase hk
      have hne : k ≠ x := fun e => by
        subst e
        exact nm.not_mem_erase hk
      rcases List.mem_cons.mp ((h k).mpr hk2) with e | e
      · exact absurd e hne
      · exact e
theorem allM_nodup (n : Nat) : ∀ i, (allM n i).Nodup
  | 0 => by show [[]].Nodup; simp
  | i + 1 => by
    show (List.flatMap _ _).Nodup
    have ih := allM_nodup n i
    generalize allM n i = l at ih
    induction l with
    | nil => exact List.nodup_nil
    | cons o l ihl =>
      obtain ⟨n1, n2⟩ := List.nodup_cons.mp ih
      rw [List.flatMap_cons, List.nodup_append]
      refine ⟨?_, ihl n2, fun a ha b hb e => ?_⟩
      · rw [List.nodup_iff_pairwise_ne]
        refine List.pairwise_map.mpr (((List.nodup_iff_pairwise_ne.mp List.nodup_range).sublist List.filter_sublist).imp fun {a b} h e => h ?_)
        exact (List.cons.inj (List.append_cancel_left e)).1
      · obtain ⟨k, _, rfl⟩ := List.mem_map.mp ha
        obtain ⟨p, hp, hq⟩ := List.mem_flatMap.mp hb
        obtain ⟨j, _, rfl⟩ := List.mem_map.mp hq
        have : o = p := by
          have e2 := congrArg List.dropLast e
          simpa using e2
        subst this
        exact n1 hp
theorem fitM_nodup (rs : List (List Nat)) (n : Nat) : (fitM rs n).Nodup := (allM_nodup n n).sublist List.filter_sublist
def pathsF (rs : List (List Nat)) (n : Nat) : Nat → Nat → List (List Nat)
  | 0, _ => [[]]
  | m + 1, head => if head = 2 ^ n - 1 then [[]] else ((List.range n).filter (openBit rs head)).flatMap fun k => (pathsF rs n m (head ||| 2 ^ k)).map fun o => k :: o
theorem paths_len {rs : List (List Nat)} {n : Nat} : ∀ (m head : Nat), head < 2 ^ n → 2 ^ n - 1 - head ≤ m → (endM (stepsM rs n)).getD head 0 = (pathsF rs n m head).length
  | 0, head, h, hm => by
    have e : head = 2 ^ n - 1 := by omega
    have := end_last (behind := stepsM rs n) (by rw [steps_len]; omega)
    rw [steps_len] at this
    rw [e, this]; rfl
  | m + 1, head, h, hm => by
    by_cases hl : head = 2 ^ n - 1
    · have := end_last (behind := stepsM rs n) (by rw [steps_len]; omega)
      rw [steps_len] at this
      rw [hl, this]
      unfold pathsF
      rw [if_pos rfl]; rfl
    · have hlt : head < (stepsM rs n).length - 1 := by rw [steps_len]; omega
      have up : ∀ k ∈ (stepsM rs n).getD head [], head < head ||| 2 ^ k := fun k hk => by
        rw [steps_at h] at hk
        exact or_up (open_bit (List.mem_filter.mp hk).2)
      rw [end_at hlt up, steps_at h]
      unfold pathsF
      rw [if_neg hl, List.length_flatMap]
      congr 1
      refine List.map_congr_left fun k hk => ?_
      obtain ⟨hk1, hk2⟩ := List.mem_filter.mp hk
      have kn := List.mem_range.mp hk1
      have lt := or_up (open_bit hk2)
      rw [List.length_map]
      exact paths_len m _ (Nat.or_lt_two_pow h (Nat.pow_lt_pow_right (by decide) kn)) (by omega)
theorem paths_nodup {rs : List (List Nat)} {n : Nat} : ∀ (m head : Nat), (pathsF rs n m head).Nodup
  | 0, head => by show [[]].Nodup; simp
  | m + 1, head => by
    unfold pathsF
    split
    · simp
    · have nd : ((List.range n).filter (openBit rs head)).Nodup := List.nodup_range.sublist List.filter_sublist
      generalize (List.range n).filter (openBit rs head) = l at nd
      induction l with
      | nil => exact List.nodup_nil
      | cons k l ih =>
        obtain ⟨n1, n2⟩ := List.nodup_cons.mp nd
        rw [List.flatMap_cons, List.nodup_append]
        refine ⟨?_, ih n2, fun a ha b hb e => ?_⟩
        · rw [List.nodup_iff_pairwise_ne]
          exact List.pairwise_map.mpr ((List.nodup_iff_pairwise_ne.mp (paths_nodup m _)).imp fun {a b} h e => h (List.cons.inj e).2)
        · obtain ⟨o, _, rfl⟩ := List.mem_map.mp ha
          obtain ⟨j, hj, hq⟩ := List.mem_flatMap.mp hb
          obtain ⟨p, _, rfl⟩ := List.mem_map.mp hq
          have : k = j := (List.cons.inj e).1
          subst this
          exact n1 hj
/-- a way through the heads from head on -/
inductive Way (rs : List (List Nat)) (n : Nat) : Nat → List Nat → Prop
  | done : Way rs n (2 ^ n - 1) []
  | step (head k : Nat) (o : List Nat) (h : head ≠ 2 ^ n - 1) (hk : k < n) (ho : openBit rs head k = true) (w : Way rs n (head ||| 2 ^ k) o) : Way rs n head (k :: o)
theorem paths_way {rs : List (List Nat)} {n : Nat} : ∀ (m head : Nat) (o : List Nat), head < 2 ^ n → 2 ^ n - 1 - head ≤ m → (o ∈ pathsF rs n m head ↔ Way rs n head o)
  | 0, head, o, h, hm => by
    have e : head = 2 ^ n - 1 := by omega
    subst e
    show o ∈ [[]] ↔ _
    constructor
    · intro ho; rw [List.mem_singleton.mp ho]; exact .done
    · intro w
      cases w with
      | done => exact List.mem_singleton.mpr rfl
      | step _ k o h => exact absurd rfl h
  | m + 1, head, o, h, hm => by
    unfold pathsF
    by_cases hl : head = 2 ^ n - 1
    · subst hl
      rw [if_pos rfl]
      constructor
      · intro ho; rw [List.mem_singleton.mp ho]; exact .done
      · intro w
        cases w with
        | done => exact List.mem_singleton.mpr rfl
        | step _ k o h => exact absurd rfl h
    · rw [if_neg hl, List.mem_flatMap]
      constructor
      · rintro ⟨k, hk, ho⟩
        obtain ⟨hk1, hk2⟩ := List.mem_filter.mp hk
        obtain ⟨p, hp, rfl⟩ := List.mem_map.mp ho
        have kn := List.mem_range.mp hk1
        have lt := or_up (open_bit hk2)
        exact .step head k p hl kn hk2 ((paths_way m _ p (Nat.or_lt_two_pow h (Nat.pow_lt_pow_right (by decide) kn)) (by omega)).mp hp)
      · intro w
        cases w with
        | done => exact absurd rfl hl
        | step _ k p _ kn ho w =>
          have lt := or_up (open_bit ho)
          exact ⟨k, List.mem_filter.mpr ⟨List.mem_range.mpr kn, ho⟩, List.mem_map.mpr ⟨p, (paths_way m _ p (Nat.or_lt_two_pow h (Nat.pow_lt_pow_right (by decide) kn)) (by omega)).mpr w, rfl⟩⟩
theorem or_bit (head k j : Nat) : (head ||| 2 ^ k).testBit j = (head.testBit j || decide (k = j)) := by rw [Nat.testBit_or, Nat.testBit_two_pow]
theorem full_bit {n head : Nat} (h : head < 2 ^ n) (hb : ∀ k < n, head.testBit k = true) : head = 2 ^ n - 1 := by
  apply Nat.eq_of_testBit_eq
  intro k
  rw [Nat.testBit_two_pow_sub_one]
  by_cases hk : k < n
  · rw [hb k hk]; simp [hk]
  · rw [Nat.testBit_lt_two_pow (Nat.lt_of_lt_of_le h (Nat.pow_le_pow_right (by decide) (by omega)))]; simp [hk]
/-- ways are orders of the other rules -/
theorem way_mem {rs : List (List Nat)} {n : Nat} {head : Nat} {o : List Nat} (w : Way rs n head o) : o.Nodup ∧ ∀ k, k ∈ o ↔ k < n ∧ head.testBit k = false := by
  induction w with
  | done => exact ⟨List.nodup_nil, fun k => ⟨fun h => absurd h (by simp), fun ⟨h1, h2⟩ => by rw [Nat.testBit_two_pow_sub_one] at h2; simp [h1] at h2⟩⟩
  | step head k o h hk ho w ih =>
    obtain ⟨nd, mem⟩ := ih
    have kb := open_bit ho
    have kno : k ∉ o := fun z => by
      have := ((mem k).mp z).2
      rw [or_bit] at this; simp at this
    refine ⟨List.nodup_cons.mpr ⟨kno, nd⟩, fun j => ?_⟩
    rw [List.mem_cons, mem j, or_bit]
    constructor
    · rintro (rfl | ⟨a, b⟩)
      · exact ⟨hk, kb⟩
      · rw [Bool.or_eq_false_iff] at b
        exact ⟨a, b.1⟩
    · rintro ⟨a, b⟩
      by_cases e : j = k
      · exact .inl e
      · exact .inr ⟨a, by rw [b]; simpa using fun z => e z.symm⟩
theorem holds_cons {r : List Nat} (k : Nat) (o : List Nat) : holdsB r (k :: o) = if sgn r k = 46 then holdsB r o else decide (sgn r k = 43) := by
  by_cases z : sgn r k = 46
  · rw [if_pos z]
    have : holdsB r ([k] ++ o) = holdsB r o := holds_pre fun j hj => by rw [List.mem_singleton.mp hj]; exact z
    exact this
  · rw [if_neg z]
    unfold holdsB told
    rw [List.map_cons, List.filter_cons_of_pos (by simp [z])]
/-- rows that no plus settles yet hold along the rest of a way, and only then is it a way -/
theorem way_iff {rs : List (List Nat)} {n : Nat} (hs : ∀ r ∈ rs, ∀ c, sgn r c = 43 ∨ sgn r c = 45 ∨ sgn r c = 46) : ∀ (o : List Nat) (head : Nat), head < 2 ^ n → o.Nodup → (∀ k, k ∈ o ↔ k < n ∧ head.testBit k = false) → (Way rs n head o ↔ ∀ r ∈ rs, sideM 43 r &&& head = 0 → holdsB r o = true)
  | [], head, h, nd, mem => by
    have e : head = 2 ^ n - 1 := full_bit h fun k hk => by
      cases q : head.testBit k with
      | true => rfl
      | false => exact absurd ((mem k).mpr ⟨hk, q⟩) (by simp)
    subst e
    exact ⟨fun _ r hr _ => rfl, fun _ => .done⟩
  | k :: o, head, h, nd, mem => by
    obtain ⟨n1, n2⟩ := List.nodup_cons.mp nd
    obtain ⟨kn, kb⟩ := (mem k).mp List.mem_cons_self
    have hne : head ≠ 2 ^ n - 1 := fun e => by
      rw [e, Nat.testBit_two_pow_sub_one] at kb
      simp [kn] at kb
    have h2 : head ||| 2 ^ k < 2 ^ n := Nat.or_lt_two_pow h (Nat.pow_lt_pow_right (by decide) kn)
    have mem2 : ∀ j, j ∈ o ↔ j < n ∧ (head ||| 2 ^ k).testBit j = false := fun j => by
      rw [or_bit]
      constructor
      · intro hj
        obtain ⟨a, b⟩ := (mem j).mp (List.mem_cons_of_mem _ hj)
        have : k ≠ j := fun e => n1 (e ▸ hj)
        exact ⟨a, by rw [b]; simp [this]⟩
      · rintro ⟨a, b⟩
        rw [Bool.or_eq_false_iff] at b
        have hj := (mem j).mpr ⟨a, b.1⟩
        exact (List.mem_cons.mp hj).resolve_left fun e => by
          subst e; simp at b
    have ih := way_iff hs o (head ||| 2 ^ k) h2 n2 mem2
    have plus : ∀ r, sideM 43 r &&& (head ||| 2 ^ k) = 0 ↔ sideM 43 r &&& head = 0 ∧ sgn r k ≠ 43 := fun r => by
      rw [and_zero, and_zero]
      constructor
      · intro hx
        refine ⟨fun j ⟨a, b⟩ => hx j ⟨a, by rw [or_bit, b]; rfl⟩, fun z => hx k ⟨?_, by rw [or_bit]; simp⟩⟩
        rw [side_bit (by decide)]; exact decide_eq_true z
      · rintro ⟨hx, hz⟩ j ⟨a, b⟩
        rw [or_bit, Bool.or_eq_true] at b
        rcases b with b | b
        · exact hx j ⟨a, b⟩
        · have e : k = j := of_decide_eq_true b
          subst e
          rw [side_bit (by decide)] at a
          exact hz (of_decide_eq_true a)
    have ob : openBit rs head k = true ↔ ∀ r ∈ rs, sideM 43 r &&& head = 0 → sgn r k ≠ 45 := by
      unfold openBit
      rw [kb, Bool.not_false, Bool.true_and, List.all_eq_true]
      constructor
      · intro hx r hr hz z
        have := hx r hr
        rw [decide_eq_true hz, decide_eq_true z] at this; cases this
      · intro hx r hr
        by_cases hz : sideM 43 r &&& head = 0
        · rw [decide_eq_false (hx r hr hz)]; simp
        · rw [decide_eq_false hz]; rfl
    constructor
    · intro w
      cases w with
      | step _ _ _ _ _ ho w =>
        intro r hr hz
        rw [holds_cons]
        have h45 := ob.mp ho r hr hz
        rcases hs r hr k with z | z | z
        · rw [if_neg (by rw [z]; decide), z]; rfl
        · exact absurd z h45
        · rw [if_pos z]
          exact ih.mp w r hr ((plus r).mpr ⟨hz, by rw [z]; decide⟩)
    · intro hx
      refine .step head k o hne kn (ob.mpr fun r hr hz z => ?_) (ih.mpr fun r hr hz => ?_)
      · have := hx r hr hz
        rw [holds_cons, if_neg (by rw [z]; decide), z] at this
        exact absurd this (by decide)
      · obtain ⟨a, b⟩ := (plus r).mp hz
        have := hx r hr a
        rw [holds_cons] at this
        rcases hs r hr k with z | z | z
        · exact absurd z b
        · rw [if_neg (by rw [z]; decide), z] at this
          exact absurd this (by decide)
        · rw [if_pos z] at this; exact this
/-- THE NUMBER of rankings that fit -/
theorem count_eq {rs : List (List Nat)} {n : Nat} (hs : ∀ r ∈ rs, ∀ c, sgn r c = 43 ∨ sgn r c = 45 ∨ sgn r c = 46) : countM rs n = (fitM rs n).length := by
  have p0 : 0 < 2 ^ n := Nat.two_pow_pos n
  show (endM (stepsM rs n)).getD 0 0 = _
  rw [paths_len (2 ^ n) 0 p0 (by omega)]
  refine (nodup_ext (paths_nodup _ _) (fitM_nodup rs n) fun o => ?_).length_eq
  rw [paths_way _ _ _ p0 (by omega), fitM_mem]
  constructor
  · intro w
    obtain ⟨nd, mem⟩ := way_mem w
    refine ⟨?_, fun r hr => (way_iff hs o 0 p0 nd mem).mp w r hr (Nat.and_zero _)⟩
    exact nodup_ext nd List.nodup_range fun k => by rw [mem k, List.mem_range, Nat.zero_testBit]; simp
  · rintro ⟨p, hh⟩
    have nd : o.Nodup := p.nodup_iff.mpr List.nodup_range
    have mem : ∀ k, k ∈ o ↔ k < n ∧ Nat.testBit 0 k = false := fun k => by rw [p.mem_iff, List.mem_range, Nat.zero_testBit]; simp
    exact (way_iff hs o 0 p0 nd mem).mpr fun r hr _ => hh r hr

end K18

namespace K18
open PySem PySem.Spec PyProof.Rows L2 Dw
variable [Tabs0]
/-! numbers of rankings: flows over the heads; a row and its opposite; all of them -/
/-! all of them -/
/-! the ways to come to a head -/
def opIn (head : Nat) (ways : List Nat) (k : Nat) : List Nat := ways.set (head ||| 2 ^ k) (ways.getD (head ||| 2 ^ k) 0 + ways.getD head 0)
def opStep (B : List (List Nat)) (ways : List Nat) (head : Nat) : List Nat := (B.getD head []).foldl (opIn head) ways
def opTo (B : List (List Nat)) (i : Nat) : List Nat := (List.range i).foldl (opStep B) (1 :: List.replicate (B.length - 1) 0)
def openM (B : List (List Nat)) : List Nat := opTo B B.length
theorem opIn_len (head : Nat) : ∀ (ks ways : List Nat), (ks.foldl (opIn head) ways).length = ways.length
  | [], _ => rfl
  | k :: ks, ways => by rw [List.foldl_cons, opIn_len head ks]; unfold opIn; rw [List.length_set]
theorem opTo_succ (B : List (List Nat)) (i : Nat) : opTo B (i + 1) = opStep B (opTo B i) i := by
  unfold opTo
  rw [List.range_succ, List.foldl_append]; rfl
theorem opTo_len {B : List (List Nat)} (h : 1 ≤ B.length) : ∀ i, (opTo B i).length = B.length
  | 0 => by
    show (1 :: List.replicate (B.length - 1) 0).length = _
    rw [List.length_cons, List.length_replicate]; omega
  | i + 1 => by
    rw [opTo_succ]
    unfold opStep
    rw [opIn_len, opTo_len h i]
def cnt (ks : List Nat) (g h : Nat) : Nat := (ks.filter fun k => decide (g ||| 2 ^ k = h)).length
theorem cnt_cons {k : Nat} {ks : List Nat} {g h : Nat} : cnt (k :: ks) g h = (if g ||| 2 ^ k = h then 1 else 0) + cnt ks g h := by
  unfold cnt
  rw [List.filter_cons]
  by_cases e : g ||| 2 ^ k = h
  · rw [if_pos (decide_eq_true e), if_pos e, List.length_cons]; omega
  · rw [if_neg (by simpa using e), if_neg e]; omega
theorem cnt_low {ks : List Nat} {g h : Nat} (hk : ∀ k ∈ ks, g < g ||| 2 ^ k) (h' : h ≤ g) : cnt ks g h = 0 := by
  unfold cnt
  rw [List.length_eq_zero_iff, List.filter_eq_nil_iff]
  intro k m e
  have := hk k m
  have := of_decide_eq_true e
  omega
theorem op_in {head : Nat} : ∀ {ks ways : List Nat} {h : Nat}, (∀ k ∈ ks, head < head ||| 2 ^ k ∧ head ||| 2 ^ k < ways.length) → (ks.foldl (opIn head) ways).getD h 0 = ways.getD h 0 + cnt ks head h * ways.getD head 0
  | [], ways, h, _ => by
    show ways.getD h 0 = ways.getD h 0 + 0 * _
    omega
  | k :: ks, ways, h, hk => by
    obtain ⟨k1, k2⟩ := hk k List.mem_cons_self
    have e0 : (opIn head ways k).getD head 0 = ways.getD head 0 := by
      unfold opIn
      exact getD_set_ne (by omega)
    rw [List.foldl_cons, op_in fun j hj => by
      have := hk j (List.mem_cons_of_mem _ hj)
      unfold opIn
      rw [List.length_set]; exact this, e0, cnt_cons]
    by_cases e : head ||| 2 ^ k = h
    · have : (opIn head ways k).getD h 0 = ways.getD h 0 + ways.getD head 0 := by
        unfold opIn
        rw [← e]
        exact getD_set_self k2
      rw [this, if_pos e, Nat.add_mul, Nat.one_mul]
      omega
    · have : (opIn head ways k).getD h 0 = ways.getD h 0 := by
        unfold opIn
        exact getD_set_ne e
      rw [this, if_neg e, Nat.zero_add]
structure StepB (B : List (List Nat)) : Prop where
  lo : 1 ≤ B.length
  up : ∀ g, g < B.length → ∀ k ∈ B.getD g [], g < g ||| 2 ^ k ∧ g ||| 2 ^ k < B.length
def opO (B : List (List Nat)) (h : Nat) : Nat := (opTo B h).getD h 0
theorem op_next {B : List (List Nat)} (s : StepB B) {i h : Nat} (hi : i < B.length) : (opTo B (i + 1)).getD h 0 = (opTo B i).getD h 0 + cnt (B.getD i []) i h * opO B i := by
  rw [opTo_succ]
  unfold opStep
  rw [op_in fun k hk => ?_]
  · rfl
  · rw [opTo_len s.lo]
    exact s.up i hi k hk
theorem op_at {B : List (List Nat)} (s : StepB B) {h : Nat} : ∀ {i : Nat}, i ≤ B.length → (opTo B i).getD h 0 = (if h = 0 then 1 else 0) + ((List.range i).map fun g => cnt (B.getD g []) g h * opO B g).sum
  | 0, _ => by
    show (1 :: List.replicate (B.length - 1) 0).getD h 0 = _ + 0
    cases h with
    | zero => rfl
    | succ h =>
      rw [if_neg (by omega)]
      show (List.replicate (B.length - 1) 0).getD h 0 = 0
      rw [List.getD_eq_getElem?_getD, List.getElem?_replicate]
      split <;> rfl
  | i + 1, hi => by
    rw [op_next s (by omega), op_at s (by omega), List.range_succ, List.map_append, List.sum_append]
    simp only [List.map_cons, List.map_nil, List.sum_cons, List.sum_nil]
    omega
theorem op_keep {B : List (List Nat)} (s : StepB B) {h : Nat} : ∀ {d : Nat}, h + d ≤ B.length → (opTo B (h + d)).getD h 0 = opO B h
  | 0, _ => rfl
  | d + 1, hd => by
    rw [← Nat.add_assoc, op_next s (by omega), op_keep s (by omega), cnt_low (fun k hk => (s.up _ (by omega) k hk).1) (by omega)]
    omega
theorem op_fin {B : List (List Nat)} (s : StepB B) {h : Nat} (hh : h < B.length) : (openM B).getD h 0 = opO B h := by
  have := op_keep s (h := h) (d := B.length - h) (by omega)
  rw [show h + (B.length - h) = B.length by omega] at this
  exact this
/-! sums -/
/-! how many a head holds -/
def pc (n h : Nat) : Nat := ((List.range n).filter fun k => h.testBit k).length
theorem fil_one {k : Nat} {p : Nat → Bool} (hp : p k = false) : ∀ {l : List Nat}, l.Nodup → k ∈ l → (l.filter fun j => p j || decide (k = j)).length = (l.filter p).length + 1
  | [], _, h => absurd h (by simp)
  | a :: l, nd, h => by
    obtain ⟨n1, n2⟩ := List.nodup_cons.mp nd
    by_cases e : k = a
    · subst e
      rw [List.filter_cons_of_pos (by simp), List.filter_cons_of_neg (by rw [hp]; decide), List.length_cons]
      congr 2
      refine List.filter_congr fun j hj => ?_
      have : decide (k = j) = false := decide_eq_false fun z => n1 (by rw [z]; exact hj)
      rw [this, Bool.or_false]
    · have hm : k ∈ l := (List.mem_cons.mp h).resolve_left e
      have ih := fil_one hp n2 hm
      rw [List.filter_cons, List.filter_cons]
      have : decide (k = a) = false := decide_eq_false e
      rw [this, Bool.or_false]
      split
      · rw [List.length_cons, List.length_cons, ih]
      · exact ih
theorem pc_or {n g k : Nat} (hk : k < n) (hb : g.testBit k = false) : pc n (g ||| 2 ^ k) = pc n g + 1 := by
  unfold pc
  rw [← fil_one hb List.nodup_range (List.mem_range.mpr hk)]
  congr 1
  exact List.filter_congr fun j _ => or_bit g k j
/-- the flow through the heads of one size -/
theorem steps_b (rs : List (List Nat)) (n : Nat) : StepB (stepsM rs n) := ⟨by rw [steps_len]; exact Nat.two_pow_pos n, fun g hg k hk => by
  rw [steps_len] at hg ⊢
  rw [steps_at hg] at hk
  obtain ⟨h1, h2⟩ := List.mem_filter.mp hk
  exact ⟨or_up (open_bit h2), Nat.or_lt_two_pow hg (Nat.pow_lt_pow_right (by decide) (List.mem_range.mp h1))⟩⟩
/-! lots and heads -/
theorem head_range : ∀ n, (lots n).map headOf = List.range (2 ^ n)
  | 0 => rfl
  | n + 1 => by
    show (lots n ++ (lots n).map (· ++ [n])).map headOf = _
    have e : ((lots n).map (· ++ [n])).map headOf = ((lots n).map headOf).map (2 ^ n + ·) := by
      rw [List.map_map, List.map_map]
      refine List.map_congr_left fun o _ => ?_
      show headOf (o ++ [n]) = 2 ^ n + headOf o
      rw [headOf_snoc, Nat.add_comm]
    rw [List.map_append, e, head_range n, Nat.pow_succ, Nat.mul_two, List.range_add]
theorem lots_pc : ∀ (n : Nat) (o : List Nat), o ∈ lots n → pc n (headOf o) = o.length ∧ headOf o < 2 ^ n
  | 0, o, h => by
    rw [List.mem_singleton.mp h]
    exact ⟨rfl, by decide⟩
  | n + 1, o, h => by
    have up : ∀ g, pc (n + 1) g = pc n g + if g.testBit n = true then 1 else 0 := fun g => by
      unfold pc
      rw [List.range_succ, List.filter_append, List.length_append]
      congr 1
      cases q : g.testBit n with
      | true => rw [List.filter_cons_of_pos q]; rfl
      | false => rw [List.filter_cons_of_neg (by rw [q]; decide)]; rfl
    rcases List.mem_append.mp h with h | h
    · obtain ⟨a, b⟩ := lots_pc n o h
      rw [up, Nat.testBit_lt_two_pow b, if_neg (by decide), a]
      exact ⟨rfl, by rw [Nat.pow_succ]; omega⟩
    · obtain ⟨p, hp, rfl⟩ := List.mem_map.mp h
      obtain ⟨a, b⟩ := lots_pc n p hp
      have e := Nat.two_pow_add_eq_or_of_lt b 1
      rw [Nat.mul_one] at e
      have e' : headOf (p ++ [n]) = headOf p ||| 2 ^ n := by
        rw [headOf_snoc, Nat.add_comm, e, Nat.or_comm]
      refine ⟨?_, by rw [headOf_snoc, Nat.pow_succ]; omega⟩
      rw [e', pc_or (Nat.lt_succ_self n) (Nat.testBit_lt_two_pow b), up, Nat.testBit_lt_two_pow b, if_neg (by decide), a, List.length_append]; rfl
theorem sum_in {N h : Nat} {f : Nat → Nat} (hh : h < N) : f h ≤ ((List.range N).map f).sum := by
  induction N with
  | zero => omega
  | succ N ih =>
    rw [List.range_succ, List.map_append, List.sum_append]
    simp only [List.map_cons, List.map_nil, List.sum_cons, List.sum_nil]
    by_cases e : h = N
    · rw [e]; omega
    · have := ih (by omega)
      omega
theorem rows_sgn {rs : List (List Nat)} {n : Nat} (hr : ∀ r ∈ rs, RowOk r n) : ∀ r ∈ rs, ∀ c, sgn r c = 43 ∨ sgn r c = 45 ∨ sgn r c = 46 := fun r h c => sgn_is (hr r h) c
/-! what the program's defs promise here -/
def spOpen : Spc where
  ty := List (List Nat)
  args := fun b => [.lst (lolD b)]
  ok := fun b => EndOk b ∧ StepB b
  rel := fun b d => d = .lst (ordD (openM b))
theorem rep_zero (m : Nat) : (List.replicate m [D.int (0 : Nat)]).flatten = ordD (List.replicate m 0) := by
  unfold ordD
  rw [List.map_replicate]
  induction m with
  | zero => rfl
  | succ m ih => rw [List.replicate_succ, List.flatten_cons, ih, List.replicate_succ]; rfl
theorem atI_nat' {ds : List D} {i : Nat} {d : D} (h : ds[i]? = some d) : atI ds (i : Int) = some d := atI_nat h
theorem ors_lt {n head k : Nat} (h : head < 2 ^ n) (hk : k < n) : head ||| 2 ^ k < 2 ^ n := Nat.or_lt_two_pow h (Nat.pow_lt_pow_right (by decide) hk)
end K18

namespace K18
open PySem PySem.Spec PyProof.Rows L2 Dw
variable [Tabs0]
theorem d_openings {P : Program} {w : World} {K : PySem.W.Frag} {mg : Str → Option Value} {base : Heap} (T : Txt K w mg) : FnOk P w K mg base CX0 1 T.f_openings T.e_openings ["behind"] (toSp (spOpen)) := by
  refine fn_ok T.F_openings sc_openings (fun _ => rfl) fun cdv A outer s' H E hr => ?_
  refine ⟨_, (pss_cons (ps_set (i := 1) sc_openings.nd rfl (Or.inl rfl) (pe_op (plusE K) (pe_lst (pa_cons pe_int pa_nil)) (pe_op opTimes (pe_lst (pa_cons pe_int pa_nil)) (pe_op op_sub (pe_callB (lenA K) (by rfl) T.n_len (by decide +kernel) (pa_cons (pv 0) pa_nil)) pe_int)))) (pss_cons (ps_for PassesOwn.never rfl (enumTA K (by rfl) T.n_enumerate (pa_cons (pv 0) pa_nil)) (tupA K 2 rfl (pgs_cons (pg_name (i := 2) sc_openings.nd rfl (Or.inl rfl)) (pgs_cons (pg_name (i := 3) sc_openings.nd rfl (Or.inl rfl)) pgs_nil))) (pss_one (ps_for PassesOwn.never rfl (piR K (pv 3)) (pg_name (i := 4) sc_openings.nd rfl (Or.inl rfl)) (pss_one (ps_augL (pv 1) (pe_op op_or (pv 2) (pe_op op_shl pe_int (pv 4))) (pe_ix (ixA K) (pv 1) (pv 2) (fun _ _ => rfl))))))) (pss_one (ps_ret (pv 1))))), fun x hx => ?_⟩
  obtain ⟨b, rfl⟩ : ∃ l : List (List Nat), l = x := ⟨x, rfl⟩
  obtain ⟨hb, sb⟩ := hx
  have hb : EndOk b := hb
  have sb : StepB b := sb
  have hi := hb.hi
  have lo := sb.lo
  have lb : (lolD b).length = b.length := List.length_map ..
  refine ds_seq (ds_asg_own (ds := ordD (opTo b 0)) ?e1 ?_)
  case e1 =>
    have e : ordD (opTo b 0) = [D.int (1 : Nat)] ++ (List.replicate (b.length - 1) [D.int (0 : Nat)]).flatten := by
      show D.int (1 : Nat) :: ordD (List.replicate (b.length - 1) 0) = _
      rw [rep_zero]; rfl
    rw [e]
    refine pl_evn (EvN.b (evn_lst (eva_cons ev_int eva_nil) (small (show 1 ≤ 100000 by decide)))) (EvN.b (evn_rep (ds := [.int (0 : Nat)]) (n := b.length - 1) (EvN.b (evn_lst (eva_cons ev_int eva_nil) (small (show 1 ≤ 100000 by decide)))) (ev_cast (congrArg D.int (by rw [lb]; omega)) (ev_op (ev_len (ds := lolD b) (ev_var rfl).b) ev_int (dr2_sub (i := ((lolD b).length : Nat)) (j := 1)))) (by show 1 * (b.length - 1) ≤ _; exact small (by omega)) (by omega))) ?_
    rw [rep_zero]
    show 1 + _ ≤ _
    rw [ordD_len, List.length_replicate]
    exact small (by omega)
  refine ds_seq (ds_for (fun xs i Γ' => xs = enumD (lolD b) ∧ ∃ s2 s3 s4 : Sl, Γ' = [.val (.lst (lolD b)), .own (ordD (opTo b i)), s2, s3, s4])
    (di_enumL (Ev.dl (ev_var rfl) ⟨lolD b, rfl, ⟨rfl, _, _, _, rfl⟩, fun i x Γ' hx' ⟨exs, s2, s3, s4, e⟩ => ?_, fun Γ' ⟨exs, s2, s3, s4, e⟩ => ?_⟩)))
  · subst e
    obtain ⟨y, hy, rfl⟩ := enumD_get hx'
    obtain ⟨hil', ey⟩ := List.getElem?_eq_some_iff.mp hy
    have hil : i < b.length := by rw [lb] at hil'; exact hil'
    have ey : y = .lst (ordD (b.getD i [])) := by
      have := lolD_at hil
      rw [atI_nat' hy] at this
      exact Option.some.inj this
    subst ey
    have up := sb.up i hil
    have few := hb.few i
    have in_ := hb.in_ i hil
    generalize hB : b.getD i [] = ks at up few in_
    refine ⟨[2] ++ [3], _, dg_tup2 dg_name dg_name, ?_⟩
    refine ds_for (fun xs j Γ' => xs = ordD ks ∧ ∃ s4 : Sl, Γ' = [.val (.lst (lolD b)), .own (ordD ((ks.take j).foldl (opIn i) (opTo b i))), .val (.int (i : Nat)), .val (.lst (ordD ks)), s4])
      (dj_list (Ev.dl (ev_var rfl) ⟨ordD ks, rfl, ⟨rfl, _, rfl⟩, fun j x Γ' hx2 ⟨exs2, s4, e⟩ => ?_, fun Γ' ⟨exs2, s4, e⟩ => ?_⟩))
    · subst e
      have hx3 : (ks.map fun k : Nat => D.int k)[j]? = some x := hx2
      rw [List.getElem?_map] at hx3
      cases q : ks[j]? with
      | none => rw [q] at hx3; cases hx3
      | some k =>
        rw [q] at hx3; cases hx3
        have wl : ((ks.take j).foldl (opIn i) (opTo b i)).length = b.length := by rw [opIn_len, opTo_len lo]
        have hk := List.mem_of_getElem? q
        obtain ⟨u1, u2⟩ := up k hk
        have k8 := (in_ k hk).2
        have nx : (ks.take (j + 1)).foldl (opIn i) (opTo b i) = opIn i ((ks.take j).foldl (opIn i) (opTo b i)) k := by
          rw [List.take_add_one, q, List.foldl_append]; rfl
        refine ⟨[4], _, dg_name, ds_augL (l := (ks.take j).foldl (opIn i) (opTo b i)) (k := i ||| 2 ^ k) (b := ((ks.take j).foldl (opIn i) (opTo b i)).getD i 0) rfl (ev_op (ev_var (d := .int (i : Nat)) rfl) (ev_op ev_int (ev_var rfl) (dr2_shl1 (by omega))) dr2_or) (by rw [wl]; exact u2) (by rw [wl]; omega) rfl (ev_ix (evb_own (ds := ordD ((ks.take j).foldl (opIn i) (opTo b i))) rfl) (ev_var (d := .int (i : Nat)) rfl) (ordD_at (by rw [wl]; exact hil))) ⟨exs2, .val (.int (k : Nat)), ?_⟩⟩
        rw [nx]; rfl
    · subst e
      rw [ordD_len, List.take_length]
      refine ⟨exs, .val (.int (i : Nat)), .val (.lst (ordD ks)), s4, ?_⟩
      rw [opTo_succ]
      unfold opStep
      rw [hB]
  · subst e
    rw [enumD_length, lb]
    exact ds_ret_own rfl rfl
end K18

namespace K18
open PySem PySem.Spec PyProof.Rows L2 Dw
variable [Tabs0]
theorem d_how_many {P : Program} {w : World} {K : PySem.W.Frag} {mg : Str → Option Value} {base : Heap} (T : Txt K w mg) : FnOk P w K mg base CX0 5 T.f_how_many T.e_how_many ["book"] (toSp (spMany T.C_Book)) := by
  refine fn_ok T.F_how_many sc_how_many (fun _ => rfl) fun cdv A outer s' H E hr => ?_
  refine ⟨_, (pss_cons (ps_expr (pe_call (d_check_book T) (hr.mono (by decide)) (by rfl) T.m_check_book T.F_check_book.kp T.b_check_book .nil pass0 (pa_cons (pv 0) pa_nil))) (pss_one (ps_ret (pe_call (d_count_fitting T) (hr.mono (by decide)) (by rfl) T.m_count_fitting T.F_count_fitting.kp T.b_count_fitting .nil pass0 (pa_cons (pe_prop (pv 0) T.cl_Book T.p_Book_rows (d_Book_rows T) (hr.mono (by decide)) T.b_Book_rows .nil pass0 rfl) (pa_cons (pe_callB (lenA K) (by rfl) T.n_len (by decide +kernel) (pa_cons (pe_prop (pv 0) T.cl_Book T.p_Book_names (d_Book_names T) (hr.mono (by decide)) T.b_Book_names .nil pass0 rfl) pa_nil)) pa_nil)))))), fun x hx => ?_⟩
  obtain ⟨ls, rs⟩ := x
  have hb : BookOk ls rs := hx
  refine ds_seq (ds_drop (Ev.dl (ev_call (s := spCheck T.C_Book) (x := (ls, rs)) (eva_cons (ev_var rfl) eva_nil) (np_book _ ls rs) trivial fun d h => h) ?_))
  exact ds_ret (Ev.dl (ev_call (s := spCount) (x := (rs, ls.length, false)) (eva_cons (ev_prop (s := spBRows T.C_Book) (x := (ls, rs)) (ev_var rfl) rfl (np_book _ ls rs) trivial fun d h => h) (eva_cons (ev_names (C := T.C_Book) (rs := rs) (ev_prop (s := spBNames T.C_Book) (x := (ls, rs)) (ev_var rfl) rfl (np_book _ ls rs) trivial fun d h => h)) eva_nil)) (np_rd (b := false) (r := [_]) rfl) ⟨hb.rows, hb.n8, Nat.le_trans hb.few (by decide)⟩ fun d h => h) rfl)
end K18

namespace K18
open PySem PySem.Spec PyProof.Rows L2 Dw
variable [Tabs0]
theorem d_check_some_fits {P : Program} {w : World} {K : PySem.W.Frag} {mg : Str → Option Value} {base : Heap} (T : Txt K w mg) : FnOk P w K mg base CX0 4 T.f_check_some_fits T.e_check_some_fits ["book"] (toSp (spCkFits T.C_Book)) := by
  refine fn_ok T.F_check_some_fits sc_check_some_fits (fun _ => rfl) fun cdv A outer s' H E hr => ?_
  refine ⟨_, (pss_one (ps_if (pt_not (truA K (pe_call (d_some_fits T) (hr.mono (by decide)) (by rfl) T.m_some_fits T.F_some_fits.kp T.b_some_fits .nil pass0 (pa_cons (pe_prop (pv 0) T.cl_Book T.p_Book_rows (d_Book_rows T) (hr.mono (by decide)) T.b_Book_rows .nil pass0 rfl) (pa_cons (pe_callB (lenA K) (by rfl) T.n_len (by decide +kernel) (pa_cons (pe_prop (pv 0) T.cl_Book T.p_Book_names (d_Book_names T) (hr.mono (by decide)) T.b_Book_names .nil pass0 rfl) pa_nil)) pa_nil))))) (pss_one ps_never) pss_nil)), fun x hx => ?_⟩
  obtain ⟨ls, rs⟩ := x
  obtain ⟨hb, hs⟩ := hx
  have hb : BookOk ls rs := hb
  have hs : Still rs ls.length = [] := hs
  exact ds_if (EvT.dl (b := false) (evt_not (a := true) (evt_tru_bl (ev_call (s := spSome) (x := (rs, ls.length, false)) (eva_cons (ev_prop (s := spBRows T.C_Book) (x := (ls, rs)) (ev_var rfl) rfl (np_book _ ls rs) trivial fun d h => h) (eva_cons (ev_names (C := T.C_Book) (rs := rs) (ev_prop (s := spBNames T.C_Book) (x := (ls, rs)) (ev_var rfl) rfl (np_book _ ls rs) trivial fun d h => h)) eva_nil)) (np_rd (b := false) (r := [_]) rfl) ⟨hb.rows, hb.n8, Nat.le_trans hb.few (by decide)⟩ fun d h => (show d = .bl (decide (Still rs ls.length = [])) from h).trans (by rw [hs]; rfl)))) ⟨fun h => (nomatch h), fun _ => ds_next rfl⟩)
end K18

namespace K18
open PySem PySem.Spec PyProof.Rows L2 Dw
variable [Tabs0]
theorem d_needless {P : Program} {w : World} {K : PySem.W.Frag} {mg : Str → Option Value} {base : Heap} (T : Txt K w mg) : FnOk P w K mg base CX0 5 T.f_needless T.e_needless ["book"] (toSp (spNeed T.C_Book)) := by
  refine fn_ok T.F_needless sc_needless (fun _ => rfl) fun cdv A outer s' H E hr => ?_
  refine ⟨_, (pss_cons (ps_expr (pe_call (d_check_book T) (hr.mono (by decide)) (by rfl) T.m_check_book T.F_check_book.kp T.b_check_book .nil pass0 (pa_cons (pv 0) pa_nil))) (pss_cons (ps_set (i := 1) sc_needless.nd rfl (Or.inr rfl) (pe_callB (lenA K) (by rfl) T.n_len (by decide +kernel) (pa_cons (pe_prop (pv 0) T.cl_Book T.p_Book_names (d_Book_names T) (hr.mono (by decide)) T.b_Book_names .nil pass0 rfl) pa_nil))) (pss_cons (ps_set (i := 2) sc_needless.nd rfl (Or.inr rfl) (pe_call (d_count_fitting T) (hr.mono (by decide)) (by rfl) T.m_count_fitting T.F_count_fitting.kp T.b_count_fitting .nil pass0 (pa_cons (pe_prop (pv 0) T.cl_Book T.p_Book_rows (d_Book_rows T) (hr.mono (by decide)) T.b_Book_rows .nil pass0 rfl) (pa_cons (pv 1) pa_nil)))) (pss_one (ps_ret (pe_callTy (tupleA K) (by rfl) T.n_tuple (by decide +kernel) (pa_cons (pe_lc (own := [("index", 3)]) rfl sc_needless.nd (pi_range1 (by rfl) T.n_range (pa_cons (pe_callB (lenA K) (by rfl) T.n_len (by decide +kernel) (pa_cons (pe_prop (pv 0) T.cl_Book T.p_Book_rows (d_Book_rows T) (hr.mono (by decide)) T.b_Book_rows .nil pass0 rfl) pa_nil)) pa_nil)) (blkOk_by (own := [("index", 3)]) (N := N_needless) (sc := (defScope s_needless)) (by decide +kernel)) (fun _ _ _ _ _ => pg_name (i := 3) sc_needless.nd rfl (Or.inl rfl)) (fun _ _ _ _ _ => pts_one (pt_cmpR (eqA K hr.units) (pe_call (d_count_fitting T) (hr.mono (by decide)) (by rfl) T.m_count_fitting T.F_count_fitting.kp T.b_count_fitting .nil pass0 (pa_cons (pe_op (plusE K) (pe_slice (slXA K) (pe_prop (pv 0) T.cl_Book T.p_Book_rows (d_Book_rows T) (hr.mono (by decide)) T.b_Book_rows .nil pass0 rfl) po_none (po_some (pv 3))) (pe_slice (slXA K) (pe_prop (pv 0) T.cl_Book T.p_Book_rows (d_Book_rows T) (hr.mono (by decide)) T.b_Book_rows .nil pass0 rfl) (po_some (pe_op (plusE K) (pv 3) pe_int)) po_none)) (pa_cons (pv 1) pa_nil))) (pv 2) (nomark _))) (fun _ _ _ _ _ => (pv 3))) pa_nil))))))), fun x hx => ?_⟩
  obtain ⟨ls, rs⟩ := x
  have hb : BookOk ls rs := hx
  have h20 := hb.few
  have lr := nameD_len rs
  have bk : ∀ {Γ : Gam} {i : Nat}, Γ[i]? = some (Sl.val (bookD T.C_Book ls rs)) → Ev (tProp T.C_Book (toSp (spBRows T.C_Book)) [] E0 (tVar i)) Γ (.tup (nameD rs)) := fun h => ev_prop (s := spBRows T.C_Book) (x := (ls, rs)) (ev_var h) rfl (np_book _ ls rs) trivial fun d h => h
  refine ds_seq (ds_drop (Ev.dl (ev_call (s := spCheck T.C_Book) (x := (ls, rs)) (eva_cons (ev_var rfl) eva_nil) (np_book _ ls rs) trivial fun d h => h) ?_))
  refine ds_seq (ds_asg (Ev.dl (ev_names (C := T.C_Book) (rs := rs) (ev_prop (s := spBNames T.C_Book) (x := (ls, rs)) (ev_var rfl) rfl (np_book _ ls rs) trivial fun d h => h)) ?_))
  refine ds_seq (ds_asg (Ev.dl (ev_call (s := spCount) (d := .int (countM rs ls.length : Nat)) (x := (rs, ls.length, false)) (eva_cons (ev_prop (s := spBRows T.C_Book) (x := (ls, rs)) (ev_var rfl) rfl (np_book _ ls rs) trivial fun d h => h) (eva_cons (ev_var rfl) eva_nil)) (np_rd (b := false) (r := [_]) rfl) ⟨hb.rows, hb.n8, Nat.le_trans hb.few (by decide)⟩ fun d h => h) ?_))
  refine ds_ret (Ev.dl (ev_tuple (EvN.b (evn_lc (xs := List.range rs.length) (c := fun k : Nat => D.int k) (p := fun i => decide (countM (rs.take i ++ rs.drop (i + 1)) ls.length = countM rs ls.length)) (f := fun k : Nat => D.int k) (ei_range (n := rs.length) (eva_cons (ev_cast (congrArg (fun n : Nat => D.int n) lr) (ev_lenT (ds := nameD rs) (bk rfl))) eva_nil) (by omega)) (by rw [List.length_range]; omega) fun i hi => ⟨[3], _, dg_name, fun i hi => hi, ?t, fun _ => ev_var rfl⟩))) rfl)
  have hi := List.mem_range.mp hi
  refine evt_test (ev_op (ev_call (s := spCount) (x := (rs.take i ++ rs.drop (i + 1), ls.length, false)) (eva_cons (ev_cast (d' := .tup (nameD (rs.take i ++ rs.drop (i + 1)))) ?c (ev_op (ev_sliceTY (bk rfl) eo_none (eo_some (ev_var (d := .int (i : Nat)) rfl))) (ev_sliceTY (bk rfl) (eo_some (ev_cast (d' := .int ((i + 1 : Nat) : Int)) rfl (ev_op (ev_var (d := .int (i : Nat)) rfl) ev_int pl_int))) eo_none) (pl_tup ?z))) (eva_cons (ev_var rfl) eva_nil)) (np_tn (r := [_]) rfl) ⟨fun r hr => ?_, hb.n8, ?_⟩ fun d h => h) (ev_var (d := .int (countM rs ls.length : Nat)) rfl) (eq_nat _ _))
  case c =>
    rw [cut_to (by rw [lr]; omega), cut_from (by rw [lr]; omega)]
    unfold nameD
    rw [List.map_append, List.map_take, List.map_drop]
  case z =>
    rw [cut_to (by rw [lr]; omega), cut_from (by rw [lr]; omega), List.length_take, List.length_drop, lr]
    exact small (by omega)
  · rcases List.mem_append.mp hr with h | h
    · exact hb.rows r (List.mem_of_mem_take h)
    · exact hb.rows r (List.mem_of_mem_drop h)
  · show (rs.take i ++ rs.drop (i + 1)).length ≤ 1000
    rw [List.length_append, List.length_take, List.length_drop]; omega
end K18

namespace K18
open PySem PySem.Spec PyProof.Rows L2 Dw
variable [Tabs0]
/-! the heads that may stand before a rule -/
/-- a way through the heads, up to one -/
inductive Pre (rs : List (List Nat)) (n : Nat) : Nat → List Nat → Prop
  | nil : Pre rs n 0 []
  | snoc (h k : Nat) (p : List Nat) (hk : k < n) (ho : openBit rs h k = true) (w : Pre rs n h p) : Pre rs n (h ||| 2 ^ k) (p ++ [k])
theorem pre_bits {rs : List (List Nat)} {n h : Nat} {p : List Nat} (w : Pre rs n h p) : h < 2 ^ n ∧ ∀ j, h.testBit j = decide (j ∈ p) := by
  induction w with
  | nil => exact ⟨Nat.two_pow_pos n, fun j => by rw [Nat.zero_testBit]; simp⟩
  | snoc h k p hk ho w ih =>
    refine ⟨Nat.or_lt_two_pow ih.1 (Nat.pow_lt_pow_right (by decide) hk), fun j => ?_⟩
    rw [or_bit, ih.2 j, Bool.eq_iff_iff, Bool.or_eq_true, decide_eq_true_eq, decide_eq_true_eq, decide_eq_true_eq, List.mem_append, List.mem_singleton]
    exact or_congr Iff.rfl ⟨Eq.symm, Eq.symm⟩
theorem pre_way {rs : List (List Nat)} {n h : Nat} {p : List Nat} (w : Pre rs n h p) : ∀ {o : List Nat}, Way rs n h o → Way rs n 0 (p ++ o) := by
  induction w with
  | nil => exact fun w => w
  | snoc h k p hk ho w ih =>
    intro o wo
    have hne : h ≠ 2 ^ n - 1 := fun e => by
      have := open_bit ho
      rw [e, Nat.testBit_two_pow_sub_one] at this
      simp [hk] at this
    have := ih (.step h k o hne hk ho wo)
    rw [List.append_assoc]
    exact this
theorem way_split {rs : List (List Nat)} {n : Nat} : ∀ (q : List Nat) {h : Nat} {p o : List Nat}, Pre rs n h p → Way rs n h (q ++ o) → ∃ h', Pre rs n h' (p ++ q) ∧ Way rs n h' o
  | [], h, p, o, w, wo => ⟨h, by rw [List.append_nil]; exact w, wo⟩
  | k :: q, h, p, o, w, wo => by
    have wo : Way rs n h (k :: (q ++ o)) := wo
    cases wo with
    | step _ _ _ hne hk ho wo =>
      obtain ⟨h', a, b⟩ := way_split q (.snoc h k p hk ho w) wo
      exact ⟨h', by rw [List.append_assoc] at a; exact a, b⟩
theorem way_of {rs : List (List Nat)} {n : Nat} {p o : List Nat} (w : Way rs n 0 (p ++ o)) : ∃ h, Pre rs n h p ∧ Way rs n h o := by
  have := way_split p (h := 0) (p := []) (o := o) .nil w
  rwa [List.nil_append] at this
theorem sum_pos {α : Type} {f : α → Nat} : ∀ {l : List α}, 0 < (l.map f).sum → ∃ a ∈ l, 0 < f a
  | [], h => absurd h (by simp)
  | a :: l, h => by
    rw [List.map_cons, List.sum_cons] at h
    by_cases e : 0 < f a
    · exact ⟨a, List.mem_cons_self, e⟩
    · obtain ⟨b, hb, hp⟩ := sum_pos (l := l) (f := f) (by omega)
      exact ⟨b, List.mem_cons_of_mem _ hb, hp⟩
theorem cnt_pos {ks : List Nat} {g h : Nat} : 0 < cnt ks g h ↔ ∃ k ∈ ks, g ||| 2 ^ k = h := by
  unfold cnt
  rw [List.length_pos_iff_exists_mem]
  constructor
  · rintro ⟨k, hk⟩
    obtain ⟨h1, h2⟩ := List.mem_filter.mp hk
    exact ⟨k, h1, of_decide_eq_true h2⟩
  · rintro ⟨k, h1, h2⟩
    exact ⟨k, List.mem_filter.mpr ⟨h1, decide_eq_true h2⟩⟩
theorem op_pos {rs : List (List Nat)} {n : Nat} : ∀ h, h < 2 ^ n → (0 < opO (stepsM rs n) h ↔ ∃ p, Pre rs n h p) := by
  intro h
  induction h using Nat.strongRecOn with
  | ind h ih =>
    intro hh
    have sb := steps_b rs n
    have sl := steps_len rs n
    have at_ : opO (stepsM rs n) h = _ := op_at sb (h := h) (i := h) (by rw [sl]; exact Nat.le_of_lt hh)
    constructor
    · intro hp
      rw [at_] at hp
      by_cases z : h = 0
      · subst z
        exact ⟨[], .nil⟩
      · rw [if_neg z, Nat.zero_add] at hp
        obtain ⟨g, hg, hp⟩ := sum_pos hp
        have hg := List.mem_range.mp hg
        obtain ⟨c1, c2⟩ : 0 < cnt ((stepsM rs n).getD g []) g h ∧ 0 < opO (stepsM rs n) g := ⟨Nat.pos_of_mul_pos_right hp |> fun _ => Nat.pos_of_ne_zero fun z => by rw [z, Nat.zero_mul] at hp; exact absurd hp (by decide), Nat.pos_of_ne_zero fun z => by rw [z, Nat.mul_zero] at hp; exact absurd hp (by decide)⟩
        obtain ⟨k, hk, e⟩ := cnt_pos.mp c1
        rw [steps_at (by omega)] at hk
        obtain ⟨h1, h2⟩ := List.mem_filter.mp hk
        obtain ⟨p, w⟩ := (ih g hg (by omega)).mp c2
        exact ⟨p ++ [k], by rw [← e]; exact .snoc g k p (List.mem_range.mp h1) h2 w⟩
    · rintro ⟨p, w⟩
      rw [at_]
      cases w with
      | nil => rw [if_pos rfl]; omega
      | snoc g k p hk ho w =>
        have lt := or_up (open_bit ho)
        have gl := (pre_bits w).1
        have c2 := (ih g lt gl).mpr ⟨p, w⟩
        have c1 : 0 < cnt ((stepsM rs n).getD g []) g (g ||| 2 ^ k) := cnt_pos.mpr ⟨k, by rw [steps_at gl]; exact List.mem_filter.mpr ⟨List.mem_range.mpr hk, ho⟩, rfl⟩
        have := sum_in (N := g ||| 2 ^ k) (h := g) (f := fun g' => cnt ((stepsM rs n).getD g' []) g' (g ||| 2 ^ k) * opO (stepsM rs n) g') lt
        have := Nat.mul_pos c1 c2
        omega
theorem end_pos {rs : List (List Nat)} {n h : Nat} (hh : h < 2 ^ n) : 0 < (endM (stepsM rs n)).getD h 0 ↔ ∃ o, Way rs n h o := by
  rw [paths_len (2 ^ n - 1 - h) h hh (Nat.le_refl _), List.length_pos_iff_exists_mem]
  exact exists_congr fun o => paths_way _ _ _ hh (Nat.le_refl _)
theorem way_fit {rs : List (List Nat)} {n : Nat} (hr : ∀ r ∈ rs, RowOk r n) {o : List Nat} : Way rs n 0 o ↔ o ∈ fitM rs n := by
  rw [fitM_mem]
  have key : o.Nodup → (∀ k, k ∈ o ↔ k < n ∧ (0 : Nat).testBit k = false) → (Way rs n 0 o ↔ ∀ r ∈ rs, holdsB r o = true) := fun h1 h2 => by
    rw [way_iff (rows_sgn hr) o 0 (Nat.two_pow_pos n) h1 h2]
    exact ⟨fun h r hr => h r hr (Nat.and_zero _), fun h r hr _ => h r hr⟩
  constructor
  · intro w
    obtain ⟨h1, h2⟩ := way_mem w
    refine ⟨?_, (key h1 h2).mp w⟩
    refine nodup_ext h1 List.nodup_range fun k => ?_
    rw [h2 k, List.mem_range, Nat.zero_testBit]
    exact ⟨fun h => h.1, fun h => ⟨h, rfl⟩⟩
  · rintro ⟨hp, hh⟩
    have h1 : o.Nodup := hp.nodup_iff.mpr List.nodup_range
    exact (key h1 fun k => by rw [hp.mem_iff, List.mem_range, Nat.zero_testBit]; exact ⟨fun h => ⟨h, rfl⟩, fun h => h.1⟩).mpr hh
/-- the heads that stand before b in some ranking that fits -/
def headsM (rs : List (List Nat)) (n b : Nat) : List Nat := (List.range (2 ^ n)).filter fun h => decide (b ∈ (stepsM rs n).getD h []) && (decide ((openM (stepsM rs n)).getD h 0 ≠ 0) && decide ((endM (stepsM rs n)).getD (h ||| 2 ^ b) 0 ≠ 0))
theorem heads_iff {rs : List (List Nat)} {n b h : Nat} (hb : b < n) : h ∈ headsM rs n b ↔ ∃ p q, Pre rs n h p ∧ openBit rs h b = true ∧ Way rs n (h ||| 2 ^ b) q := by
  unfold headsM
  rw [List.mem_filter, List.mem_range, Bool.and_eq_true, Bool.and_eq_true, decide_eq_true_eq, decide_eq_true_eq, decide_eq_true_eq]
  have sl := steps_len rs n
  constructor
  · rintro ⟨hh, h1, h2, h3⟩
    rw [steps_at hh] at h1
    have ho := (List.mem_filter.mp h1).2
    rw [op_fin (steps_b rs n) (by rw [sl]; exact hh)] at h2
    obtain ⟨p, w⟩ := (op_pos h hh).mp (Nat.pos_of_ne_zero h2)
    obtain ⟨q, wq⟩ := (end_pos (Nat.or_lt_two_pow hh (Nat.pow_lt_pow_right (by decide) hb))).mp (Nat.pos_of_ne_zero h3)
    exact ⟨p, q, w, ho, wq⟩
  · rintro ⟨p, q, w, ho, wq⟩
    have hh := (pre_bits w).1
    refine ⟨hh, by rw [steps_at hh]; exact List.mem_filter.mpr ⟨List.mem_range.mpr hb, ho⟩, ?_, ?_⟩
    · rw [op_fin (steps_b rs n) (by rw [sl]; exact hh)]
      exact Nat.ne_of_gt ((op_pos h hh).mpr ⟨p, w⟩)
    · exact Nat.ne_of_gt ((end_pos (Nat.or_lt_two_pow hh (Nat.pow_lt_pow_right (by decide) hb))).mpr ⟨q, wq⟩)
theorem heads_to {rs : List (List Nat)} {n b h : Nat} (hr : ∀ r ∈ rs, RowOk r n) (hb : b < n) (hm : h ∈ headsM rs n b) : h < 2 ^ n ∧ ∃ p q, p ++ b :: q ∈ fitM rs n ∧ ∀ j, h.testBit j = decide (j ∈ p) := by
  obtain ⟨p, q, w, ho, wq⟩ := (heads_iff hb).mp hm
  obtain ⟨h1, h2⟩ := pre_bits w
  have hne : h ≠ 2 ^ n - 1 := fun e => by
    have := open_bit ho
    rw [e, Nat.testBit_two_pow_sub_one] at this
    simp [hb] at this
  exact ⟨h1, p, q, (way_fit hr).mp (pre_way w (.step h b q hne hb ho wq)), h2⟩
theorem heads_of {rs : List (List Nat)} {n b : Nat} {p q : List Nat} (hr : ∀ r ∈ rs, RowOk r n) (hb : b < n) (hf : p ++ b :: q ∈ fitM rs n) : ∃ h ∈ headsM rs n b, ∀ j, h.testBit j = decide (j ∈ p) := by
  obtain ⟨h, w, wo⟩ := way_of ((way_fit hr).mpr hf)
  cases wo with
  | step _ _ _ hne hk ho wo => exact ⟨h, (heads_iff hb).mpr ⟨p, q, w, ho, wo⟩, (pre_bits w).2⟩
/-- a is in each head before b: in all rankings that fit a stands above b -/
theorem heads_above {rs : List (List Nat)} {n a b : Nat} (hr : ∀ r ∈ rs, RowOk r n) (hb : b < n) : ((headsM rs n b).all fun h => h.testBit a) = true ↔ ∀ p q, p ++ b :: q ∈ fitM rs n → a ∈ p := by
  rw [List.all_eq_true]
  constructor
  · intro h p q hf
    obtain ⟨g, hg, bt⟩ := heads_of hr hb hf
    have := h g hg
    rw [bt] at this
    exact of_decide_eq_true this
  · intro h g hg
    obtain ⟨_, p, q, hf, bt⟩ := heads_to hr hb hg
    rw [bt]
    exact decide_eq_true (h p q hf)
theorem cut_at {b : Nat} {o : List Nat} (h : b ∈ o) : ∃ p q, o = p ++ b :: q ∧ p.length = o.idxOf b ∧ b ∉ p := by
  induction o with
  | nil => cases h
  | cons c o ih =>
    by_cases e : c = b
    · subst e
      exact ⟨[], o, rfl, by simp, by simp⟩
    · obtain ⟨p, q, e1, e2, e3⟩ := ih ((List.mem_cons.mp h).resolve_left fun z => e z.symm)
      refine ⟨c :: p, q, by rw [e1]; rfl, ?_, fun z => (List.mem_cons.mp z).elim (fun z => e z.symm) e3⟩
      rw [List.idxOf_cons, List.length_cons, e2]
      have : (c == b) = false := by simpa using e
      rw [this]; rfl
theorem mem_idx {a b : Nat} {p q : List Nat} (hb : b ∉ p) (nd : (p ++ b :: q).Nodup) (ha : a ∈ p ++ b :: q) : a ∈ p ↔ (p ++ b :: q).idxOf a < (p ++ b :: q).idxOf b := by
  have eb : (p ++ b :: q).idxOf b = p.length := by
    rw [List.idxOf_append, if_neg hb, List.idxOf_cons_self, Nat.zero_add]
  rw [eb]
  constructor
  · intro h
    rw [List.idxOf_append, if_pos h]
    exact List.idxOf_lt_length_iff.mpr h
  · intro h
    refine Classical.byContradiction fun z => ?_
    rw [List.idxOf_append, if_neg z] at h
    omega
def aboveB (rs : List (List Nat)) (n a b : Nat) : Bool := (headsM rs n b).all fun h => h.testBit a
theorem above_iff {rs : List (List Nat)} {n a b : Nat} (hr : ∀ r ∈ rs, RowOk r n) (ha : a < n) (hb : b < n) : aboveB rs n a b = true ↔ ∀ o ∈ fitM rs n, o.idxOf a < o.idxOf b := by
  unfold aboveB
  rw [heads_above hr hb]
  constructor
  · intro h o ho
    obtain ⟨hp, _⟩ := fitM_mem.mp ho
    obtain ⟨p, q, e, _, nb⟩ := cut_at (hp.mem_iff.mpr (List.mem_range.mpr hb))
    have := h p q (by rw [← e]; exact ho)
    rw [e] at hp ⊢
    exact (mem_idx nb (hp.nodup_iff.mpr List.nodup_range) (hp.mem_iff.mpr (List.mem_range.mpr ha))).mp this
  · intro h p q hf
    obtain ⟨hp, _⟩ := fitM_mem.mp hf
    have nd : (p ++ b :: q).Nodup := hp.nodup_iff.mpr List.nodup_range
    have nb : b ∉ p := fun z => by
      have := (List.nodup_append.mp nd).2.2 b z b List.mem_cons_self
      exact this rfl
    exact (mem_idx nb nd (hp.mem_iff.mpr (List.mem_range.mpr ha))).mpr (h _ hf)
def abovePairs (rs : List (List Nat)) (n : Nat) : List (Nat × Nat) := (List.range n).flatMap fun a => ((List.range n).filter fun b => aboveB rs n a b).map fun b => (a, b)
theorem enum_lol (b : List (List Nat)) : enumD (lolD b) = (List.range b.length).map fun (h : Nat) => D.tup [.int h, .lst (ordD (b.getD h []))] := by
  have lb : (lolD b).length = b.length := List.length_map ..
  refine List.ext_getElem (by rw [enumD_length, lb, List.length_map, List.length_range]) fun i h1 h2 => ?_
  have hi : i < b.length := by rw [enumD_length, lb] at h1; exact h1
  obtain ⟨y, hy, e⟩ := enumD_get (List.getElem?_eq_getElem h1)
  rw [e, List.getElem_map, List.getElem_range]
  have := lolD_at hi
  rw [atI_nat' hy] at this
  rw [Option.some.inj this]
theorem tru_nat (a : Nat) : (((a : Nat) : Int) != 0) = decide (a ≠ 0) := by
  cases a with
  | zero => rfl
  | succ a => rw [decide_eq_true (by omega)]; simp; omega
theorem ev_inO {K : PySem.W.Frag} {Γ : Gam} {ta tb : TE} {r' : R2} {c : Nat} {l : List Nat} (ha : Ev ta Γ (.int c)) (h : EvB tb Γ (ordD l)) : Ev (tOp (rOr (rIn K false) r') ta tb) Γ (.bl (decide (c ∈ l))) := by
  have e := ev_in (neg := false) (K := K) (r' := r') ha h rfl (sc_ord l)
  rw [show scV (.int (c : Int)) = V.int (c : Int) from rfl, show inV (V.int (c : Int)) (List.map scV (ordD l)) = decide (c ∈ l) from inV_ord c l] at e
  exact e
def prsD (l : List (Nat × Nat)) : List D := l.map fun z => D.tup [.int (z.1 : Nat), .int (z.2 : Nat)]
def spHeads : Spc where
  ty := List (List Nat) × Nat
  args := fun x => [.tup (nameD x.1), .int x.2]
  ok := fun x => (∀ r ∈ x.1, RowOk r x.2) ∧ x.2 ≤ 8 ∧ x.1.length ≤ 1000
  rel := fun x d => d = .lst (lolD ((List.range x.2).map (headsM x.1 x.2)))
def spMeets : Spc where
  ty := Nat × List Nat
  args := fun x => [.int x.1, .lst (ordD x.2)]
  ok := fun x => x.2.length ≤ 1000
  rel := fun x d => d = .bl (x.2.all fun h => decide (x.1 &&& h ≠ 0))
def spAbove (C : Addr) : Spc where
  ty := Bk
  args := fun x => [bookD C x.1 x.2]
  ok := fun x => BookOk x.1 x.2 ∧ Still x.2 x.1.length = []
  rel := fun x d => d = .tup (prsD (abovePairs x.2 x.1.length))
end K18

namespace K18
open PySem PySem.Spec PyProof.Rows L2 Dw
variable [Tabs0]
theorem d_heads_above {P : Program} {w : World} {K : PySem.W.Frag} {mg : Str → Option Value} {base : Heap} (T : Txt K w mg) : FnOk P w K mg base CX0 4 T.f_heads_above T.e_heads_above ["rows", "many"] (toSp (spHeads)) := by
  refine fn_ok T.F_heads_above sc_heads_above (fun _ => rfl) fun cdv A outer s' H E hr => ?_
  refine ⟨_, (pss_cons (ps_set (i := 2) sc_heads_above.nd rfl (Or.inr rfl) (pe_call (d_steps T) (hr.mono (by decide)) (by rfl) T.m_steps T.F_steps.kp T.b_steps .nil pass0 (pa_cons (pv 0) (pa_cons (pv 1) pa_nil)))) (pss_cons (ps_asg (pe_tup (pa_cons (pe_call (d_openings T) (hr.mono (by decide)) (by rfl) T.m_openings T.F_openings.kp T.b_openings .nil pass0 (pa_cons (pv 2) pa_nil)) (pa_cons (pe_call (d_endings T) (hr.mono (by decide)) (by rfl) T.m_endings T.F_endings.kp T.b_endings .nil pass0 (pa_cons (pv 2) pa_nil)) pa_nil))) (tupA K 2 rfl (pgs_cons (pg_name (i := 3) sc_heads_above.nd rfl (Or.inr rfl)) (pgs_cons (pg_name (i := 4) sc_heads_above.nd rfl (Or.inr rfl)) pgs_nil)))) (pss_one (ps_ret (pe_lc (own := [("rule", 5)]) rfl sc_heads_above.nd (pi_range1 (by rfl) T.n_range (pa_cons (pv 1) pa_nil)) (blkOk_by (own := [("rule", 5)]) (N := N_heads_above) (sc := (defScope s_heads_above)) (by decide +kernel)) (fun _ _ _ _ _ => pg_name (i := 5) sc_heads_above.nd rfl (Or.inr rfl)) (fun _ _ _ _ _ => pts_nil) (fun _ _ _ _ _ => (pe_lc (own := [("head", 6), ("rules", 7)]) rfl sc_heads_above.nd (enumTA K (by rfl) T.n_enumerate (pa_cons (pv 2) pa_nil)) (blkOk_by (own := [("head", 6), ("rules", 7)]) (N := N_heads_above) (sc := (relS { kind := .function, names := [(".0", .local), ("rule", .cell), ("enumerate", .globalImplicit), ("after", .free), ("before", .free), ("behind", .free)], isGenerator := false, isCoroutine := false, more := [] } (defScope s_heads_above))) (by decide +kernel)) (fun _ _ _ _ _ => tupA K 2 rfl (pgs_cons (pg_name (i := 6) sc_heads_above.nd rfl (Or.inl rfl)) (pgs_cons (pg_name (i := 7) sc_heads_above.nd rfl (Or.inl rfl)) pgs_nil))) (fun _ _ _ _ _ => pts_one (PW.pt (pw_and (pt_cmpR (inA K) (pv 5) (pv 7) (by rfl)) (pw_and (truA K (pe_ix (ixA K) (pv 3) (pv 6) (fun _ _ => rfl))) (pw_and1 (truA K (pe_ix (ixA K) (pv 4) (pe_op op_or (pv 6) (pe_op op_shl pe_int (pv 5))) (fun _ _ => rfl)))))))) (fun _ _ _ _ _ => (pv 6))))))))), fun x hx => ?_⟩
  obtain ⟨rs, n⟩ := x
  obtain ⟨hr', h8, hz⟩ := hx
  have hr' : ∀ r ∈ rs, RowOk r n := hr'
  have h8 : n ≤ 8 := h8
  have so := steps_ok (rs := rs) h8
  have sb := steps_b rs n
  have sl := steps_len rs n
  have p8 := pow8 h8
  have lb : (lolD (stepsM rs n)).length = 2 ^ n := by unfold lolD; rw [List.length_map, sl]
  have lo : (openM (stepsM rs n)).length = 2 ^ n := by unfold openM; rw [opTo_len sb.lo, sl]
  have le : (endM (stepsM rs n)).length = 2 ^ n := by unfold endM; rw [endTo_len, sl]
  refine ds_seq (ds_asg (Ev.dl (ev_call (s := spSteps) (d := .lst (lolD (stepsM rs n))) (x := (rs, n, false)) (eva_cons (ev_var rfl) (eva_cons (ev_var rfl) eva_nil)) (np_rd (b := false) (r := [_]) rfl) ⟨hr', h8, hz⟩ fun d h => h) ?_))
  refine ds_seq (ds_asg_g (Ev.dl (ev_tup (eva_cons (ev_call (s := spOpen) (d := .lst (ordD (openM (stepsM rs n)))) (x := stepsM rs n) (eva_cons (ev_var rfl) eva_nil) (np_ll (r := []) rfl) ⟨so, sb⟩ fun d h => h) (eva_cons (ev_call (s := spEnd) (d := .lst (ordD (endM (stepsM rs n)))) (x := stepsM rs n) (eva_cons (ev_var rfl) eva_nil) (np_ll (r := []) rfl) so fun d h => h) eva_nil)) (small (show 2 ≤ 100000 by decide))) ⟨[3] ++ [4], _, dg_tup2 dg_name dg_name, ?_⟩))
  show Ds _ [.val (.tup (nameD rs)), .val (.int n), .val (.lst (lolD (stepsM rs n))), .val (.lst (ordD (openM (stepsM rs n)))), .val (.lst (ordD (endM (stepsM rs n)))), .unset, .unset, .unset] _
  refine ds_ret (Ev.dl (EvN.ev (evn_lc1 (xs := List.range n) (c := fun k : Nat => D.int k) (f := fun b => D.lst (ordD (headsM rs n b))) (ei_range (n := n) (eva_cons (ev_var rfl) eva_nil) (by omega)) (by rw [List.length_range]; omega) fun b hb => ⟨[5], _, dg_name, fun i hi => hi, evt_yes, ?_⟩)) ?_)
  · have hb := List.mem_range.mp hb
    refine ev_cast (d' := .lst (ordD (headsM rs n b))) rfl (EvN.ev (evn_lc (xs := List.range (2 ^ n)) (c := fun h : Nat => D.tup [.int h, .lst (ordD ((stepsM rs n).getD h []))]) (p := fun h => decide (b ∈ (stepsM rs n).getD h []) && (decide ((openM (stepsM rs n)).getD h 0 ≠ 0) && decide ((endM (stepsM rs n)).getD (h ||| 2 ^ b) 0 ≠ 0))) (f := fun h : Nat => D.int h) ?e (by rw [List.length_range]; omega) fun h hh => ⟨[6] ++ [7], _, dg_tup2 dg_name dg_name, fun i hi => hi, ?t, fun _ => ev_var rfl⟩))
    case e =>
      have e := enum_lol (stepsM rs n)
      rw [sl] at e
      rw [← e]
      exact ei_enumL (ev_var (d := .lst (lolD (stepsM rs n))) rfl).b
    case t =>
      have hh := List.mem_range.mp hh
      refine evt_and (evt_test (ev_inO (ev_var rfl) (ev_var (d := .lst (ordD ((stepsM rs n).getD h []))) rfl).b)) fun _ => evt_and ?_ fun _ => ?_
      · rw [← tru_nat]
        exact evt_tru_int (ev_ix (ds := ordD (openM (stepsM rs n))) (ev_var rfl).b (ev_var (d := .int (h : Nat)) rfl) (ordD_at (by rw [lo]; exact hh)))
      · rw [← tru_nat]
        exact evt_tru_int (ev_ix (ds := ordD (endM (stepsM rs n))) (ev_var rfl).b (ev_op (ev_var (d := .int (h : Nat)) rfl) (ev_op ev_int (ev_var rfl) (dr2_shl1 (by omega))) dr2_or) (ordD_at (by rw [le]; exact ors_lt hh hb)))
  · show D.lst _ = D.lst (lolD _)
    unfold lolD
    rw [List.map_map]; rfl
end K18

namespace K18
open PySem PySem.Spec PyProof.Rows L2 Dw
variable [Tabs0]
theorem d_meets_all {P : Program} {w : World} {K : PySem.W.Frag} {mg : Str → Option Value} {base : Heap} (T : Txt K w mg) : FnOk P w K mg base CX0 1 T.f_meets_all T.e_meets_all ["lot", "heads"] (toSp (spMeets)) := by
  refine fn_ok T.F_meets_all sc_meets_all (fun _ => rfl) fun cdv A outer s' H E hr => ?_
  refine ⟨_, (pss_one (ps_ret (pe_callB (allIA K) (by rfl) T.n_all (by decide +kernel) (pa_cons (pe_lc (own := [("head", 2)]) rfl sc_meets_all.nd (piR K (pv 1)) (blkOk_by (own := [("head", 2)]) (N := N_meets_all) (sc := (defScope s_meets_all)) (by decide +kernel)) (fun _ _ _ _ _ => pg_name (i := 2) sc_meets_all.nd rfl (Or.inl rfl)) (fun _ _ _ _ _ => pts_nil) (fun _ _ _ _ _ => (pe_op op_and (pv 0) (pv 2)))) pa_nil)))), fun x hx => ?_⟩
  obtain ⟨a, hs⟩ := x
  have hz : hs.length ≤ 1000 := hx
  refine ds_ret (Ev.dl (ev_allI (is := hs.map fun h => ((a &&& h : Nat) : Int)) (EvN.b ?e)) ?_)
  case e =>
    rw [List.map_map]
    exact evn_lc1 (xs := hs) (c := fun k : Nat => D.int k) (f := fun h : Nat => D.int ((a &&& h : Nat) : Int)) (ej_list (ev_var (d := .lst (ordD hs)) rfl).b) (by omega) fun h hh => ⟨[2], _, dg_name, fun i hi => hi, evt_yes, ev_op (ev_var rfl) (ev_var rfl) dr2_and⟩
  show D.bl _ = D.bl (hs.all fun h => decide (a &&& h ≠ 0))
  rw [List.all_map]
  congr 2
  funext h
  exact tru_nat _
end K18

namespace K18
open PySem PySem.Spec PyProof.Rows L2 Dw
variable [Tabs0]
/-! prefixes with a given head, counted -/
theorem head_bits {n : Nat} : ∀ {o : List Nat}, o ∈ lots n → ∀ j, (headOf o).testBit j = decide (j ∈ o) := by
  induction n with
  | zero =>
    intro o h j
    rw [List.mem_singleton.mp h]
    show (0 : Nat).testBit j = _
    rw [Nat.zero_testBit]; simp
  | succ n ih =>
    intro o h j
    rcases List.mem_append.mp h with h | h
    · exact ih h j
    · obtain ⟨p, hp, rfl⟩ := List.mem_map.mp h
      obtain ⟨a, b⟩ := lots_pc n p hp
      have e := Nat.two_pow_add_eq_or_of_lt b 1
      rw [Nat.mul_one] at e
      have e' : headOf (p ++ [n]) = headOf p ||| 2 ^ n := by
        rw [headOf_snoc, Nat.add_comm, e, Nat.or_comm]
      rw [e', or_bit, ih hp j, Bool.eq_iff_iff, Bool.or_eq_true, decide_eq_true_eq, decide_eq_true_eq, decide_eq_true_eq, List.mem_append, List.mem_singleton]
      exact or_congr Iff.rfl ⟨Eq.symm, Eq.symm⟩
/-! least and greatest places -/
def minL : List Nat → Nat
  | [] => 0
  | [a] => a
  | a :: b :: l => min a (minL (b :: l))
def maxL : List Nat → Nat
  | [] => 0
  | [a] => a
  | a :: b :: l => max a (maxL (b :: l))
theorem minL_mem : ∀ {l : List Nat}, l ≠ [] → minL l ∈ l ∧ ∀ y ∈ l, minL l ≤ y
  | [], h => absurd rfl h
  | [a], _ => ⟨List.mem_singleton.mpr rfl, fun y hy => by rw [List.mem_singleton.mp hy]; exact Nat.le_refl _⟩
  | a :: b :: l, _ => by
    obtain ⟨h1, h2⟩ := minL_mem (l := b :: l) (by simp)
    show min a (minL (b :: l)) ∈ _ ∧ ∀ y ∈ _, min a (minL (b :: l)) ≤ y
    refine ⟨?_, fun y hy => ?_⟩
    · rcases Nat.le_total a (minL (b :: l)) with q | q
      · rw [Nat.min_eq_left q]; exact List.mem_cons_self
      · rw [Nat.min_eq_right q]; exact List.mem_cons_of_mem _ h1
    · rcases List.mem_cons.mp hy with rfl | hy
      · exact Nat.min_le_left _ _
      · exact Nat.le_trans (Nat.min_le_right _ _) (h2 y hy)
theorem maxL_mem : ∀ {l : List Nat}, l ≠ [] → maxL l ∈ l ∧ ∀ y ∈ l, y ≤ maxL l
  | [], h => absurd rfl h
  | [a], _ => ⟨List.mem_singleton.mpr rfl, fun y hy => by rw [List.mem_singleton.mp hy]; exact Nat.le_refl _⟩
  | a :: b :: l, _ => by
    obtain ⟨h1, h2⟩ := maxL_mem (l := b :: l) (by simp)
    show max a (maxL (b :: l)) ∈ _ ∧ ∀ y ∈ _, y ≤ max a (maxL (b :: l))
    refine ⟨?_, fun y hy => ?_⟩
    · rcases Nat.le_total a (maxL (b :: l)) with q | q
      · rw [Nat.max_eq_right q]; exact List.mem_cons_of_mem _ h1
      · rw [Nat.max_eq_left q]; exact List.mem_cons_self
    · rcases List.mem_cons.mp hy with rfl | hy
      · exact Nat.le_max_left _ _
      · exact Nat.le_trans (h2 y hy) (Nat.le_max_right _ _)
theorem pc_len {n h k : Nat} {p q : List Nat} (hp : (p ++ k :: q).Perm (List.range n)) (hb : ∀ j, h.testBit j = decide (j ∈ p)) : pc n h = p.length := by
  unfold pc
  have nd : (p ++ k :: q).Nodup := hp.nodup_iff.mpr List.nodup_range
  refine (nodup_ext (List.nodup_range.sublist List.filter_sublist) (List.nodup_append.mp nd).1 fun j => ?_).length_eq
  rw [List.mem_filter, hb, decide_eq_true_eq, List.mem_range]
  exact ⟨fun h => h.2, fun h => ⟨List.mem_range.mp (hp.mem_iff.mp (List.mem_append_left _ h)), h⟩⟩
theorem places_same {rs : List (List Nat)} {n k : Nat} (hr : ∀ r ∈ rs, RowOk r n) (hk : k < n) (v : Nat) : v ∈ (headsM rs n k).map (pc n) ↔ v ∈ (fitM rs n).map fun o => o.idxOf k := by
  constructor
  · intro h
    obtain ⟨g, hg, rfl⟩ := List.mem_map.mp h
    obtain ⟨_, p, q, hf, hb⟩ := heads_to hr hk hg
    obtain ⟨hp, _⟩ := fitM_mem.mp hf
    refine List.mem_map.mpr ⟨_, hf, ?_⟩
    have nd : (p ++ k :: q).Nodup := hp.nodup_iff.mpr List.nodup_range
    have nb : k ∉ p := fun z => (List.nodup_append.mp nd).2.2 k z k List.mem_cons_self rfl
    rw [pc_len hp hb, List.idxOf_append, if_neg nb, List.idxOf_cons_self, Nat.zero_add]
  · intro h
    obtain ⟨o, ho, rfl⟩ := List.mem_map.mp h
    obtain ⟨hp, _⟩ := fitM_mem.mp ho
    obtain ⟨p, q, e, el, nb⟩ := cut_at (hp.mem_iff.mpr (List.mem_range.mpr hk))
    obtain ⟨g, hg, hb⟩ := heads_of hr hk (by rw [← e]; exact ho)
    refine List.mem_map.mpr ⟨g, hg, ?_⟩
    rw [pc_len (by rw [← e]; exact hp) hb, el]
end K18

namespace K18
open PySem PySem.Spec PyProof.Rows L2 Dw
variable [Tabs0]
def spRulesOf : Spc where
  ty := Nat × Nat
  args := fun x => [.int x.1, .int x.2]
  ok := fun x => x.2 ≤ 20
  rel := fun x d => d = .tup (ordD ((List.range x.2).filter fun k => x.1.testBit k))
def spCkRule : Spc where
  ty := Nat × Nat
  args := fun x => [.int x.1, .int x.2]
  ok := fun x => x.1 < x.2
  rel := fun _ d => d = .non
def spPlaces (C : Addr) : Spc where
  ty := Bk × Nat
  args := fun x => [bookD C x.1.1 x.1.2, .int x.2]
  ok := fun x => BookOk x.1.1 x.1.2 ∧ x.2 < x.1.1.length ∧ Still x.1.2 x.1.1.length = []
  rel := fun x d => d = .tup [.int (minL ((fitM x.1.2 x.1.1.length).map fun o => o.idxOf x.2) : Nat), .int (maxL ((fitM x.1.2 x.1.1.length).map fun o => o.idxOf x.2) : Nat)]
theorem fit_still {rs : List (List Nat)} {n : Nat} (hr : ∀ r ∈ rs, RowOk r n) : Still rs n = [] ↔ fitM rs n ≠ [] := by rw [fit_iff]; exact still_fit (sgnOk hr)
theorem min_nat {l m : List Nat} (h : ∀ v, v ∈ l ↔ v ∈ m) (hm : m ≠ []) {i : Int} (hi : i ∈ l.map fun k : Nat => (k : Int)) (hy : ∀ y ∈ l.map fun k : Nat => (k : Int), i ≤ y) : i = (minL m : Int) := by
  obtain ⟨k, hk, rfl⟩ := List.mem_map.mp hi
  obtain ⟨h1, h2⟩ := minL_mem hm
  have a := hy _ (List.mem_map.mpr ⟨_, (h _).mpr h1, rfl⟩)
  have b := h2 k ((h k).mp hk)
  omega
theorem max_nat {l m : List Nat} (h : ∀ v, v ∈ l ↔ v ∈ m) (hm : m ≠ []) {i : Int} (hi : i ∈ l.map fun k : Nat => (k : Int)) (hy : ∀ y ∈ l.map fun k : Nat => (k : Int), y ≤ i) : i = (maxL m : Int) := by
  obtain ⟨k, hk, rfl⟩ := List.mem_map.mp hi
  obtain ⟨h1, h2⟩ := maxL_mem hm
  have a := hy _ (List.mem_map.mpr ⟨_, (h _).mpr h1, rfl⟩)
  have b := h2 k ((h k).mp hk)
  omega
end K18

namespace K18
open PySem PySem.Spec PyProof.Rows L2 Dw
variable [Tabs0]
theorem d_rules_of {P : Program} {w : World} {K : PySem.W.Frag} {mg : Str → Option Value} {base : Heap} (T : Txt K w mg) : FnOk P w K mg base CX0 1 T.f_rules_of T.e_rules_of ["head", "many"] (toSp (spRulesOf)) := by
  refine fn_ok T.F_rules_of sc_rules_of (fun _ => rfl) fun cdv A outer s' H E hr => ?_
  refine ⟨_, (pss_one (ps_ret (pe_callTy (tupleA K) (by rfl) T.n_tuple (by decide +kernel) (pa_cons (pe_lc (own := [("rule", 2)]) rfl sc_rules_of.nd (pi_range1 (by rfl) T.n_range (pa_cons (pv 1) pa_nil)) (blkOk_by (own := [("rule", 2)]) (N := N_rules_of) (sc := (defScope s_rules_of)) (by decide +kernel)) (fun _ _ _ _ _ => pg_name (i := 2) sc_rules_of.nd rfl (Or.inl rfl)) (fun _ _ _ _ _ => pts_one (truA K (pe_op op_and (pv 0) (pe_op op_shl pe_int (pv 2))))) (fun _ _ _ _ _ => (pv 2))) pa_nil)))), fun x hx => ?_⟩
  obtain ⟨h, n⟩ := x
  have h8 : n ≤ 20 := hx
  refine ds_ret (Ev.dl (ev_tuple (EvN.b (evn_lc (xs := List.range n) (c := fun k : Nat => D.int k) (p := fun k => h.testBit k) (f := fun k : Nat => D.int k) (ei_range (n := n) (eva_cons (ev_var rfl) eva_nil) (by omega)) (by rw [List.length_range]; omega) fun k hk => ⟨[2], _, dg_name, fun i hi => hi, ?_, fun _ => ev_var rfl⟩))) rfl)
  have hk := List.mem_range.mp hk
  have e := evt_tru_int (K := K) (Γ := [.val (.int (h : Nat)), .val (.int (n : Nat)), .val (.int (k : Nat))]) (ev_op (ev_var (i := 0) (d := .int (h : Nat)) rfl) (ev_op (ev_int (z := 1)) (ev_var (i := 2) rfl) (dr2_shl1 (k := k) (by omega))) (dr2_and (a := h) (b := 2 ^ k)))
  have e2 : (((h &&& 2 ^ k : Nat) : Int) != 0) = h.testBit k := by
    rw [tru_nat]
    have := two_bit (a := h) (k := k)
    by_cases q : h &&& 2 ^ k = 0
    · rw [decide_eq_true q] at this
      rw [decide_eq_false (by rw [q]; exact fun z => z rfl)]
      cases z : h.testBit k with
      | false => rfl
      | true => rw [z] at this; cases this
    · rw [decide_eq_false q] at this
      rw [decide_eq_true q]
      cases z : h.testBit k with
      | true => rfl
      | false => rw [z] at this; cases this
  rw [e2] at e
  exact e
end K18

namespace K18
open PySem PySem.Spec PyProof.Rows L2 Dw
variable [Tabs0]
theorem d_check_rule {P : Program} {w : World} {K : PySem.W.Frag} {mg : Str → Option Value} {base : Heap} (T : Txt K w mg) : FnOk P w K mg base CX0 3 T.f_check_rule T.e_check_rule ["rule", "many"] (toSp (spCkRule)) := by
  refine fn_ok T.F_check_rule sc_check_rule (fun _ => rfl) fun cdv A outer s' H E hr => ?_
  refine ⟨_, (pss_one (ps_if (pt_not (truA K (pe_call (d_is_index T) (hr.mono (by decide)) (by rfl) T.m_is_index T.F_is_index.kp T.b_is_index .nil pass0 (pa_cons (pv 0) (pa_cons (pv 1) pa_nil))))) (pss_one ps_never) pss_nil)), fun x hx => ?_⟩
  obtain ⟨a, n⟩ := x
  have ha : a < n := hx
  have e : idxB (.int (a : Int)) (n : Int) = true := by
    show (decide ((0 : Int) ≤ a) && decide ((a : Int) < n)) = true
    rw [decide_eq_true (by omega), decide_eq_true (by omega)]; rfl
  exact ds_if (EvT.dl (b := false) (evt_not (a := true) (evt_tru_bl (ev_call (s := spIndexG) (d := .bl true) (x := (.int a, n)) (eva_cons (ev_var rfl) (eva_cons (ev_var rfl) eva_nil)) rfl rfl fun d h => by rw [h]; exact congrArg D.bl e))) ⟨fun h => (nomatch h), fun _ => ds_next rfl⟩)
end K18

namespace K18
open PySem PySem.Spec PyProof.Rows L2 Dw
variable [Tabs0]
theorem d_above {P : Program} {w : World} {K : PySem.W.Frag} {mg : Str → Option Value} {base : Heap} (T : Txt K w mg) : FnOk P w K mg base CX0 5 T.f_above T.e_above ["book"] (toSp (spAbove T.C_Book)) := by
  refine fn_ok T.F_above sc_above (fun _ => rfl) fun cdv A outer s' H E hr => ?_
  refine ⟨_, (pss_cons (ps_expr (pe_call (d_check_book T) (hr.mono (by decide)) (by rfl) T.m_check_book T.F_check_book.kp T.b_check_book .nil pass0 (pa_cons (pv 0) pa_nil))) (pss_cons (ps_expr (pe_call (d_check_some_fits T) (hr.mono (by decide)) (by rfl) T.m_check_some_fits T.F_check_some_fits.kp T.b_check_some_fits .nil pass0 (pa_cons (pv 0) pa_nil))) (pss_cons (ps_set (i := 1) sc_above.nd rfl (Or.inl rfl) (pe_callB (lenA K) (by rfl) T.n_len (by decide +kernel) (pa_cons (pe_prop (pv 0) T.cl_Book T.p_Book_names (d_Book_names T) (hr.mono (by decide)) T.b_Book_names .nil pass0 rfl) pa_nil))) (pss_cons (ps_set (i := 2) sc_above.nd rfl (Or.inr rfl) (pe_call (d_heads_above T) (hr.mono (by decide)) (by rfl) T.m_heads_above T.F_heads_above.kp T.b_heads_above .nil pass0 (pa_cons (pe_prop (pv 0) T.cl_Book T.p_Book_rows (d_Book_rows T) (hr.mono (by decide)) T.b_Book_rows .nil pass0 rfl) (pa_cons (pv 1) pa_nil)))) (pss_cons (ps_set (i := 3) sc_above.nd rfl (Or.inr rfl) (pe_range (by rfl) T.n_range (pa_cons (pv 1) pa_nil))) (pss_one (ps_ret (pe_callTy (tupleA K) (by rfl) T.n_tuple (by decide +kernel) (pa_cons (pe_lc2 (own := [("one", 4), ("two", 5)]) (vs1 := [5]) rfl sc_above.nd (piR K (pv 3)) (blkOk_by (own := [("one", 4), ("two", 5)]) (N := N_above) (sc := (defScope s_above)) (by decide +kernel)) (by decide) (fun _ _ _ _ _ => pg_name (i := 4) sc_above.nd rfl (Or.inl rfl)) (fun _ _ _ _ _ => pts_nil) (fun _ _ _ _ _ => (piR K (pv 3))) (fun _ _ _ _ _ => pg_name (i := 5) sc_above.nd rfl (Or.inl rfl)) (fun _ _ _ _ _ => pts_one (truA K (pe_call (d_meets_all T) (hr.mono (by decide)) (by rfl) T.m_meets_all T.F_meets_all.kp T.b_meets_all .nil pass0 (pa_cons (pe_op op_shl pe_int (pv 4)) (pa_cons (pe_ix (ixA K) (pv 2) (pv 5) (fun _ _ => rfl)) pa_nil))))) (fun _ _ _ _ _ => (pe_tup (pa_cons (pv 4) (pa_cons (pv 5) pa_nil))))) pa_nil))))))))), fun x hx => ?_⟩
  obtain ⟨ls, rs⟩ := x
  obtain ⟨hb, hs⟩ := hx
  have hb : BookOk ls rs := hb
  have hs : Still rs ls.length = [] := hs
  have h8 := hb.n8
  have p8 := pow8 h8
  refine ds_seq (ds_drop (Ev.dl (ev_call (s := spCheck T.C_Book) (x := (ls, rs)) (eva_cons (ev_var rfl) eva_nil) (np_book _ ls rs) trivial fun d h => h) ?_))
  refine ds_seq (ds_drop (Ev.dl (ev_call (s := spCkFits T.C_Book) (x := (ls, rs)) (eva_cons (ev_var rfl) eva_nil) (np_book _ ls rs) ⟨hb, hs⟩ fun d h => h) ?_))
  refine ds_seq (ds_asg (Ev.dl (ev_names (C := T.C_Book) (rs := rs) (ev_prop (s := spBNames T.C_Book) (x := (ls, rs)) (ev_var rfl) rfl (np_book _ ls rs) trivial fun d h => h)) ?_))
  refine ds_seq (ds_asg (Ev.dl (ev_call (s := spHeads) (d := .lst (lolD ((List.range ls.length).map (headsM rs ls.length)))) (x := (rs, ls.length)) (eva_cons (ev_prop (s := spBRows T.C_Book) (x := (ls, rs)) (ev_var rfl) rfl (np_book _ ls rs) trivial fun d h => h) (eva_cons (ev_var rfl) eva_nil)) (np_tn (r := [_]) rfl) ⟨hb.rows, h8, Nat.le_trans hb.few (by decide)⟩ fun d h => h) ?_))
  refine ds_seq (ds_asg (Ev.dl (ev_range (n := ls.length) (eva_cons (ev_var rfl) eva_nil)) ?_))
  show Ds _ [.val (bookD T.C_Book ls rs), .val (.int (ls.length : Nat)), .val (.lst (lolD ((List.range ls.length).map (headsM rs ls.length)))), .val (.rng 0 (ls.length : Nat)), .unset, .unset] _
  have hl : ∀ b, (headsM rs ls.length b).length ≤ 256 := fun b => Nat.le_trans (List.length_filter_le _ _) (by rw [List.length_range]; exact p8)
  refine ds_ret (Ev.dl (ev_tuple (EvN.b (evn_lc2 (xs := List.range ls.length) (c := fun k : Nat => D.int k) (p := fun _ => true) (ys := fun _ => List.range ls.length) (c1 := fun _ k => D.int (k : Nat)) (q := fun a b => aboveB rs ls.length a b) (f := fun a b => D.tup [.int (a : Nat), .int (b : Nat)]) (ej_rng (n := ls.length) (ev_var rfl) (by omega)) ?z fun a ha => ⟨[4], _, dg_name, fun i hi => List.mem_cons.mpr (.inl (List.mem_singleton.mp hi)), evt_yes, fun _ => ⟨ekj_rng (n := ls.length) (ev_var rfl) (by omega), fun b hb => ⟨[5], _, dg_name, fun i hi => hi, ?t, fun _ => ev_tup (eva_cons (ev_var rfl) (eva_cons (ev_var rfl) eva_nil)) (small (show 2 ≤ 100000 by decide))⟩⟩⟩))) ?_)
  case z =>
    rw [List.map_const', List.sum_replicate_nat, List.length_range]
    exact Nat.le_trans (Nat.mul_le_mul h8 h8) (by decide)
  case t =>
    have ha := List.mem_range.mp ha
    have hb' := List.mem_range.mp hb
    refine evt_tru_bl (ev_call (s := spMeets) (d := .bl (aboveB rs ls.length a b)) (x := (2 ^ a, headsM rs ls.length b)) (eva_cons (ev_op ev_int (ev_var (d := .int (a : Nat)) rfl) (dr2_shl1 (by omega))) (eva_cons (ev_ix (ds := lolD ((List.range ls.length).map (headsM rs ls.length))) (ev_var rfl).b (ev_var (d := .int (b : Nat)) rfl) ?_) eva_nil)) (np_lo (r := []) rfl) (Nat.le_trans (hl b) (by decide)) fun d h => ?_)
    · have := lolD_at (l := (List.range ls.length).map (headsM rs ls.length)) (i := b) (by rw [List.length_map, List.length_range]; exact hb')
      rw [this, List.getD_eq_getElem?_getD, List.getElem?_map, List.getElem?_range hb']; rfl
    · rw [show d = _ from h]
      show D.bl _ = D.bl (aboveB rs ls.length a b)
      unfold aboveB
      congr 2
      funext h
      rw [Nat.and_comm]
      have := two_bit (a := h) (k := a)
      by_cases e : h &&& 2 ^ a = 0
      · rw [decide_eq_true e] at this
        rw [decide_eq_false (by rw [e]; exact fun z => z rfl)]
        cases q : h.testBit a with
        | false => rfl
        | true => rw [q] at this; cases this
      · rw [decide_eq_false e] at this
        rw [decide_eq_true e]
        cases q : h.testBit a with
        | true => rfl
        | false => rw [q] at this; cases this
  show D.tup _ = D.tup (prsD (abovePairs rs ls.length))
  unfold prsD abovePairs
  rw [List.filter_eq_self.mpr fun _ _ => rfl, List.map_flatMap]
  congr 2
  funext a
  rw [List.map_map]; rfl
end K18

namespace K18
open PySem PySem.Spec PyProof.Rows L2 Dw
variable [Tabs0]
theorem d_places {P : Program} {w : World} {K : PySem.W.Frag} {mg : Str → Option Value} {base : Heap} (T : Txt K w mg) : FnOk P w K mg base CX0 5 T.f_places T.e_places ["book", "rule"] (toSp (spPlaces T.C_Book)) := by
  refine fn_ok T.F_places sc_places (fun _ => rfl) fun cdv A outer s' H E hr => ?_
  refine ⟨_, (pss_cons (ps_expr (pe_call (d_check_book T) (hr.mono (by decide)) (by rfl) T.m_check_book T.F_check_book.kp T.b_check_book .nil pass0 (pa_cons (pv 0) pa_nil))) (pss_cons (ps_set (i := 2) sc_places.nd rfl (Or.inr rfl) (pe_callB (lenA K) (by rfl) T.n_len (by decide +kernel) (pa_cons (pe_prop (pv 0) T.cl_Book T.p_Book_names (d_Book_names T) (hr.mono (by decide)) T.b_Book_names .nil pass0 rfl) pa_nil))) (pss_cons (ps_expr (pe_call (d_check_rule T) (hr.mono (by decide)) (by rfl) T.m_check_rule T.F_check_rule.kp T.b_check_rule .nil pass0 (pa_cons (pv 1) (pa_cons (pv 2) pa_nil)))) (pss_cons (ps_expr (pe_call (d_check_some_fits T) (hr.mono (by decide)) (by rfl) T.m_check_some_fits T.F_check_some_fits.kp T.b_check_some_fits .nil pass0 (pa_cons (pv 0) pa_nil))) (pss_cons (ps_setLc (i := 3) (own := [("head", 4)]) rfl sc_places.nd rfl rfl (sw_true rfl rfl rfl (by decide +kernel)) (piR K (pe_ix (ixA K) (pe_call (d_heads_above T) (hr.mono (by decide)) (by rfl) T.m_heads_above T.F_heads_above.kp T.b_heads_above .nil pass0 (pa_cons (pe_prop (pv 0) T.cl_Book T.p_Book_rows (d_Book_rows T) (hr.mono (by decide)) T.b_Book_rows .nil pass0 rfl) (pa_cons (pv 2) pa_nil))) (pv 1) (fun _ _ => rfl))) (blkOk_by (own := [("head", 4)]) (N := N_places) (sc := (defScope s_places)) (by decide +kernel)) (fun _ _ _ _ _ => pg_name (i := 4) sc_places.nd rfl (Or.inl rfl)) (fun _ _ _ _ _ => pts_nil) (fun _ _ _ _ _ => (pe_callB (lenA K) (by rfl) T.n_len (by decide +kernel) (pa_cons (pe_call (d_rules_of T) (hr.mono (by decide)) (by rfl) T.m_rules_of T.F_rules_of.kp T.b_rules_of .nil pass0 (pa_cons (pv 4) (pa_cons (pv 2) pa_nil))) pa_nil)))) (pss_one (ps_ret (pe_tup (pa_cons (pe_callB (minA K) (by rfl) T.n_min (by decide +kernel) (pa_cons (pv 3) pa_nil)) (pa_cons (pe_callB (maxA K) (by rfl) T.n_max (by decide +kernel) (pa_cons (pv 3) pa_nil)) pa_nil)))))))))), fun x hx => ?_⟩
  obtain ⟨⟨ls, rs⟩, k⟩ := x
  obtain ⟨hb, hk, hs⟩ := hx
  have hb : BookOk ls rs := hb
  have hk : k < ls.length := hk
  have hs : Still rs ls.length = [] := hs
  have h8 := hb.n8
  have p8 := pow8 h8
  refine ds_seq (ds_drop (Ev.dl (ev_call (s := spCheck T.C_Book) (x := (ls, rs)) (eva_cons (ev_var rfl) eva_nil) (np_book _ ls rs) trivial fun d h => h) ?_))
  refine ds_seq (ds_asg (Ev.dl (ev_names (C := T.C_Book) (rs := rs) (ev_prop (s := spBNames T.C_Book) (x := (ls, rs)) (ev_var rfl) rfl (np_book _ ls rs) trivial fun d h => h)) ?_))
  refine ds_seq (ds_drop (Ev.dl (ev_call (s := spCkRule) (x := (k, ls.length)) (eva_cons (ev_var rfl) (eva_cons (ev_var rfl) eva_nil)) rfl hk fun d h => h) ?_))
  refine ds_seq (ds_drop (Ev.dl (ev_call (s := spCkFits T.C_Book) (x := (ls, rs)) (eva_cons (ev_var rfl) eva_nil) (np_book _ ls rs) ⟨hb, hs⟩ fun d h => h) ?_))
  have hl : (headsM rs ls.length k).length ≤ 256 := Nat.le_trans (List.length_filter_le _ _) (by rw [List.length_range]; exact p8)
  have hne : fitM rs ls.length ≠ [] := (fit_still hb.rows).mp hs
  have hne' : (fitM rs ls.length).map (fun o => o.idxOf k) ≠ [] := fun z => hne (List.map_eq_nil_iff.mp z)
  have sm := places_same hb.rows hk
  have hpos : 0 < ((headsM rs ls.length k).map (pc ls.length)).length := by
    obtain ⟨v, hv⟩ := List.exists_mem_of_ne_nil _ hne'
    exact List.length_pos_iff_exists_mem.mpr ⟨v, (sm v).mpr hv⟩
  refine ds_seq (ds_asg (Ev.dl (ev_cast (d' := .lst (((headsM rs ls.length k).map (pc ls.length)).map fun v : Nat => D.int v)) (by rw [List.map_map]; rfl) (EvN.ev (evn_lc1 (xs := headsM rs ls.length k) (c := fun h : Nat => D.int h) (f := fun h => D.int (pc ls.length h : Nat)) (ej_list (Ev.b (ev_ix (ds := lolD ((List.range ls.length).map (headsM rs ls.length))) (d := .lst (ordD (headsM rs ls.length k))) (Ev.b (ev_call (s := spHeads) (d := .lst (lolD ((List.range ls.length).map (headsM rs ls.length)))) (x := (rs, ls.length)) (eva_cons (ev_prop (s := spBRows T.C_Book) (x := (ls, rs)) (ev_var rfl) rfl (np_book _ ls rs) trivial fun d h => h) (eva_cons (ev_var rfl) eva_nil)) (np_tn (r := [_]) rfl) ⟨hb.rows, h8, Nat.le_trans hb.few (by decide)⟩ fun d h => h)) (ev_var (d := .int (k : Nat)) rfl) ?aat))) (by omega) fun h hh => ⟨[4], _, dg_name, fun i hi => hi, evt_yes, ev_cast (congrArg (fun n : Nat => D.int n) (ordD_len _)) (ev_lenT (ds := ordD ((List.range ls.length).filter fun k => h.testBit k)) (ev_call (s := spRulesOf) (x := (h, ls.length)) (eva_cons (ev_var rfl) (eva_cons (ev_var rfl) eva_nil)) rfl (Nat.le_trans h8 (by decide)) fun d h => h))⟩))) ?_))
  case aat =>
    have := lolD_at (l := (List.range ls.length).map (headsM rs ls.length)) (i := k) (by rw [List.length_map, List.length_range]; exact hk)
    rw [this, List.getD_eq_getElem?_getD, List.getElem?_map, List.getElem?_range hk]; rfl
  have ns : ((headsM rs ls.length k).map (pc ls.length)).map (fun v : Nat => D.int v) = (((headsM rs ls.length k).map (pc ls.length)).map fun v : Nat => (v : Int)).map D.int := by rw [List.map_map, List.map_map, List.map_map]; rfl
  rw [ns]
  refine ds_ret (Ev.dl (ev_tup (eva_cons (ev_min1 (ev_var rfl).b (by rw [List.length_map]; exact hpos) fun m hm hy => min_nat sm hne' hm hy) (eva_cons (ev_max1 (ev_var rfl).b (by rw [List.length_map]; exact hpos) fun m hm hy => max_nat sm hne' hm hy) eva_nil)) (small (show 2 ≤ 100000 by decide))) rfl)

end K18

namespace K18
open PySem PySem.Spec PyProof.Rows L2 Dw
variable [Tabs0]
/-! lots in order, and the least ones -/
theorem bits_head {n : Nat} {o : List Nat} (h : o ∈ lots n) : ((List.range n).filter fun k => (headOf o).testBit k) = o := by
  have ok := lots_ok n o h
  have e : ((List.range n).filter fun k => (headOf o).testBit k) = (List.range n).filter fun k => decide (k ∈ o) := List.filter_congr fun k _ => head_bits h k
  rw [e]
  have pm : ((List.range n).filter fun k => decide (k ∈ o)).Perm o := nodup_ext (List.nodup_range.sublist List.filter_sublist) (ok.inc.imp fun h => Nat.ne_of_lt h) fun k => by
    rw [List.mem_filter, List.mem_range, decide_eq_true_eq]
    exact ⟨fun h => h.2, fun h => ⟨ok.lt k h, h⟩⟩
  exact pm.eq_of_pairwise (le := (· < ·)) (fun a b _ _ h1 h2 => absurd h1 (Nat.lt_asymm h2)) (List.pairwise_lt_range.filter _) ok.inc
theorem lots_bits (n : Nat) : ((List.range (2 ^ n)).map fun h => (List.range n).filter fun k => h.testBit k) = lots n := by
  rw [← head_range, List.map_map]
  exact (List.map_congr_left fun o ho => bits_head ho).trans (List.map_id _)
def lotsO (n : Nat) : List (List Nat) := (lots n).mergeSort lotLe
theorem lotsO_mem {n : Nat} {o : List Nat} : o ∈ lotsO n ↔ o ∈ lots n := (List.mergeSort_perm _ _).mem_iff
theorem lotsO_len (n : Nat) : (lotsO n).length = 2 ^ n := by unfold lotsO; rw [List.length_mergeSort, lots_len]
def partB (lot : List Nat) (others : List (List Nat)) : Bool := others.any fun o => o.all fun k => decide (k ∈ lot)
def leastIn (p : List Nat → Bool) (acc : List (List Nat)) (l : List Nat) : List (List Nat) := if (p l && !partB l acc) = true then acc ++ [l] else acc
def leastM (p : List Nat → Bool) (ls : List (List Nat)) : List (List Nat) := ls.foldl (leastIn p) []
def meetB (heads : List Nat) (lot : List Nat) : Bool := heads.all fun h => decide (headOf lot &&& h ≠ 0)
def reasM (rs : List (List Nat)) (n k : Nat) : List (List Nat) := leastM (meetB (headsM rs n k)) (lotsO n)
theorem least_snoc {p : List Nat → Bool} (ls : List (List Nat)) (l : List Nat) : leastM p (ls ++ [l]) = leastIn p (leastM p ls) l := by
  unfold leastM
  rw [List.foldl_append]; rfl
theorem least_acc {p : List Nat → Bool} {ls acc : List (List Nat)} : ∀ {o}, o ∈ acc → o ∈ ls.foldl (leastIn p) acc := by
  induction ls generalizing acc with
  | nil => exact fun h => h
  | cons l ls ih =>
    intro o h
    rw [List.foldl_cons]
    refine ih ?_
    unfold leastIn
    split
    · exact List.mem_append_left _ h
    · exact h
theorem least_mem {p : List Nat → Bool} {ls acc : List (List Nat)} : ∀ {o}, o ∈ ls.foldl (leastIn p) acc → o ∈ acc ∨ (o ∈ ls ∧ p o = true) := by
  induction ls generalizing acc with
  | nil => exact fun h => .inl h
  | cons l ls ih =>
    intro o h
    rw [List.foldl_cons] at h
    rcases ih h with h | ⟨h1, h2⟩
    · unfold leastIn at h
      split at h
      · rename_i hp
        rcases List.mem_append.mp h with h | h
        · exact .inl h
        · rw [List.mem_singleton.mp h]
          rw [Bool.and_eq_true] at hp
          exact .inr ⟨List.mem_cons_self, hp.1⟩
      · exact .inl h
    · exact .inr ⟨List.mem_cons_of_mem _ h1, h2⟩
theorem part_iff {lot : List Nat} {others : List (List Nat)} : partB lot others = true ↔ ∃ o ∈ others, ∀ k ∈ o, k ∈ lot := by
  unfold partB
  rw [List.any_eq_true]
  constructor
  · rintro ⟨o, ho, h⟩
    exact ⟨o, ho, fun k hk => of_decide_eq_true (List.all_eq_true.mp h k hk)⟩
  · rintro ⟨o, ho, h⟩
    exact ⟨o, ho, List.all_eq_true.mpr fun k hk => decide_eq_true (h k hk)⟩
/-- of all that are so, one of the least is a part -/
theorem least_part {p : List Nat → Bool} {ls acc : List (List Nat)} : ∀ {o}, o ∈ ls → p o = true → ∃ q ∈ ls.foldl (leastIn p) acc, ∀ k ∈ q, k ∈ o := by
  induction ls generalizing acc with
  | nil => exact fun h => absurd h (by simp)
  | cons l ls ih =>
    intro o h hp
    rw [List.foldl_cons]
    rcases List.mem_cons.mp h with rfl | h
    · cases e : partB o acc with
      | true =>
        obtain ⟨q, hq, hs⟩ := part_iff.mp e
        refine ⟨q, least_acc ?_, hs⟩
        unfold leastIn
        split
        · exact List.mem_append_left _ hq
        · exact hq
      | false =>
        refine ⟨o, least_acc ?_, fun k h => h⟩
        unfold leastIn
        rw [if_pos (by rw [hp, e]; rfl)]
        exact List.mem_append_right _ (List.mem_singleton.mpr rfl)
    · exact ih h hp
theorem least_len {p : List Nat → Bool} {ls acc : List (List Nat)} : (ls.foldl (leastIn p) acc).length ≤ acc.length + ls.length := by
  induction ls generalizing acc with
  | nil => exact Nat.le_refl _
  | cons l ls ih =>
    rw [List.foldl_cons, List.length_cons]
    refine Nat.le_trans ih ?_
    unfold leastIn
    split
    · rw [List.length_append]; simp; omega
    · omega
def spAllLots : Spc where
  ty := Nat
  args := fun n => [.tag (.int n)]
  ok := fun n => n ≤ 10
  rel := fun n d => d = .lst (ordT (lotsO n))
def spPart : Spc where
  ty := List Nat × List (List Nat)
  args := fun x => [.tup (ordD x.1), .lst (ordT x.2)]
  ok := fun x => x.2.length ≤ 100000 ∧ ∀ o ∈ x.2, o.length ≤ 100000
  rel := fun x d => d = .bl (partB x.1 x.2)
def spLeast : Spc where
  ty := List Nat × Nat
  args := fun x => [.tag (.lst (ordD x.1)), .int x.2]
  ok := fun x => x.1.length ≤ 1000 ∧ x.2 ≤ 8
  rel := fun x d => d = .lst (ordT (leastM (meetB x.1) (lotsO x.2)))
def spReasons (C : Addr) : Spc where
  ty := Bk × Nat
  args := fun x => [.tag (bookD C x.1.1 x.1.2), .int x.2]
  ok := fun x => BookOk x.1.1 x.1.2 ∧ x.2 < x.1.1.length ∧ Still x.1.2 x.1.1.length = []
  rel := fun x d => d = .tup (ordT (reasM x.1.2 x.1.1.length x.2))
theorem pow10 {n : Nat} (h : n ≤ 10) : 2 ^ n ≤ 1024 := Nat.le_trans (Nat.pow_le_pow_right (by decide) h) (by decide)
theorem np_ot (os : List (List Nat)) : noP (.lst (ordT os)) = true := noPs_map (f := fun o => D.tup (ordD o)) (fun o => np_ord o) os
end K18

namespace K18
open PySem PySem.Spec PyProof.Rows L2 Dw
variable [Tabs0]
theorem d_all_lots {P : Program} {w : World} {K : PySem.W.Frag} {mg : Str → Option Value} {base : Heap} (T : Txt K w mg) (TB_all_lots : LamX.TabB base mg T.lc_all_lots T.lt_all_lots) : FnOk P w K mg base CX0 2 T.f_all_lots T.e_all_lots ["many"] (toSp (spAllLots)) := by
  refine fnC_ok T.FC_all_lots sc_all_lots (fun _ => rfl) fun A outer s' H E hr => ?_
  refine ⟨_, (pss_cons (ps_setLc (i := 1) (own := [("head", 2)]) rfl sc_all_lots.nd rfl rfl (sw_true rfl rfl rfl (by decide +kernel)) (pi_range1 (by rfl) T.n_range (pa_cons (pe_op op_shl pe_int (pv 0)) pa_nil)) (blkOk_by (own := [("head", 2)]) (N := N_all_lots) (sc := (defScope s_all_lots)) (by decide +kernel)) (fun _ _ _ _ _ => pg_name (i := 2) sc_all_lots.nd rfl (Or.inl rfl)) (fun _ _ _ _ _ => pts_nil) (fun _ _ _ _ _ => (pe_call (d_rules_of T) (hr.mono (by decide)) (by rfl) T.m_rules_of T.F_rules_of.kp T.b_rules_of .nil pass0 (pa_cons (pv 2) (pa_cons (pv 0) pa_nil))))) (pss_one (ps_ret (pe_sortKL (T := T.tts) (c := T.lc_all_lots) (P := T.lt_all_lots) (pv 1) (by rfl) T.n_sorted T.n_len TB_all_lots rfl T.hm_all_lots (T.tabs.uniq T.hm_all_lots) (hr.mono (by decide)) rfl rfl (by decide +kernel) (fun _ _ _ _ _ _ => rfl) rfl rfl rfl (by decide +kernel) rfl rfl)))), fun x hx => ?_⟩
  obtain ⟨n, rfl⟩ : ∃ l : Nat, l = x := ⟨x, rfl⟩
  have h8 : n ≤ 10 := hx
  have p8 := pow10 h8
  refine ds_seq (ds_asg (Ev.dl (ev_cast (d' := .lst (ordT (lots n))) ?c (EvN.ev (evn_lc1 (xs := List.range (2 ^ n)) (c := fun k : Nat => D.int k) (f := fun h => D.tup (ordD ((List.range n).filter fun k => h.testBit k))) (ei_range (n := 2 ^ n) (eva_cons (ev_op ev_int (ev_untag (ev_var rfl)) (dr2_shl1 (by omega))) eva_nil) (by omega)) (by rw [List.length_range]; omega) fun h hh => ⟨[2], _, dg_name, fun i hi => hi, evt_yes, ev_call (s := spRulesOf) (x := (h, n)) (eva_cons (ev_var rfl) (eva_cons (ev_untag (ev_var rfl)) eva_nil)) rfl (by show n ≤ 20; omega) fun d h => h⟩))) ?_))
  case c =>
    rw [← lots_bits n]
    unfold ordT
    rw [List.map_map]; rfl
  exact ds_ret (dl_sortKL (i := 0) (l := lots n) T.tabs T.hm_all_lots rfl TgS.tag (Ev.b (ev_var rfl)) rfl)
end K18

namespace K18
open PySem PySem.Spec PyProof.Rows L2 Dw
variable [Tabs0]
theorem d_has_part {P : Program} {w : World} {K : PySem.W.Frag} {mg : Str → Option Value} {base : Heap} (T : Txt K w mg) : FnOk P w K mg base CX0 1 T.f_has_part T.e_has_part ["lot", "others"] (toSp (spPart)) := by
  refine fn_ok T.F_has_part sc_has_part (fun _ => rfl) fun cdv A outer s' H E hr => ?_
  refine ⟨_, (pss_one (ps_ret (pe_callB (anyA K) (by rfl) T.n_any (by decide +kernel) (pa_cons (pe_lc (own := [("other", 2)]) rfl sc_has_part.nd (piR K (pv 1)) (blkOk_by (own := [("other", 2)]) (N := N_has_part) (sc := (defScope s_has_part)) (by decide +kernel)) (fun _ _ _ _ _ => pg_name (i := 2) sc_has_part.nd rfl (Or.inl rfl)) (fun _ _ _ _ _ => pts_nil) (fun _ _ _ _ _ => (pe_callB (allA K) (by rfl) T.n_all (by decide +kernel) (pa_cons (pe_lc (own := [("index", 3)]) rfl sc_has_part.nd (piR K (pv 2)) (blkOk_by (own := [("index", 3)]) (N := N_has_part) (sc := (relS { kind := .function, names := [(".0", .local), ("other", .local), ("all", .globalImplicit), ("lot", .free)], isGenerator := false, isCoroutine := false, more := [] } (defScope s_has_part))) (by decide +kernel)) (fun _ _ _ _ _ => pg_name (i := 3) sc_has_part.nd rfl (Or.inl rfl)) (fun _ _ _ _ _ => pts_nil) (fun _ _ _ _ _ => (pe_cmpR (inA K) (pv 3) (pv 0) (by rfl)))) pa_nil)))) pa_nil)))), fun x hx => ?_⟩
  obtain ⟨l, os⟩ := x
  obtain ⟨hz, ho⟩ := hx
  have hz : os.length ≤ 100000 := hz
  refine ds_ret (Ev.dl (ev_any (bs := os.map fun o => o.all fun k => decide (k ∈ l)) (EvN.b ?e)) ?_)
  case e =>
    rw [List.map_map]
    refine evn_lc1 (xs := os) (c := fun o => .tup (ordD o)) (f := fun o => D.bl (o.all fun k => decide (k ∈ l))) (ej_list (ev_var (d := .lst (ordT os)) rfl).b) (by omega) fun o hm => ⟨[2], _, dg_name, fun i hi => hi, evt_yes, ev_cast (congrArg D.bl (by rw [List.all_map]; rfl)) (ev_all (bs := o.map fun k => decide (k ∈ l)) (EvN.b ?_))⟩
    have hl : o.length ≤ 100000 := ho o hm
    rw [List.map_map]
    exact evn_lc1 (xs := o) (c := fun k : Nat => D.int k) (f := fun k => D.bl (decide (k ∈ l))) (ej_tup (ev_var (d := .tup (ordD o)) rfl)) (by omega) fun k hk => ⟨[3], _, dg_name, fun i hi => hi, evt_yes, ev_inOT (neg := false) (l := l) (ev_var rfl) (ev_var rfl)⟩
  show D.bl _ = D.bl (partB l os)
  unfold partB
  rw [List.any_map]; rfl
end K18

namespace K18
open PySem PySem.Spec PyProof.Rows L2 Dw
variable [Tabs0]
theorem d_least_lots {P : Program} {w : World} {K : PySem.W.Frag} {mg : Str → Option Value} {base : Heap} (T : Txt K w mg) (TB_all_lots : LamX.TabB base mg T.lc_all_lots T.lt_all_lots) : FnOk P w K mg base CX0 3 T.f_least_lots T.e_least_lots ["heads", "many"] (toSp (spLeast)) := by
  refine fn_ok T.F_least_lots sc_least_lots (fun _ => rfl) fun cdv A outer s' H E hr => ?_
  refine ⟨_, (pss_cons (ps_set (i := 2) sc_least_lots.nd rfl (Or.inl rfl) (pe_lst pa_nil)) (pss_cons (ps_for PassesOwn.never rfl (piR K (pe_call (d_all_lots T TB_all_lots) (hr.mono (by decide)) (by rfl) T.m_all_lots T.F_all_lots.kp T.b_all_lots .nil pass0 (pa_cons (pv 1) pa_nil))) (pg_name (i := 3) sc_least_lots.nd rfl (Or.inl rfl)) (pss_one (ps_if (PW.pt (pw_and (truA K (pe_call (d_meets_all T) (hr.mono (by decide)) (by rfl) T.m_meets_all T.F_meets_all.kp T.b_meets_all .nil pass0 (pa_cons (pe_call (d_head_of T) (hr.mono (by decide)) (by rfl) T.m_head_of T.F_head_of.kp T.b_head_of .nil pass0 (pa_cons (pv 3) pa_nil)) (pa_cons (pv 0) pa_nil)))) (pw_and1 (pt_not (truA K (pe_call (d_has_part T) (hr.mono (by decide)) (by rfl) T.m_has_part T.F_has_part.kp T.b_has_part .nil pass0 (pa_cons (pv 3) (pa_cons (pv 2) pa_nil)))))))) (pss_one (ps_expr (bmA K PySem.F.plainAttrs_list PySem.F.slot_list_append PySem.F.type_list_append mt_append (pv 2) (pa_cons (pv 3) pa_nil)))) pss_nil))) (pss_one (ps_ret (pv 2))))), fun x hx => ?_⟩
  obtain ⟨hs, n⟩ := x
  obtain ⟨hz, h8⟩ := hx
  have hz : hs.length ≤ 1000 := hz
  have h8 : n ≤ 8 := h8
  have p8 := pow8 h8
  refine ds_seq (ds_asg_own (evn_lst eva_nil (Nat.zero_le _)) ?_)
  refine ds_seq (ds_for (fun xs i Γ' => xs = ordT (lotsO n) ∧ ∃ s3 : Sl, Γ' = [.val (.tag (.lst (ordD hs))), .val (.int n), .own (ordT (leastM (meetB hs) ((lotsO n).take i))), s3])
    (dj_list (dl_call (s := spAllLots) (dla_cons (Ev.dl (ev_tag (i := 0) rfl TgS.tag (ev_var rfl)) (dla_nil ⟨n, rfl, by show n ≤ 10; omega, fun d hd => ?_⟩))))))
  have hd : d = .lst (ordT (lotsO n)) := hd
  subst hd
  refine ⟨ordT (lotsO n), rfl, ⟨rfl, _, rfl⟩, fun i x Γ' hx' ⟨exs, s3, e⟩ => ?_, fun Γ' ⟨exs, s3, e⟩ => ?_⟩
  · subst e
    have hx3 : ((lotsO n).map fun o => D.tup (ordD o))[i]? = some x := hx'
    rw [List.getElem?_map] at hx3
    cases q : (lotsO n)[i]? with
    | none => rw [q] at hx3; cases hx3
    | some o =>
      rw [q] at hx3; cases hx3
      have hm : o ∈ lots n := lotsO_mem.mp (List.mem_of_getElem? q)
      have ok := lots_ok n o hm
      have ol := lot_len ok
      have tk : (lotsO n).take (i + 1) = (lotsO n).take i ++ [o] := by rw [List.take_add_one, q]; rfl
      have al : (leastM (meetB hs) ((lotsO n).take i)).length ≤ 256 := by
        have := least_len (p := meetB hs) (ls := (lotsO n).take i) (acc := [])
        rw [List.length_take, lotsO_len] at this
        show ((lotsO n).take i |>.foldl (leastIn (meetB hs)) []).length ≤ 256
        simp at this; omega
      have am : ∀ p ∈ leastM (meetB hs) ((lotsO n).take i), p.length ≤ 100000 := fun p hp => by
        rcases least_mem hp with hp | ⟨hp, _⟩
        · simp at hp
        · have := lot_len (lots_ok n p (lotsO_mem.mp (List.mem_of_mem_take hp)))
          omega
      have ms : meetB hs o = hs.all fun h => decide (headOf o &&& h ≠ 0) := rfl
      refine ⟨[3], _, dg_name, ds_if (EvT.dl (b := meetB hs o && !partB o (leastM (meetB hs) ((lotsO n).take i))) (evt_and (evt_tru_bl (ev_call (s := spMeets) (d := .bl (meetB hs o)) (x := (headOf o, hs)) (eva_cons (ev_call (s := spHeadOf) (d := .int (headOf o : Nat)) (x := (o, false)) (eva_cons (ev_var rfl) eva_nil) (np_to (r := []) rfl) ⟨by show o.length ≤ 1000; omega, fun k hk => by have := ok.lt k hk; omega⟩ fun d h => h) (eva_cons (ev_untag (ev_var rfl)) eva_nil)) (np_lo (r := []) rfl) hz fun d h => h)) fun _ => evt_not (evt_lend 2 rfl (evt_tru_bl (ev_call (s := spPart) (d := .bl (partB o (leastM (meetB hs) ((lotsO n).take i)))) (x := (o, leastM (meetB hs) ((lotsO n).take i))) (eva_cons (ev_var rfl) (eva_cons (ev_var rfl) eva_nil)) ?np ⟨by show (leastM (meetB hs) ((lotsO n).take i)).length ≤ 100000; omega, am⟩ fun d h => h)))) ⟨fun h => ?_, fun h => ds_next ?_⟩)⟩
      case np =>
        show (noPs (ordD o) && (noP (.lst (ordT _)) && true)) = true
        rw [np_ord, np_ot]; rfl
      · refine ds_drop (dl_append ⟨_, rfl⟩ (dla_cons (Ev.dl (ev_var rfl) (dla_nil ⟨_, ordT (leastM (meetB hs) ((lotsO n).take i)), rfl, rfl, ?_, rfl, .val (.tup (ordD o)), ?_⟩))))
        · rw [ordT_len]
          exact Nat.lt_of_le_of_lt (by omega : _ ≤ 256) (by decide)
        · rw [tk, least_snoc]
          unfold leastIn
          rw [if_pos h]
          unfold ordT
          rw [List.map_append]; rfl
      · refine ⟨rfl, .val (.tup (ordD o)), ?_⟩
        rw [tk, least_snoc]
        unfold leastIn
        rw [if_neg (by rw [h]; decide)]; rfl
  · subst e
    rw [ordT_len, List.take_length]
    exact ds_ret_own rfl rfl
end K18

namespace K18
open PySem PySem.Spec PyProof.Rows L2 Dw
variable [Tabs0]
theorem d_reasons {P : Program} {w : World} {K : PySem.W.Frag} {mg : Str → Option Value} {base : Heap} (T : Txt K w mg) (TB_all_lots : LamX.TabB base mg T.lc_all_lots T.lt_all_lots) : FnOk P w K mg base CX0 5 T.f_reasons T.e_reasons ["book", "rule"] (toSp (spReasons T.C_Book)) := by
  refine fn_ok T.F_reasons sc_reasons (fun _ => rfl) fun cdv A outer s' H E hr => ?_
  refine ⟨_, (pss_cons (ps_expr (pe_call (d_check_book T) (hr.mono (by decide)) (by rfl) T.m_check_book T.F_check_book.kp T.b_check_book .nil pass0 (pa_cons (pv 0) pa_nil))) (pss_cons (ps_set (i := 2) sc_reasons.nd rfl (Or.inl rfl) (pe_callB (lenA K) (by rfl) T.n_len (by decide +kernel) (pa_cons (pe_prop (pv 0) T.cl_Book T.p_Book_names (d_Book_names T) (hr.mono (by decide)) T.b_Book_names .nil pass0 rfl) pa_nil))) (pss_cons (ps_expr (pe_call (d_check_rule T) (hr.mono (by decide)) (by rfl) T.m_check_rule T.F_check_rule.kp T.b_check_rule .nil pass0 (pa_cons (pv 1) (pa_cons (pv 2) pa_nil)))) (pss_cons (ps_expr (pe_call (d_check_some_fits T) (hr.mono (by decide)) (by rfl) T.m_check_some_fits T.F_check_some_fits.kp T.b_check_some_fits .nil pass0 (pa_cons (pv 0) pa_nil))) (pss_one (ps_ret (pe_callTy (tupleA K) (by rfl) T.n_tuple (by decide +kernel) (pa_cons (pe_call (d_least_lots T TB_all_lots) (hr.mono (by decide)) (by rfl) T.m_least_lots T.F_least_lots.kp T.b_least_lots .nil pass0 (pa_cons (pe_ix (ixA K) (pe_call (d_heads_above T) (hr.mono (by decide)) (by rfl) T.m_heads_above T.F_heads_above.kp T.b_heads_above .nil pass0 (pa_cons (pe_prop (pv 0) T.cl_Book T.p_Book_rows (d_Book_rows T) (hr.mono (by decide)) T.b_Book_rows .nil pass0 rfl) (pa_cons (pv 2) pa_nil))) (pv 1) (fun _ _ => rfl)) (pa_cons (pv 2) pa_nil))) pa_nil)))))))), fun x hx => ?_⟩
  obtain ⟨⟨ls, rs⟩, k⟩ := x
  obtain ⟨hb, hk, hs⟩ := hx
  have hb : BookOk ls rs := hb
  have hk : k < ls.length := hk
  have hs : Still rs ls.length = [] := hs
  have h8 := hb.n8
  have p8 := pow8 h8
  have hl : (headsM rs ls.length k).length ≤ 256 := Nat.le_trans (List.length_filter_le _ _) (by rw [List.length_range]; exact p8)
  refine ds_seq (ds_drop (Ev.dl (ev_call (s := spCheck T.C_Book) (x := (ls, rs)) (eva_cons (ev_untag (ev_var rfl)) eva_nil) (np_book _ ls rs) trivial fun d h => h) ?_))
  refine ds_seq (ds_asg (Ev.dl (ev_names (C := T.C_Book) (rs := rs) (ev_prop (s := spBNames T.C_Book) (x := (ls, rs)) (ev_untag (ev_var rfl)) rfl (np_book _ ls rs) trivial fun d h => h)) ?_))
  refine ds_seq (ds_drop (Ev.dl (ev_call (s := spCkRule) (x := (k, ls.length)) (eva_cons (ev_var rfl) (eva_cons (ev_var rfl) eva_nil)) rfl hk fun d h => h) ?_))
  refine ds_seq (ds_drop (Ev.dl (ev_call (s := spCkFits T.C_Book) (x := (ls, rs)) (eva_cons (ev_untag (ev_var rfl)) eva_nil) (np_book _ ls rs) ⟨hb, hs⟩ fun d h => h) ?_))
  refine ds_ret (dl_tuple (dl_call (s := spLeast) (dla_cons (Ev.dl (ev_tag (i := 0) rfl TgS.tag (ev_ix (ds := lolD ((List.range ls.length).map (headsM rs ls.length))) (d := .lst (ordD (headsM rs ls.length k))) (Ev.b (ev_call (s := spHeads) (d := .lst (lolD ((List.range ls.length).map (headsM rs ls.length)))) (x := (rs, ls.length)) (eva_cons (ev_prop (s := spBRows T.C_Book) (x := (ls, rs)) (ev_untag (ev_var rfl)) rfl (np_book _ ls rs) trivial fun d h => h) (eva_cons (ev_var rfl) eva_nil)) (np_tn (r := [_]) rfl) ⟨hb.rows, h8, Nat.le_trans hb.few (by decide)⟩ fun d h => h)) (ev_var (d := .int (k : Nat)) rfl) ?aat)) (dla_cons (Ev.dl (ev_var rfl) (dla_nil ⟨(headsM rs ls.length k, ls.length), rfl, ⟨by show (headsM rs ls.length k).length ≤ 1000; omega, h8⟩, fun d hd => ?_⟩)))))))
  case aat =>
    have := lolD_at (l := (List.range ls.length).map (headsM rs ls.length)) (i := k) (by rw [List.length_map, List.length_range]; exact hk)
    rw [this, List.getD_eq_getElem?_getD, List.getElem?_map, List.getElem?_range hk]; rfl
  have hd : d = .lst (ordT (reasM rs ls.length k)) := hd
  subst hd
  exact ⟨_, rfl, rfl⟩

end K18

namespace K18
open PySem PySem.Spec PyProof.Rows L2 Dw
variable [Tabs0]
/-! what the reasons say of the rankings that fit -/
theorem and_bit {a b : Nat} : a &&& b ≠ 0 ↔ ∃ j, a.testBit j = true ∧ b.testBit j = true := by
  constructor
  · intro h
    refine Classical.byContradiction fun z => h (Nat.eq_of_testBit_eq fun j => ?_)
    rw [Nat.testBit_and, Nat.zero_testBit]
    cases e1 : a.testBit j with
    | false => rfl
    | true =>
      cases e2 : b.testBit j with
      | false => rfl
      | true => exact absurd ⟨j, e1, e2⟩ z
  · rintro ⟨j, h1, h2⟩ z
    have := congrArg (fun x => Nat.testBit x j) z
    simp only [Nat.testBit_and, Nat.zero_testBit, h1, h2] at this
    cases this
theorem meet_iff {rs : List (List Nat)} {n k : Nat} {S : List Nat} (hr : ∀ r ∈ rs, RowOk r n) (hk : k < n) (hS : S ∈ lots n) : meetB (headsM rs n k) S = true ↔ ∀ p q, p ++ k :: q ∈ fitM rs n → ∃ j ∈ S, j ∈ p := by
  unfold meetB
  rw [List.all_eq_true]
  constructor
  · intro h p q hf
    obtain ⟨g, hg, hb⟩ := heads_of hr hk hf
    obtain ⟨j, h1, h2⟩ := and_bit.mp (of_decide_eq_true (h g hg))
    rw [head_bits hS j] at h1
    rw [hb j] at h2
    exact ⟨j, of_decide_eq_true h1, of_decide_eq_true h2⟩
  · intro h g hg
    obtain ⟨_, p, q, hf, hb⟩ := heads_to hr hk hg
    obtain ⟨j, h1, h2⟩ := h p q hf
    exact decide_eq_true (and_bit.mpr ⟨j, by rw [head_bits hS j]; exact decide_eq_true h1, by rw [hb j]; exact decide_eq_true h2⟩)
theorem reas_mem {rs : List (List Nat)} {n k : Nat} {S : List Nat} (h : S ∈ reasM rs n k) : S ∈ lots n ∧ meetB (headsM rs n k) S = true := by
  rcases least_mem h with h | ⟨h1, h2⟩
  · simp at h
  · exact ⟨lotsO_mem.mp h1, h2⟩
theorem lotsO_inc (n : Nat) : (lotsO n).Pairwise fun a b => lotLe a b = true := List.pairwise_mergeSort lotLe_trans lotLe_total _
theorem lots_nodup (n : Nat) : (lots n).Nodup := by
  have h : ((lots n).map headOf).Nodup := by rw [head_range]; exact List.nodup_range
  exact (List.nodup_iff_pairwise_ne.mpr (((List.pairwise_map.mp (List.nodup_iff_pairwise_ne.mp h))).imp fun {a b} h e => h (by rw [e])))
theorem lotsO_nodup (n : Nat) : (lotsO n).Nodup := (List.mergeSort_perm _ _).nodup_iff.mpr (lots_nodup n)
theorem lots_fil (f : Nat → Bool) : ∀ n, (List.range n).filter f ∈ lots n
  | 0 => by show [] ∈ [[]]; simp
  | n + 1 => by
    rw [List.range_succ, List.filter_append]
    show _ ∈ lots n ++ (lots n).map (· ++ [n])
    have ih := lots_fil f n
    cases e : f n with
    | true => rw [List.filter_cons_of_pos e]; exact List.mem_append_right _ (List.mem_map.mpr ⟨_, ih, rfl⟩)
    | false => rw [List.filter_cons_of_neg (by rw [e]; decide), List.filter_nil, List.append_nil]; exact List.mem_append_left _ ih
end K18

namespace K18
open PySem PySem.Spec PyProof.Rows L2 Dw
variable [Tabs0]
def butM (rs : List (List Nat)) (S : List Nat) : List Nat := (List.range rs.length).filter fun i => !decide (i ∈ S)
def restM (rs : List (List Nat)) (S : List Nat) : List (List Nat) := (butM rs S).map (rowAt rs)
def fitB (rs : List (List Nat)) (n : Nat) (S : List Nat) : Bool := decide (Still (restM rs S) n = [])
def struckM (rs : List (List Nat)) (n : Nat) : List (List Nat) := leastM (fitB rs n) (lotsO rs.length)
theorem rest_ok {rs : List (List Nat)} {n : Nat} (hr : ∀ r ∈ rs, RowOk r n) (S : List Nat) : ∀ r ∈ restM rs S, RowOk r n := fun r h => by
  obtain ⟨i, hi, rfl⟩ := List.mem_map.mp h
  exact rowAt_ok hr (List.mem_range.mp (List.mem_filter.mp hi).1)
def spFW (C : Addr) : Spc where
  ty := List (List Nat) × List (List Nat) × List Nat
  args := fun x => [bookD C x.1 x.2.1, .tup (ordD x.2.2)]
  ok := fun x => BookOk x.1 x.2.1
  rel := fun x d => d = .bl (fitB x.2.1 x.1.length x.2.2)
def spStruck (C : Addr) : Spc where
  ty := Bk
  args := fun x => [.tag (bookD C x.1 x.2)]
  ok := fun x => BookOk x.1 x.2 ∧ x.2.length ≤ 10
  rel := fun x d => d = .tup (ordT (struckM x.2 x.1.length))
theorem evt_castB {t : TT} {Γ : Gam} {a b : Bool} (e : b = a) (h : EvT t Γ b) : EvT t Γ a := e ▸ h
end K18

namespace K18
open PySem PySem.Spec PyProof.Rows L2 Dw
variable [Tabs0]
theorem d_fits_without {P : Program} {w : World} {K : PySem.W.Frag} {mg : Str → Option Value} {base : Heap} (T : Txt K w mg) : FnOk P w K mg base CX0 4 T.f_fits_without T.e_fits_without ["book", "lot"] (toSp (spFW T.C_Book)) := by
  refine fn_ok T.F_fits_without sc_fits_without (fun _ => rfl) fun cdv A outer s' H E hr => ?_
  refine ⟨_, (pss_cons (ps_setLc (i := 2) (own := [("index", 3), ("row", 4)]) rfl sc_fits_without.nd rfl rfl (sw_true rfl rfl rfl (by decide +kernel)) (enumTA K (by rfl) T.n_enumerate (pa_cons (pe_prop (pv 0) T.cl_Book T.p_Book_rows (d_Book_rows T) (hr.mono (by decide)) T.b_Book_rows .nil pass0 rfl) pa_nil)) (blkOk_by (own := [("index", 3), ("row", 4)]) (N := N_fits_without) (sc := (defScope s_fits_without)) (by decide +kernel)) (fun _ _ _ _ _ => tupA K 2 rfl (pgs_cons (pg_name (i := 3) sc_fits_without.nd rfl (Or.inl rfl)) (pgs_cons (pg_name (i := 4) sc_fits_without.nd rfl (Or.inl rfl)) pgs_nil))) (fun _ _ _ _ _ => pts_one (pt_cmpR (ninA K) (pv 3) (pv 1) (by rfl))) (fun _ _ _ _ _ => (pv 4))) (pss_one (ps_ret (pe_call (d_some_fits T) (hr.mono (by decide)) (by rfl) T.m_some_fits T.F_some_fits.kp T.b_some_fits .nil pass0 (pa_cons (pv 2) (pa_cons (pe_callB (lenA K) (by rfl) T.n_len (by decide +kernel) (pa_cons (pe_prop (pv 0) T.cl_Book T.p_Book_names (d_Book_names T) (hr.mono (by decide)) T.b_Book_names .nil pass0 rfl) pa_nil)) pa_nil)))))), fun x hx => ?_⟩
  obtain ⟨ls, rs, S⟩ := x
  have hb : BookOk ls rs := hx
  have h20 := hb.few
  refine ds_seq (ds_asg (Ev.dl (ev_cast (d' := .lst (nameD (restM rs S))) ?c (EvN.ev (evn_lc (xs := List.range rs.length) (c := fun i : Nat => D.tup [.int i, .str (tx (rowAt rs i))]) (p := fun i => !decide (i ∈ S)) (f := fun i : Nat => .str (tx (rowAt rs i))) (by rw [← enum_rows]; exact ei_enumT (ev_prop (s := spBRows T.C_Book) (x := (ls, rs)) (ev_var rfl) rfl (np_book _ ls rs) trivial fun d h => h)) (by rw [List.length_range]; omega) fun i hi => ⟨[3] ++ [4], _, dg_tup2 dg_name dg_name, fun i hi => hi, evt_test (ev_inOT (neg := true) (ev_var rfl) (ev_var rfl)), fun _ => ev_var rfl⟩))) ?_))
  case c =>
    unfold restM butM nameD
    rw [List.map_map]; rfl
  have lr : (restM rs S).length ≤ rs.length := by
    unfold restM butM
    rw [List.length_map]
    exact Nat.le_trans (List.length_filter_le _ _) (by rw [List.length_range]; exact Nat.le_refl _)
  exact ds_ret (Ev.dl (ev_call (s := spSome) (d := .bl (fitB rs ls.length S)) (x := (restM rs S, ls.length, true)) (eva_cons (ev_var rfl) (eva_cons (ev_names (C := T.C_Book) (rs := rs) (ev_prop (s := spBNames T.C_Book) (x := (ls, rs)) (ev_var rfl) rfl (np_book _ ls rs) trivial fun d h => h)) eva_nil)) (np_rd (b := true) (r := [_]) rfl) ⟨rest_ok hb.rows S, hb.n8, by show (restM rs S).length ≤ 1000; omega⟩ fun d h => h) rfl)
end K18

namespace K18
open PySem PySem.Spec PyProof.Rows L2 Dw
variable [Tabs0]
theorem d_struck {P : Program} {w : World} {K : PySem.W.Frag} {mg : Str → Option Value} {base : Heap} (T : Txt K w mg) (TB_all_lots : LamX.TabB base mg T.lc_all_lots T.lt_all_lots) : FnOk P w K mg base CX0 5 T.f_struck T.e_struck ["book"] (toSp (spStruck T.C_Book)) := by
  refine fn_ok T.F_struck sc_struck (fun _ => rfl) fun cdv A outer s' H E hr => ?_
  refine ⟨_, (pss_cons (ps_expr (pe_call (d_check_book T) (hr.mono (by decide)) (by rfl) T.m_check_book T.F_check_book.kp T.b_check_book .nil pass0 (pa_cons (pv 0) pa_nil))) (pss_cons (ps_set (i := 1) sc_struck.nd rfl (Or.inl rfl) (pe_callB (lenA K) (by rfl) T.n_len (by decide +kernel) (pa_cons (pe_prop (pv 0) T.cl_Book T.p_Book_rows (d_Book_rows T) (hr.mono (by decide)) T.b_Book_rows .nil pass0 rfl) pa_nil))) (pss_cons (ps_if (pt_cmpR opGt (pv 1) (pe_glob (v := .int 10) (by rfl) T.c_MOST_STRUCK ⟨_, rfl⟩) (nomark _)) (pss_one ps_never) pss_nil) (pss_cons (ps_set (i := 2) sc_struck.nd rfl (Or.inl rfl) (pe_lst pa_nil)) (pss_cons (ps_for PassesOwn.never rfl (piR K (pe_call (d_all_lots T TB_all_lots) (hr.mono (by decide)) (by rfl) T.m_all_lots T.F_all_lots.kp T.b_all_lots .nil pass0 (pa_cons (pv 1) pa_nil))) (pg_name (i := 3) sc_struck.nd rfl (Or.inl rfl)) (pss_one (ps_if (PW.pt (pw_and (pt_not (truA K (pe_call (d_has_part T) (hr.mono (by decide)) (by rfl) T.m_has_part T.F_has_part.kp T.b_has_part .nil pass0 (pa_cons (pv 3) (pa_cons (pv 2) pa_nil))))) (pw_and1 (truA K (pe_call (d_fits_without T) (hr.mono (by decide)) (by rfl) T.m_fits_without T.F_fits_without.kp T.b_fits_without .nil pass0 (pa_cons (pv 0) (pa_cons (pv 3) pa_nil))))))) (pss_one (ps_expr (bmA K PySem.F.plainAttrs_list PySem.F.slot_list_append PySem.F.type_list_append mt_append (pv 2) (pa_cons (pv 3) pa_nil)))) pss_nil))) (pss_one (ps_ret (pe_callTy (tupleA K) (by rfl) T.n_tuple (by decide +kernel) (pa_cons (pv 2) pa_nil))))))))), fun x hx => ?_⟩
  obtain ⟨ls, rs⟩ := x
  obtain ⟨hb, h10⟩ := hx
  have hb : BookOk ls rs := hb
  have h10 : rs.length ≤ 10 := h10
  obtain ⟨m, em⟩ : ∃ m, m = rs.length := ⟨_, rfl⟩
  obtain ⟨p, ep⟩ : ∃ p, p = fitB rs ls.length := ⟨_, rfl⟩
  have pw := pow10 (show m ≤ 10 by omega)
  refine ds_seq (ds_drop (Ev.dl (ev_call (s := spCheck T.C_Book) (x := (ls, rs)) (eva_cons (ev_untag (ev_var rfl)) eva_nil) (np_book _ ls rs) trivial fun d h => h) ?_))
  refine ds_seq (ds_asg (Ev.dl (ev_cast (d' := .int (m : Nat)) (by rw [em, nameD_len]) (ev_lenT (ds := nameD rs) (ev_prop (s := spBRows T.C_Book) (x := (ls, rs)) (ev_untag (ev_var rfl)) rfl (np_book _ ls rs) trivial fun d h => h))) ?_))
  refine ds_seq (ds_if (EvT.dl (b := false) (evt_test (ev_op (ev_var (d := .int (m : Nat)) rfl) ev_int (gt_b (decide_eq_false (by omega))))) ⟨fun h => (nomatch h), fun _ => ds_next ?_⟩))
  refine ds_seq (ds_asg_own (evn_lst eva_nil (Nat.zero_le _)) ?_)
  refine ds_seq (ds_for (fun xs i Γ' => xs = ordT (lotsO m) ∧ ∃ s3 : Sl, Γ' = [.val (.tag (bookD T.C_Book ls rs)), .val (.int (m : Nat)), .own (ordT (leastM p ((lotsO m).take i))), s3])
    (dj_list (dl_call (s := spAllLots) (dla_cons (Ev.dl (ev_tag (i := 0) rfl TgS.tag (ev_var rfl)) (dla_nil ⟨m, rfl, by show m ≤ 10; omega, fun d hd => ?_⟩))))))
  have hd : d = .lst (ordT (lotsO m)) := hd
  subst hd
  refine ⟨ordT (lotsO m), rfl, ⟨rfl, _, rfl⟩, fun i x Γ' hx' ⟨exs, s3, e⟩ => ?_, fun Γ' ⟨exs, s3, e⟩ => ?_⟩
  · subst e
    have hx3 : ((lotsO m).map fun o => D.tup (ordD o))[i]? = some x := hx'
    rw [List.getElem?_map] at hx3
    cases q : (lotsO m)[i]? with
    | none => rw [q] at hx3; cases hx3
    | some o =>
      rw [q] at hx3; cases hx3
      have hm : o ∈ lots m := lotsO_mem.mp (List.mem_of_getElem? q)
      have ok := lots_ok m o hm
      have ol := lot_len ok
      have tk : (lotsO m).take (i + 1) = (lotsO m).take i ++ [o] := by rw [List.take_add_one, q]; rfl
      have al : (leastM p ((lotsO m).take i)).length ≤ 1024 := by
        have := least_len (p := p) (ls := (lotsO m).take i) (acc := [])
        rw [List.length_take, lotsO_len] at this
        show ((lotsO m).take i |>.foldl (leastIn p) []).length ≤ 1024
        simp at this; omega
      have am : ∀ q ∈ leastM p ((lotsO m).take i), q.length ≤ 100000 := fun q hq => by
        rcases least_mem hq with hq | ⟨hq, _⟩
        · simp at hq
        · have := lot_len (lots_ok m q (lotsO_mem.mp (List.mem_of_mem_take hq)))
          omega
      refine ⟨[3], _, dg_name, ds_if (EvT.dl (b := p o && !partB o (leastM p ((lotsO m).take i))) (evt_castB (b := !partB o (leastM p ((lotsO m).take i)) && p o) (Bool.and_comm _ _) (evt_and (evt_not (evt_lend 2 rfl (evt_tru_bl (ev_call (s := spPart) (d := .bl (partB o (leastM p ((lotsO m).take i)))) (x := (o, leastM p ((lotsO m).take i))) (eva_cons (ev_var rfl) (eva_cons (ev_var rfl) eva_nil)) ?np ⟨by show (leastM p ((lotsO m).take i)).length ≤ 100000; omega, am⟩ fun d h => h)))) fun _ => evt_tru_bl (ev_call (s := spFW T.C_Book) (d := .bl (p o)) (x := (ls, rs, o)) (eva_cons (ev_untag (ev_var rfl)) (eva_cons (ev_var rfl) eva_nil)) (np_bk (np_to (r := []) rfl)) hb fun d h => by rw [ep]; exact h))) ⟨fun h => ?_, fun h => ds_next ?_⟩)⟩
      case np =>
        show (noPs (ordD o) && (noP (.lst (ordT _)) && true)) = true
        rw [np_ord, np_ot]; rfl
      · refine ds_drop (dl_append ⟨_, rfl⟩ (dla_cons (Ev.dl (ev_var rfl) (dla_nil ⟨_, ordT (leastM p ((lotsO m).take i)), rfl, rfl, ?_, rfl, .val (.tup (ordD o)), ?_⟩))))
        · rw [ordT_len]
          exact Nat.lt_of_le_of_lt (m := 1024) (by omega) (by decide)
        · rw [tk, least_snoc]
          unfold leastIn
          rw [if_pos h]
          unfold ordT
          rw [List.map_append]; rfl
      · refine ⟨rfl, .val (.tup (ordD o)), ?_⟩
        rw [tk, least_snoc]
        unfold leastIn
        rw [if_neg (by rw [h]; decide)]; rfl
  · subst e
    rw [ordT_len, List.take_length]
    refine ds_ret (Ev.dl (ev_tuple (evb_own (ds := ordT (leastM p (lotsO m))) rfl)) ?_)
    show D.tup _ = D.tup (ordT (struckM rs ls.length))
    unfold struckM
    rw [← ep, ← em]

end K18

namespace K18
open PySem PySem.Spec PyProof.Rows L2 Dw
variable [Tabs0]
/-! the least cost of a way, head by head -/
def lwIn (c : Nat → Nat → Nat) (head : Nat) (a : List (Option Nat)) (k : Nat) : List (Option Nat) :=
  match a.getD head none with
  | none => a
  | some w => match a.getD (head ||| 2 ^ k) none with
    | none => a.set (head ||| 2 ^ k) (some (w + c head k))
    | some u => if w + c head k < u then a.set (head ||| 2 ^ k) (some (w + c head k)) else a
def lwStep (c : Nat → Nat → Nat) (B : List (List Nat)) (a : List (Option Nat)) (head : Nat) : List (Option Nat) := (B.getD head []).foldl (lwIn c head) a
def lwTo (c : Nat → Nat → Nat) (B : List (List Nat)) (i : Nat) : List (Option Nat) := (List.range i).foldl (lwStep c B) (some 0 :: List.replicate (B.length - 1) none)
def lwM (c : Nat → Nat → Nat) (B : List (List Nat)) : List (Option Nat) := lwTo c B B.length
inductive CPre (B : List (List Nat)) (c : Nat → Nat → Nat) : Nat → Nat → Prop
  | nil : CPre B c 0 0
  | step {h w k : Nat} : CPre B c h w → k ∈ B.getD h [] → CPre B c (h ||| 2 ^ k) (w + c h k)
theorem getD_set {α : Type} {a : List α} {i j : Nat} {x d : α} (h : i < a.length) : (a.set i x).getD j d = if i = j then x else a.getD j d := by
  rw [List.getD_eq_getElem?_getD, List.getD_eq_getElem?_getD, List.getElem?_set]
  by_cases e : i = j
  · rw [if_pos e, if_pos e, if_pos h]; rfl
  · rw [if_neg e, if_neg e]
/-- what one step keeps -/
structure LwK (a b : List (Option Nat)) : Prop where
  len : b.length = a.length
  low : ∀ h u, a.getD h none = some u → ∃ v, v ≤ u ∧ b.getD h none = some v
theorem LwK.refl (a : List (Option Nat)) : LwK a a := ⟨rfl, fun h u e => ⟨u, Nat.le_refl _, e⟩⟩
theorem LwK.trans {a b c : List (Option Nat)} (h : LwK a b) (k : LwK b c) : LwK a c := ⟨k.len.trans h.len, fun i u e => by
  obtain ⟨v, hv, e1⟩ := h.low i u e
  obtain ⟨w, hw, e2⟩ := k.low i v e1
  exact ⟨w, Nat.le_trans hw hv, e2⟩⟩
def Sound (B : List (List Nat)) (c : Nat → Nat → Nat) (a : List (Option Nat)) : Prop := ∀ h w, a.getD h none = some w → CPre B c h w
theorem lwIn_ok {B : List (List Nat)} {c : Nat → Nat → Nat} {head k : Nat} {a : List (Option Nat)} (s : Sound B c a) (hk : k ∈ B.getD head []) (lt : head < head ||| 2 ^ k) (ll : head ||| 2 ^ k < a.length) :
    LwK a (lwIn c head a k) ∧ Sound B c (lwIn c head a k) ∧ (lwIn c head a k).getD head none = a.getD head none ∧ ∀ w, a.getD head none = some w → ∃ u, u ≤ w + c head k ∧ (lwIn c head a k).getD (head ||| 2 ^ k) none = some u := by
  unfold lwIn
  cases e : a.getD head none with
  | none => exact ⟨.refl a, s, e, fun w h => nomatch h⟩
  | some w =>
    have cp := CPre.step (s head w e) hk
    have ne : head ||| 2 ^ k ≠ head := by omega
    have key : (∀ u, a.getD (head ||| 2 ^ k) none = some u → w + c head k ≤ u) → LwK a (a.set (head ||| 2 ^ k) (some (w + c head k))) ∧ Sound B c (a.set (head ||| 2 ^ k) (some (w + c head k))) ∧ (a.set (head ||| 2 ^ k) (some (w + c head k))).getD head none = some w ∧ ∀ w', some w = some w' → ∃ u, u ≤ w' + c head k ∧ (a.set (head ||| 2 ^ k) (some (w + c head k))).getD (head ||| 2 ^ k) none = some u := fun hu => by
      refine ⟨⟨List.length_set .., fun h u eu => ?_⟩, fun h u eu => ?_, ?_, fun w' ew => ?_⟩
      · rw [getD_set ll]
        by_cases z : head ||| 2 ^ k = h
        · rw [if_pos z]
          exact ⟨_, hu u (by rw [z]; exact eu), rfl⟩
        · rw [if_neg z]; exact ⟨u, Nat.le_refl _, eu⟩
      · rw [getD_set ll] at eu
        by_cases z : head ||| 2 ^ k = h
        · rw [if_pos z] at eu
          cases eu
          rw [← z]; exact cp
        · rw [if_neg z] at eu; exact s h u eu
      · rw [getD_set ll, if_neg ne]; exact e
      · cases ew
        rw [getD_set ll, if_pos rfl]; exact ⟨_, Nat.le_refl _, rfl⟩
    cases e2 : a.getD (head ||| 2 ^ k) none with
    | none => exact key fun u eu => by rw [e2] at eu; cases eu
    | some u =>
      by_cases lt2 : w + c head k < u
      · simp only [lt2, if_true]
        exact key fun u' eu => by rw [e2] at eu; cases eu; omega
      · simp only [lt2, if_false]
        exact ⟨.refl a, s, e, fun w' ew => by cases ew; exact ⟨u, by omega, e2⟩⟩
theorem lwF_ok {B : List (List Nat)} {c : Nat → Nat → Nat} {head : Nat} : ∀ (ks : List Nat) (a : List (Option Nat)), Sound B c a → (∀ k ∈ ks, k ∈ B.getD head [] ∧ head < head ||| 2 ^ k ∧ head ||| 2 ^ k < a.length) →
    LwK a (ks.foldl (lwIn c head) a) ∧ Sound B c (ks.foldl (lwIn c head) a) ∧ (ks.foldl (lwIn c head) a).getD head none = a.getD head none ∧ ∀ w, a.getD head none = some w → ∀ k ∈ ks, ∃ u, u ≤ w + c head k ∧ (ks.foldl (lwIn c head) a).getD (head ||| 2 ^ k) none = some u
  | [], a, s, _ => ⟨.refl a, s, rfl, fun w _ k hk => by cases hk⟩
  | k :: ks, a, s, hk => by
    obtain ⟨b1, b2, b3⟩ := hk k List.mem_cons_self
    obtain ⟨h1, h2, h3, h4⟩ := lwIn_ok s b1 b2 b3
    obtain ⟨g1, g2, g3, g4⟩ := lwF_ok ks (lwIn c head a k) h2 fun j hj => by
      obtain ⟨c1, c2, c3⟩ := hk j (List.mem_cons_of_mem _ hj)
      exact ⟨c1, c2, by rw [h1.len]; exact c3⟩
    rw [List.foldl_cons]
    refine ⟨h1.trans g1, g2, g3.trans h3, fun w ew j hj => ?_⟩
    rcases List.mem_cons.mp hj with rfl | hj
    · obtain ⟨u, hu, eu⟩ := h4 w ew
      obtain ⟨v, hv, ev⟩ := g1.low _ u eu
      exact ⟨v, Nat.le_trans hv hu, ev⟩
    · exact g4 w (by rw [h3]; exact ew) j hj
theorem lwTo_succ (c : Nat → Nat → Nat) (B : List (List Nat)) (i : Nat) : lwTo c B (i + 1) = lwStep c B (lwTo c B i) i := by
  unfold lwTo
  rw [List.range_succ, List.foldl_append]; rfl
/-- all that is known behind the first i heads -/
structure LwI (B : List (List Nat)) (c : Nat → Nat → Nat) (i : Nat) (a : List (Option Nat)) : Prop where
  len : a.length = B.length
  sound : Sound B c a
  zero : ∃ u, u ≤ 0 ∧ a.getD 0 none = some u
  full : ∀ g, g < i → ∀ w, CPre B c g w → ∀ k ∈ B.getD g [], ∃ u, u ≤ w + c g k ∧ a.getD (g ||| 2 ^ k) none = some u
theorem lwI_to {B : List (List Nat)} {c : Nat → Nat → Nat} (sb : StepB B) : ∀ i, i ≤ B.length → LwI B c i (lwTo c B i)
  | 0, _ => by
    have lo := sb.lo
    refine ⟨?_, fun h w e => ?_, ⟨0, Nat.le_refl _, rfl⟩, fun g hg => absurd hg (Nat.not_lt_zero _)⟩
    · show (List.replicate (B.length - 1) none).length + 1 = _
      rw [List.length_replicate]; omega
    · cases h with
      | zero =>
        have e : some 0 = some w := e
        cases e
        exact .nil
      | succ h =>
        have e : (List.replicate (B.length - 1) (none : Option Nat)).getD h none = some w := e
        rw [List.getD_eq_getElem?_getD, List.getElem?_replicate] at e
        split at e <;> cases e
  | i + 1, hi => by
    have ih := lwI_to (c := c) sb i (by omega)
    have hil : i < B.length := by omega
    rw [lwTo_succ]
    unfold lwStep
    obtain ⟨g1, g2, g3, g4⟩ := lwF_ok (B.getD i []) (lwTo c B i) ih.sound fun k hk => ⟨hk, (sb.up i hil k hk).1, by rw [ih.len]; exact (sb.up i hil k hk).2⟩
    -- the head's own value is the least
    have own : ∀ w, CPre B c i w → ∃ u, u ≤ w ∧ (lwTo c B i).getD i none = some u := fun w cp => by
      generalize hh : i = h at cp
      cases cp with
      | nil => subst hh; exact ih.zero
      | @step g w' k cp' hk =>
        by_cases hg : g < B.length
        · have := (sb.up g hg k hk).1
          obtain ⟨u, hu, eu⟩ := ih.full g (by omega) w' cp' k hk
          exact ⟨u, hu, by rw [← hh] at eu ⊢; exact eu⟩
        · rw [List.getD_eq_getElem?_getD, List.getElem?_eq_none (by omega)] at hk
          cases hk
    refine ⟨g1.len.trans ih.len, g2, ?_, fun g hg w cp k hk => ?_⟩
    · obtain ⟨u, hu, eu⟩ := ih.zero
      obtain ⟨v, hv, ev⟩ := g1.low 0 u eu
      exact ⟨v, by omega, ev⟩
    · by_cases z : g = i
      · subst z
        obtain ⟨u, hu, eu⟩ := own w cp
        obtain ⟨v, hv, ev⟩ := g4 u eu k hk
        exact ⟨v, by omega, ev⟩
      · obtain ⟨u, hu, eu⟩ := ih.full g (by omega) w cp k hk
        obtain ⟨v, hv, ev⟩ := g1.low _ u eu
        exact ⟨v, by omega, ev⟩
/-- what stands at a head is the least cost of a way to it; None, where there is none -/
theorem lw_least {B : List (List Nat)} {c : Nat → Nat → Nat} (sb : StepB B) {h : Nat} (hh : h < B.length) : (∀ w, (lwM c B).getD h none = some w → CPre B c h w ∧ ∀ w', CPre B c h w' → w ≤ w') ∧ ((lwM c B).getD h none = none → ∀ w, ¬ CPre B c h w) := by
  have I := lwI_to (c := c) sb B.length (Nat.le_refl _)
  have low : ∀ w, CPre B c h w → ∃ u, u ≤ w ∧ (lwM c B).getD h none = some u := fun w cp => by
    cases cp with
    | nil => exact I.zero
    | @step g w' k cp' hk =>
      by_cases hg : g < B.length
      · exact I.full g hg w' cp' k hk
      · rw [List.getD_eq_getElem?_getD, List.getElem?_eq_none (by omega)] at hk
        cases hk
  refine ⟨fun w e => ⟨I.sound h w e, fun w' cp => ?_⟩, fun e w cp => ?_⟩
  · obtain ⟨u, hu, eu⟩ := low w' cp
    rw [e] at eu; cases eu
    exact hu
  · obtain ⟨u, _, eu⟩ := low w cp
    rw [e] at eu; cases eu
/-! what a way costs: the rows that fall on it -/
def dotsH (r : List Nat) (n h : Nat) : Bool := (List.range n).all fun j => !h.testBit j || decide (sgn r j = 46)
def fallC (rows : List (List Nat)) (n h k : Nat) : Nat := (rows.filter fun r => decide (sgn r k = 45) && dotsH r n h).length
def wrongN (rows : List (List Nat)) (o : List Nat) : Nat := (rows.filter fun r => !holdsB r o).length
theorem holds_sign {r p q : List Nat} (h : ∃ j ∈ p, sgn r j ≠ 46) : holdsB r (p ++ q) = holdsB r p := by
  unfold holdsB
  rw [told_app]
  have : told r p ≠ [] := fun z => by
    obtain ⟨j, hj, hs⟩ := h
    unfold told at z
    have := List.filter_eq_nil_iff.mp z (sgn r j) (List.mem_map.mpr ⟨j, hj, rfl⟩)
    simp at this
    exact hs this
  cases e : told r p with
  | nil => exact absurd e this
  | cons a l => rfl
theorem row_fall {r p : List Nat} {n h k : Nat} (hr : sgn r k = 43 ∨ sgn r k = 45 ∨ sgn r k = 46) (hp : ∀ j ∈ p, j < n) (hb : ∀ j, h.testBit j = decide (j ∈ p)) : ((!holdsB r (p ++ [k])) = ((!holdsB r p) || (decide (sgn r k = 45) && dotsH r n h))) ∧ ((!holdsB r p) = true → (decide (sgn r k = 45) && dotsH r n h) = false) := by
  by_cases d : ∀ j ∈ p, sgn r j = 46
  · have dh : dotsH r n h = true := by
      unfold dotsH
      rw [List.all_eq_true]
      intro j hj
      rw [hb j]
      by_cases z : j ∈ p
      · rw [decide_eq_true (d j z)]; simp
      · rw [decide_eq_false z]; rfl
    have e1 : holdsB r p = true := holds_dots d
    refine ⟨?_, fun z => by rw [e1] at z; cases z⟩
    rw [holds_pre d, e1, dh, Bool.and_true]
    rcases hr with z | z | z
    · rw [z]
      unfold holdsB told
      rw [List.map_cons, List.map_nil, z]; rfl
    · rw [z]
      unfold holdsB told
      rw [List.map_cons, List.map_nil, z]; rfl
    · rw [z]
      unfold holdsB told
      rw [List.map_cons, List.map_nil, z]; rfl
  · have ex : ∃ j ∈ p, sgn r j ≠ 46 := Classical.byContradiction fun z => d fun j hj => Classical.byContradiction fun y => z ⟨j, hj, y⟩
    have dh : dotsH r n h = false := by
      obtain ⟨j, hj, hs⟩ := ex
      cases z : dotsH r n h with
      | false => rfl
      | true =>
        unfold dotsH at z
        have := List.all_eq_true.mp z j (List.mem_range.mpr (hp j hj))
        rw [hb j, decide_eq_true hj, decide_eq_false hs] at this
        cases this
    rw [holds_sign ex, dh, Bool.and_false, Bool.or_false]
    exact ⟨rfl, fun _ => rfl⟩
theorem len_or {α : Type} {p q : α → Bool} : ∀ {l : List α}, (∀ a ∈ l, p a = true → q a = false) → (l.filter fun a => p a || q a).length = (l.filter p).length + (l.filter q).length
  | [], _ => rfl
  | a :: l, h => by
    have ih := len_or (l := l) fun b hb => h b (List.mem_cons_of_mem _ hb)
    have h0 := h a List.mem_cons_self
    cases e1 : p a with
    | true =>
      have e2 := h0 e1
      rw [List.filter_cons_of_pos (by rw [e1]; rfl), List.filter_cons_of_pos e1, List.filter_cons_of_neg (by rw [e2]; decide), List.length_cons, List.length_cons, ih]
      omega
    | false =>
      cases e2 : q a with
      | true =>
        rw [List.filter_cons_of_pos (by rw [e1, e2]; rfl), List.filter_cons_of_neg (by rw [e1]; decide), List.filter_cons_of_pos e2, List.length_cons, List.length_cons, ih]
        omega
      | false =>
        rw [List.filter_cons_of_neg (by rw [e1, e2]; decide), List.filter_cons_of_neg (by rw [e1]; decide), List.filter_cons_of_neg (by rw [e2]; decide), ih]
theorem wrong_snoc {rows : List (List Nat)} {p : List Nat} {n h k : Nat} (hr : ∀ r ∈ rows, RowOk r n) (hp : ∀ j ∈ p, j < n) (hb : ∀ j, h.testBit j = decide (j ∈ p)) : wrongN rows (p ++ [k]) = wrongN rows p + fallC rows n h k := by
  unfold wrongN fallC
  rw [← len_or fun r hr' => (row_fall (k := k) (sgn_is (hr r hr') k) hp hb).2]
  refine congrArg List.length (List.filter_congr fun r hr' => (row_fall (k := k) (sgn_is (hr r hr') k) hp hb).1)
theorem wrong_nil (rows : List (List Nat)) : wrongN rows [] = 0 := by
  unfold wrongN
  rw [List.filter_eq_nil_iff.mpr fun r _ => by rw [holds_dots fun k h => absurd h (by simp)]; decide]; rfl
theorem pre_cost {rs rows : List (List Nat)} {n h : Nat} {p : List Nat} (hr : ∀ r ∈ rows, RowOk r n) (w : Pre rs n h p) : CPre (stepsM rs n) (fallC rows n) h (wrongN rows p) ∧ ∀ j ∈ p, j < n := by
  induction w with
  | nil => exact ⟨by rw [wrong_nil]; exact .nil, fun j h => absurd h (by simp)⟩
  | snoc h k p hk ho w ih =>
    obtain ⟨hlt, hb⟩ := pre_bits w
    refine ⟨?_, fun j hj => ?_⟩
    · rw [wrong_snoc hr ih.2 hb]
      exact .step ih.1 (by rw [steps_at hlt]; exact List.mem_filter.mpr ⟨List.mem_range.mpr hk, ho⟩)
    · rcases List.mem_append.mp hj with hj | hj
      · exact ih.2 j hj
      · rw [List.mem_singleton.mp hj]; exact hk
theorem cost_pre {rs rows : List (List Nat)} {n h w : Nat} (hr : ∀ r ∈ rows, RowOk r n) (c : CPre (stepsM rs n) (fallC rows n) h w) : ∃ p, Pre rs n h p ∧ w = wrongN rows p := by
  induction c with
  | nil => exact ⟨[], .nil, (wrong_nil rows).symm⟩
  | @step h w k c hk ih =>
    obtain ⟨p, hp, e⟩ := ih
    obtain ⟨hlt, hb⟩ := pre_bits hp
    rw [steps_at hlt] at hk
    obtain ⟨k1, k2⟩ := List.mem_filter.mp hk
    refine ⟨p ++ [k], .snoc h k p (List.mem_range.mp k1) k2 hp, ?_⟩
    rw [wrong_snoc hr (pre_cost hr hp).2 hb, e]
theorem pre_full {rs : List (List Nat)} {n : Nat} {o : List Nat} (hr : ∀ r ∈ rs, RowOk r n) : Pre rs n (2 ^ n - 1) o ↔ o ∈ fitM rs n := by
  rw [← way_fit hr]
  constructor
  · intro h
    have := pre_way h .done
    rwa [List.append_nil] at this
  · intro h
    obtain ⟨g, hg, w⟩ := way_of (p := o) (o := []) (by rw [List.append_nil]; exact h)
    cases w
    exact hg
/-- the least number of wrong rows over the rankings that some rows allow -/
theorem least_wrong {rs rows : List (List Nat)} {n : Nat} (sb : StepB (stepsM rs n)) (hr : ∀ r ∈ rs, RowOk r n) (hq : ∀ r ∈ rows, RowOk r n) : (∀ w, (lwM (fallC rows n) (stepsM rs n)).getD (2 ^ n - 1) none = some w → (∃ o ∈ fitM rs n, wrongN rows o = w) ∧ ∀ o ∈ fitM rs n, w ≤ wrongN rows o) ∧ ((lwM (fallC rows n) (stepsM rs n)).getD (2 ^ n - 1) none = none → fitM rs n = []) := by
  have hl : 2 ^ n - 1 < (stepsM rs n).length := by
    rw [steps_len]
    have := Nat.two_pow_pos n
    omega
  obtain ⟨h1, h2⟩ := lw_least (c := fallC rows n) sb hl
  refine ⟨fun w e => ?_, fun e => List.eq_nil_iff_forall_not_mem.mpr fun o ho => ?_⟩
  · obtain ⟨c, lo⟩ := h1 w e
    obtain ⟨o, ho, ew⟩ := cost_pre hq c
    exact ⟨⟨o, (pre_full hr).mp ho, ew.symm⟩, fun o' ho' => lo _ (pre_cost hq ((pre_full hr).mpr ho')).1⟩
  · exact h2 e _ (pre_cost hq ((pre_full hr).mpr ho)).1

end K18

namespace K18
open PySem PySem.Spec PyProof.Rows L2 Dw
variable [Tabs0]
/-! what falls, and the least of it -/
def optW : Option Nat → D
  | none => .non
  | some w => .int (w : Nat)
theorem evt_castY {t : TT} {Γ : Gam} {a b : Bool} (e : b = a) (h : EvT t Γ b) : EvT t Γ a := e ▸ h
theorem evn_castY {t : TE} {Γ : Gam} {ds es : List D} (e : ds = es) (h : EvN t Γ ds) : EvN t Γ es := e ▸ h
abbrev rNotNone : R2 := fun x y H Q => y = .non ∧ Q (.bl (!decide (x = .non))) H
theorem dr2_notN {d : D} {b : Bool} (h : ∀ (W : Wd) v, Rep W d v → (!decide (v = V.non)) = b) : DR2 rNotNone d .non (.bl b) := dr2_flat fun W u v Q r1 r2 k => ⟨r2, by rw [h W u r1]; exact k _ rfl⟩
theorem opt_isN (o : Option Nat) : ∀ (W : Wd) v, Rep W (optW o) v → decide (v = V.non) = o.isNone := fun W v r => by
  cases o with
  | none => rw [show v = V.non from r]; rfl
  | some w => rw [show v = V.int (w : Nat) from r]; rfl
theorem fall_bit {r : List Nat} {n h k : Nat} (hr : RowOk r n) (hh : h < 2 ^ n) : (decide (sideM 45 r &&& 2 ^ k ≠ 0) && !decide ((sideM 43 r ||| sideM 45 r) &&& h ≠ 0)) = (decide (sgn r k = 45) && dotsH r n h) := by
  have e1 : decide (sideM 45 r &&& 2 ^ k ≠ 0) = decide (sgn r k = 45) := by
    have := two_bit (a := sideM 45 r) (k := k)
    rw [side_bit (by decide)] at this
    rw [show decide (sideM 45 r &&& 2 ^ k ≠ 0) = !decide (sideM 45 r &&& 2 ^ k = 0) by rw [Bool.eq_iff_iff]; simp, this, Bool.not_not]
  have e2 : (!decide ((sideM 43 r ||| sideM 45 r) &&& h ≠ 0)) = dotsH r n h := by
    unfold dotsH
    rw [Bool.eq_iff_iff, Bool.not_eq_true', decide_eq_false_iff_not, Classical.not_not, and_zero, List.all_eq_true]
    constructor
    · intro z j hj
      have := z j
      rw [Nat.testBit_or, side_bit (by decide), side_bit (by decide)] at this
      cases hb : h.testBit j with
      | false => rfl
      | true =>
        rw [hb] at this
        rcases sgn_is hr j with y | y | y
        · exact absurd ⟨by rw [y]; rfl, rfl⟩ this
        · exact absurd ⟨by rw [y]; rfl, rfl⟩ this
        · rw [y]; rfl
    · rintro z j ⟨x1, x2⟩
      have jn : j < n := Classical.byContradiction fun y => by
        rw [Nat.testBit_lt_two_pow (Nat.lt_of_lt_of_le hh (Nat.pow_le_pow_right (by decide) (by omega)))] at x2
        cases x2
      have := z j (List.mem_range.mpr jn)
      rw [x2] at this
      have s46 : sgn r j = 46 := by simpa using this
      rw [Nat.testBit_or, side_bit (by decide), side_bit (by decide), s46] at x1
      cases x1
  rw [e1, e2]
def spFallen : Spc where
  ty := List (List Nat) × Nat × Nat × Nat
  args := fun x => [.lst (sidD (x.1.map sidesM)), .int (x.2.2.1 : Nat), .int (x.2.2.2 : Nat)]
  ok := fun x => (∀ r ∈ x.1, RowOk r x.2.1) ∧ x.2.1 ≤ 8 ∧ x.1.length ≤ 1000 ∧ x.2.2.1 < 2 ^ x.2.1 ∧ x.2.2.2 < x.2.1
  rel := fun x d => d = .int (fallC x.1 x.2.1 x.2.2.1 x.2.2.2 : Nat)
def spLeastW : Spc where
  ty := List (List Nat) × List Nat × Nat
  args := fun x => [.tup (nameD x.1), .str (tx x.2.1)]
  ok := fun x => (∀ r ∈ x.1, RowOk r x.2.2) ∧ RowOk x.2.1 x.2.2 ∧ x.2.2 ≤ 8 ∧ x.1.length ≤ 1000
  rel := fun x d => d = optW ((lwM (fallC x.1 x.2.2) (stepsM [x.2.1] x.2.2)).getD (2 ^ x.2.2 - 1) none)
theorem np_sid (o : List (Nat × Nat)) : noP (.lst (sidD o)) = true := noPs_map (f := fun s : Nat × Nat => D.tup [.int (s.1 : Nat), .int (s.2 : Nat)]) (fun _ => rfl) o
theorem opt_at {l : List (Option Nat)} {i : Nat} (h : i < l.length) : atI (l.map optW) (i : Int) = some (optW (l.getD i none)) := by
  rw [List.getD_eq_getElem?_getD, List.getElem?_eq_getElem h]
  exact atI_nat (by rw [List.getElem?_map, List.getElem?_eq_getElem h]; rfl)
theorem opt_last {l : List (Option Nat)} (h : 0 < l.length) : atI (l.map optW) (-1) = some (optW (l.getD (l.length - 1) none)) := by
  unfold atI
  have e : ixN l.length (-1) = some (l.length - 1) := by
    unfold ixN
    rw [if_neg (by decide)]
    split
    · exact congrArg some (by omega)
    · omega
  rw [List.length_map]
  show (ixN l.length (-1)).bind _ = _
  rw [e]
  show (l.map optW)[l.length - 1]? = _
  rw [List.getElem?_map, List.getD_eq_getElem?_getD, List.getElem?_eq_getElem (by omega)]; rfl
theorem opt_set (l : List (Option Nat)) (i w : Nat) : (l.map optW).set i (.int (w : Nat)) = (l.set i (some w)).map optW := by
  rw [List.map_set]; rfl
end K18

namespace K18
open PySem PySem.Spec PyProof.Rows L2 Dw
variable [Tabs0]
theorem d_count_fallen {P : Program} {w : World} {K : PySem.W.Frag} {mg : Str → Option Value} {base : Heap} (T : Txt K w mg) : FnOk P w K mg base CX0 1 T.f_count_fallen T.e_count_fallen ["told", "head", "rule"] (toSp (spFallen)) := by
  refine fn_ok T.F_count_fallen sc_count_fallen (fun _ => rfl) fun cdv A outer s' H E hr => ?_
  refine ⟨_, (pss_cons (ps_set (i := 3) sc_count_fallen.nd rfl (Or.inr rfl) (pe_op op_shl pe_int (pv 2))) (pss_one (ps_ret (pe_callB (lenA K) (by rfl) T.n_len (by decide +kernel) (pa_cons (pe_lc (own := [("better", 4), ("worse", 5)]) rfl sc_count_fallen.nd (piR K (pv 0)) (blkOk_by (own := [("better", 4), ("worse", 5)]) (N := N_count_fallen) (sc := (defScope s_count_fallen)) (by decide +kernel)) (fun _ _ _ _ _ => tupA K 2 rfl (pgs_cons (pg_name (i := 4) sc_count_fallen.nd rfl (Or.inl rfl)) (pgs_cons (pg_name (i := 5) sc_count_fallen.nd rfl (Or.inl rfl)) pgs_nil))) (fun _ _ _ _ _ => pts_one (PW.pt (pw_and (truA K (pe_op op_and (pv 5) (pv 3))) (pw_and1 (pt_not (truA K (pe_op op_and (pe_op op_or (pv 4) (pv 5)) (pv 1)))))))) (fun _ _ _ _ _ => (pv 5))) pa_nil))))), fun x hx => ?_⟩
  obtain ⟨rows, n, h, k⟩ := x
  obtain ⟨hr', h8, hz, hh, hk⟩ := hx
  have hr' : ∀ r ∈ rows, RowOk r n := hr'
  have h8 : n ≤ 8 := h8
  have hz : rows.length ≤ 1000 := hz
  have hh : h < 2 ^ n := hh
  have hk : k < n := hk
  refine ds_seq (ds_asg (Ev.dl (ev_op ev_int (ev_var (d := .int (k : Nat)) rfl) (dr2_shl1 (by omega))) ?_))
  refine ds_ret (Ev.dl (ev_cast (d' := .int (fallC rows n h k : Nat)) ?c (ev_len (EvN.b (evn_lc (xs := rows) (c := fun r => D.tup [.int (sideM 43 r : Nat), .int (sideM 45 r : Nat)]) (p := fun r => decide (sgn r k = 45) && dotsH r n h) (f := fun r => D.int (sideM 45 r : Nat)) (ej_list (Ev.b (ev_cast (congrArg D.lst (by unfold sidD; rw [List.map_map]; rfl)) (ev_var (d := .lst (sidD (rows.map sidesM))) rfl)))) (by omega) fun r hr => ⟨[4] ++ [5], _, dg_tup2 dg_name dg_name, fun i hi => hi, evt_castY (fall_bit (hr' r hr) hh) (evt_and (evt_castY (tru_nat _) (evt_tru_int (ev_op (ev_var (d := .int (sideM 45 r : Nat)) rfl) (ev_var (d := .int ((2 ^ k : Nat) : Int)) rfl) dr2_and))) fun _ => evt_not (evt_castY (tru_nat _) (evt_tru_int (ev_op (ev_op (ev_var (d := .int (sideM 43 r : Nat)) rfl) (ev_var (d := .int (sideM 45 r : Nat)) rfl) dr2_or) (ev_var (d := .int (h : Nat)) rfl) dr2_and)))), fun _ => ev_var rfl⟩)))) rfl)
  case c =>
    unfold fallC
    rw [List.length_map]
end K18

namespace K18
open PySem PySem.Spec PyProof.Rows L2 Dw
variable [Tabs0]
theorem d_least_wrong {P : Program} {w : World} {K : PySem.W.Frag} {mg : Str → Option Value} {base : Heap} (T : Txt K w mg) : FnOk P w K mg base CX0 4 T.f_least_wrong T.e_least_wrong ["rows", "row"] (toSp (spLeastW)) := by
  refine fn_ok T.F_least_wrong sc_least_wrong (fun _ => rfl) fun cdv A outer s' H E hr => ?_
  refine ⟨_, (pss_cons (ps_setLc (i := 2) (own := [("one", 10)]) rfl sc_least_wrong.nd rfl rfl (sw_true rfl rfl rfl (by decide +kernel)) (piR K (pv 0)) (blkOk_by (own := [("one", 10)]) (N := N_least_wrong) (sc := (defScope s_least_wrong)) (by decide +kernel)) (fun _ _ _ _ _ => pg_name (i := 10) sc_least_wrong.nd rfl (Or.inl rfl)) (fun _ _ _ _ _ => pts_nil) (fun _ _ _ _ _ => (pe_call (d_sides T) (hr.mono (by decide)) (by rfl) T.m_sides T.F_sides.kp T.b_sides .nil pass0 (pa_cons (pv 10) pa_nil)))) (pss_cons (ps_set (i := 3) sc_least_wrong.nd rfl (Or.inl rfl) (pe_call (d_steps T) (hr.mono (by decide)) (by rfl) T.m_steps T.F_steps.kp T.b_steps .nil pass0 (pa_cons (pe_tup (pa_cons (pv 1) pa_nil)) (pa_cons (pe_callB (lenA K) (by rfl) T.n_len (by decide +kernel) (pa_cons (pv 1) pa_nil)) pa_nil)))) (pss_cons (ps_setLc (i := 4) (own := [("_", 11)]) rfl sc_least_wrong.nd rfl rfl (sw_true rfl rfl rfl (by decide +kernel)) (piR K (pv 3)) (blkOk_by (own := [("_", 11)]) (N := N_least_wrong) (sc := (defScope s_least_wrong)) (by decide +kernel)) (fun _ _ _ _ _ => pg_name (i := 11) sc_least_wrong.nd rfl (Or.inl rfl)) (fun _ _ _ _ _ => pts_nil) (fun _ _ _ _ _ => pe_non)) (pss_cons (ps_asg pe_int (pg_sub (pv 4) pe_int set_list)) (pss_cons (ps_for PassesOwn.never rfl (enumTA K (by rfl) T.n_enumerate (pa_cons (pv 3) pa_nil)) (tupA K 2 rfl (pgs_cons (pg_name (i := 5) sc_least_wrong.nd rfl (Or.inl rfl)) (pgs_cons (pg_name (i := 6) sc_least_wrong.nd rfl (Or.inl rfl)) pgs_nil))) (pss_one (ps_for PassesOwn.never rfl (piR K (pv 6)) (pg_name (i := 7) sc_least_wrong.nd rfl (Or.inl rfl)) (pss_cons (ps_set (i := 8) sc_least_wrong.nd rfl (Or.inl rfl) (pe_op op_or (pv 5) (pe_op op_shl pe_int (pv 7)))) (pss_one (ps_if (pt_cmpR op_notN (pe_ix (ixA K) (pv 4) (pv 5) (fun _ _ => rfl)) pe_non (nomark _)) (pss_cons (ps_set (i := 9) sc_least_wrong.nd rfl (Or.inl rfl) (pe_op (plusE K) (pe_ix (ixA K) (pv 4) (pv 5) (fun _ _ => rfl)) (pe_call (d_count_fallen T) (hr.mono (by decide)) (by rfl) T.m_count_fallen T.F_count_fallen.kp T.b_count_fallen .nil pass0 (pa_cons (pv 2) (pa_cons (pv 5) (pa_cons (pv 7) pa_nil)))))) (pss_one (ps_if (PW.pt (pw_or (pt_cmpR op_isN (pe_ix (ixA K) (pv 4) (pv 8) (fun _ _ => rfl)) pe_non (nomark _)) (pw_or1 (pt_cmpR opLt (pv 9) (pe_ix (ixA K) (pv 4) (pv 8) (fun _ _ => rfl)) (nomark _))))) (pss_one (ps_asg (pv 9) (pg_sub (pv 4) (pv 8) set_list))) pss_nil))) pss_nil)))))) (pss_one (ps_ret (pe_ix (ixA K) (pv 4) (pe_un un_neg pe_int) (fun _ _ => rfl))))))))), fun x hx => ?_⟩
  obtain ⟨rows, row, n⟩ := x
  obtain ⟨hr', hrow, h8, hz⟩ := hx
  have hr' : ∀ r ∈ rows, RowOk r n := hr'
  have hrow : RowOk row n := hrow
  have h8 : n ≤ 8 := h8
  have hz : rows.length ≤ 1000 := hz
  have p8 := pow8 h8
  obtain ⟨B, eB⟩ : ∃ B, B = stepsM [row] n := ⟨_, rfl⟩
  obtain ⟨c, ec⟩ : ∃ c, c = fallC rows n := ⟨_, rfl⟩
  have sb : StepB B := by rw [eB]; exact steps_b [row] n
  have lB : B.length = 2 ^ n := by rw [eB]; exact steps_len _ _
  have bk : ∀ g, g < B.length → ∀ k ∈ B.getD g [], k < n := fun g hg k hk => by
    rw [eB, steps_at (by rw [← lB]; exact hg)] at hk
    exact List.mem_range.mp (List.mem_filter.mp hk).1
  refine ds_seq (ds_asg (Ev.dl (ev_cast (d' := .lst (sidD (rows.map sidesM))) (by unfold sidD; rw [List.map_map]; rfl) (EvN.ev (evn_lc1 (xs := rows) (c := fun r => D.str (tx r)) (f := fun r => D.tup [.int (sideM 43 r : Nat), .int (sideM 45 r : Nat)]) (ej_tup (ev_var (d := .tup (nameD rows)) rfl)) (by omega) fun r hr => ⟨[10], _, dg_name, fun i hi => hi, evt_yes, ev_call (s := spSides) (x := r) (eva_cons (ev_var rfl) eva_nil) rfl ⟨n, hr' r hr, h8⟩ fun d h => h⟩))) ?_))
  refine ds_seq (ds_asg (Ev.dl (ev_call (s := spSteps) (d := .lst (lolD B)) (x := ([row], n, false)) (eva_cons (ev_tup (ds := nameD [row]) (eva_cons (ev_var rfl) eva_nil) (small (show 1 ≤ 100000 by decide))) (eva_cons (ev_cast (congrArg (fun n : Nat => D.int n) (by rw [tx_len, hrow.len])) (ev_lenS (x := tx row) (ev_var rfl) (by rw [tx_len, hrow.len]; exact small (by omega)))) eva_nil)) (np_rd (b := false) (r := [_]) rfl) ⟨fun r h => by rw [List.mem_singleton.mp h]; exact hrow, h8, by show 1 ≤ 1000; decide⟩ fun d h => by rw [eB]; exact h) ?_))
  refine ds_seq (ds_asg_own (ds := (List.replicate B.length (none : Option Nat)).map optW) (evn_castY (by rw [List.map_replicate, List.map_const']; rfl) (evn_lc1 (xs := B) (c := fun l => D.lst (ordD l)) (f := fun _ => D.non) (ej_list (Ev.b (ev_var (d := .lst (lolD B)) rfl))) (by omega) fun l hl => ⟨[11], _, dg_name, fun i hi => hi, evt_yes, ev_non⟩)) ?_)
  have lo := sb.lo
  refine ds_seq (ds_sub ⟨_, rfl⟩ (Ev.dl ev_int ⟨(List.replicate B.length (none : Option Nat)).map optW, 0, rfl, ev_int, by rw [List.length_map, List.length_replicate]; omega, ?_⟩))
  have e0 : ((List.replicate B.length (none : Option Nat)).map optW).set 0 (.int 0) = (lwTo c B 0).map optW := by
    show ((List.replicate B.length (none : Option Nat)).map optW).set 0 (.int ((0 : Nat) : Int)) = _
    rw [opt_set]
    congr 1
    obtain ⟨m, hm⟩ : ∃ m, B.length = m + 1 := ⟨B.length - 1, by omega⟩
    unfold lwTo
    rw [hm]; rfl
  refine ds_seq (ds_for (fun xs i Γ' => xs = (List.range B.length).map (fun (h : Nat) => D.tup [.int h, .lst (ordD (B.getD h []))]) ∧ ∃ s5 s6 s7 s8 s9 : Sl, Γ' = [.val (.tup (nameD rows)), .val (.str (tx row)), .val (.lst (sidD (rows.map sidesM))), .val (.lst (lolD B)), .own ((lwTo c B i).map optW), s5, s6, s7, s8, s9, .unset, .unset])
    (di_enumL (Ev.dl (ev_var (d := .lst (lolD B)) rfl) ⟨_, rfl, ⟨enum_lol B, _, _, _, _, _, by rw [← e0]; rfl⟩, fun i x Γ' hx' ⟨exs, s5, s6, s7, s8, s9, e⟩ => ?_, fun Γ' ⟨exs, s5, s6, s7, s8, s9, e⟩ => ?_⟩)))
  · subst e
    rw [exs, List.getElem?_map] at hx'
    obtain ⟨h, hh, rfl⟩ := Option.map_eq_some_iff.mp hx'
    have hi : i < B.length := by
      have := (List.getElem?_eq_some_iff.mp hh).1
      rwa [List.length_range] at this
    have eh : h = i := by
      rw [List.getElem?_range hi] at hh
      exact (Option.some.inj hh).symm
    subst eh
    have I := lwI_to (c := c) sb h (by omega)
    obtain ⟨ks, eks⟩ : ∃ ks, ks = B.getD h [] := ⟨_, rfl⟩
    obtain ⟨a, ea⟩ : ∃ a, a = lwTo c B h := ⟨_, rfl⟩
    rw [← ea] at I
    rw [← eks, ← ea]
    have kup : ∀ k ∈ ks, k ∈ B.getD h [] ∧ h < h ||| 2 ^ k ∧ h ||| 2 ^ k < a.length := fun k hk => by
      rw [eks] at hk
      exact ⟨hk, (sb.up h hi k hk).1, by rw [I.len]; exact (sb.up h hi k hk).2⟩
    refine ⟨[5] ++ [6], _, dg_tup2 dg_name dg_name, ?_⟩
    refine ds_for (fun xs j Γ' => xs = ordD ks ∧ ∃ s7 s8 s9 : Sl, Γ' = [.val (.tup (nameD rows)), .val (.str (tx row)), .val (.lst (sidD (rows.map sidesM))), .val (.lst (lolD B)), .own (((ks.take j).foldl (lwIn c h) a).map optW), .val (.int (h : Nat)), .val (.lst (ordD ks)), s7, s8, s9, .unset, .unset])
      (dj_list (Ev.dl (ev_var rfl) ⟨_, rfl, ⟨rfl, _, _, _, rfl⟩, fun j x Γ' hx2 ⟨exs2, s7, s8, s9, e⟩ => ?_, fun Γ' ⟨exs2, s7, s8, s9, e⟩ => ?_⟩))
    · subst e
      rw [exs2] at hx2
      have hx2 : (ks.map fun k : Nat => D.int k)[j]? = some x := hx2
      rw [List.getElem?_map] at hx2
      obtain ⟨k, hk, rfl⟩ := Option.map_eq_some_iff.mp hx2
      have hkm := List.mem_of_getElem? hk
      obtain ⟨k1, k2, k3⟩ := kup k hkm
      have hkn := bk h hi k k1
      have et : (ks.take (j + 1)).foldl (lwIn c h) a = lwIn c h ((ks.take j).foldl (lwIn c h) a) k := by
        rw [List.take_add_one, hk, List.foldl_append]; rfl
      have lf := (lwF_ok (c := c) (ks.take j) a I.sound fun k hk => kup k (List.mem_of_mem_take hk)).1.len
      obtain ⟨b, eb⟩ : ∃ b, b = (ks.take j).foldl (lwIn c h) a := ⟨_, rfl⟩
      rw [← eb] at lf et
      rw [et, ← eb]
      have lb : b.length = B.length := lf.trans I.len
      refine ⟨[7], _, dg_name, ds_seq (ds_asg (Ev.dl (ev_op (ev_var (d := .int (h : Nat)) rfl) (ev_op ev_int (ev_var (d := .int (k : Nat)) rfl) (dr2_shl1 (by omega))) dr2_or) ?_))⟩
      have rd : ∀ {Γ : Gam} {t : TE} {g : Nat}, Γ[4]? = some (.own (b.map optW)) → Ev t Γ (.int (g : Nat)) → g < b.length → Ev (tOp (rIx K) (tVar 4) t) Γ (optW (b.getD g none)) := fun g4 ht hg => ev_ix (ds := b.map optW) (evb_own g4) ht (opt_at hg)
      refine ds_if (EvT.dl (b := !(b.getD h none).isNone) (evt_test (ev_op (rd rfl (ev_var (d := .int (h : Nat)) rfl) (by omega)) ev_non (dr2_notN fun W v r => congrArg not (opt_isN _ W v r)))) ⟨fun hn => ?_, fun hn => ds_next ⟨exs2, .val (.int (k : Nat)), .val (.int ((h ||| 2 ^ k : Nat) : Int)), s9, ?_⟩⟩)
      · cases ew : b.getD h none with
        | none => rw [ew] at hn; cases hn
        | some w =>
          have r1 : ∀ {Γ : Gam}, Γ[4]? = some (.own (b.map optW)) → Γ[5]? = some (.val (.int (h : Nat))) → Ev (tOp (rIx K) (tVar 4) (tVar 5)) Γ (.int (w : Nat)) := fun g4 g5 => by
            have := rd g4 (ev_var g5) (by omega : h < b.length)
            rw [ew] at this
            exact this
          refine ds_seq (ds_asg (Ev.dl (ev_cast (d' := .int ((w + c h k : Nat) : Int)) (by rw [Int.natCast_add]) (ev_op (r1 rfl rfl) (ev_call (s := spFallen) (d := .int (c h k : Nat)) (x := (rows, n, h, k)) (eva_cons (ev_var rfl) (eva_cons (ev_var rfl) (eva_cons (ev_var rfl) eva_nil))) (by show (noP (.lst (sidD (rows.map sidesM))) && true) = true; rw [np_sid]; rfl) ⟨hr', h8, hz, by show h < 2 ^ n; omega, hkn⟩ fun d h => by rw [ec]; exact h) pl_int)) ?_))
          have r2 : ∀ {Γ : Gam}, Γ[4]? = some (.own (b.map optW)) → Γ[8]? = some (.val (.int ((h ||| 2 ^ k : Nat) : Int))) → Ev (tOp (rIx K) (tVar 4) (tVar 8)) Γ (optW (b.getD (h ||| 2 ^ k) none)) := fun g4 g8 => rd g4 (ev_var g8) (by omega)
          cases eu : b.getD (h ||| 2 ^ k) none with
          | none =>
            have le : lwIn c h b k = b.set (h ||| 2 ^ k) (some (w + c h k)) := by
              unfold lwIn
              rw [ew]
              show (match b.getD (h ||| 2 ^ k) none with | none => _ | some u => _) = _
              rw [eu]
            refine ds_if (EvT.dl (b := true) (evt_castY (b := true || false) rfl (evt_or (evt_test (ev_op (r2 rfl rfl) ev_non (dr2_isN fun W v r => by rw [opt_isN _ W v r, eu]; rfl))) fun z => (nomatch z))) ⟨fun _ => ds_sub ⟨_, rfl⟩ (Ev.dl (ev_var (d := .int ((w + c h k : Nat) : Int)) rfl) ⟨b.map optW, h ||| 2 ^ k, rfl, ev_var rfl, by rw [List.length_map]; omega, exs2, .val (.int (k : Nat)), .val (.int ((h ||| 2 ^ k : Nat) : Int)), .val (.int ((w + c h k : Nat) : Int)), ?_⟩), fun z => (nomatch z)⟩)
            rw [le, ← opt_set]; rfl
          | some u =>
            have le : lwIn c h b k = if w + c h k < u then b.set (h ||| 2 ^ k) (some (w + c h k)) else b := by
              unfold lwIn
              rw [ew]
              show (match b.getD (h ||| 2 ^ k) none with | none => _ | some u => _) = _
              rw [eu]
            have r3 : ∀ {Γ : Gam}, Γ[4]? = some (.own (b.map optW)) → Γ[8]? = some (.val (.int ((h ||| 2 ^ k : Nat) : Int))) → Ev (tOp (rIx K) (tVar 4) (tVar 8)) Γ (.int (u : Nat)) := fun g4 g8 => by
              have := r2 g4 g8
              rw [eu] at this
              exact this
            refine ds_if (EvT.dl (b := decide (w + c h k < u)) (evt_castY (b := false || decide (w + c h k < u)) (Bool.false_or _) (evt_or (evt_test (ev_op (r2 rfl rfl) ev_non (dr2_isN fun W v r => by rw [opt_isN _ W v r, eu]; rfl))) fun _ => evt_test (ev_op (ev_var (d := .int ((w + c h k : Nat) : Int)) rfl) (r3 rfl rfl) (lt_b (decide_eq_decide.mpr (by omega)))))) ⟨fun hl => ds_sub ⟨_, rfl⟩ (Ev.dl (ev_var (d := .int ((w + c h k : Nat) : Int)) rfl) ⟨b.map optW, h ||| 2 ^ k, rfl, ev_var rfl, by rw [List.length_map]; omega, exs2, .val (.int (k : Nat)), .val (.int ((h ||| 2 ^ k : Nat) : Int)), .val (.int ((w + c h k : Nat) : Int)), ?_⟩), fun hl => ds_next ⟨exs2, .val (.int (k : Nat)), .val (.int ((h ||| 2 ^ k : Nat) : Int)), .val (.int ((w + c h k : Nat) : Int)), ?_⟩⟩)
            · rw [le, if_pos (of_decide_eq_true hl), ← opt_set]; rfl
            · rw [le, if_neg (of_decide_eq_false hl)]; rfl
      · have : lwIn c h b k = b := by
          unfold lwIn
          cases ew : b.getD h none with
          | none => rfl
          | some w => rw [ew] at hn; cases hn
        rw [this]; rfl
    · subst e
      rw [exs2, ordD_len, List.take_length]
      refine ⟨exs, .val (.int (h : Nat)), .val (.lst (ordD ks)), s7, s8, s9, ?_⟩
      rw [lwTo_succ]
      unfold lwStep
      rw [← eks, ← ea]
  · subst e
    have el : ((List.range B.length).map fun (h : Nat) => D.tup [.int h, .lst (ordD (B.getD h []))]).length = B.length := by rw [List.length_map, List.length_range]
    rw [exs, el]
    have I := lwI_to (c := c) sb B.length (Nat.le_refl _)
    refine ds_ret (Ev.dl (ev_ix (ds := (lwTo c B B.length).map optW) (evb_own rfl) (ev_neg ev_int) (opt_last (by rw [I.len]; omega))) ?_)
    have e2 : lwM (fallC rows n) (stepsM [row] n) = lwTo c B B.length := by rw [ec, eB]; rfl
    show optW _ = optW ((lwM (fallC rows n) (stepsM [row] n)).getD (2 ^ n - 1) none)
    rw [e2, I.len, lB]
end K18

namespace K18
open PySem PySem.Spec PyProof.Rows L2 Dw
variable [Tabs0]
def lwN (rows : List (List Nat)) (row : List Nat) (n : Nat) : Option Nat := (lwM (fallC rows n) (stepsM [row] n)).getD (2 ^ n - 1) none
def dotsN (n : Nat) : List Nat := List.replicate n 46
theorem dots_row (n : Nat) : RowOk (dotsN n) n := ⟨List.length_replicate, fun c hc => by
  rw [List.eq_of_mem_replicate hc]
  exact .inr (.inr rfl)⟩
theorem mul_dots {n : Nat} (h : n ≤ 8) : DR2 rMulS (.str ".") (.int (n : Nat)) (.str (tx (dotsN n))) := dr2_flat fun W u v Q a b k => by
  have e : MulOk "." (n : Nat) ∧ Txt.mul "." (n : Nat) = tx (dotsN n) := by
    rcases (show n = 0 ∨ n = 1 ∨ n = 2 ∨ n = 3 ∨ n = 4 ∨ n = 5 ∨ n = 6 ∨ n = 7 ∨ n = 8 by omega) with rfl | rfl | rfl | rfl | rfl | rfl | rfl | rfl | rfl <;> exact ⟨by unfold MulOk; decide +kernel, by decide +kernel⟩
  exact ⟨_, _, a, b, e.1, k _ (by rw [e.2]; rfl)⟩
def spFewAll (C : Addr) : Spc where
  ty := Bk
  args := fun x => [bookD C x.1 x.2]
  ok := fun x => BookOk x.1 x.2
  rel := fun x d => d = optW (lwN x.2 (dotsN x.1.length) x.1.length)
/-- the fewest wrong rows: there is such a number, and some ranking has it -/
theorem few_is {rs : List (List Nat)} {n : Nat} (hr : ∀ r ∈ rs, RowOk r n) : ∃ w, lwN rs (dotsN n) n = some w ∧ (∃ o, o.Perm (List.range n) ∧ wrongN rs o = w) ∧ ∀ o, o.Perm (List.range n) → w ≤ wrongN rs o := by
  have hd : ∀ r ∈ [dotsN n], RowOk r n := fun r h => by rw [List.mem_singleton.mp h]; exact dots_row n
  have all : ∀ o, o.Perm (List.range n) → o ∈ fitM [dotsN n] n := fun o ho => fitM_mem.mpr ⟨ho, fun r h => by
    rw [List.mem_singleton.mp h]
    refine holds_dots fun k _ => ?_
    unfold sgn dotsN
    rw [List.getD_eq_getElem?_getD, List.getElem?_replicate]
    split <;> rfl⟩
  obtain ⟨h1, h2⟩ := least_wrong (steps_b [dotsN n] n) hd hr
  cases e : lwN rs (dotsN n) n with
  | none =>
    have := h2 e
    have m := all (List.range n) (List.Perm.refl _)
    rw [this] at m; cases m
  | some w =>
    obtain ⟨⟨o, ho, ew⟩, lo⟩ := h1 w e
    exact ⟨w, rfl, ⟨o, (fitM_mem.mp ho).1, ew⟩, fun o ho => lo o (all o ho)⟩
end K18

namespace K18
open PySem PySem.Spec PyProof.Rows L2 Dw
variable [Tabs0]
theorem d_fewest_of_all {P : Program} {w : World} {K : PySem.W.Frag} {mg : Str → Option Value} {base : Heap} (T : Txt K w mg) : FnOk P w K mg base CX0 5 T.f_fewest_of_all T.e_fewest_of_all ["book"] (toSp (spFewAll T.C_Book)) := by
  refine fn_ok T.F_fewest_of_all sc_fewest_of_all (fun _ => rfl) fun cdv A outer s' H E hr => ?_
  refine ⟨_, (pss_one (ps_ret (pe_call (d_least_wrong T) (hr.mono (by decide)) (by rfl) T.m_least_wrong T.F_least_wrong.kp T.b_least_wrong .nil pass0 (pa_cons (pe_prop (pv 0) T.cl_Book T.p_Book_rows (d_Book_rows T) (hr.mono (by decide)) T.b_Book_rows .nil pass0 rfl) (pa_cons (pe_op op_mulS pe_str (pe_callB (lenA K) (by rfl) T.n_len (by decide +kernel) (pa_cons (pe_prop (pv 0) T.cl_Book T.p_Book_names (d_Book_names T) (hr.mono (by decide)) T.b_Book_names .nil pass0 rfl) pa_nil))) pa_nil))))), fun x hx => ?_⟩
  obtain ⟨ls, rs⟩ := x
  have hb : BookOk ls rs := hx
  have h8 := hb.n8
  refine ds_ret (Ev.dl (ev_call (s := spLeastW) (d := optW (lwN rs (dotsN ls.length) ls.length)) (x := (rs, dotsN ls.length, ls.length)) (eva_cons (ev_prop (s := spBRows T.C_Book) (x := (ls, rs)) (ev_var rfl) rfl (np_book _ ls rs) trivial fun d h => h) (eva_cons (ev_op ev_str (ev_names (C := T.C_Book) (rs := rs) (ev_prop (s := spBNames T.C_Book) (x := (ls, rs)) (ev_var rfl) rfl (np_book _ ls rs) trivial fun d h => h)) (mul_dots h8)) eva_nil)) (np_tn (r := [_]) rfl) ⟨hb.rows, dots_row _, h8, Nat.le_trans hb.few (by decide)⟩ fun d h => h) rfl)
end K18

namespace K18
open PySem PySem.Spec PyProof.Rows L2 Dw
variable [Tabs0]
theorem d_fewest_wrong {P : Program} {w : World} {K : PySem.W.Frag} {mg : Str → Option Value} {base : Heap} (T : Txt K w mg) : FnOk P w K mg base CX0 6 T.f_fewest_wrong T.e_fewest_wrong ["book"] (toSp (spFewAll T.C_Book)) := by
  refine fn_ok T.F_fewest_wrong sc_fewest_wrong (fun _ => rfl) fun cdv A outer s' H E hr => ?_
  refine ⟨_, (pss_cons (ps_expr (pe_call (d_check_book T) (hr.mono (by decide)) (by rfl) T.m_check_book T.F_check_book.kp T.b_check_book .nil pass0 (pa_cons (pv 0) pa_nil))) (pss_one (ps_ret (pe_call (d_fewest_of_all T) (hr.mono (by decide)) (by rfl) T.m_fewest_of_all T.F_fewest_of_all.kp T.b_fewest_of_all .nil pass0 (pa_cons (pv 0) pa_nil))))), fun x hx => ?_⟩
  obtain ⟨ls, rs⟩ := x
  have hb : BookOk ls rs := hx
  refine ds_seq (ds_drop (Ev.dl (ev_call (s := spCheck T.C_Book) (x := (ls, rs)) (eva_cons (ev_var rfl) eva_nil) (np_book _ ls rs) trivial fun d h => h) ?_))
  exact ds_ret (Ev.dl (ev_call (s := spFewAll T.C_Book) (x := (ls, rs)) (eva_cons (ev_var rfl) eva_nil) (np_book _ ls rs) hb fun d h => h) rfl)

end K18

namespace K18
open PySem PySem.Spec PyProof.Rows L2 Dw
variable [Tabs0]
/-! rules exchanged -/
def mvR (o r : List Nat) : List Nat := o.map (sgn r)
def ixs (o p : List Nat) : List Nat := p.map fun a => o.idxOf a
theorem mvR_ok {o r : List Nat} {n : Nat} (ho : o.Perm (List.range n)) (hr : RowOk r n) : RowOk (mvR o r) n := ⟨by unfold mvR; rw [List.length_map, ho.length_eq, List.length_range], fun c hc => by
  obtain ⟨k, _, rfl⟩ := List.mem_map.mp hc
  exact sgn_is hr k⟩
theorem sgn_mvR {o r : List Nat} {a : Nat} (h : a ∈ o) : sgn (mvR o r) (o.idxOf a) = sgn r a := by
  unfold mvR
  show List.getD (o.map (sgn r)) (o.idxOf a) 46 = _
  rw [List.getD_eq_getElem?_getD, List.getElem?_map, idx_at h]; rfl
theorem told_mvR {o r p : List Nat} (h : ∀ a ∈ p, a ∈ o) : told (mvR o r) (ixs o p) = told r p := by
  unfold told ixs
  rw [List.map_map]
  congr 1
  exact List.map_congr_left fun a ha => sgn_mvR (h a ha)
theorem holds_mvR {o r p : List Nat} (h : ∀ a ∈ p, a ∈ o) : holdsB (mvR o r) (ixs o p) = holdsB r p := by
  unfold holdsB
  rw [told_mvR h]
theorem ixs_perm {o p : List Nat} {n : Nat} (ho : o.Perm (List.range n)) (hp : p.Perm (List.range n)) : (ixs o p).Perm (List.range n) := by
  have h1 : (ixs o p).Perm (ixs o o) := (hp.trans ho.symm).map _
  have nd : o.Nodup := ho.nodup_iff.mpr List.nodup_range
  have h2 : ixs o o = List.range o.length := by
    show o.map (fun a => o.idxOf a) = List.range o.length
    refine List.ext_getElem (by rw [List.length_map, List.length_range]) fun i hi hi2 => ?_
    have hi3 : i < o.length := by rw [List.length_range] at hi2; exact hi2
    rw [List.getElem_map, List.getElem_range]
    exact nd.idxOf_getElem i hi3
  rw [h2, ho.length_eq, List.length_range] at h1
  exact h1
theorem perm_mem {o p : List Nat} {n : Nat} (ho : o.Perm (List.range n)) (hp : p.Perm (List.range n)) : ∀ a ∈ p, a ∈ o := fun a ha => ho.mem_iff.mpr (hp.mem_iff.mp ha)
theorem row_as {r : List Nat} {n : Nat} (h : RowOk r n) : (List.range n).map (sgn r) = r := by
  refine List.ext_getElem (by rw [List.length_map, List.length_range, h.len]) fun i hi hi2 => ?_
  rw [List.getElem_map, List.getElem_range]
  show List.getD r i 46 = _
  rw [List.getD_eq_getElem?_getD, List.getElem?_eq_getElem hi2]; rfl
def sortN (l : List Nat) : List Nat := l.mergeSort (fun a b => decide (a ≤ b))
theorem sortN_perm (l : List Nat) : (sortN l).Perm l := List.mergeSort_perm l _
theorem sortN_inc (l : List Nat) : (sortN l).Pairwise (· ≤ ·) := (List.pairwise_mergeSort (le := fun a b : Nat => decide (a ≤ b)) (fun a b c h1 h2 => by
    simp only [decide_eq_true_eq] at h1 h2 ⊢
    omega) (fun a b => by
    simp only [Bool.or_eq_true, decide_eq_true_eq]
    omega) l).imp fun {a b} h => of_decide_eq_true h
theorem inc_eq {l m : List Nat} (h1 : l.Pairwise (· ≤ ·)) (h2 : m.Pairwise (· ≤ ·)) (p : l.Perm m) : l = m := List.Perm.eq_of_pairwise (le := (· ≤ ·)) (fun a b _ _ h h' => Nat.le_antisymm h h') h1 h2 p
theorem sortN_congr {l m : List Nat} (p : l.Perm m) : sortN l = sortN m := inc_eq (sortN_inc l) (sortN_inc m) ((sortN_perm l).trans (p.trans (sortN_perm m).symm))
theorem sortN_int {l : List Nat} {ns : List Int} (h1 : ns.Perm (l.map fun k : Nat => (k : Int))) (h2 : ns.Pairwise (· ≤ ·)) : ns = (sortN l).map fun k : Nat => (k : Int) := by
  refine List.Perm.eq_of_pairwise (le := (· ≤ ·)) (fun a b _ _ h h' => Int.le_antisymm h h') h2 ?_ (h1.trans ((sortN_perm l).map _).symm)
  rw [List.pairwise_map]
  exact (sortN_inc l).imp fun {a b} h => by omega
theorem idx_at18 {o : List Nat} (nd : o.Nodup) {j : Nat} (h : j < o.length) : o.idxOf o[j] = j := (List.getElem_inj nd).mp (List.getElem_idxOf (List.idxOf_lt_length_iff.mpr (List.getElem_mem h)))
abbrev inv (o : List Nat) (j : Nat) : Nat := o.getD j 0
section
variable {o : List Nat} {n : Nat} (ho : o.Perm (List.range n))
include ho
theorem olen : o.length = n := by rw [ho.length_eq, List.length_range]
theorem ond : o.Nodup := ho.nodup_iff.mpr List.nodup_range
theorem inv_get {j : Nat} (hj : j < n) : inv o j = o[j]'(by rw [olen ho]; exact hj) := by
  show o.getD j 0 = _
  rw [List.getD_eq_getElem?_getD, List.getElem?_eq_getElem (by rw [olen ho]; exact hj)]; rfl
theorem inv_lt {j : Nat} (hj : j < n) : inv o j < n := by
  rw [inv_get ho hj]
  exact List.mem_range.mp (ho.subset (List.getElem_mem _))
theorem idx_inv {j : Nat} (hj : j < n) : o.idxOf (inv o j) = j := by
  rw [inv_get ho hj]
  exact idx_at18 (ond ho) _
theorem o_mem {a : Nat} (ha : a < n) : a ∈ o := ho.mem_iff.mpr (List.mem_range.mpr ha)
theorem idx_lt {a : Nat} (ha : a < n) : o.idxOf a < n := by
  have := List.idxOf_lt_length_iff.mpr (o_mem ho ha)
  rw [olen ho] at this; exact this
theorem inv_idx {a : Nat} (ha : a < n) : inv o (o.idxOf a) = a := by
  rw [inv_get ho (idx_lt ho ha)]
  exact List.getElem_idxOf _
theorem map_inv : (List.range n).map (inv o) = o := by
  refine List.ext_getElem (by rw [List.length_map, List.length_range, olen ho]) fun i h1 h2 => ?_
  rw [List.getElem_map, List.getElem_range, inv_get ho (by rw [← olen ho]; exact h2)]
theorem ixs_back {p : List Nat} (hp : ∀ a ∈ p, a < n) : (ixs o p).map (inv o) = p := by
  unfold ixs
  rw [List.map_map]
  conv => rhs; rw [← List.map_id p]
  exact List.map_congr_left fun a ha => inv_idx ho (hp a ha)
theorem back_ixs {q : List Nat} (hq : ∀ j ∈ q, j < n) : ixs o (q.map (inv o)) = q := by
  unfold ixs
  rw [List.map_map]
  conv => rhs; rw [← List.map_id q]
  exact List.map_congr_left fun j hj => idx_inv ho (hq j hj)
theorem back_perm {q : List Nat} (hq : q.Perm (List.range n)) : (q.map (inv o)).Perm (List.range n) := by
  have := hq.map (inv o)
  rw [map_inv ho] at this
  exact this.trans ho
variable {rs : List (List Nat)}
theorem fit_mv1 {p : List Nat} (hp : p.Perm (List.range n)) : ixs o p ∈ fitM (rs.map (mvR o)) n ↔ p ∈ fitM rs n := by
  rw [fitM_mem, fitM_mem]
  constructor
  · rintro ⟨_, h⟩
    exact ⟨hp, fun r hr => by
      have := h _ (List.mem_map.mpr ⟨r, hr, rfl⟩)
      rwa [holds_mvR (perm_mem ho hp)] at this⟩
  · rintro ⟨_, h⟩
    exact ⟨ixs_perm ho hp, fun r hr => by
      obtain ⟨q, hq, rfl⟩ := List.mem_map.mp hr
      rw [holds_mvR (perm_mem ho hp)]
      exact h q hq⟩
theorem perm_lt {p : List Nat} (hp : p.Perm (List.range n)) : ∀ a ∈ p, a < n := fun a ha => List.mem_range.mp (hp.subset ha)
theorem fit_mv : (fitM (rs.map (mvR o)) n).Perm ((fitM rs n).map (ixs o)) := by
  refine (List.perm_ext_iff_of_nodup (fitM_nodup _ _) ?_).mpr fun q => ?_
  · unfold List.Nodup
    rw [List.pairwise_map]
    refine (List.nodup_iff_pairwise_ne.mp (fitM_nodup rs n)).imp_of_mem fun {a b} ha hb ne e => ne ?_
    rw [← ixs_back ho (perm_lt ho (fitM_mem.mp ha).1), e, ixs_back ho (perm_lt ho (fitM_mem.mp hb).1)]
  · constructor
    · intro h
      have hq := (fitM_mem.mp h).1
      have e := back_ixs ho (perm_lt ho hq)
      refine List.mem_map.mpr ⟨q.map (inv o), (fit_mv1 ho (back_perm ho hq)).mp (by rw [e]; exact h), e⟩
    · intro h
      obtain ⟨p, hp, rfl⟩ := List.mem_map.mp h
      exact (fit_mv1 ho (fitM_mem.mp hp).1).mpr hp
theorem rows_mv (hr : ∀ r ∈ rs, RowOk r n) : ∀ r ∈ rs.map (mvR o), RowOk r n := fun r h => by
  obtain ⟨q, hq, rfl⟩ := List.mem_map.mp h
  exact mvR_ok ho (hr q hq)
theorem count_mv (hr : ∀ r ∈ rs, RowOk r n) : countM (rs.map (mvR o)) n = countM rs n := by
  rw [count_eq fun r h c => sgn_is (rows_mv ho hr r h) c, count_eq fun r h c => sgn_is (hr r h) c, (fit_mv ho).length_eq, List.length_map]
theorem need_mv (hr : ∀ r ∈ rs, RowOk r n) : needM (rs.map (mvR o)) n = needM rs n := by
  unfold needM
  rw [List.length_map]
  refine List.filter_congr fun i _ => ?_
  have e : (rs.map (mvR o)).take i ++ (rs.map (mvR o)).drop (i + 1) = (rs.take i ++ rs.drop (i + 1)).map (mvR o) := by rw [List.map_append, List.map_take, List.map_drop]
  rw [e, count_mv ho hr, count_mv ho fun r h => hr r ((List.mem_append.mp h).elim List.mem_of_mem_take List.mem_of_mem_drop)]
theorem rowAt_mv {i : Nat} (hi : i < rs.length) : rowAt (rs.map (mvR o)) i = mvR o (rowAt rs i) := by
  unfold rowAt
  rw [List.getD_eq_getElem?_getD, List.getD_eq_getElem?_getD, List.getElem?_map, List.getElem?_eq_getElem hi]; rfl
theorem sgn_at18 {j : Nat} (hj : j < n) (i : Nat) : sgn (rowAt (rs.map (mvR o)) i) j = sgn (rowAt rs i) (inv o j) := by
  by_cases hi : i < rs.length
  · rw [rowAt_mv ho hi]
    unfold mvR
    show (o.map (sgn (rowAt rs i))).getD j 46 = _
    rw [List.getD_eq_getElem?_getD, List.getElem?_map, List.getElem?_eq_getElem (by rw [olen ho]; exact hj), inv_get ho hj]; rfl
  · have e1 : rowAt (rs.map (mvR o)) i = [] := by
      unfold rowAt
      rw [List.getD_eq_getElem?_getD, List.getElem?_eq_none (by rw [List.length_map]; omega)]; rfl
    have e2 : rowAt rs i = [] := by
      unfold rowAt
      rw [List.getD_eq_getElem?_getD, List.getElem?_eq_none (by omega)]; rfl
    rw [e1, e2]; rfl
theorem minB_mv {j : Nat} (hj : j < n) (still : List Nat) : minB (rs.map (mvR o)) still j = minB rs still (inv o j) := by
  unfold minB
  congr 1
  funext i
  rw [sgn_at18 ho hj]
def PR18 (o l' l : List Nat) : Prop := (l'.map (inv o)).Perm l
theorem plusB_mv {lay' lay : List Nat} (h : PR18 o lay' lay) (hl : ∀ j ∈ lay', j < n) (i : Nat) : plusB (rs.map (mvR o)) lay' i = plusB rs lay i := by
  unfold plusB
  rw [← h.any_eq, List.any_map, Bool.eq_iff_iff, List.any_eq_true, List.any_eq_true]
  constructor
  · rintro ⟨j, hj, e⟩
    rw [sgn_at18 ho (hl j hj)] at e
    exact ⟨j, hj, e⟩
  · rintro ⟨j, hj, e⟩
    refine ⟨j, hj, ?_⟩
    rw [sgn_at18 ho (hl j hj)]
    exact e
theorem fil_mv {left' left : List Nat} {p' p : Nat → Bool} (h : PR18 o left' left) (hp : ∀ j ∈ left', p' j = p (inv o j)) : PR18 o (left'.filter p') (left.filter p) := by
  unfold PR18
  have e : left'.filter p' = left'.filter (p ∘ inv o) := List.filter_congr hp
  rw [e, ← List.filter_map]
  exact List.Perm.filter p h
theorem nil_mv {l' l : List Nat} (h : PR18 o l' l) : l' = [] ↔ l = [] := by
  have := List.Perm.length_eq h
  rw [List.length_map] at this
  rw [← List.length_eq_zero_iff, ← List.length_eq_zero_iff, this]
inductive F2 (o : List Nat) : List (List Nat) → List (List Nat) → Prop
  | nil : F2 o [] []
  | cons {a b : List Nat} {l m : List (List Nat)} : PR18 o a b → F2 o l m → F2 o (a :: l) (b :: m)
omit ho in
theorem F2.snoc {a b : List Nat} (h : PR18 o a b) : ∀ {l m : List (List Nat)}, F2 o l m → F2 o (l ++ [a]) (m ++ [b])
  | _, _, .nil => .cons h .nil
  | _, _, .cons h1 h2 => .cons h1 (F2.snoc h h2)
omit ho in
theorem F2.sort : ∀ {l m : List (List Nat)}, F2 o l m → l.map (fun a => sortN (a.map (inv o))) = m.map sortN
  | _, _, .nil => rfl
  | _, _, .cons h1 h2 => by
    rw [List.map_cons, List.map_cons, F2.sort h2, sortN_congr h1]
omit ho in
theorem F2.len : ∀ {l m : List (List Nat)}, F2 o l m → l.length = m.length
  | _, _, .nil => rfl
  | _, _, .cons h1 h2 => congrArg (· + 1) (F2.len h2)
theorem lay_mv : ∀ (f : Nat) {made' made : List (List Nat)} {left' left : List Nat} (still : List Nat), F2 o made' made → PR18 o left' left → (∀ j ∈ left', j < n) → (layF (rs.map (mvR o)) f made' left' still).2 = (layF rs f made left still).2 ∧ F2 o (layF (rs.map (mvR o)) f made' left' still).1 (layF rs f made left still).1
  | 0, _, _, _, _, still, hm, _, _ => ⟨rfl, hm⟩
  | f + 1, made', made, left', left, still, hm, hp, hl => by
    have hf : PR18 o (left'.filter fun k => !minB (rs.map (mvR o)) still k) (left.filter fun k => !minB rs still k) := fil_mv ho hp fun j hj => by rw [minB_mv ho (hl j hj)]
    have hg : PR18 o (left'.filter (minB (rs.map (mvR o)) still)) (left.filter (minB rs still)) := fil_mv ho hp fun j hj => minB_mv ho (hl j hj) still
    unfold layF
    by_cases z : still = []
    · rw [if_pos z, if_pos z]
      refine ⟨rfl, ?_⟩
      by_cases y : left = []
      · rw [if_pos y, if_pos ((nil_mv ho hp).mpr y)]; exact hm
      · rw [if_neg y, if_neg fun q => y ((nil_mv ho hp).mp q)]; exact hm.snoc hp
    · rw [if_neg z, if_neg z]
      by_cases y : left.filter (fun k => !minB rs still k) = []
      · rw [if_pos y, if_pos ((nil_mv ho hf).mpr y)]; exact ⟨rfl, hm⟩
      · rw [if_neg y, if_neg fun q => y ((nil_mv ho hf).mp q)]
        have es : (still.filter fun i => !plusB (rs.map (mvR o)) (left'.filter fun k => !minB (rs.map (mvR o)) still k) i) = still.filter fun i => !plusB rs (left.filter fun k => !minB rs still k) i := List.filter_congr fun i _ => by
          rw [plusB_mv ho hf fun j hj => hl j (List.mem_filter.mp hj).1]
        rw [es]
        exact lay_mv f _ (hm.snoc hf) hg fun j hj => hl j (List.mem_filter.mp hj).1
theorem mv_perm {r : List Nat} (hr : RowOk r n) : (mvR o r).Perm r := by
  have := ho.map (sgn r)
  rw [row_as hr] at this
  exact this
theorem open_mv (hr : ∀ r ∈ rs, RowOk r n) : open0 (rs.map (mvR o)) = open0 rs := by
  unfold open0
  rw [List.length_map]
  refine List.filter_congr fun i hi => ?_
  have hi := List.mem_range.mp hi
  unfold openB
  rw [rowAt_mv ho hi]
  exact (mv_perm ho (rowAt_ok hr hi)).any_eq
theorem split_mv (hr : ∀ r ∈ rs, RowOk r n) : (splitM (rs.map (mvR o)) n).2 = (splitM rs n).2 ∧ F2 o (splitM (rs.map (mvR o)) n).1 (splitM rs n).1 := by
  unfold splitM
  rw [open_mv ho hr]
  refine lay_mv ho (n + 1) (open0 rs) .nil ?_ fun j hj => List.mem_range.mp hj
  unfold PR18
  rw [map_inv ho]
  exact ho
theorem still_mv (hr : ∀ r ∈ rs, RowOk r n) : Still (rs.map (mvR o)) n = Still rs n := (split_mv ho hr).1
theorem struck_mv (hr : ∀ r ∈ rs, RowOk r n) : struckM (rs.map (mvR o)) n = struckM rs n := by
  unfold struckM
  rw [List.length_map]
  congr 1
  funext S
  unfold fitB
  have e : restM (rs.map (mvR o)) S = (restM rs S).map (mvR o) := by
    unfold restM butM
    rw [List.length_map, List.map_map]
    exact List.map_congr_left fun i hi => rowAt_mv ho (List.mem_range.mp (List.mem_filter.mp hi).1)
  rw [e, still_mv ho (rest_ok hr S)]
theorem wrong_mv {p : List Nat} (hp : p.Perm (List.range n)) : wrongN (rs.map (mvR o)) (ixs o p) = wrongN rs p := by
  unfold wrongN
  rw [List.filter_map, List.length_map]
  congr 1
  refine List.filter_congr fun r _ => ?_
  show (!holdsB (mvR o r) (ixs o p)) = _
  rw [holds_mvR (perm_mem ho hp)]
theorem few_mv (hr : ∀ r ∈ rs, RowOk r n) : lwN (rs.map (mvR o)) (dotsN n) n = lwN rs (dotsN n) n := by
  obtain ⟨w, e, ⟨p, hp, ew⟩, lo⟩ := few_is (rows_mv ho hr)
  obtain ⟨w', e', ⟨p', hp', ew'⟩, lo'⟩ := few_is hr
  rw [e, e']
  have h1 := lo _ (ixs_perm ho hp')
  rw [wrong_mv ho hp'] at h1
  have h2 := lo' _ (back_perm ho hp)
  rw [← wrong_mv ho (back_perm ho hp), back_ixs ho (perm_lt ho hp)] at h2
  exact congrArg some (by omega)
end

end K18

namespace K18
open PySem PySem.Spec PyProof.Rows L2 Dw
variable [Tabs0]
theorem least_sub {p : List Nat → Bool} : ∀ (ls acc : List (List Nat)), ∃ r, ls.foldl (leastIn p) acc = acc ++ r ∧ r.Sublist ls
  | [], acc => ⟨[], (List.append_nil _).symm, List.Sublist.refl _⟩
  | l :: ls, acc => by
    rw [List.foldl_cons]
    obtain ⟨r, e, h⟩ := least_sub ls (leastIn p acc l)
    unfold leastIn at e ⊢
    split at e
    · rename_i hp
      rw [if_pos hp]
      exact ⟨l :: r, by rw [e, List.append_assoc]; rfl, h.cons_cons l⟩
    · rename_i hp
      rw [if_neg hp]
      exact ⟨r, e, h.cons l⟩
theorem least_anti {p : List Nat → Bool} : ∀ (ls acc : List (List Nat)), acc.Pairwise (fun a b => ¬ ∀ k ∈ a, k ∈ b) → (ls.foldl (leastIn p) acc).Pairwise fun a b => ¬ ∀ k ∈ a, k ∈ b
  | [], acc, h => h
  | l :: ls, acc, h => by
    rw [List.foldl_cons]
    refine least_anti ls _ ?_
    unfold leastIn
    split
    · rename_i hp
      rw [Bool.and_eq_true, Bool.not_eq_true'] at hp
      rw [List.pairwise_append]
      refine ⟨h, List.pairwise_singleton _ _, fun a ha b hb z => ?_⟩
      rw [List.mem_singleton.mp hb] at z
      have := part_iff.mpr ⟨a, ha, z⟩
      rw [hp.2] at this; cases this
    · exact h
theorem lotLe_len {a b : List Nat} (h : lotLe a b = true) : a.length ≤ b.length := by
  unfold lotLe at h
  have := of_decide_eq_true h
  rcases this with h | ⟨h, _⟩ <;> omega
theorem pw_two {α : Type} {R : α → α → Prop} {l : List α} (h : l.Pairwise R) {a b : α} (ha : a ∈ l) (hb : b ∈ l) : a = b ∨ R a b ∨ R b a := by
  obtain ⟨i, hi, rfl⟩ := List.getElem_of_mem ha
  obtain ⟨j, hj, rfl⟩ := List.getElem_of_mem hb
  rcases Nat.lt_trichotomy i j with z | z | z
  · exact .inr (.inl (List.pairwise_iff_getElem.mp h i j hi hj z))
  · subst z; exact .inl rfl
  · exact .inr (.inr (List.pairwise_iff_getElem.mp h j i hj hi z))
theorem inc_same {a b : List Nat} (ha : a.Pairwise (· < ·)) (hb : b.Pairwise (· < ·)) (h1 : ∀ k ∈ a, k ∈ b) (h2 : ∀ k ∈ b, k ∈ a) : a = b := by
  have na : a.Nodup := List.nodup_iff_pairwise_ne.mpr (ha.imp fun h => Nat.ne_of_lt h)
  have nb : b.Nodup := List.nodup_iff_pairwise_ne.mpr (hb.imp fun h => Nat.ne_of_lt h)
  have pm : a.Perm b := nodup_ext na nb fun k => ⟨h1 k, h2 k⟩
  exact pm.eq_of_pairwise (le := (· < ·)) (fun a b _ _ h1 h2 => absurd h1 (Nat.lt_asymm h2)) ha hb
theorem inc_less {a b : List Nat} (ha : a.Pairwise (· < ·)) (hb : b.Pairwise (· < ·)) (h : ∀ k ∈ a, k ∈ b) (ne : a ≠ b) : a.length < b.length := by
  have na : a.Nodup := List.nodup_iff_pairwise_ne.mpr (ha.imp fun h => Nat.ne_of_lt h)
  have nb : b.Nodup := List.nodup_iff_pairwise_ne.mpr (hb.imp fun h => Nat.ne_of_lt h)
  refine Classical.byContradiction fun z => ne (inc_same ha hb h fun k hk => ?_)
  have pm : a.Perm b := nd_perm a b na h (by omega)
  exact pm.mem_iff.mpr hk
theorem least_iff {p : List Nat → Bool} {ls : List (List Nat)} (hs : ls.Pairwise fun a b => lotLe a b = true) (hi : ∀ o ∈ ls, o.Pairwise (· < ·)) {S : List Nat} : S ∈ leastM p ls ↔ S ∈ ls ∧ p S = true ∧ ∀ q ∈ ls, p q = true → (∀ k ∈ q, k ∈ S) → q = S := by
  obtain ⟨r, e, sb⟩ := least_sub (p := p) ls []
  have e : leastM p ls = r := e
  constructor
  · intro h
    rcases least_mem h with h' | ⟨h1, h2⟩
    · simp at h'
    refine ⟨h1, h2, fun q hq pq hqS => Classical.byContradiction fun ne => ?_⟩
    have lt := inc_less (hi q hq) (hi S h1) hqS ne
    obtain ⟨t, ht, htq⟩ := least_part (acc := []) hq pq
    have ht : t ∈ leastM p ls := ht
    have htl : t ∈ ls := by
      rcases least_mem ht with h' | h'
      · simp at h'
      · exact h'.1
    have tl : t.length ≤ q.length := by
      by_cases z : t = q
      · rw [z]; exact Nat.le_refl _
      · exact Nat.le_of_lt (inc_less (hi t htl) (hi q hq) htq z)
    have pw : (leastM p ls).Pairwise fun a b => lotLe a b = true := by rw [e]; exact hs.sublist sb
    have an : (leastM p ls).Pairwise fun a b => ¬ ∀ k ∈ a, k ∈ b := least_anti ls [] List.Pairwise.nil
    rcases pw_two (pw.and an) ht h with z | ⟨_, z⟩ | ⟨z, _⟩
    · rw [z] at tl; omega
    · exact z fun k hk => hqS k (htq k hk)
    · have := lotLe_len z
      omega
  · rintro ⟨h1, h2, h3⟩
    obtain ⟨t, ht, htS⟩ := least_part (acc := []) h1 h2
    have ht : t ∈ leastM p ls := ht
    rcases least_mem ht with h' | ⟨h4, h5⟩
    · simp at h'
    · rw [← h3 t h4 h5 htS]; exact ht
theorem abv_mem {rs : List (List Nat)} {n a b : Nat} : (a, b) ∈ abovePairs rs n ↔ a < n ∧ b < n ∧ aboveB rs n a b = true := by
  unfold abovePairs
  rw [List.mem_flatMap]
  constructor
  · rintro ⟨x, hx, h⟩
    obtain ⟨y, hy, e⟩ := List.mem_map.mp h
    cases e
    obtain ⟨h1, h2⟩ := List.mem_filter.mp hy
    exact ⟨List.mem_range.mp hx, List.mem_range.mp h1, h2⟩
  · rintro ⟨h1, h2, h3⟩
    exact ⟨a, List.mem_range.mpr h1, List.mem_map.mpr ⟨b, List.mem_filter.mpr ⟨List.mem_range.mpr h2, h3⟩, rfl⟩⟩
section
variable {o : List Nat} {n : Nat} (ho : o.Perm (List.range n))
include ho
theorem idx_ixs : ∀ {p : List Nat}, (∀ a ∈ p, a < n) → ∀ {k : Nat}, k < n → (ixs o p).idxOf (o.idxOf k) = p.idxOf k
  | [], _, k, _ => rfl
  | a :: p, hp, k, hk => by
    show ((o.idxOf a) :: ixs o p).idxOf (o.idxOf k) = _
    rw [List.idxOf_cons, List.idxOf_cons, idx_ixs (fun b hb => hp b (List.mem_cons_of_mem _ hb)) hk]
    have e : (o.idxOf a == o.idxOf k) = (a == k) := by
      rw [Bool.eq_iff_iff, beq_iff_eq, beq_iff_eq]
      refine ⟨fun h => ?_, fun h => by rw [h]⟩
      rw [← inv_idx ho (hp a List.mem_cons_self), h, inv_idx ho hk]
    rw [e]
variable {rs : List (List Nat)}
theorem above_mv (hr : ∀ r ∈ rs, RowOk r n) {a b : Nat} (ha : a < n) (hb : b < n) : aboveB (rs.map (mvR o)) n (o.idxOf a) (o.idxOf b) = aboveB rs n a b := by
  rw [Bool.eq_iff_iff, above_iff (rows_mv ho hr) (idx_lt ho ha) (idx_lt ho hb), above_iff hr ha hb]
  constructor
  · intro h p hp
    have pp := (fitM_mem.mp hp).1
    have := h _ ((fit_mv1 ho pp).mpr hp)
    rwa [idx_ixs ho (perm_lt ho pp) ha, idx_ixs ho (perm_lt ho pp) hb] at this
  · intro h q hq
    obtain ⟨p, hp, rfl⟩ := List.mem_map.mp ((fit_mv ho).mem_iff.mp hq)
    have pp := (fitM_mem.mp hp).1
    rw [idx_ixs ho (perm_lt ho pp) ha, idx_ixs ho (perm_lt ho pp) hb]
    exact h p hp
omit ho in
theorem abv_nodup (rs : List (List Nat)) (n : Nat) : (abovePairs rs n).Nodup := by
  unfold abovePairs List.Nodup
  rw [List.pairwise_flatMap]
  refine ⟨fun a _ => ?_, ?_⟩
  · rw [List.pairwise_map]
    exact ((List.nodup_iff_pairwise_ne.mp List.nodup_range).sublist List.filter_sublist).imp fun {x y} h e => h (by injection e)
  · refine (List.nodup_iff_pairwise_ne.mp List.nodup_range).imp fun {a b} h x hx y hy e => h ?_
    obtain ⟨x', _, rfl⟩ := List.mem_map.mp hx
    obtain ⟨y', _, rfl⟩ := List.mem_map.mp hy
    injection e
theorem above_perm (hr : ∀ r ∈ rs, RowOk r n) : ((abovePairs (rs.map (mvR o)) n).map fun z => [inv o z.1, inv o z.2]).Perm ((abovePairs rs n).map fun z => [z.1, z.2]) := by
  refine (List.perm_ext_iff_of_nodup ?_ ?_).mpr fun q => ?_
  · unfold List.Nodup
    rw [List.pairwise_map]
    refine (List.nodup_iff_pairwise_ne.mp (abv_nodup _ n)).imp_of_mem fun {a b} ha hb ne e => ne ?_
    obtain ⟨a1, a2⟩ := a
    obtain ⟨b1, b2⟩ := b
    obtain ⟨x1, x2, _⟩ := abv_mem.mp ha
    obtain ⟨y1, y2, _⟩ := abv_mem.mp hb
    injection e with e1 e2
    injection e2 with e2 _
    rw [← idx_inv ho x1, ← idx_inv ho x2, show inv o a1 = inv o b1 from e1, show inv o a2 = inv o b2 from e2, idx_inv ho y1, idx_inv ho y2]
  · unfold List.Nodup
    rw [List.pairwise_map]
    refine (List.nodup_iff_pairwise_ne.mp (abv_nodup _ n)).imp fun {a b} ne e => ne ?_
    injection e with e1 e2
    injection e2 with e2 _
    exact Prod.ext e1 e2
  · constructor
    · intro h
      obtain ⟨⟨a, b⟩, hz, rfl⟩ := List.mem_map.mp h
      obtain ⟨h1, h2, h3⟩ := abv_mem.mp hz
      refine List.mem_map.mpr ⟨(inv o a, inv o b), abv_mem.mpr ⟨inv_lt ho h1, inv_lt ho h2, ?_⟩, rfl⟩
      rw [← above_mv ho hr (inv_lt ho h1) (inv_lt ho h2), idx_inv ho h1, idx_inv ho h2]
      exact h3
    · intro h
      obtain ⟨⟨a, b⟩, hz, rfl⟩ := List.mem_map.mp h
      obtain ⟨h1, h2, h3⟩ := abv_mem.mp hz
      refine List.mem_map.mpr ⟨(o.idxOf a, o.idxOf b), abv_mem.mpr ⟨idx_lt ho h1, idx_lt ho h2, ?_⟩, ?_⟩
      · rw [above_mv ho hr h1 h2]; exact h3
      · show [inv o (o.idxOf a), inv o (o.idxOf b)] = _
        rw [inv_idx ho h1, inv_idx ho h2]
theorem places_mv {k : Nat} (hk : k < n) : ((fitM (rs.map (mvR o)) n).map fun p => p.idxOf (o.idxOf k)).Perm ((fitM rs n).map fun p => p.idxOf k) := by
  refine ((fit_mv ho).map _).trans ?_
  rw [List.map_map]
  refine List.Perm.of_eq (List.map_congr_left fun p hp => ?_)
  exact idx_ixs ho (perm_lt ho (fitM_mem.mp hp).1) hk
omit ho in
theorem minL_perm {l m : List Nat} (h : l.Perm m) : minL l = minL m := by
  by_cases z : l = []
  · subst z
    rw [List.nil_perm.mp h]
  · have z2 : m ≠ [] := fun y => z (by subst y; exact List.perm_nil.mp h)
    obtain ⟨a1, a2⟩ := minL_mem z
    obtain ⟨b1, b2⟩ := minL_mem z2
    exact Nat.le_antisymm (a2 _ (h.mem_iff.mpr b1)) (b2 _ (h.mem_iff.mp a1))
omit ho in
theorem maxL_perm {l m : List Nat} (h : l.Perm m) : maxL l = maxL m := by
  by_cases z : l = []
  · subst z
    rw [List.nil_perm.mp h]
  · have z2 : m ≠ [] := fun y => z (by subst y; exact List.perm_nil.mp h)
    obtain ⟨a1, a2⟩ := maxL_mem z
    obtain ⟨b1, b2⟩ := maxL_mem z2
    exact Nat.le_antisymm (b2 _ (h.mem_iff.mp a1)) (a2 _ (h.mem_iff.mpr b1))
def hit (rs : List (List Nat)) (n k : Nat) (S : List Nat) : Prop := ∀ p q, p ++ k :: q ∈ fitM rs n → ∃ j ∈ S, j ∈ p
omit ho in
theorem reas_iff {k : Nat} {S : List Nat} (hr : ∀ r ∈ rs, RowOk r n) (hk : k < n) : S ∈ reasM rs n k ↔ S ∈ lots n ∧ hit rs n k S ∧ ∀ q ∈ lots n, hit rs n k q → (∀ j ∈ q, j ∈ S) → q = S := by
  unfold reasM
  rw [least_iff (lotsO_inc n) fun o h => (lots_ok n o (lotsO_mem.mp h)).inc, lotsO_mem]
  constructor
  · rintro ⟨a, b, c⟩
    exact ⟨a, (meet_iff hr hk a).mp b, fun q hq hh hs => c q (lotsO_mem.mpr hq) ((meet_iff hr hk hq).mpr hh) hs⟩
  · rintro ⟨a, b, c⟩
    exact ⟨a, (meet_iff hr hk a).mpr b, fun q hq hh hs => c q (lotsO_mem.mp hq) ((meet_iff hr hk (lotsO_mem.mp hq)).mp hh) hs⟩
def fw (o : List Nat) (n : Nat) (S : List Nat) : List Nat := (List.range n).filter fun j => decide (inv o j ∈ S)
def bk (o : List Nat) (n : Nat) (S : List Nat) : List Nat := (List.range n).filter fun a => decide (o.idxOf a ∈ S)
omit ho in
theorem fw_mem {S : List Nat} {j : Nat} : j ∈ fw o n S ↔ j < n ∧ inv o j ∈ S := by unfold fw; rw [List.mem_filter, List.mem_range, decide_eq_true_eq]
omit ho in
theorem bk_mem {S : List Nat} {a : Nat} : a ∈ bk o n S ↔ a < n ∧ o.idxOf a ∈ S := by unfold bk; rw [List.mem_filter, List.mem_range, decide_eq_true_eq]
theorem bk_fw {S : List Nat} (hS : S ∈ lots n) : bk o n (fw o n S) = S := by
  have ok := lots_ok n S hS
  refine inc_same (List.pairwise_lt_range.filter _) ok.inc (fun a ha => ?_) fun a ha => ?_
  · obtain ⟨h1, h2⟩ := bk_mem.mp ha
    have := (fw_mem.mp h2).2
    rwa [inv_idx ho h1] at this
  · have h1 := ok.lt a ha
    exact bk_mem.mpr ⟨h1, fw_mem.mpr ⟨idx_lt ho h1, by rw [inv_idx ho h1]; exact ha⟩⟩
theorem fw_bk {S : List Nat} (hS : S ∈ lots n) : fw o n (bk o n S) = S := by
  have ok := lots_ok n S hS
  refine inc_same (List.pairwise_lt_range.filter _) ok.inc (fun a ha => ?_) fun a ha => ?_
  · obtain ⟨h1, h2⟩ := fw_mem.mp ha
    have := (bk_mem.mp h2).2
    rwa [idx_inv ho h1] at this
  · have h1 := ok.lt a ha
    exact fw_mem.mpr ⟨h1, bk_mem.mpr ⟨inv_lt ho h1, by rw [idx_inv ho h1]; exact ha⟩⟩
theorem hit_mv {k : Nat} (hk : k < n) {S : List Nat} (hS : S ∈ lots n) : hit (rs.map (mvR o)) n (o.idxOf k) S ↔ hit rs n k (bk o n S) := by
  have ok := lots_ok n S hS
  constructor
  · intro h p q hf
    have pp := (fitM_mem.mp hf).1
    have h2 := (fit_mv1 ho pp).mpr hf
    have e : ixs o (p ++ k :: q) = ixs o p ++ o.idxOf k :: ixs o q := by unfold ixs; rw [List.map_append, List.map_cons]
    rw [e] at h2
    obtain ⟨j, hj, hp⟩ := h _ _ h2
    obtain ⟨a, ha, rfl⟩ := List.mem_map.mp hp
    exact ⟨a, bk_mem.mpr ⟨perm_lt ho pp a (List.mem_append_left _ ha), hj⟩, ha⟩
  · intro h p q hf
    have pp := (fitM_mem.mp hf).1
    have lt := perm_lt ho pp
    have h2 : (p ++ o.idxOf k :: q).map (inv o) ∈ fitM rs n := (fit_mv1 ho (back_perm ho pp)).mp (by rw [back_ixs ho lt]; exact hf)
    rw [List.map_append, List.map_cons, inv_idx ho hk] at h2
    obtain ⟨a, ha, hp⟩ := h _ _ h2
    obtain ⟨j, hj, rfl⟩ := List.mem_map.mp hp
    have := (bk_mem.mp ha).2
    rw [idx_inv ho (lt j (List.mem_append_left _ hj))] at this
    exact ⟨j, this, hj⟩
theorem reas_mv (hr : ∀ r ∈ rs, RowOk r n) {k : Nat} (hk : k < n) {S : List Nat} (hS : S ∈ lots n) : S ∈ reasM (rs.map (mvR o)) n (o.idxOf k) ↔ bk o n S ∈ reasM rs n k := by
  rw [reas_iff (rows_mv ho hr) (idx_lt ho hk), reas_iff hr hk]
  constructor
  · rintro ⟨_, b, c⟩
    refine ⟨lots_fil _ _, (hit_mv ho hk hS).mp b, fun q hq hh hs => ?_⟩
    have hq' : fw o n q ∈ lots n := lots_fil _ _
    have := c (fw o n q) hq' ((hit_mv ho hk hq').mpr (by rw [bk_fw ho hq]; exact hh)) fun j hj => by
      obtain ⟨h1, h2⟩ := fw_mem.mp hj
      have := (bk_mem.mp (hs _ h2)).2
      rwa [idx_inv ho h1] at this
    rw [← this, bk_fw ho hq]
  · rintro ⟨_, b, c⟩
    refine ⟨hS, (hit_mv ho hk hS).mpr b, fun q hq hh hs => ?_⟩
    have := c (bk o n q) (lots_fil _ _) ((hit_mv ho hk hq).mp hh) fun a ha => by
      obtain ⟨h1, h2⟩ := bk_mem.mp ha
      exact bk_mem.mpr ⟨h1, hs _ h2⟩
    rw [← fw_bk ho hq, this, fw_bk ho hS]
theorem sort_bk {S : List Nat} (hS : S ∈ lots n) : sortN (S.map (inv o)) = bk o n S := by
  have ok := lots_ok n S hS
  have nd : S.Nodup := List.nodup_iff_pairwise_ne.mpr (ok.inc.imp fun {a b} h => Nat.ne_of_lt h)
  refine inc_eq (sortN_inc _) ((List.pairwise_lt_range.filter _).imp fun {a b} h => Nat.le_of_lt h) ((sortN_perm _).trans ((List.perm_ext_iff_of_nodup ?_ (List.nodup_range.filter _)).mpr fun a => ?_))
  · unfold List.Nodup
    rw [List.pairwise_map]
    refine (List.nodup_iff_pairwise_ne.mp nd).imp_of_mem fun {a b} ha hb ne e => ne ?_
    rw [← idx_inv ho (ok.lt a ha), e, idx_inv ho (ok.lt b hb)]
  · rw [List.mem_map]
    constructor
    · rintro ⟨j, hj, rfl⟩
      exact bk_mem.mpr ⟨inv_lt ho (ok.lt j hj), by rw [idx_inv ho (ok.lt j hj)]; exact hj⟩
    · intro h
      obtain ⟨h1, h2⟩ := bk_mem.mp h
      exact ⟨_, h2, inv_idx ho h1⟩
omit ho in
theorem reas_nodup (rs : List (List Nat)) (n k : Nat) : (reasM rs n k).Nodup := by
  unfold reasM leastM
  obtain ⟨r, e, s⟩ := least_sub (p := meetB (headsM rs n k)) (lotsO n) []
  rw [e, List.nil_append]
  exact (lotsO_nodup n).sublist s
theorem reas_perm (hr : ∀ r ∈ rs, RowOk r n) {k : Nat} (hk : k < n) : ((reasM (rs.map (mvR o)) n (o.idxOf k)).map fun S => sortN (S.map (inv o))).Perm (reasM rs n k) := by
  have e : ((reasM (rs.map (mvR o)) n (o.idxOf k)).map fun S => sortN (S.map (inv o))) = (reasM (rs.map (mvR o)) n (o.idxOf k)).map (bk o n) := List.map_congr_left fun S hS => sort_bk ho (reas_mem hS).1
  rw [e]
  refine (List.perm_ext_iff_of_nodup ?_ (reas_nodup _ _ _)).mpr fun q => ?_
  · unfold List.Nodup
    rw [List.pairwise_map]
    refine (List.nodup_iff_pairwise_ne.mp (reas_nodup _ n _)).imp_of_mem fun {a b} ha hb ne e => ne ?_
    rw [← fw_bk ho (reas_mem ha).1, e, fw_bk ho (reas_mem hb).1]
  · constructor
    · intro h
      obtain ⟨S, hS, rfl⟩ := List.mem_map.mp h
      exact (reas_mv ho hr hk (reas_mem hS).1).mp hS
    · intro h
      have hq := (reas_mem h).1
      refine List.mem_map.mpr ⟨fw o n q, (reas_mv ho hr hk (lots_fil _ _)).mpr ?_, bk_fw ho hq⟩
      show bk o n (fw o n q) ∈ _
      rw [bk_fw ho hq]; exact h
end
/-! lists in order -/
def lexLe (a b : List Nat) : Bool := decide (a ≤ b)
theorem lex_congr {l m : List (List Nat)} (h : l.Perm m) : l.mergeSort lexLe = m.mergeSort lexLe := by
  have tr : ∀ a b c : List Nat, lexLe a b = true → lexLe b c = true → lexLe a c = true := fun a b c h1 h2 => decide_eq_true (List.le_trans (of_decide_eq_true h1) (of_decide_eq_true h2))
  have tot : ∀ a b : List Nat, (lexLe a b || lexLe b a) = true := fun a b => by
    rw [Bool.or_eq_true]
    exact (List.le_total a b).imp (fun h => decide_eq_true h) fun h => decide_eq_true h
  exact List.Perm.eq_of_pairwise (le := fun a b => lexLe a b = true) (fun a b _ _ h1 h2 => List.le_antisymm (of_decide_eq_true h1) (of_decide_eq_true h2)) (List.pairwise_mergeSort tr tot l) (List.pairwise_mergeSort tr tot m) ((List.mergeSort_perm l _).trans (h.trans (List.mergeSort_perm m _).symm))
theorem py_ordT (a : List Nat) : py (.tup (ordD a)) = .tuple ((intN a).map .int) := by rw [pys_intN]; rfl
theorem py_ordL (a : List Nat) : py (.lst (ordD a)) = .list ((intN a).map .int) := by rw [pys_intN]; rfl
theorem lexT_le (a b : List Nat) : PySem.W.dataLe false (fun a => py (.tup (ordD a))) a b = lexLe a b := by
  show (!PySem.W.dataLt (py (.tup (ordD b))) (py (.tup (ordD a)))) = _
  rw [py_ordT, py_ordT, PySem.W.dataLt_tuple]
  rw [show PyProof.Rows.lexLt itemOrd (PySem.W.keyToksAll ((intN b).map .int)) (PySem.W.keyToksAll ((intN a).map .int)) = PySem.W.rowLt ((intN b).map .int) ((intN a).map .int) from rfl, PySem.W.dataLt_ints]
  unfold lexLe
  rw [Bool.eq_iff_iff, Bool.not_eq_true', decide_eq_false_iff_not, decide_eq_true_eq, intN_lt]
  exact List.not_lt
theorem lexL_le (a b : List Nat) : PySem.W.dataLe false (fun a => py (.lst (ordD a))) a b = lexLe a b := by
  show (!PySem.W.dataLt (py (.lst (ordD b))) (py (.lst (ordD a)))) = _
  rw [py_ordL, py_ordL, PySem.W.dataLt_list]
  rw [show PyProof.Rows.lexLt itemOrd (PySem.W.keyToksAll ((intN b).map .int)) (PySem.W.keyToksAll ((intN a).map .int)) = PySem.W.rowLt ((intN b).map .int) ((intN a).map .int) from rfl, PySem.W.dataLt_ints]
  unfold lexLe
  rw [Bool.eq_iff_iff, Bool.not_eq_true', decide_eq_false_iff_not, decide_eq_true_eq, intN_lt]
  exact List.not_lt
theorem ordT_alike (l : List (List Nat)) : PySem.W.AllAlike (l.map fun a => py (.tup (ordD a))) := fun d hd d' hd' => by
  obtain ⟨a, _, rfl⟩ := List.mem_map.mp hd
  obtain ⟨b, _, rfl⟩ := List.mem_map.mp hd'
  rw [py_ordT, py_ordT, PySem.W.alike]
  exact PySem.W.alike_ints _ _
theorem ordL_alike (l : List (List Nat)) : PySem.W.AllAlike (l.map fun a => py (.lst (ordD a))) := fun d hd d' hd' => by
  obtain ⟨a, _, rfl⟩ := List.mem_map.mp hd
  obtain ⟨b, _, rfl⟩ := List.mem_map.mp hd'
  rw [py_ordL, py_ordL, PySem.W.alike]
  exact PySem.W.alike_ints _ _
theorem ordT_sortable {l : List (List Nat)} (h : ∀ a ∈ l, a ≠ []) : PySem.W.Sortable (l.map fun a => py (.tup (ordD a))) := .inl fun d hd => by
  obtain ⟨a, ha, rfl⟩ := List.mem_map.mp hd
  cases a with
  | nil => exact absurd rfl (h [] ha)
  | cons x l => exact ⟨_, _, rfl⟩
theorem ordL_sortable (l : List (List Nat)) : PySem.W.Sortable (l.map fun a => py (.lst (ordD a))) := .inr fun d hd => by
  obtain ⟨a, _, rfl⟩ := List.mem_map.mp hd
  rw [py_ordL]
  exact ⟨fun z => (nomatch z), fun xs z => (nomatch z)⟩
/-! what the law tells of a book -/
def layD (o : List Nat) (l : List (List Nat)) : D := .lst (l.map fun a => .lst (ordD (sortN (a.map (inv o)))))
def abvD (rs : List (List Nat)) (n : Nat) (o : List Nat) : D := .lst ((((abovePairs rs n).map fun z => [inv o z.1, inv o z.2]).mergeSort lexLe).map fun z => .tup (ordD z))
def plcD (rs : List (List Nat)) (n k : Nat) : D := .tup [.int (minL ((fitM rs n).map fun o => o.idxOf k) : Nat), .int (maxL ((fitM rs n).map fun o => o.idxOf k) : Nat)]
def reaD (rs : List (List Nat)) (n : Nat) (o : List Nat) (k : Nat) : D := .lst ((((reasM rs n (o.idxOf k)).map fun S => sortN (S.map (inv o))).mergeSort lexLe).map fun S => .lst (ordD S))
def topD (rs : List (List Nat)) (n : Nat) : List D := [.int (countM rs n : Nat), .tup (ordD (needM rs n)), if (splitM rs n).2 = [] then .non else .tup (ordD (splitM rs n).2), .tup (ordT (struckM rs n)), optW (lwN rs (dotsN n) n)]
def restD (rs : List (List Nat)) (n : Nat) (o : List Nat) : List D := [layD o (splitM rs n).1, abvD rs n o, .lst ((List.range n).map fun k => plcD rs n (o.idxOf k))]
def shapeD (rs : List (List Nat)) (n : Nat) (o : List Nat) : List D := if Still rs n = [] then (topD rs n ++ restD rs n o) ++ (List.range n).map (reaD rs n o) else topD rs n
theorem shape_mv {rs : List (List Nat)} {n : Nat} {o o' : List Nat} (ho : o.Perm (List.range n)) (ho' : o'.Perm (List.range n)) (hr : ∀ r ∈ rs, RowOk r n) : shapeD (rs.map (mvR o)) n o = shapeD (rs.map (mvR o')) n o' := by
  have top : ∀ o : List Nat, o.Perm (List.range n) → topD (rs.map (mvR o)) n = topD rs n := fun o ho => by
    unfold topD
    rw [count_mv ho hr, need_mv ho hr, (split_mv ho hr).1, struck_mv ho hr, few_mv ho hr]
  have lay : ∀ o : List Nat, o.Perm (List.range n) → layD o (splitM (rs.map (mvR o)) n).1 = .lst (((splitM rs n).1.map sortN).map fun a => .lst (ordD a)) := fun o ho => by
    unfold layD
    rw [← F2.sort (split_mv ho hr).2, List.map_map]; rfl
  have abv : ∀ o : List Nat, o.Perm (List.range n) → abvD (rs.map (mvR o)) n o = .lst ((((abovePairs rs n).map fun z => [z.1, z.2]).mergeSort lexLe).map fun z => .tup (ordD z)) := fun o ho => by
    unfold abvD
    rw [lex_congr (above_perm ho hr)]
  have plc : ∀ o : List Nat, o.Perm (List.range n) → (List.range n).map (fun k => plcD (rs.map (mvR o)) n (o.idxOf k)) = (List.range n).map (plcD rs n) := fun o ho => List.map_congr_left fun k hk => by
    unfold plcD
    rw [minL_perm (places_mv ho (List.mem_range.mp hk)), maxL_perm (places_mv ho (List.mem_range.mp hk))]
  have rea : ∀ o : List Nat, o.Perm (List.range n) → (List.range n).map (reaD (rs.map (mvR o)) n o) = (List.range n).map fun k => .lst (((reasM rs n k).mergeSort lexLe).map fun S => .lst (ordD S)) := fun o ho => List.map_congr_left fun k hk => by
    unfold reaD
    rw [lex_congr (reas_perm ho hr (List.mem_range.mp hk))]
  unfold shapeD restD
  rw [still_mv ho hr, still_mv ho' hr, top o ho, top o' ho', lay o ho, lay o' ho', abv o ho, abv o' ho', plc o ho, plc o' ho', rea o ho, rea o' ho']
theorem mv_id {rs : List (List Nat)} {n : Nat} (hr : ∀ r ∈ rs, RowOk r n) : rs.map (mvR (List.range n)) = rs := by
  conv => rhs; rw [← List.map_id rs]
  exact List.map_congr_left fun r h => row_as (hr r h)

end K18

namespace K18
open PySem PySem.Spec PyProof.Rows L2 Dw
variable [Tabs0]
theorem flat_fit {rs : List (List Nat)} {n : Nat} (hr : ∀ r ∈ rs, RowOk r n) (hs : Still rs n = []) : (splitM rs n).1.flatten ∈ fitM rs n := by
  have h := sgnOk hr
  rcases layF_end h.1 (n + 1) [] (List.range n) (open0 rs) (layI_0 rs n) (by rw [List.length_range]; omega) with ⟨ls, e, hh⟩ | ⟨ls, lf, st, e, h1, hh, h2⟩
  · have e : splitM rs n = (ls, []) := e
    obtain ⟨w1, w2⟩ := lay_fits h.1 hh (g := fun l => l) (fun l => .refl _)
    have ew : walked (fun l => l) ls = ls.flatten := by unfold walked; rw [List.map_id']
    rw [e]
    rw [ew] at w1 w2
    exact fitM_mem.mpr ⟨w1, all_rows.mpr w2⟩
  · have e : splitM rs n = (ls, st) := e
    have : Still rs n = st := by unfold Still; rw [e]
    exact absurd (this.symm.trans hs) h1
theorem flat_most {α β : Type} {f : α → List β} {m : Nat} : ∀ {l : List α}, (∀ a ∈ l, (f a).length ≤ m) → (l.flatMap f).length ≤ l.length * m
  | [], _ => by simp
  | a :: l, h => by
    rw [List.flatMap_cons, List.length_append, List.length_cons, Nat.succ_mul]
    have h1 := h a List.mem_cons_self
    have h2 := flat_most (l := l) fun b hb => h b (List.mem_cons_of_mem _ hb)
    omega
theorem abv_len (rs : List (List Nat)) (n : Nat) : (abovePairs rs n).length ≤ n * n := by
  unfold abovePairs
  have := flat_most (l := List.range n) (m := n) (f := fun a => ((List.range n).filter fun b => aboveB rs n a b).map fun b => (a, b)) fun a _ => by
    rw [List.length_map]
    exact Nat.le_trans (List.length_filter_le _ _) (by rw [List.length_range]; exact Nat.le_refl _)
  rw [List.length_range] at this
  exact this
theorem reas_few (rs : List (List Nat)) (n k : Nat) : (reasM rs n k).length ≤ 2 ^ n := by
  have := least_len (p := meetB (headsM rs n k)) (ls := lotsO n) (acc := [])
  rw [lotsO_len] at this
  show ((lotsO n).foldl (leastIn (meetB (headsM rs n k))) []).length ≤ _
  simpa using this
theorem ev_lidx {K : PySem.W.Frag} {Γ : Gam} {ta tb : TE} {o : List Nat} {c : Nat} (h : EvB ta Γ (ordD o)) (hb : Ev tb Γ (.int c)) (hm : c ∈ o) : Ev (tBM K "list" (rIndex K) ta (tCons tb tNil)) Γ (.int (o.idxOf c : Nat)) := fun F σ W Q g k =>
  h F σ W _ g fun a vs H s e l => by
    refine ⟨?ty, hb F σ (W.at H) _ (g.same s) fun u H2 s2 r => ?_⟩
    case ty => exact tyV_lst e
    obtain rfl : u = V.int c := r
    obtain rfl := repL_ord l
    have hl : o.idxOf c < o.length := List.idxOf_lt_length_iff.mpr hm
    refine ⟨a, _, _, o.idxOf c, _, rfl, rfl, .of (s2 _ _ e), rfl, by rw [List.all_map]; exact List.all_eq_true.mpr fun _ _ => rfl, by rw [List.getElem?_map, idx_at hm]; rfl, by simp [eqV], fun m z' hmj hz => ?_, k _ H2 (Same.trans s s2) rfl⟩
    rw [List.getElem?_map, List.getElem?_eq_getElem (by omega)] at hz
    obtain rfl := Option.some.inj hz
    have ne := idx_not hmj (by omega)
    simp [eqV]
    omega
theorem layF_len (rs : List (List Nat)) : ∀ (f : Nat) (made : List (List Nat)) (left still : List Nat), (layF rs f made left still).1.length ≤ made.length + f
  | 0, made, left, still => Nat.le_refl _
  | f + 1, made, left, still => by
    unfold layF
    by_cases z : still = []
    · rw [if_pos z]
      by_cases y : left = []
      · rw [if_pos y]; show made.length ≤ _; omega
      · rw [if_neg y]; show (made ++ [left]).length ≤ _; rw [List.length_append]; show made.length + 1 ≤ _; omega
    · rw [if_neg z]
      by_cases y : left.filter (fun k => !minB rs still k) = []
      · rw [if_pos y]; show made.length ≤ _; omega
      · rw [if_neg y]
        have := layF_len rs f (made ++ [left.filter fun k => !minB rs still k]) (left.filter (minB rs still)) (still.filter fun i => !plusB rs (left.filter fun k => !minB rs still k) i)
        rw [List.length_append] at this
        have : _ ≤ made.length + 1 + f := this
        omega
theorem dl_sortD {K : PySem.W.Frag} {Γ : Gam} {ta : TE} {α : Type} {c : α → D} {le : α → α → Bool} {Q : D → Gam → Prop} (hle : ∀ a b, PySem.W.dataLe false (fun a => py (c a)) a b = le a b)
    (h : Dl ta Γ fun d Γ1 => ∃ l : List α, d = .lst (l.map c) ∧ (∀ a ∈ l, isPy (c a) = true) ∧ PySem.W.AllAlike (l.map fun a => py (c a)) ∧ PySem.W.Sortable (l.map fun a => py (c a)) ∧ (∀ a ∈ l, (py (c a)).depth ≤ 20) ∧ Q (.lst ((l.mergeSort le).map c)) Γ1) :
    Dl (tCB (rSortD K) (tCons ta tNil)) Γ Q := fun F σ W R g k => h F σ W _ g fun v W1 d Γ1 st g1 r ⟨l, e, hp, hal, hsk, hd, q⟩ => by
  subst e
  obtain ⟨a, vs, rfl, ha, na, rl⟩ := r
  have es : ((vs.zip l).map fun z => (z.1, py (c z.2))).map (·.2) = l.map fun a => py (c a) := by
    have z : ((vs.zip l).map (·.2)).map (fun a => py (c a)) = l.map fun a => py (c a) := by rw [(zip_fst rl).2]
    rw [← z, List.map_map, List.map_map]; rfl
  refine ⟨a, (vs.zip l).map fun z => (z.1, py (c z.2)), rfl, .of ?_, fun b hb => ?_, by rw [es]; exact hal, by rw [es]; exact hsk, fun b hb => ?_, fun p hn => ?_⟩
  · rw [List.map_map]
    exact ((zip_fst rl).1.symm ▸ ha : W1.H a = some (.lst ((vs.zip l).map (·.1))))
  · obtain ⟨z, hz, rfl⟩ := List.mem_map.mp hb
    exact dp_of _ _ (hp _ (List.of_mem_zip hz).2) (pairs_rep rl z hz)
  · obtain ⟨z, hz, rfl⟩ := List.mem_map.mp hb
    exact hd _ (List.of_mem_zip hz).2
  · have r2 := sort_rep (f := fun a => py (c a)) (r := PySem.W.dataLe false (fun b : V × PyData => b.2)) (le := le) rl fun v w a b => hle a b
    exact k (.ref p) (W1.at _) (.lst _) Γ1 (st.trans (Stp.of_same g1.ok (same_upd hn))) (g1.same (same_upd hn)) (rep_new_lst g1.ok.dom hn r2) q
/-- x, ys, zs = e, [..], [..] -/
theorem ds_asg_3oo {K : PySem.W.Frag} {Γ : Gam} {De : DE} {i j l : Nat} {t1 t2 t3 : TE} (hjl : j ≠ l) (h : Dl t1 Γ fun d Γ1 => ∃ ds es, EvN t2 Γ1 ds ∧ EvN t3 Γ1 es ∧ De.nx (((Γ1.set i (.val d)).set j (.own ds)).set l (.own es))) : Ds (tAsg (tTup (tCons t1 (tCons t2 (tCons t3 tNil)))) (gTup K 3 (gCons (gName i) (gCons (gName j) (gCons (gName l) gNil))))) Γ De := fun F σ W Dr g k =>
  h F σ W _ g fun v W1 d Γ1 st1 g1 rd ⟨ds, es, h2, h3, q⟩ => h2 F σ W1 _ g1 fun a vs H s n e r => by
    obtain ⟨sta, ga, noa, fa, pa⟩ := g1.plus s n (by rw [e]; exact fun z => nomatch z)
    refine h3 F σ (W1.plus H a) _ ga fun b ws H' s' n' e' r' => ?_
    obtain ⟨stb, gb, nob, fb, pb⟩ := ga.plus s' n' (by rw [e']; exact fun z => nomatch z)
    have nab : b ≠ a := fun z => by
      have n' : H b = none := n'
      rw [z, e] at n'; cases n'
    have ea : H' a = some (.lst vs) := s' a _ e
    have ra : RepL ((W1.plus H a).plus H' b) ds vs := r.stp stb
    have rd2 : Rep ((W1.plus H a).plus H' b) d v := (rd.stp sta).stp stb
    have no1 : ∀ x : Addr, ¬ ownA Γ1 σ x → ¬ ownA (Γ1.set i (.val d)) (σ.set i (some v)) x := fun x no ⟨k, fs, e1, e2⟩ => by
      by_cases hk : i = k
      · subst hk
        by_cases hl : i < Γ1.length
        · rw [List.getElem?_set_self hl] at e1; cases e1
        · rw [List.getElem?_eq_none (by rw [List.length_set]; omega)] at e1; cases e1
      · rw [List.getElem?_set_ne hk] at e1 e2
        exact no ⟨k, fs, e1, e2⟩
    have g3 := gb.set (i := i) rd2
    have g4 := g3.adopt (i := j) (.inl (.inr rfl)) fa pa ea ra (no1 a noa)
    have nob2 : ¬ ownA ((Γ1.set i (.val d)).set j (.own ds)) ((σ.set i (some v)).set j (some (.ref a))) b := fun ⟨k, fs, e1, e2⟩ => by
      by_cases hk : k = j
      · rw [hk] at e1 e2
        have hl : j < ((Γ1.set i (.val d)).set j (Sl.own ds)).length := (List.getElem?_eq_some_iff.mp e1).1
        rw [List.length_set, List.length_set] at hl
        rw [List.getElem?_set_self (by rw [List.length_set, ← gb.len]; exact hl)] at e2
        cases e2
        exact nab rfl
      · rw [List.getElem?_set_ne (Ne.symm hk)] at e1 e2
        exact no1 b nob ⟨k, fs, e1, e2⟩
    have g5 := g4.adopt (i := l) (.inr rfl) fb pb e' r' nob2
    refine ⟨Nat.le_trans (show 3 ≤ 100000 by decide) (by decide), fun p hp => ?_⟩
    exact ⟨p, [v, .ref a, .ref b], rfl, TupAt.sq (.mk upd_same), rfl, v, [.ref a, .ref b], rfl, .ref a, [.ref b], rfl, .ref b, [], rfl, rfl, k.nx _ (((W1.plus H a).plus H' b).at _) _ (((st1.trans sta).trans stb).trans (Stp.of_same gb.ok (same_upd hp))) (g5.same (same_upd hp)) q⟩
def spShape (C : Addr) : Spc where
  ty := Bk × List Nat
  args := fun x => [.tag (bookD C x.1.1 x.1.2), .lst (ordD x.2)]
  ok := fun x => BookOk x.1.1 x.1.2 ∧ x.1.2.length ≤ 10 ∧ x.2.Perm (List.range x.1.1.length)
  rel := fun x d => d = .lst (shapeD x.1.2 x.1.1.length (ixs x.2 (List.range x.1.1.length)))
def spRight18 : Spc where
  ty := Unit
  args := fun _ => [.purse]
  ok := fun _ => True
  rel := fun _ d => d = .bl true
theorem back_spots {sp : List Nat} {n : Nat} (hs : sp.Perm (List.range n)) {k : Nat} (hk : k < n) : (ixs sp (List.range n)).idxOf k = sp.getD k 0 := by
  have ho : (ixs sp (List.range n)).Perm (List.range n) := ixs_perm hs (List.Perm.refl _)
  have hj : inv sp k < n := inv_lt hs hk
  have e : inv (ixs sp (List.range n)) (inv sp k) = k := by
    rw [inv_get ho hj]
    unfold ixs
    rw [List.getElem_map, List.getElem_range, idx_inv hs hk]
  have := idx_inv ho hj
  rw [e] at this
  exact this
theorem ixs_range (n : Nat) : ixs (List.range n) (List.range n) = List.range n := by
  unfold ixs
  conv => rhs; rw [← List.map_id (List.range n)]
  exact List.map_congr_left fun a ha => by
    have h := List.mem_range.mp ha
    have := idx_at18 (List.nodup_range (n := n)) (j := a) (by rw [List.length_range]; exact h)
    rw [List.getElem_range] at this
    exact this
theorem okO (o : List Nat) : dOk 1 (.lst (ordD o)) = true := dOks_map fun _ _ => rfl
theorem okT (o : List Nat) : dOk 1 (.tup (ordD o)) = true := dOks_map fun _ _ => rfl
theorem dOks_app {k : Nat} : ∀ {a b : List D}, dOks k a = true → dOks k b = true → dOks k (a ++ b) = true
  | [], _, _, h => h
  | d :: a, b, h, h' => by
    have e1 : dOks k (d :: a) = (dOk k d && dOks k a) := by cases k <;> rfl
    have e2 : dOks k (d :: (a ++ b)) = (dOk k d && dOks k (a ++ b)) := by cases k <;> rfl
    rw [e1, Bool.and_eq_true] at h
    show dOks k (d :: (a ++ b)) = true
    rw [e2, h.1, dOks_app h.2 h']; rfl
theorem ok_cons {k : Nat} {d : D} {ds : List D} (h : dOk k d = true) (h2 : dOks k ds = true) : dOks k (d :: ds) = true := by
  have e : dOks k (d :: ds) = (dOk k d && dOks k ds) := by cases k <;> rfl
  rw [e, h, h2]; rfl
theorem shape_ok (rs : List (List Nat)) (n : Nat) (o : List Nat) : dOk 3 (.lst (shapeD rs n o)) = true := by
  have t : dOks 2 (topD rs n) = true := by
    unfold topD
    refine ok_cons rfl (ok_cons (dOks_map fun _ _ => rfl) (ok_cons ?_ (ok_cons (show dOks 1 (ordT _) = true from dOks_map fun a _ => show dOks 0 (ordD a) = true from dOks_map fun _ _ => rfl) (ok_cons ?_ rfl))))
    · split
      · rfl
      · exact dOks_map fun _ _ => rfl
    · cases lwN rs (dotsN n) n <;> rfl
  have r : dOks 2 (restD rs n o) = true := ok_cons (show dOks 1 _ = true from dOks_map fun a _ => show dOks 0 (ordD _) = true from dOks_map fun _ _ => rfl) (ok_cons (show dOks 1 _ = true from dOks_map fun a _ => show dOks 0 (ordD a) = true from dOks_map fun _ _ => rfl) (ok_cons (show dOks 1 _ = true from dOks_map fun _ _ => rfl) rfl))
  have a : dOks 2 ((List.range n).map (reaD rs n o)) = true := dOks_map fun k _ => show dOks 1 _ = true from dOks_map fun a _ => show dOks 0 (ordD a) = true from dOks_map fun _ _ => rfl
  show dOks 2 (shapeD rs n o) = true
  unfold shapeD
  split
  · exact dOks_app (dOks_app t r) a
  · exact t
end K18

namespace K18
open PySem PySem.Spec PyProof.Rows L2 Dw
variable [Tabs0]
theorem d__law_shape {P : Program} {w : World} {K : PySem.W.Frag} {mg : Str → Option Value} {base : Heap} (T : Txt K w mg) (TB_all_lots : LamX.TabB base mg T.lc_all_lots T.lt_all_lots) : FnOk P w K mg base CX0 7 T.f__law_shape T.e__law_shape ["_law_log", "_law_spots"] (toSp (spShape T.C_Book)) := by
  refine fn_ok T.F__law_shape sc__law_shape (fun _ => rfl) fun cdv A outer s' H E hr => ?_
  refine ⟨_, (pss_cons (ps_set (i := 2) sc__law_shape.nd rfl (Or.inl rfl) (pe_callB (lenA K) (by rfl) T.n_len (by decide +kernel) (pa_cons (pv 1) pa_nil))) (pss_cons (ps_set (i := 3) sc__law_shape.nd rfl (Or.inl rfl) (pe_call (d_layers T) (hr.mono (by decide)) (by rfl) T.m_layers T.F_layers.kp T.b_layers .nil pass0 (pa_cons (pv 0) pa_nil))) (pss_cons (ps_set (i := 4) sc__law_shape.nd rfl (Or.inl rfl) (pe_lst (pa_cons (pe_call (d_how_many T) (hr.mono (by decide)) (by rfl) T.m_how_many T.F_how_many.kp T.b_how_many .nil pass0 (pa_cons (pv 0) pa_nil)) (pa_cons (pe_call (d_needless T) (hr.mono (by decide)) (by rfl) T.m_needless T.F_needless.kp T.b_needless .nil pass0 (pa_cons (pv 0) pa_nil)) (pa_cons (pe_call (d_left_over T) (hr.mono (by decide)) (by rfl) T.m_left_over T.F_left_over.kp T.b_left_over .nil pass0 (pa_cons (pv 0) pa_nil)) (pa_cons (pe_call (d_struck T TB_all_lots) (hr.mono (by decide)) (by rfl) T.m_struck T.F_struck.kp T.b_struck .nil pass0 (pa_cons (pv 0) pa_nil)) (pa_cons (pe_call (d_fewest_wrong T) (hr.mono (by decide)) (by rfl) T.m_fewest_wrong T.F_fewest_wrong.kp T.b_fewest_wrong .nil pass0 (pa_cons (pv 0) pa_nil)) pa_nil))))))) (pss_cons (ps_if (pt_cmpR op_isN (pv 3) pe_non (nomark _)) (pss_one (ps_ret (pv 4))) pss_nil) (pss_cons (ps_set (i := 6) sc__law_shape.nd rfl (Or.inr rfl) (pe_lc (own := [("_law_k", 5)]) rfl sc__law_shape.nd (pi_range1 (by rfl) T.n_range (pa_cons (pv 2) pa_nil)) (blkOk_by (own := [("_law_k", 5)]) (N := N__law_shape) (sc := (defScope s__law_shape)) (by decide +kernel)) (fun _ _ _ _ _ => pg_name (i := 5) sc__law_shape.nd rfl (Or.inl rfl)) (fun _ _ _ _ _ => pts_nil) (fun _ _ _ _ _ => (bmA K PySem.F.plainAttrs_list PySem.F.slot_list_index PySem.F.type_list_index (indexA K) (pv 1) (pa_cons (pv 5) pa_nil))))) (pss_cons (ps_expr (bmA K PySem.F.plainAttrs_list PySem.F.slot_list_append PySem.F.type_list_append mt_append (pv 4) (pa_cons (pe_lc (own := [("_law_layer", 7)]) rfl sc__law_shape.nd (piR K (pv 3)) (blkOk_by (own := [("_law_layer", 7)]) (N := N__law_shape) (sc := (defScope s__law_shape)) (by decide +kernel)) (fun _ _ _ _ _ => pg_name (i := 7) sc__law_shape.nd rfl (Or.inl rfl)) (fun _ _ _ _ _ => pts_nil) (fun _ _ _ _ _ => (pe_callB (sortedA K) (by rfl) T.n_sorted (by decide +kernel) (pa_cons (pe_lc (own := [("_law_k", 5)]) rfl sc__law_shape.nd (piR K (pv 7)) (blkOk_by (own := [("_law_k", 5)]) (N := N__law_shape) (sc := (relS { kind := .function, names := [(".0", .local), ("_law_layer", .local), ("sorted", .globalImplicit), ("_law_back", .free)], isGenerator := false, isCoroutine := false, more := [] } (defScope s__law_shape))) (by decide +kernel)) (fun _ _ _ _ _ => pg_name (i := 5) sc__law_shape.nd rfl (Or.inl rfl)) (fun _ _ _ _ _ => pts_nil) (fun _ _ _ _ _ => (pe_ix (ixA K) (pv 6) (pv 5) (fun _ _ => rfl)))) pa_nil)))) pa_nil))) (pss_cons (ps_expr (bmA K PySem.F.plainAttrs_list PySem.F.slot_list_append PySem.F.type_list_append mt_append (pv 4) (pa_cons (pe_callB (sortDA K hr) (by rfl) T.n_sorted (by decide +kernel) (pa_cons (pe_lc (own := [("_law_a", 8), ("_law_b", 9)]) rfl sc__law_shape.nd (piR K (pe_call (d_above T) (hr.mono (by decide)) (by rfl) T.m_above T.F_above.kp T.b_above .nil pass0 (pa_cons (pv 0) pa_nil))) (blkOk_by (own := [("_law_a", 8), ("_law_b", 9)]) (N := N__law_shape) (sc := (defScope s__law_shape)) (by decide +kernel)) (fun _ _ _ _ _ => tupA K 2 rfl (pgs_cons (pg_name (i := 8) sc__law_shape.nd rfl (Or.inl rfl)) (pgs_cons (pg_name (i := 9) sc__law_shape.nd rfl (Or.inl rfl)) pgs_nil))) (fun _ _ _ _ _ => pts_nil) (fun _ _ _ _ _ => (pe_tup (pa_cons (pe_ix (ixA K) (pv 6) (pv 8) (fun _ _ => rfl)) (pa_cons (pe_ix (ixA K) (pv 6) (pv 9) (fun _ _ => rfl)) pa_nil))))) pa_nil)) pa_nil))) (pss_cons (ps_expr (bmA K PySem.F.plainAttrs_list PySem.F.slot_list_append PySem.F.type_list_append mt_append (pv 4) (pa_cons (pe_lc (own := [("_law_k", 5)]) rfl sc__law_shape.nd (pi_range1 (by rfl) T.n_range (pa_cons (pv 2) pa_nil)) (blkOk_by (own := [("_law_k", 5)]) (N := N__law_shape) (sc := (defScope s__law_shape)) (by decide +kernel)) (fun _ _ _ _ _ => pg_name (i := 5) sc__law_shape.nd rfl (Or.inl rfl)) (fun _ _ _ _ _ => pts_nil) (fun _ _ _ _ _ => (pe_call (d_places T) (hr.mono (by decide)) (by rfl) T.m_places T.F_places.kp T.b_places .nil pass0 (pa_cons (pv 0) (pa_cons (pe_ix (ixA K) (pv 1) (pv 5) (fun _ _ => rfl)) pa_nil))))) pa_nil))) (pss_cons (ps_for PassesOwn.never rfl (pi_range1 (by rfl) T.n_range (pa_cons (pv 2) pa_nil)) (pg_name (i := 5) sc__law_shape.nd rfl (Or.inl rfl)) (pss_one (ps_expr (bmA K PySem.F.plainAttrs_list PySem.F.slot_list_append PySem.F.type_list_append mt_append (pv 4) (pa_cons (pe_callB (sortDA K hr) (by rfl) T.n_sorted (by decide +kernel) (pa_cons (pe_lc (own := [("_law_lot", 10)]) rfl sc__law_shape.nd (piR K (pe_call (d_reasons T TB_all_lots) (hr.mono (by decide)) (by rfl) T.m_reasons T.F_reasons.kp T.b_reasons .nil pass0 (pa_cons (pv 0) (pa_cons (pe_ix (ixA K) (pv 1) (pv 5) (fun _ _ => rfl)) pa_nil)))) (blkOk_by (own := [("_law_lot", 10)]) (N := N__law_shape) (sc := (defScope s__law_shape)) (by decide +kernel)) (fun _ _ _ _ _ => pg_name (i := 10) sc__law_shape.nd rfl (Or.inl rfl)) (fun _ _ _ _ _ => pts_nil) (fun _ _ _ _ _ => (pe_callB (sortedA K) (by rfl) T.n_sorted (by decide +kernel) (pa_cons (pe_lc (own := [("_law_j", 11)]) rfl sc__law_shape.nd (piR K (pv 10)) (blkOk_by (own := [("_law_j", 11)]) (N := N__law_shape) (sc := (relS { kind := .function, names := [(".0", .local), ("_law_lot", .local), ("sorted", .globalImplicit), ("_law_back", .free)], isGenerator := false, isCoroutine := false, more := [] } (defScope s__law_shape))) (by decide +kernel)) (fun _ _ _ _ _ => pg_name (i := 11) sc__law_shape.nd rfl (Or.inl rfl)) (fun _ _ _ _ _ => pts_nil) (fun _ _ _ _ _ => (pe_ix (ixA K) (pv 6) (pv 11) (fun _ _ => rfl)))) pa_nil)))) pa_nil)) pa_nil))))) (pss_one (ps_ret (pv 4)))))))))))), fun x hx => ?_⟩
  obtain ⟨⟨ls, rs⟩, sp⟩ := x
  obtain ⟨hb, h10, hsp⟩ := hx
  have hb : BookOk ls rs := hb
  have h10 : rs.length ≤ 10 := h10
  have hsp : sp.Perm (List.range ls.length) := hsp
  have h8 := hb.n8
  have lsp := olen hsp
  obtain ⟨lay, elay⟩ : ∃ lay, lay = (if (splitM rs ls.length).2 = [] then D.tup (ordT (splitM rs ls.length).1) else D.non) := ⟨_, rfl⟩
  refine ds_seq (ds_asg (Ev.dl (ev_cast (d' := .int (ls.length : Nat)) (by rw [ordD_len, lsp]) (ev_len (ds := ordD sp) (ev_var rfl).b)) ?_))
  refine ds_seq (ds_asg (Ev.dl (ev_call (s := spLay T.C_Book) (d := lay) (x := (ls, rs)) (eva_cons (ev_untag (ev_var rfl)) eva_nil) (np_book _ ls rs) hb fun d h => by rw [elay]; exact h) ?_))
  refine ds_seq (ds_asg_ownL (dla_cons (Ev.dl (ev_call (s := spMany T.C_Book) (d := .int (countM rs ls.length : Nat)) (x := (ls, rs)) (eva_cons (ev_untag (ev_var rfl)) eva_nil) (np_book _ ls rs) hb fun d h => h) (dla_cons (Ev.dl (ev_call (s := spNeed T.C_Book) (d := .tup (ordD (needM rs ls.length))) (x := (ls, rs)) (eva_cons (ev_untag (ev_var rfl)) eva_nil) (np_book _ ls rs) hb fun d h => h) (dla_cons (Ev.dl (ev_call (s := spOver T.C_Book) (d := if (splitM rs ls.length).2 = [] then .non else .tup (ordD (splitM rs ls.length).2)) (x := (ls, rs)) (eva_cons (ev_untag (ev_var rfl)) eva_nil) (np_book _ ls rs) hb fun d h => h) (dla_cons (dl_call (s := spStruck T.C_Book) (dla_cons (Ev.dl (ev_var rfl) (dla_nil ⟨(ls, rs), rfl, ⟨hb, h10⟩, fun d hd => ?_⟩))))))))))))
  have hd : d = .tup (ordT (struckM rs ls.length)) := hd
  subst hd
  refine dla_cons (Ev.dl (ev_call (s := spFewAll T.C_Book) (d := optW (lwN rs (dotsN ls.length) ls.length)) (x := (ls, rs)) (eva_cons (ev_untag (ev_var rfl)) eva_nil) (np_book _ ls rs) hb fun d h => h) (dla_nil ⟨small (show 5 ≤ 100000 by decide), ?_⟩))
  show Ds _ [.val (.tag (bookD T.C_Book ls rs)), .val (.lst (ordD sp)), .val (.int (ls.length : Nat)), .val lay, .own (topD rs ls.length), .unset, .unset, .unset, .unset, .unset, .unset, .unset] _
  by_cases hs : Still rs ls.length = []
  · have e1 : lay = .tup (ordT (splitM rs ls.length).1) := by rw [elay]; exact if_pos hs
    rw [e1]
    refine ds_seq (ds_if (EvT.dl (b := false) (evt_test (ev_op (ev_var (d := .tup (ordT (splitM rs ls.length).1)) rfl) ev_non (dr2_isN fun W v r => by obtain ⟨a, vs, ev, _⟩ := r; rw [ev]; rfl))) ⟨fun h => (nomatch h), fun _ => ds_next ?_⟩))
    obtain ⟨o, eo⟩ : ∃ o, o = ixs sp (List.range ls.length) := ⟨_, rfl⟩
    have ho : o.Perm (List.range ls.length) := by rw [eo]; exact ixs_perm hsp (List.Perm.refl _)
    have lo := olen ho
    refine ds_seq (ds_asg (Ev.dl (ev_cast (d' := .lst (ordD o)) ?c6 (EvN.ev (evn_lc1 (xs := List.range ls.length) (c := fun k : Nat => D.int k) (f := fun k => .int (sp.idxOf k : Nat)) (ei_range (n := ls.length) (eva_cons (ev_var rfl) eva_nil) (by omega)) (by rw [List.length_range]; omega) fun k hk => ⟨[5], _, dg_name, fun i hi => hi, evt_yes, ev_lidx (ev_var (d := .lst (ordD sp)) rfl).b (ev_var rfl) (o_mem hsp (List.mem_range.mp hk))⟩))) ?_))
    case c6 =>
      rw [eo]
      unfold ordD ixs
      rw [List.map_map]; rfl
    show Ds _ [.val (.tag (bookD T.C_Book ls rs)), .val (.lst (ordD sp)), .val (.int (ls.length : Nat)), .val (.tup (ordT (splitM rs ls.length).1)), .own (topD rs ls.length), .unset, .val (.lst (ordD o)), .unset, .unset, .unset, .unset, .unset] _
    have flt := (fitM_mem.mp (flat_fit hb.rows hs)).1
    have mlt : ∀ l ∈ (splitM rs ls.length).1, (∀ k ∈ l, k < ls.length) ∧ l.length ≤ ls.length := fun l hl => by
      refine ⟨fun k hk => List.mem_range.mp (flt.mem_iff.mp (List.mem_flatten.mpr ⟨l, hl, hk⟩)), ?_⟩
      have h1 := (List.sublist_flatten_of_mem hl).length_le
      rw [flt.length_eq, List.length_range] at h1
      exact h1
    have ml : (splitM rs ls.length).1.length ≤ 9 := by
      have := layF_len rs (ls.length + 1) [] (List.range ls.length) (open0 rs)
      show (layF rs (ls.length + 1) [] (List.range ls.length) (open0 rs)).1.length ≤ 9
      have : _ ≤ 0 + (ls.length + 1) := this
      omega
    have ixo : ∀ {Γ : Gam} {i k : Nat}, Γ[6]? = some (.val (.lst (ordD o))) → Γ[i]? = some (.val (.int (k : Nat))) → k < ls.length → Ev (tOp (rIx K) (tVar 6) (tVar i)) Γ (.int (inv o k : Nat)) := fun {Γ i k} h6 hi hk => ev_ix (ds := ordD o) (ev_var h6).b (ev_var (d := .int (k : Nat)) hi) (ordD_at (by rw [lo]; exact hk))
    refine ds_seq (ds_drop (dl_append ⟨_, rfl⟩ (dla_cons (Ev.dl (ev_cast (d' := layD o (splitM rs ls.length).1) ?c7 (EvN.ev (evn_lc1 (xs := (splitM rs ls.length).1) (c := fun l => D.tup (ordD l)) (f := fun l => D.lst (ordD (sortN (l.map (inv o))))) (ej_tup (ev_var (d := .tup (ordT (splitM rs ls.length).1)) rfl)) (by omega) fun l hl => ⟨[7], _, dg_name, fun i hi => hi, evt_yes, ev_cast (d := .lst (((sortN (l.map (inv o))).map fun k : Nat => (k : Int)).map D.int)) (by unfold ordD; rw [List.map_map]; rfl) (EvN.ev (evn_sortI (ns := (l.map (inv o)).map fun k : Nat => (k : Int)) (ms := (sortN (l.map (inv o))).map fun k : Nat => (k : Int)) (EvN.b (evn_castY (by rw [List.map_map, List.map_map]; rfl) (evn_lc1 (xs := l) (c := fun k : Nat => D.int k) (f := fun k => D.int (inv o k : Nat)) (ej_tup (ev_var (d := .tup (ordD l)) rfl)) (by have := (mlt l hl).2; omega) fun k hk => ⟨[5], _, dg_name, fun i hi => hi, evt_yes, ixo rfl rfl ((mlt l hl).1 k hk)⟩))) (by rw [List.length_map, List.length_map]; have := (mlt l hl).2; omega) fun ns' h1 h2 => sortN_int h1 h2))⟩))) (dla_nil ⟨_, topD rs ls.length, rfl, rfl, (by decide : 5 < sizeLine), ?_⟩)))))
    case c7 =>
      unfold layD; rfl
    show Ds _ [.val (.tag (bookD T.C_Book ls rs)), .val (.lst (ordD sp)), .val (.int (ls.length : Nat)), .val (.tup (ordT (splitM rs ls.length).1)), .own (topD rs ls.length ++ [layD o (splitM rs ls.length).1]), .unset, .val (.lst (ordD o)), .unset, .unset, .unset, .unset, .unset] _
    have al : (abovePairs rs ls.length).length ≤ 64 := Nat.le_trans (abv_len rs ls.length) (Nat.mul_le_mul h8 h8)
    refine ds_seq (ds_drop (dl_append ⟨_, rfl⟩ (dla_cons (Ev.dl (ev_cast (d' := abvD rs ls.length o) rfl (EvN.ev (ev_sortD (c := fun z => D.tup (ordD z)) (l := (abovePairs rs ls.length).map fun z => [inv o z.1, inv o z.2]) (le := lexLe) (EvN.b (evn_castY (by rw [List.map_map]; rfl) (evn_lc1 (xs := abovePairs rs ls.length) (c := fun z => D.tup [.int (z.1 : Nat), .int (z.2 : Nat)]) (f := fun z => D.tup [.int (inv o z.1 : Nat), .int (inv o z.2 : Nat)]) (ej_tup (ev_call (s := spAbove T.C_Book) (d := .tup (prsD (abovePairs rs ls.length))) (x := (ls, rs)) (eva_cons (ev_untag (ev_var rfl)) eva_nil) (np_book _ ls rs) ⟨hb, hs⟩ fun d h => h)) (by omega) fun z hz => ⟨[8] ++ [9], _, dg_tup2 dg_name dg_name, fun i hi => hi, evt_yes, ev_tup (eva_cons (ixo rfl rfl (abv_mem.mp hz).1) (eva_cons (ixo rfl rfl (abv_mem.mp hz).2.1) eva_nil)) (small (show 2 ≤ 100000 by decide))⟩))) (fun a _ => (dOk_shaped (okT a) (by decide)).1) (ordT_alike _) (ordT_sortable fun a ha => by obtain ⟨z, _, rfl⟩ := List.mem_map.mp ha; exact fun y => (nomatch y)) (fun a _ => Nat.le_trans (dOk_py 1 _ (okT a)).2.2 (by decide)) lexT_le))) (dla_nil ⟨_, topD rs ls.length ++ [layD o (splitM rs ls.length).1], rfl, rfl, (by show 6 < sizeLine; decide), ?_⟩)))))
    show Ds _ [.val (.tag (bookD T.C_Book ls rs)), .val (.lst (ordD sp)), .val (.int (ls.length : Nat)), .val (.tup (ordT (splitM rs ls.length).1)), .own (topD rs ls.length ++ [layD o (splitM rs ls.length).1] ++ [abvD rs ls.length o]), .unset, .val (.lst (ordD o)), .unset, .unset, .unset, .unset, .unset] _
    have ixs1 : ∀ {Γ : Gam} {i k : Nat}, Γ[1]? = some (.val (.lst (ordD sp))) → Γ[i]? = some (.val (.int (k : Nat))) → k < ls.length → Ev (tOp (rIx K) (tVar 1) (tVar i)) Γ (.int (o.idxOf k : Nat)) := fun {Γ i k} h6 hi hk => by
      rw [eo, back_spots hsp hk]
      exact ev_ix (ds := ordD sp) (ev_var h6).b (ev_var (d := .int (k : Nat)) hi) (ordD_at (by rw [lsp]; exact hk))
    refine ds_seq (ds_drop (dl_append ⟨_, rfl⟩ (dla_cons (Ev.dl (EvN.ev (evn_lc1 (xs := List.range ls.length) (c := fun k : Nat => D.int k) (f := fun k => plcD rs ls.length (o.idxOf k)) (ei_range (n := ls.length) (eva_cons (ev_var rfl) eva_nil) (by omega)) (by rw [List.length_range]; omega) fun k hk => ⟨[5], _, dg_name, fun i hi => hi, evt_yes, ev_call (s := spPlaces T.C_Book) (x := ((ls, rs), o.idxOf k)) (eva_cons (ev_untag (ev_var rfl)) (eva_cons (ixs1 rfl rfl (List.mem_range.mp hk)) eva_nil)) (np_bk (r := [_]) rfl) ⟨hb, idx_lt ho (List.mem_range.mp hk), hs⟩ fun d h => h⟩)) (dla_nil ⟨_, topD rs ls.length ++ [layD o (splitM rs ls.length).1] ++ [abvD rs ls.length o], rfl, rfl, (by show 7 < sizeLine; decide), ?_⟩)))))
    obtain ⟨A, eA⟩ : ∃ A, A = topD rs ls.length ++ restD rs ls.length o := ⟨_, rfl⟩
    have lA : A.length = 8 := by rw [eA]; rfl
    have eA2 : topD rs ls.length ++ [layD o (splitM rs ls.length).1] ++ [abvD rs ls.length o] ++ [.lst ((List.range ls.length).map fun k => plcD rs ls.length (o.idxOf k))] = A := by rw [eA]; rfl
    show Ds _ [.val (.tag (bookD T.C_Book ls rs)), .val (.lst (ordD sp)), .val (.int (ls.length : Nat)), .val (.tup (ordT (splitM rs ls.length).1)), .own (topD rs ls.length ++ [layD o (splitM rs ls.length).1] ++ [abvD rs ls.length o] ++ [.lst ((List.range ls.length).map fun k => plcD rs ls.length (o.idxOf k))]), .unset, .val (.lst (ordD o)), .unset, .unset, .unset, .unset, .unset] _
    rw [eA2]
    refine ds_seq (ds_for (fun xs i Γ' => xs = rng ls.length ∧ ∃ s5 : Sl, Γ' = [.val (.tag (bookD T.C_Book ls rs)), .val (.lst (ordD sp)), .val (.int (ls.length : Nat)), .val (.tup (ordT (splitM rs ls.length).1)), .own (A ++ ((List.range ls.length).take i).map (reaD rs ls.length o)), s5, .val (.lst (ordD o)), .unset, .unset, .unset, .unset, .unset])
      (di_range (dla_cons (Ev.dl (ev_var rfl) (dla_nil ⟨ls.length, rfl, by omega, ⟨rfl, _, by rw [List.take_zero, List.map_nil, List.append_nil]⟩, fun i x Γ' hx' ⟨exs, s5, e⟩ => ?_, fun Γ' ⟨exs, s5, e⟩ => ?_⟩)))))
    · subst e
      obtain ⟨hi, rfl⟩ := rng_get hx'
      have tk : (List.range ls.length).take (i + 1) = (List.range ls.length).take i ++ [i] := by rw [List.take_add_one, List.getElem?_range hi]; rfl
      have hk' : o.idxOf i < ls.length := idx_lt ho hi
      obtain ⟨R, eR⟩ : ∃ R, R = reasM rs ls.length (o.idxOf i) := ⟨_, rfl⟩
      have lR : R.length ≤ 256 := by
        rw [eR]
        exact Nat.le_trans (reas_few rs ls.length _) (Nat.pow_le_pow_right (by decide) h8 : 2 ^ ls.length ≤ 2 ^ 8)
      have Rlt : ∀ S ∈ R, LotOk S ls.length := fun S hS => lots_ok _ _ (reas_mem (by rw [← eR]; exact hS)).1
      have Rl : ∀ S ∈ R, S.length ≤ 8 := fun S hS => by have := lot_len (Rlt S hS); omega
      refine ⟨[5], _, dg_name, ds_drop (dl_append ⟨_, rfl⟩ (dla_cons (dl_sortD (c := fun a => D.lst (ordD a)) (le := lexLe) lexL_le (dl_lc (dj_tup (dl_call (s := spReasons T.C_Book) (dla_cons (Ev.dl (ev_var rfl) (dla_cons (Ev.dl (ixs1 rfl rfl hi) (dla_nil ⟨((ls, rs), o.idxOf i), rfl, ⟨hb, hk', hs⟩, fun d hd => ?_⟩))))))))))) ⟩
      have hd : d = .tup (ordT R) := by rw [eR]; exact hd
      subst hd
      refine ⟨ordT R, rfl, by rw [ordT_len]; omega, fun j acc Γ' => Γ' = [.val (.tag (bookD T.C_Book ls rs)), .val (.lst (ordD sp)), .val (.int (ls.length : Nat)), .val (.tup (ordT (splitM rs ls.length).1)), .own (A ++ ((List.range ls.length).take i).map (reaD rs ls.length o)), .val (.int (i : Nat)), .val (.lst (ordD o)), .unset, .unset, .unset, .unset, .unset] ∧ acc = (R.take j).map fun S => D.lst (ordD (sortN (S.map (inv o)))), ⟨rfl, rfl⟩, fun j x acc Γ' hx2 ⟨e, ea⟩ => ?_, fun acc Γ' ⟨e, ea⟩ => ?_⟩
      · subst e
        subst ea
        have hx2 : (R.map fun S => D.tup (ordD S))[j]? = some x := hx2
        rw [List.getElem?_map] at hx2
        obtain ⟨S, hS, rfl⟩ := Option.map_eq_some_iff.mp hx2
        have hSm := List.mem_of_getElem? hS
        refine ⟨[10], _, dg_name, fun i hi => hi, EvT.dl evt_yes ⟨fun _ => Ev.dl (ev_cast (d := .lst (((sortN (S.map (inv o))).map fun k : Nat => (k : Int)).map D.int)) (d' := D.lst (ordD (sortN (S.map (inv o))))) (by unfold ordD; rw [List.map_map]; rfl) (EvN.ev (evn_sortI (ns := (S.map (inv o)).map fun k : Nat => (k : Int)) (ms := (sortN (S.map (inv o))).map fun k : Nat => (k : Int)) (EvN.b (evn_castY (by rw [List.map_map, List.map_map]; rfl) (evn_lc1 (xs := S) (c := fun k : Nat => D.int k) (f := fun k => D.int (inv o k : Nat)) (ej_tup (ev_var (d := .tup (ordD S)) rfl)) (by have := Rl S hSm; omega) fun k hk => ⟨[11], _, dg_name, fun i hi => hi, evt_yes, ixo rfl rfl ((Rlt S hSm).lt k hk)⟩))) (by rw [List.length_map, List.length_map]; have := Rl S hSm; omega) fun ns' h1 h2 => sortN_int h1 h2))) ⟨rfl, ?_⟩, fun h => (nomatch h)⟩⟩
        rw [List.take_add_one, hS, List.map_append]; rfl
      · subst e
        subst ea
        rw [ordT_len, List.take_length]
        refine ⟨R.map fun S => sortN (S.map (inv o)), by rw [List.map_map]; rfl, fun a _ => (dOk_shaped (okO a) (by decide)).1, ordL_alike _, ordL_sortable _, fun a _ => Nat.le_trans (dOk_py 1 _ (okO a)).2.2 (by decide), ?_⟩
        refine dla_nil ⟨_, A ++ ((List.range ls.length).take i).map (reaD rs ls.length o), rfl, rfl, ?_, rfl, .val (.int (i : Nat)), ?_⟩
        · rw [List.length_append, List.length_map, List.length_take, List.length_range, lA]
          exact Nat.lt_of_le_of_lt (m := 16) (by omega) (by decide)
        · rw [tk, List.map_append, ← List.append_assoc]
          unfold reaD
          rw [eR]; rfl
    · subst e
      rw [rng_length, List.take_of_length_le (by rw [List.length_range]; omega)]
      refine ds_ret_own rfl ?_
      show D.lst _ = D.lst (shapeD rs ls.length (ixs sp (List.range ls.length)))
      unfold shapeD
      rw [if_pos hs, ← eo, ← eA]
  · have e1 : lay = .non := by rw [elay]; exact if_neg hs
    rw [e1]
    refine ds_seq (ds_if (EvT.dl (b := true) (evt_test (ev_op (ev_var (d := .non) rfl) ev_non (dr2_isN fun W v r => by rw [show v = V.non from r]; rfl))) ⟨fun _ => ?_, fun h => (nomatch h)⟩))
    refine ds_ret_own rfl ?_
    show D.lst _ = D.lst (shapeD rs ls.length (ixs sp (List.range ls.length)))
    unfold shapeD
    rw [if_neg hs]
end K18

namespace K18
open PySem PySem.Spec PyProof.Rows L2 Dw
variable [Tabs0]
theorem d__law_right {P : Program} {w : World} {K : PySem.W.Frag} {mg : Str → Option Value} {base : Heap} (T : Txt K w mg) (TB_all_lots : LamX.TabB base mg T.lc_all_lots T.lt_all_lots) : FnOk P w K mg base CX0 8 T.f__law_right T.e__law_right ["_law_purse_here"] (toSp (spRight18)) := by
  refine fn_ok T.F__law_right sc__law_right (fun _ => rfl) fun cdv A outer s' H E hr => ?_
  refine ⟨_, (pss_cons (ps_for PassesOwn.never rfl (pi_range1 (by rfl) T.n_range (pa_cons pe_int pa_nil)) (pg_name (i := 1) sc__law_right.nd rfl (Or.inl rfl)) (pss_cons (ps_asg (pe_call (d__law_book T) (hr.mono (by decide)) (by rfl) T.m__law_book T.F__law_book.kp T.b__law_book .nil pass0 (pa_cons (pv 0) (pa_cons pe_int (pa_cons pe_int (pa_cons pe_int pa_nil))))) (tupA K 2 rfl (pgs_cons (pg_name (i := 2) sc__law_right.nd rfl (Or.inl rfl)) (pgs_cons (pg_name (i := 3) sc__law_right.nd rfl (Or.inl rfl)) pgs_nil)))) (pss_cons (ps_asg (pe_tup (pa_cons (pe_callB (lenA K) (by rfl) T.n_len (by decide +kernel) (pa_cons (pv 2) pa_nil)) (pa_cons (pe_listRg rfl (by rfl) T.n_list (prg_1 (by rfl) T.n_range (pe_callB (lenA K) (by rfl) T.n_len (by decide +kernel) (pa_cons (pv 2) pa_nil)))) (pa_cons (pe_lst pa_nil) pa_nil)))) (tupA K 3 rfl (pgs_cons (pg_name (i := 4) sc__law_right.nd rfl (Or.inr rfl)) (pgs_cons (pg_name (i := 5) sc__law_right.nd rfl (Or.inl rfl)) (pgs_cons (pg_name (i := 6) sc__law_right.nd rfl (Or.inr rfl)) pgs_nil))))) (pss_cons (ps_for PassesOwn.never rfl (pi_range1 (by rfl) T.n_range (pa_cons (pv 4) pa_nil)) (pg_name (i := 7) sc__law_right.nd rfl (Or.inl rfl)) (pss_one (ps_expr (bmA K PySem.F.plainAttrs_list PySem.F.slot_list_append PySem.F.type_list_append mt_append (pv 6) (pa_cons (bmA K PySem.F.plainAttrs_list PySem.F.slot_list_pop PySem.F.type_list_pop mt_popAt (pv 5) (pa_cons (pe_call (d__law_draw T) (hr.mono (by decide)) (by rfl) T.m__law_draw T.F__law_draw.kp T.b__law_draw .nil pass0 (pa_cons (pv 0) (pa_cons (pe_callB (lenA K) (by rfl) T.n_len (by decide +kernel) (pa_cons (pv 5) pa_nil)) pa_nil))) pa_nil)) pa_nil))))) (pss_cons (ps_setLc (i := 8) (own := [("_law_row_here", 11)]) rfl sc__law_right.nd rfl rfl (sw_true rfl rfl rfl (by decide +kernel)) (piR K (pv 3)) (blkOk_by (own := [("_law_row_here", 11)]) (N := N__law_right) (sc := (defScope s__law_right)) (by decide +kernel)) (fun _ _ _ _ _ => pg_name (i := 11) sc__law_right.nd rfl (Or.inr rfl)) (fun _ _ _ _ _ => pts_nil) (fun _ _ _ _ _ => (joinA K pe_str (pe_lc (own := [("_law_k", 7)]) rfl sc__law_right.nd (pi_range1 (by rfl) T.n_range (pa_cons (pv 4) pa_nil)) (blkOk_by (own := [("_law_k", 7)]) (N := N__law_right) (sc := (relS { kind := .function, names := [(".0", .local), ("_law_row_here", .cell), ("range", .globalImplicit), ("_law_many", .free), ("_law_spots", .free)], isGenerator := false, isCoroutine := false, more := [] } (defScope s__law_right))) (by decide +kernel)) (fun _ _ _ _ _ => pg_name (i := 7) sc__law_right.nd rfl (Or.inl rfl)) (fun _ _ _ _ _ => pts_nil) (fun _ _ _ _ _ => (pe_ix (ixA K) (pv 11) (bmA K PySem.F.plainAttrs_list PySem.F.slot_list_index PySem.F.type_list_index (indexA K) (pv 6) (pa_cons (pv 7) pa_nil)) (fun _ _ => rfl))))))) (pss_cons (ps_par (i := 9) (j := 10) (by rfl) sc__law_right.nd rfl rfl (by decide) rfl rfl (pa_cons (pe_make T.mk_Book (d_Book___init__ T) (hr.mono (by decide)) (by rfl) T.m_Book T.b_Book___init__ .nil pass0 (pa_cons (pe_call (d__law_spelled T) (hr.mono (by decide)) (by rfl) T.m__law_spelled T.F__law_spelled.kp T.b__law_spelled .nil pass0 (pa_cons (pv 2) (pa_cons (pv 3) pa_nil))) pa_nil)) (pa_cons (pe_make T.mk_Book (d_Book___init__ T) (hr.mono (by decide)) (by rfl) T.m_Book T.b_Book___init__ .nil pass0 (pa_cons (pe_call (d__law_spelled T) (hr.mono (by decide)) (by rfl) T.m__law_spelled T.F__law_spelled.kp T.b__law_spelled .nil pass0 (pa_cons (pv 2) (pa_cons (pv 8) pa_nil))) pa_nil)) pa_nil)) (by rfl)) (pss_one (ps_if (pt_cmpR (neA K hr.units) (pe_call (d__law_shape T TB_all_lots) (hr.mono (by decide)) (by rfl) T.m__law_shape T.F__law_shape.kp T.b__law_shape .nil pass0 (pa_cons (pv 9) (pa_cons (pe_listRg rfl (by rfl) T.n_list (prg_1 (by rfl) T.n_range (pv 4))) pa_nil))) (pe_call (d__law_shape T TB_all_lots) (hr.mono (by decide)) (by rfl) T.m__law_shape T.F__law_shape.kp T.b__law_shape .nil pass0 (pa_cons (pv 10) (pa_cons (pv 6) pa_nil))) (nomark _)) (pss_one (ps_ret pe_bl)) pss_nil)))))))) (pss_one (ps_ret pe_bl))), fun x hx => ?_⟩
  refine ds_seq (ds_for (fun xs i Γ' => ∃ s1 s2 s3 s4 s5 s6 s7 s8 s9 s10 s11 : Sl, Γ' = [.val .purse, s1, s2, s3, s4, s5, s6, s7, s8, s9, s10, s11])
    (di_range (dla_cons (Ev.dl ev_int (dla_nil ⟨(3 : Nat), rfl, by decide, ⟨_, _, _, _, _, _, _, _, _, _, _, rfl⟩, fun t x Γ' hx' ⟨s1, s2, s3, s4, s5, s6, s7, s8, s9, s10, s11, e⟩ => ?_, fun Γ' ⟨s1, s2, s3, s4, s5, s6, s7, s8, s9, s10, s11, e⟩ => ?_⟩)))))
  · subst e
    obtain ⟨hi, rfl⟩ := rng_get hx'
    refine ⟨[1], _, dg_name, ds_seq (ds_asg_g (dl_call (s := spBook) (dla_cons (Ev.dl (ev_var rfl) (dla_cons (Ev.dl ev_int (dla_cons (Ev.dl ev_int (dla_cons (Ev.dl ev_int (dla_nil ⟨(2, 5, 7), rfl, ⟨by decide, by decide, by decide, by decide⟩, fun d hd => ?_⟩)))))))))))⟩
    obtain ⟨L, R, rfl, hb, hlo, hhi, hm⟩ := hd
    have h8 := hb.n8
    have lL := nameD_len L
    have hR := hb.rows
    have hm : R.length ≤ 7 := hm
    refine ⟨[2] ++ [3], _, dg_tup2 dg_name dg_name, ?_⟩
    have eL : ∀ {Γ : Gam}, Γ[2]? = some (.val (.lst (nameD L))) → Ev (tCB (Dw.rLen K) (tCons (tVar 2) tNil)) Γ (.int (L.length : Nat)) := fun {Γ} h2 => ev_cast (congrArg (fun n : Nat => D.int n) lL) (ev_len (ds := nameD L) (ev_var h2).b)
    refine ds_seq (ds_asg_3oo (by decide) (Ev.dl (eL rfl) ⟨ordD (List.range L.length), ordD [], evn_listRg (n := L.length) (eL rfl) (by omega), evn_lst eva_nil (Nat.zero_le _), ?_⟩))
    show Ds _ [.val .purse, .val (.int (t : Int)), .val (.lst (nameD L)), .val (.lst (nameD R)), .val (.int (L.length : Nat)), .own (ordD (List.range L.length)), .own (ordD []), s7, s8, s9, s10, s11] _
    refine ds_seq (ds_for (fun xs j Γ' => ∃ (left hid : List Nat) (s7 : Sl), Γ' = [.val .purse, .val (.int (t : Int)), .val (.lst (nameD L)), .val (.lst (nameD R)), .val (.int (L.length : Nat)), .own (ordD left), .own (ordD hid), s7, s8, s9, s10, s11] ∧ xs = rng L.length ∧ (hid ++ left).Perm (List.range L.length) ∧ hid.length = j)
      (di_range (dla_cons (Ev.dl (ev_var rfl) (dla_nil ⟨L.length, rfl, by omega, ⟨List.range L.length, [], _, rfl, rfl, .refl _, rfl⟩, fun j y Γ' hy ⟨left, hid, s7', e, exs, pm, l2⟩ => ?_, fun Γ' ⟨left, hid, s7', e, exs, pm, l2⟩ => ?_⟩)))))
    · subst e
      obtain ⟨hj, rfl⟩ := rng_get hy
      have l1 : left.length = L.length - j := by
        have := pm.length_eq
        rw [List.length_append, List.length_range, l2] at this
        omega
      refine ⟨[7], _, dg_name, ds_drop (dl_append ⟨_, rfl⟩ (dla_cons (dl_popAt ⟨_, rfl⟩ (dla_cons (dl_call (s := spDraw) (dla_cons (Ev.dl (ev_var rfl) (dla_cons (Ev.dl (ev_len (evb_own (ds := ordD left) rfl)) (dla_nil ⟨(ordD left).length, rfl, ⟨by rw [ordD_len]; omega, by rw [ordD_len]; omega⟩, fun d hd => ?_⟩)))))))))) ⟩
      obtain ⟨r, hr1, rfl⟩ := hd
      rw [ordD_len] at hr1
      have hg : left[r]? = some left[r] := List.getElem?_eq_getElem hr1
      refine dla_nil ⟨r, r, ordD left, .int left[r], rfl, rfl, by omega, by omega, ?_, ?_, dla_nil ⟨_, ordD hid, rfl, rfl, ?_, left.eraseIdx r, hid ++ [left[r]], .val (.int j), ?_, exs, ?_, ?_⟩⟩
      · rw [ordD_len]
        unfold seqIndex?
        have : ¬ ((r : Int) < 0) := by omega
        simp only [this, if_false]
        rw [if_pos (by simp; omega)]
        rfl
      · unfold ordD
        rw [List.getElem?_map, hg]; rfl
      · rw [ordD_len, l2]; exact Nat.lt_of_lt_of_le (by omega : j < 11) (by decide)
      · show [Sl.val .purse, .val (.int (t : Int)), .val (.lst (nameD L)), .val (.lst (nameD R)), .val (.int (L.length : Nat)), .own ((ordD left).eraseIdx r), .own (ordD hid ++ [.int left[r]]), .val (.int j), s8, s9, s10, s11] = _
        rw [show (ordD left).eraseIdx r = ordD (left.eraseIdx r) from erase_map _ left r, ordD_snoc]
      · rw [List.append_assoc]
        exact (List.Perm.append_left hid (perm_erase hg)).trans pm
      · rw [List.length_append, l2]; rfl
    subst e
    rw [rng_length] at l2
    have hid8 : left = [] := by
      have := pm.length_eq
      rw [List.length_append, List.length_range, l2] at this
      exact List.length_eq_zero_iff.mp (by omega)
    rw [hid8, List.append_nil] at pm
    obtain ⟨sp, esp⟩ : ∃ sp, sp = hid := ⟨_, rfl⟩
    rw [← esp] at pm
    rw [← esp]
    refine ds_freeze 6 (ds := ordD sp) rfl ?_
    obtain ⟨o, eo⟩ : ∃ o, o = ixs sp (List.range L.length) := ⟨_, rfl⟩
    have ho : o.Perm (List.range L.length) := by rw [eo]; exact ixs_perm pm (List.Perm.refl _)
    have mvok := rows_mv ho hR
    have emv : ∀ r : List Nat, (List.range L.length).map (fun k => sgn r (sp.idxOf k)) = mvR o r := fun r => by
      rw [eo]
      unfold mvR ixs
      rw [List.map_map]; rfl
    refine ds_seq (ds_asg (Ev.dl (ev_cast (d' := .lst (nameD (R.map (mvR o)))) (by unfold nameD; rw [List.map_map]; rfl) (EvN.ev (evn_lc1 (xs := R) (c := fun r => D.str (tx r)) (f := fun r => D.str (tx (mvR o r))) (ej_list (ev_var (d := .lst (nameD R)) rfl).b) (by omega) fun r hr => ⟨[11], _, dg_name, fun i hi => hi, evt_yes, ev_cast (by rw [join_chs]) (ev_join (x := Str.ofString "") (ys := (mvR o r).map ch) ev_str (EvN.b (evn_castY (es := ((mvR o r).map ch).map D.str) (by rw [← emv, List.map_map, List.map_map]; rfl) (evn_lc1 (xs := List.range L.length) (c := fun k : Nat => D.int k) (f := fun k => D.str (ch (sgn r (sp.idxOf k)))) (ei_range (n := L.length) (eva_cons (ev_var rfl) eva_nil) (by omega)) (by rw [List.length_range]; omega) fun k hk => ⟨[7], _, dg_name, fun i hi => hi, evt_yes, sgn_ev (hR r hr) h8 (idx_lt pm (List.mem_range.mp hk)) (ev_var rfl) (ev_lidx (ev_var (d := .lst (ordD sp)) rfl).b (ev_var rfl) (o_mem pm (List.mem_range.mp hk)))⟩))) (by
        rw [chs_len]
        have := (mvR_ok ho (hR r hr)).len
        show (mvR o r).length + ((mvR o r).map ch).length * 0 ≤ _
        omega))⟩))) ?_))
    show Ds _ [.val .purse, .val (.int (t : Int)), .val (.lst (nameD L)), .val (.lst (nameD R)), .val (.int (L.length : Nat)), .own (ordD left), .val (.lst (ordD sp)), s7', .val (.lst (nameD (R.map (mvR o)))), s9, s10, s11] _
    have hb2 : BookOk L (R.map (mvR o)) := ⟨hb.names, by rw [List.length_map]; omega, mvok⟩
    refine ds_seq (ds_par (dla_cons (dl_make (s := spInit) (dla_cons (Ev.dl (ev_call (s := spSpelled) (x := (L, R)) (eva_cons (ev_var rfl) (eva_cons (ev_var rfl) eva_nil)) (np_ln (np_ln (r := []) rfl)) hb fun d h => h) (dla_nil ⟨(L, R), rfl, hb, fun es hes => ?_⟩))))))
    cases hes
    refine dla_cons (dl_make (s := spInit) (dla_cons (Ev.dl (ev_call (s := spSpelled) (x := (L, R.map (mvR o))) (eva_cons (ev_var rfl) (eva_cons (ev_var rfl) eva_nil)) (np_ln (np_ln (r := []) rfl)) hb2 fun d h => h) (dla_nil ⟨(L, R.map (mvR o)), rfl, hb2, fun es hes => ?_⟩))))
    cases hes
    refine dla_nil ⟨_, _, rfl, ?_⟩
    show Ds _ [.val .purse, .val (.int (t : Int)), .val (.lst (nameD L)), .val (.lst (nameD R)), .val (.int (L.length : Nat)), .own (ordD left), .val (.lst (ordD sp)), s7', .val (.lst (nameD (R.map (mvR o)))), .val (bookD T.C_Book L R), .val (bookD T.C_Book L (R.map (mvR o))), s11] _
    refine ds_if (dlt_test (dl_op (dl_call (s := spShape T.C_Book) (dla_cons (Ev.dl (ev_tag (i := 0) rfl TgS.purse (ev_var rfl)) (dla_cons (Ev.dl (ev_cast (d' := .lst (ordD (List.range L.length))) rfl (EvN.ev (evn_listRg (n := L.length) (ev_var rfl) (by omega)))) (dla_nil ⟨((L, R), List.range L.length), rfl, ⟨hb, by show R.length ≤ 10; omega, .refl _⟩, fun d hd => ?_⟩))))))))
    have hd : d = .lst (shapeD (R.map (mvR o)) L.length o) := by
      rw [show d = .lst (shapeD R L.length (ixs (List.range L.length) (List.range L.length))) from hd, ixs_range, ← shape_mv (List.Perm.refl _) ho hR, mv_id hR]
    subst hd
    refine dl_call (s := spShape T.C_Book) (dla_cons (Ev.dl (ev_tag (i := 0) rfl TgS.purse (ev_var rfl)) (dla_cons (Ev.dl (ev_var rfl) (dla_nil ⟨((L, R.map (mvR o)), sp), rfl, ⟨hb2, by show (R.map (mvR o)).length ≤ 10; rw [List.length_map]; omega, pm⟩, fun d hd => ?_⟩)))))
    have hd : d = .lst (shapeD (R.map (mvR o)) L.length (ixs sp (List.range L.length))) := hd
    rw [← eo] at hd
    subst hd
    exact ⟨_, ne_self (shape_ok _ _ _) (by decide), _, rfl, fun h => (nomatch h), fun _ => ds_next ⟨_, _, _, _, _, _, _, _, _, _, _, rfl⟩⟩
  · subst e
    exact ds_ret (Ev.dl ev_bl rfl)

end K18

namespace K18
open PySem PySem.Spec PyProof.Rows L2 Dw
variable [Tabs0]
def spLaw (K : PySem.W.Frag) : Spc where
  ty := List Int
  args := fun ns => [.scr K (ns.map V.int)]
  ok := fun ns => ns.length ≤ 63 ∧ ∀ z ∈ ns, Builtin.Int.intBits z ≤ 1048576
  rel := fun _ d => d = .bl true
end K18

namespace K18
open PySem PySem.Spec PyProof.Rows L2 Dw
variable [Tabs0]
theorem d_law {P : Program} {w : World} {K : PySem.W.Frag} {mg : Str → Option Value} {base : Heap} (T : Txt K w mg) (TB_all_lots : LamX.TabB base mg T.lc_all_lots T.lt_all_lots) : FnG P w K mg base 9 T.f_law T.e_law ["_law_script"] (spLaw K) := by
  refine fnG_ok T.F_law sc_law (fun _ => rfl) fun cdv A outer s' H E hr hG => ?_
  refine ⟨_, (pss_one (ps_ret (pe_callB (allA K) (by rfl) T.n_all (by decide +kernel) (pa_cons (pe_lc (own := [("_law_spot", 1)]) rfl sc_law.nd (pi_range1 (by rfl) T.n_range (pa_cons (pe_callB (call_max2 rfl) (by rfl) T.n_max (by decide +kernel) (pa_cons pe_int (pa_cons (pe_callB (call_min2 rfl) (by rfl) T.n_min (by decide +kernel) (pa_cons (pe_callB (lenA K) (by rfl) T.n_len (by decide +kernel) (pa_cons (pv 0) pa_nil)) (pa_cons pe_int pa_nil))) pa_nil))) pa_nil)) (blkOk_by (own := [("_law_spot", 1)]) (N := N_law) (sc := (defScope s_law)) (by decide +kernel)) (fun _ _ _ _ _ => pg_name (i := 1) sc_law.nd rfl (Or.inl rfl)) (fun _ _ _ _ _ => pts_nil) (fun _ _ _ _ _ => (pe_call (d__law_right T TB_all_lots) (hr.mono (by decide)) (by rfl) T.m__law_right T.F__law_right.kp T.b__law_right .nil pass0 (pa_cons (pe_call (d__law_purse T) (hr.mono (by decide)) (by rfl) T.m__law_purse T.F__law_purse.kp T.b__law_purse .nil pass0 (pa_cons (pv 0) (pa_cons (pv 1) pa_nil))) pa_nil)))) pa_nil)))), fun x hx => ?_⟩
  obtain ⟨ns, rfl⟩ : ∃ l : List Int, l = x := ⟨x, rfl⟩
  obtain ⟨hn, hbit⟩ := hx
  have hn : ns.length ≤ 63 := hn
  have l0 : (ns.map V.int).length = ns.length := List.length_map ..
  have em : ∃ m : Nat, m ≤ 63 ∧ (if (if (3 : Int) < ((ns.map V.int).length : Int) then (3 : Int) else ((ns.map V.int).length : Int)) > 2 then (if (3 : Int) < ((ns.map V.int).length : Int) then (3 : Int) else ((ns.map V.int).length : Int)) else 2) = (m : Int) := by
    rw [l0]
    by_cases h : (3 : Int) < (ns.length : Int)
    · rw [if_pos h, if_pos (by decide)]; exact ⟨3, by decide, rfl⟩
    · rw [if_neg h]
      by_cases h2 : (ns.length : Int) > 2
      · rw [if_pos h2]; exact ⟨ns.length, by omega, rfl⟩
      · rw [if_neg h2]; exact ⟨2, by decide, rfl⟩
  obtain ⟨m, hm, em⟩ := em
  refine ds_ret (dl_all (dl_lc (di_range (dla_cons (Ev.dl (ev_max2 ev_int (ev_min2 (ev_lenX (ev_var rfl)) ev_int)) (dla_nil ⟨m, ?_, by omega, by rw [rng_length]; omega, fun i acc Γ' => Γ' = [.val (.scr K (ns.map V.int)), .unset] ∧ ∃ bs : List Bool, acc = bs.map D.bl ∧ bs.all id = true, ⟨rfl, [], rfl, rfl⟩, fun i x acc Γ' hx' ⟨e, bs, ea, hb⟩ => ?_, fun acc Γ' ⟨e, bs, ea, hb⟩ => ⟨bs, congrArg D.lst ea, congrArg D.bl hb⟩⟩))))))
  · rw [em]
  · subst e
    obtain ⟨hi, rfl⟩ := rng_get hx'
    refine ⟨[1], _, dg_name, fun i hi => hi, dlt_yes ⟨fun _ => dl_purse (s := spRight18) (x := ()) rfl trivial (fun d h => h) (ev_var rfl) (ev_var rfl) hn (by omega) hbit ⟨rfl, bs ++ [true], ?_, ?_⟩, fun h => nomatch h⟩⟩
    · rw [ea, List.map_append]; rfl
    · rw [List.all_append, hb]; rfl

end K18

namespace K18
open PySem PySem.Spec PyProof.Rows L2 Dw
abbrev qn_all_lots (f c : Addr) : Str := (envOfC "all_lots" (defScope s_all_lots) 0 f (.ref c)).qual ++ "<lambda>"
theorem all_mk {l : PySem.W.OpenLaw} {q : Program} {w : World} {K : PySem.W.Frag} {h : Heap} {mg : Str → Option Value} {fa : Addr} (X : K.In h) (G : h.Ns mainGlobals mg) (hfa : mg "law" = some (.ref fa)) (tb : ∀ (y : Str) (f : Addr), ((recsOf q).any fun e => e.name == y) = true → mg y = some (.ref f) → TabOf K f h)
    {C_Book : Addr}
    {f_is_name : Addr} {od_is_name an_is_name : Option Addr} {sl_is_name : Array (Option Value)} {oc_is_name kV_is_name dc_is_name pm_is_name cd_is_name ct_is_name : Value}
    {f_are_names : Addr} {od_are_names an_are_names : Option Addr} {sl_are_names : Array (Option Value)} {oc_are_names kV_are_names dc_are_names pm_are_names cd_are_names ct_are_names : Value}
    {f_is_any_row : Addr} {od_is_any_row an_is_any_row : Option Addr} {sl_is_any_row : Array (Option Value)} {oc_is_any_row kV_is_any_row dc_is_any_row pm_is_any_row cd_is_any_row ct_is_any_row : Value}
    {f_is_row : Addr} {od_is_row an_is_row : Option Addr} {sl_is_row : Array (Option Value)} {oc_is_row kV_is_row dc_is_row pm_is_row cd_is_row ct_is_row : Value}
    {f_is_whole : Addr} {od_is_whole an_is_whole : Option Addr} {sl_is_whole : Array (Option Value)} {oc_is_whole kV_is_whole dc_is_whole pm_is_whole cd_is_whole ct_is_whole : Value}
    {f_is_index : Addr} {od_is_index an_is_index : Option Addr} {sl_is_index : Array (Option Value)} {oc_is_index kV_is_index dc_is_index pm_is_index cd_is_index ct_is_index : Value}
    {f_check_rule : Addr} {od_check_rule an_check_rule : Option Addr} {sl_check_rule : Array (Option Value)} {oc_check_rule kV_check_rule dc_check_rule pm_check_rule cd_check_rule ct_check_rule : Value}
    {f_read_book : Addr} {od_read_book an_read_book : Option Addr} {sl_read_book : Array (Option Value)} {oc_read_book kV_read_book dc_read_book pm_read_book cd_read_book ct_read_book : Value}
    {f_check_book : Addr} {od_check_book an_check_book : Option Addr} {sl_check_book : Array (Option Value)} {oc_check_book kV_check_book dc_check_book pm_check_book cd_check_book ct_check_book : Value}
    {f_head_of : Addr} {od_head_of an_head_of : Option Addr} {sl_head_of : Array (Option Value)} {oc_head_of kV_head_of dc_head_of pm_head_of cd_head_of ct_head_of : Value}
    {f_rules_of : Addr} {od_rules_of an_rules_of : Option Addr} {sl_rules_of : Array (Option Value)} {oc_rules_of kV_rules_of dc_rules_of pm_rules_of cd_rules_of ct_rules_of : Value}
    {f_sides : Addr} {od_sides an_sides : Option Addr} {sl_sides : Array (Option Value)} {oc_sides kV_sides dc_sides pm_sides cd_sides ct_sides : Value}
    {f_rules_behind : Addr} {od_rules_behind an_rules_behind : Option Addr} {sl_rules_behind : Array (Option Value)} {oc_rules_behind kV_rules_behind dc_rules_behind pm_rules_behind cd_rules_behind ct_rules_behind : Value}
    {f_steps : Addr} {od_steps an_steps : Option Addr} {sl_steps : Array (Option Value)} {oc_steps kV_steps dc_steps pm_steps cd_steps ct_steps : Value}
    {f_openings : Addr} {od_openings an_openings : Option Addr} {sl_openings : Array (Option Value)} {oc_openings kV_openings dc_openings pm_openings cd_openings ct_openings : Value}
    {f_endings : Addr} {od_endings an_endings : Option Addr} {sl_endings : Array (Option Value)} {oc_endings kV_endings dc_endings pm_endings cd_endings ct_endings : Value}
    {f_count_fitting : Addr} {od_count_fitting an_count_fitting : Option Addr} {sl_count_fitting : Array (Option Value)} {oc_count_fitting kV_count_fitting dc_count_fitting pm_count_fitting cd_count_fitting ct_count_fitting : Value}
    {f_heads_above : Addr} {od_heads_above an_heads_above : Option Addr} {sl_heads_above : Array (Option Value)} {oc_heads_above kV_heads_above dc_heads_above pm_heads_above cd_heads_above ct_heads_above : Value}
    {f_has_sign : Addr} {od_has_sign an_has_sign : Option Addr} {sl_has_sign : Array (Option Value)} {oc_has_sign kV_has_sign dc_has_sign pm_has_sign cd_has_sign ct_has_sign : Value}
    {f_split : Addr} {od_split an_split : Option Addr} {sl_split : Array (Option Value)} {oc_split kV_split dc_split pm_split cd_split ct_split : Value}
    {f_some_fits : Addr} {od_some_fits an_some_fits : Option Addr} {sl_some_fits : Array (Option Value)} {oc_some_fits kV_some_fits dc_some_fits pm_some_fits cd_some_fits ct_some_fits : Value}
    {f_Book_rows : Addr} {od_Book_rows an_Book_rows : Option Addr} {sl_Book_rows : Array (Option Value)} {oc_Book_rows kV_Book_rows dc_Book_rows pm_Book_rows cd_Book_rows ct_Book_rows : Value}
    {q_Book_rows : Addr} {rest_Book_rows : List Value}
    {f_Book_names : Addr} {od_Book_names an_Book_names : Option Addr} {sl_Book_names : Array (Option Value)} {oc_Book_names kV_Book_names dc_Book_names pm_Book_names cd_Book_names ct_Book_names : Value}
    {q_Book_names : Addr} {rest_Book_names : List Value}
    {f_check_some_fits : Addr} {od_check_some_fits an_check_some_fits : Option Addr} {sl_check_some_fits : Array (Option Value)} {oc_check_some_fits kV_check_some_fits dc_check_some_fits pm_check_some_fits cd_check_some_fits ct_check_some_fits : Value}
    {f_layers : Addr} {od_layers an_layers : Option Addr} {sl_layers : Array (Option Value)} {oc_layers kV_layers dc_layers pm_layers cd_layers ct_layers : Value}
    {f_left_over : Addr} {od_left_over an_left_over : Option Addr} {sl_left_over : Array (Option Value)} {oc_left_over kV_left_over dc_left_over pm_left_over cd_left_over ct_left_over : Value}
    {f_how_many : Addr} {od_how_many an_how_many : Option Addr} {sl_how_many : Array (Option Value)} {oc_how_many kV_how_many dc_how_many pm_how_many cd_how_many ct_how_many : Value}
    {f_places : Addr} {od_places an_places : Option Addr} {sl_places : Array (Option Value)} {oc_places kV_places dc_places pm_places cd_places ct_places : Value}
    {f_all_lots : Addr} {od_all_lots an_all_lots : Option Addr} {sl_all_lots : Array (Option Value)} {oc_all_lots kV_all_lots dc_all_lots pm_all_lots ct_all_lots : Value}
    {lc_all_lots lt_all_lots : Addr} {lo_all_lots : Value} {ld_all_lots : Option Addr} {lv_all_lots : Array Value} {ls_all_lots : Array (Option Value)}
    {f_has_part : Addr} {od_has_part an_has_part : Option Addr} {sl_has_part : Array (Option Value)} {oc_has_part kV_has_part dc_has_part pm_has_part cd_has_part ct_has_part : Value}
    {f_fits_without : Addr} {od_fits_without an_fits_without : Option Addr} {sl_fits_without : Array (Option Value)} {oc_fits_without kV_fits_without dc_fits_without pm_fits_without cd_fits_without ct_fits_without : Value}
    {f_struck : Addr} {od_struck an_struck : Option Addr} {sl_struck : Array (Option Value)} {oc_struck kV_struck dc_struck pm_struck cd_struck ct_struck : Value}
    {f_count_fallen : Addr} {od_count_fallen an_count_fallen : Option Addr} {sl_count_fallen : Array (Option Value)} {oc_count_fallen kV_count_fallen dc_count_fallen pm_count_fallen cd_count_fallen ct_count_fallen : Value}
    {f_least_wrong : Addr} {od_least_wrong an_least_wrong : Option Addr} {sl_least_wrong : Array (Option Value)} {oc_least_wrong kV_least_wrong dc_least_wrong pm_least_wrong cd_least_wrong ct_least_wrong : Value}
    {f_fewest_of_all : Addr} {od_fewest_of_all an_fewest_of_all : Option Addr} {sl_fewest_of_all : Array (Option Value)} {oc_fewest_of_all kV_fewest_of_all dc_fewest_of_all pm_fewest_of_all cd_fewest_of_all ct_fewest_of_all : Value}
    {f_fewest_wrong : Addr} {od_fewest_wrong an_fewest_wrong : Option Addr} {sl_fewest_wrong : Array (Option Value)} {oc_fewest_wrong kV_fewest_wrong dc_fewest_wrong pm_fewest_wrong cd_fewest_wrong ct_fewest_wrong : Value}
    {f_meets_all : Addr} {od_meets_all an_meets_all : Option Addr} {sl_meets_all : Array (Option Value)} {oc_meets_all kV_meets_all dc_meets_all pm_meets_all cd_meets_all ct_meets_all : Value}
    {f_above : Addr} {od_above an_above : Option Addr} {sl_above : Array (Option Value)} {oc_above kV_above dc_above pm_above cd_above ct_above : Value}
    {f_least_lots : Addr} {od_least_lots an_least_lots : Option Addr} {sl_least_lots : Array (Option Value)} {oc_least_lots kV_least_lots dc_least_lots pm_least_lots cd_least_lots ct_least_lots : Value}
    {f_reasons : Addr} {od_reasons an_reasons : Option Addr} {sl_reasons : Array (Option Value)} {oc_reasons kV_reasons dc_reasons pm_reasons cd_reasons ct_reasons : Value}
    {f_needless : Addr} {od_needless an_needless : Option Addr} {sl_needless : Array (Option Value)} {oc_needless kV_needless dc_needless pm_needless cd_needless ct_needless : Value}
    {f__law_purse : Addr} {od__law_purse an__law_purse : Option Addr} {sl__law_purse : Array (Option Value)} {oc__law_purse kV__law_purse dc__law_purse pm__law_purse cd__law_purse ct__law_purse : Value}
    {f__law_draw : Addr} {od__law_draw an__law_draw : Option Addr} {sl__law_draw : Array (Option Value)} {oc__law_draw kV__law_draw dc__law_draw pm__law_draw cd__law_draw ct__law_draw : Value}
    {f__law_labels : Addr} {od__law_labels an__law_labels : Option Addr} {sl__law_labels : Array (Option Value)} {oc__law_labels kV__law_labels dc__law_labels pm__law_labels cd__law_labels ct__law_labels : Value}
    {f__law_holds : Addr} {od__law_holds an__law_holds : Option Addr} {sl__law_holds : Array (Option Value)} {oc__law_holds kV__law_holds dc__law_holds pm__law_holds cd__law_holds ct__law_holds : Value}
    {f__law_flipped : Addr} {od__law_flipped an__law_flipped : Option Addr} {sl__law_flipped : Array (Option Value)} {oc__law_flipped kV__law_flipped dc__law_flipped pm__law_flipped cd__law_flipped ct__law_flipped : Value}
    {f__law_signs : Addr} {od__law_signs an__law_signs : Option Addr} {sl__law_signs : Array (Option Value)} {oc__law_signs kV__law_signs dc__law_signs pm__law_signs cd__law_signs ct__law_signs : Value}
    {f__law_rows : Addr} {od__law_rows an__law_rows : Option Addr} {sl__law_rows : Array (Option Value)} {oc__law_rows kV__law_rows dc__law_rows pm__law_rows cd__law_rows ct__law_rows : Value}
    {f__law_spelled : Addr} {od__law_spelled an__law_spelled : Option Addr} {sl__law_spelled : Array (Option Value)} {oc__law_spelled kV__law_spelled dc__law_spelled pm__law_spelled cd__law_spelled ct__law_spelled : Value}
    {f__law_book : Addr} {od__law_book an__law_book : Option Addr} {sl__law_book : Array (Option Value)} {oc__law_book kV__law_book dc__law_book pm__law_book cd__law_book ct__law_book : Value}
    {f__law_shape : Addr} {od__law_shape an__law_shape : Option Addr} {sl__law_shape : Array (Option Value)} {oc__law_shape kV__law_shape dc__law_shape pm__law_shape cd__law_shape ct__law_shape : Value}
    {f_Book___init__ : Addr} {od_Book___init__ an_Book___init__ : Option Addr} {sl_Book___init__ : Array (Option Value)} {oc_Book___init__ kV_Book___init__ dc_Book___init__ pm_Book___init__ cd_Book___init__ ct_Book___init__ : Value}
    {f__law_right : Addr} {od__law_right an__law_right : Option Addr} {sl__law_right : Array (Option Value)} {oc__law_right kV__law_right dc__law_right pm__law_right cd__law_right ct__law_right : Value}
    {f_law : Addr} {od_law an_law : Option Addr} {sl_law : Array (Option Value)} {oc_law kV_law dc_law pm_law cd_law ct_law : Value}
    {t_LETTERS : Tok}
    {t_MOST_LETTERS : Tok}
    {t_MOST_ROWS : Tok}
    {t_MOST_RULES : Tok}
    {t_MOST_STRUCK : Tok}
    {t_SIGNS : Tok}
    (cm_Book : PySem.W.nsIn K mainGlobals "Book" = some (some (.ref C_Book)))
    (cpg_Book : PySem.W.plainGet K C_Book Str.empty = true)
    (chd_Book : PySem.W.hasDictIn K C_Book = true)
    (cpo_Book : PySem.W.plainOver K C_Book = true)
    (csa_Book : PySem.W.findIn K (.ref C_Book) "__setattr__" = some (some (.builtin "object.__setattr__")))
    (cmk_Book : PySem.W.makesIn K C_Book = true)
    (ckc_Book : PySem.W.keepIn K (.ref C_Book) = true)
    (cia_Book : PySem.W.findIn K (.ref C_Book) "__class__" = some (some (.builtin "object.__class__")))
    (cim_Book : PySem.W.mroIn K C_Book (.type "object") = some true)
    (ihn : PySem.W.specialIn K (.builtin "object.__class__") "__get__" = some (some (.builtin "getset_descriptor.__get__")))
    (iht : PySem.W.takesIn K (.builtin "object.__class__") = some true)
    (a_is_name : PySem.W.nsIn K mainGlobals "is_name" = some (some (.ref f_is_name)))
    (l_is_name : K.lookup f_is_name = some ⟨oc_is_name, od_is_name, .func (PySem.W.fnOf "is_name" "is_name" (defArgs s_is_name) (defBody s_is_name) (defScope s_is_name) .none kV_is_name dc_is_name pm_is_name an_is_name cd_is_name ct_is_name), sl_is_name⟩)
    (c_is_name : PySem.W.codeIn K cd_is_name "is_name" = true)
    (k_is_name : PySem.W.keepIn K (.ref f_is_name) = true)
    (a_are_names : PySem.W.nsIn K mainGlobals "are_names" = some (some (.ref f_are_names)))
    (l_are_names : K.lookup f_are_names = some ⟨oc_are_names, od_are_names, .func (PySem.W.fnOf "are_names" "are_names" (defArgs s_are_names) (defBody s_are_names) (defScope s_are_names) .none kV_are_names dc_are_names pm_are_names an_are_names cd_are_names ct_are_names), sl_are_names⟩)
    (c_are_names : PySem.W.codeIn K cd_are_names "are_names" = true)
    (k_are_names : PySem.W.keepIn K (.ref f_are_names) = true)
    (a_is_any_row : PySem.W.nsIn K mainGlobals "is_any_row" = some (some (.ref f_is_any_row)))
    (l_is_any_row : K.lookup f_is_any_row = some ⟨oc_is_any_row, od_is_any_row, .func (PySem.W.fnOf "is_any_row" "is_any_row" (defArgs s_is_any_row) (defBody s_is_any_row) (defScope s_is_any_row) .none kV_is_any_row dc_is_any_row pm_is_any_row an_is_any_row cd_is_any_row ct_is_any_row), sl_is_any_row⟩)
    (c_is_any_row : PySem.W.codeIn K cd_is_any_row "is_any_row" = true)
    (k_is_any_row : PySem.W.keepIn K (.ref f_is_any_row) = true)
    (a_is_row : PySem.W.nsIn K mainGlobals "is_row" = some (some (.ref f_is_row)))
    (l_is_row : K.lookup f_is_row = some ⟨oc_is_row, od_is_row, .func (PySem.W.fnOf "is_row" "is_row" (defArgs s_is_row) (defBody s_is_row) (defScope s_is_row) .none kV_is_row dc_is_row pm_is_row an_is_row cd_is_row ct_is_row), sl_is_row⟩)
    (c_is_row : PySem.W.codeIn K cd_is_row "is_row" = true)
    (k_is_row : PySem.W.keepIn K (.ref f_is_row) = true)
    (a_is_whole : PySem.W.nsIn K mainGlobals "is_whole" = some (some (.ref f_is_whole)))
    (l_is_whole : K.lookup f_is_whole = some ⟨oc_is_whole, od_is_whole, .func (PySem.W.fnOf "is_whole" "is_whole" (defArgs s_is_whole) (defBody s_is_whole) (defScope s_is_whole) .none kV_is_whole dc_is_whole pm_is_whole an_is_whole cd_is_whole ct_is_whole), sl_is_whole⟩)
    (c_is_whole : PySem.W.codeIn K cd_is_whole "is_whole" = true)
    (k_is_whole : PySem.W.keepIn K (.ref f_is_whole) = true)
    (a_is_index : PySem.W.nsIn K mainGlobals "is_index" = some (some (.ref f_is_index)))
    (l_is_index : K.lookup f_is_index = some ⟨oc_is_index, od_is_index, .func (PySem.W.fnOf "is_index" "is_index" (defArgs s_is_index) (defBody s_is_index) (defScope s_is_index) .none kV_is_index dc_is_index pm_is_index an_is_index cd_is_index ct_is_index), sl_is_index⟩)
    (c_is_index : PySem.W.codeIn K cd_is_index "is_index" = true)
    (k_is_index : PySem.W.keepIn K (.ref f_is_index) = true)
    (a_check_rule : PySem.W.nsIn K mainGlobals "check_rule" = some (some (.ref f_check_rule)))
    (l_check_rule : K.lookup f_check_rule = some ⟨oc_check_rule, od_check_rule, .func (PySem.W.fnOf "check_rule" "check_rule" (defArgs s_check_rule) (defBody s_check_rule) (defScope s_check_rule) .none kV_check_rule dc_check_rule pm_check_rule an_check_rule cd_check_rule ct_check_rule), sl_check_rule⟩)
    (c_check_rule : PySem.W.codeIn K cd_check_rule "check_rule" = true)
    (k_check_rule : PySem.W.keepIn K (.ref f_check_rule) = true)
    (a_read_book : PySem.W.nsIn K mainGlobals "read_book" = some (some (.ref f_read_book)))
    (l_read_book : K.lookup f_read_book = some ⟨oc_read_book, od_read_book, .func (PySem.W.fnOf "read_book" "read_book" (defArgs s_read_book) (defBody s_read_book) (defScope s_read_book) .none kV_read_book dc_read_book pm_read_book an_read_book cd_read_book ct_read_book), sl_read_book⟩)
    (c_read_book : PySem.W.codeIn K cd_read_book "read_book" = true)
    (k_read_book : PySem.W.keepIn K (.ref f_read_book) = true)
    (a_check_book : PySem.W.nsIn K mainGlobals "check_book" = some (some (.ref f_check_book)))
    (l_check_book : K.lookup f_check_book = some ⟨oc_check_book, od_check_book, .func (PySem.W.fnOf "check_book" "check_book" (defArgs s_check_book) (defBody s_check_book) (defScope s_check_book) .none kV_check_book dc_check_book pm_check_book an_check_book cd_check_book ct_check_book), sl_check_book⟩)
    (c_check_book : PySem.W.codeIn K cd_check_book "check_book" = true)
    (k_check_book : PySem.W.keepIn K (.ref f_check_book) = true)
    (a_head_of : PySem.W.nsIn K mainGlobals "head_of" = some (some (.ref f_head_of)))
    (l_head_of : K.lookup f_head_of = some ⟨oc_head_of, od_head_of, .func (PySem.W.fnOf "head_of" "head_of" (defArgs s_head_of) (defBody s_head_of) (defScope s_head_of) .none kV_head_of dc_head_of pm_head_of an_head_of cd_head_of ct_head_of), sl_head_of⟩)
    (c_head_of : PySem.W.codeIn K cd_head_of "head_of" = true)
    (k_head_of : PySem.W.keepIn K (.ref f_head_of) = true)
    (a_rules_of : PySem.W.nsIn K mainGlobals "rules_of" = some (some (.ref f_rules_of)))
    (l_rules_of : K.lookup f_rules_of = some ⟨oc_rules_of, od_rules_of, .func (PySem.W.fnOf "rules_of" "rules_of" (defArgs s_rules_of) (defBody s_rules_of) (defScope s_rules_of) .none kV_rules_of dc_rules_of pm_rules_of an_rules_of cd_rules_of ct_rules_of), sl_rules_of⟩)
    (c_rules_of : PySem.W.codeIn K cd_rules_of "rules_of" = true)
    (k_rules_of : PySem.W.keepIn K (.ref f_rules_of) = true)
    (a_sides : PySem.W.nsIn K mainGlobals "sides" = some (some (.ref f_sides)))
    (l_sides : K.lookup f_sides = some ⟨oc_sides, od_sides, .func (PySem.W.fnOf "sides" "sides" (defArgs s_sides) (defBody s_sides) (defScope s_sides) .none kV_sides dc_sides pm_sides an_sides cd_sides ct_sides), sl_sides⟩)
    (c_sides : PySem.W.codeIn K cd_sides "sides" = true)
    (k_sides : PySem.W.keepIn K (.ref f_sides) = true)
    (a_rules_behind : PySem.W.nsIn K mainGlobals "rules_behind" = some (some (.ref f_rules_behind)))
    (l_rules_behind : K.lookup f_rules_behind = some ⟨oc_rules_behind, od_rules_behind, .func (PySem.W.fnOf "rules_behind" "rules_behind" (defArgs s_rules_behind) (defBody s_rules_behind) (defScope s_rules_behind) .none kV_rules_behind dc_rules_behind pm_rules_behind an_rules_behind cd_rules_behind ct_rules_behind), sl_rules_behind⟩)
    (c_rules_behind : PySem.W.codeIn K cd_rules_behind "rules_behind" = true)
    (k_rules_behind : PySem.W.keepIn K (.ref f_rules_behind) = true)
    (a_steps : PySem.W.nsIn K mainGlobals "steps" = some (some (.ref f_steps)))
    (l_steps : K.lookup f_steps = some ⟨oc_steps, od_steps, .func (PySem.W.fnOf "steps" "steps" (defArgs s_steps) (defBody s_steps) (defScope s_steps) .none kV_steps dc_steps pm_steps an_steps cd_steps ct_steps), sl_steps⟩)
    (c_steps : PySem.W.codeIn K cd_steps "steps" = true)
    (k_steps : PySem.W.keepIn K (.ref f_steps) = true)
    (a_openings : PySem.W.nsIn K mainGlobals "openings" = some (some (.ref f_openings)))
    (l_openings : K.lookup f_openings = some ⟨oc_openings, od_openings, .func (PySem.W.fnOf "openings" "openings" (defArgs s_openings) (defBody s_openings) (defScope s_openings) .none kV_openings dc_openings pm_openings an_openings cd_openings ct_openings), sl_openings⟩)
    (c_openings : PySem.W.codeIn K cd_openings "openings" = true)
    (k_openings : PySem.W.keepIn K (.ref f_openings) = true)
    (a_endings : PySem.W.nsIn K mainGlobals "endings" = some (some (.ref f_endings)))
    (l_endings : K.lookup f_endings = some ⟨oc_endings, od_endings, .func (PySem.W.fnOf "endings" "endings" (defArgs s_endings) (defBody s_endings) (defScope s_endings) .none kV_endings dc_endings pm_endings an_endings cd_endings ct_endings), sl_endings⟩)
    (c_endings : PySem.W.codeIn K cd_endings "endings" = true)
    (k_endings : PySem.W.keepIn K (.ref f_endings) = true)
    (a_count_fitting : PySem.W.nsIn K mainGlobals "count_fitting" = some (some (.ref f_count_fitting)))
    (l_count_fitting : K.lookup f_count_fitting = some ⟨oc_count_fitting, od_count_fitting, .func (PySem.W.fnOf "count_fitting" "count_fitting" (defArgs s_count_fitting) (defBody s_count_fitting) (defScope s_count_fitting) .none kV_count_fitting dc_count_fitting pm_count_fitting an_count_fitting cd_count_fitting ct_count_fitting), sl_count_fitting⟩)
    (c_count_fitting : PySem.W.codeIn K cd_count_fitting "count_fitting" = true)
    (k_count_fitting : PySem.W.keepIn K (.ref f_count_fitting) = true)
    (a_heads_above : PySem.W.nsIn K mainGlobals "heads_above" = some (some (.ref f_heads_above)))
    (l_heads_above : K.lookup f_heads_above = some ⟨oc_heads_above, od_heads_above, .func (PySem.W.fnOf "heads_above" "heads_above" (defArgs s_heads_above) (defBody s_heads_above) (defScope s_heads_above) .none kV_heads_above dc_heads_above pm_heads_above an_heads_above cd_heads_above ct_heads_above), sl_heads_above⟩)
    (c_heads_above : PySem.W.codeIn K cd_heads_above "heads_above" = true)
    (k_heads_above : PySem.W.keepIn K (.ref f_heads_above) = true)
    (a_has_sign : PySem.W.nsIn K mainGlobals "has_sign" = some (some (.ref f_has_sign)))
    (l_has_sign : K.lookup f_has_sign = some ⟨oc_has_sign, od_has_sign, .func (PySem.W.fnOf "has_sign" "has_sign" (defArgs s_has_sign) (defBody s_has_sign) (defScope s_has_sign) .none kV_has_sign dc_has_sign pm_has_sign an_has_sign cd_has_sign ct_has_sign), sl_has_sign⟩)
    (c_has_sign : PySem.W.codeIn K cd_has_sign "has_sign" = true)
    (k_has_sign : PySem.W.keepIn K (.ref f_has_sign) = true)
    (a_split : PySem.W.nsIn K mainGlobals "split" = some (some (.ref f_split)))
    (l_split : K.lookup f_split = some ⟨oc_split, od_split, .func (PySem.W.fnOf "split" "split" (defArgs s_split) (defBody s_split) (defScope s_split) .none kV_split dc_split pm_split an_split cd_split ct_split), sl_split⟩)
    (c_split : PySem.W.codeIn K cd_split "split" = true)
    (k_split : PySem.W.keepIn K (.ref f_split) = true)
    (a_some_fits : PySem.W.nsIn K mainGlobals "some_fits" = some (some (.ref f_some_fits)))
    (l_some_fits : K.lookup f_some_fits = some ⟨oc_some_fits, od_some_fits, .func (PySem.W.fnOf "some_fits" "some_fits" (defArgs s_some_fits) (defBody s_some_fits) (defScope s_some_fits) .none kV_some_fits dc_some_fits pm_some_fits an_some_fits cd_some_fits ct_some_fits), sl_some_fits⟩)
    (c_some_fits : PySem.W.codeIn K cd_some_fits "some_fits" = true)
    (k_some_fits : PySem.W.keepIn K (.ref f_some_fits) = true)
    (a_Book_rows : PySem.W.findIn K (.ref C_Book) "rows" = some (some (.ref q_Book_rows)))
    (g_Book_rows : PySem.W.specialIn K (.ref q_Book_rows) "__get__" = some (some (.builtin "property.__get__")))
    (t_Book_rows : PySem.W.takesIn K (.ref q_Book_rows) = some true)
    (r_Book_rows : PySem.W.recIn K q_Book_rows "property" = some (.ref f_Book_rows :: rest_Book_rows))
    (l_Book_rows : K.lookup f_Book_rows = some ⟨oc_Book_rows, od_Book_rows, .func (PySem.W.fnOf "rows" "Book.rows" (defArgs s_Book_rows) (defBody s_Book_rows) (defScope s_Book_rows) .none kV_Book_rows dc_Book_rows pm_Book_rows an_Book_rows cd_Book_rows ct_Book_rows), sl_Book_rows⟩)
    (c_Book_rows : PySem.W.codeIn K cd_Book_rows "Book.rows" = true)
    (k_Book_rows : PySem.W.keepIn K (.ref f_Book_rows) = true)
    (a_Book_names : PySem.W.findIn K (.ref C_Book) "names" = some (some (.ref q_Book_names)))
    (g_Book_names : PySem.W.specialIn K (.ref q_Book_names) "__get__" = some (some (.builtin "property.__get__")))
    (t_Book_names : PySem.W.takesIn K (.ref q_Book_names) = some true)
    (r_Book_names : PySem.W.recIn K q_Book_names "property" = some (.ref f_Book_names :: rest_Book_names))
    (l_Book_names : K.lookup f_Book_names = some ⟨oc_Book_names, od_Book_names, .func (PySem.W.fnOf "names" "Book.names" (defArgs s_Book_names) (defBody s_Book_names) (defScope s_Book_names) .none kV_Book_names dc_Book_names pm_Book_names an_Book_names cd_Book_names ct_Book_names), sl_Book_names⟩)
    (c_Book_names : PySem.W.codeIn K cd_Book_names "Book.names" = true)
    (k_Book_names : PySem.W.keepIn K (.ref f_Book_names) = true)
    (a_check_some_fits : PySem.W.nsIn K mainGlobals "check_some_fits" = some (some (.ref f_check_some_fits)))
    (l_check_some_fits : K.lookup f_check_some_fits = some ⟨oc_check_some_fits, od_check_some_fits, .func (PySem.W.fnOf "check_some_fits" "check_some_fits" (defArgs s_check_some_fits) (defBody s_check_some_fits) (defScope s_check_some_fits) .none kV_check_some_fits dc_check_some_fits pm_check_some_fits an_check_some_fits cd_check_some_fits ct_check_some_fits), sl_check_some_fits⟩)
    (c_check_some_fits : PySem.W.codeIn K cd_check_some_fits "check_some_fits" = true)
    (k_check_some_fits : PySem.W.keepIn K (.ref f_check_some_fits) = true)
    (a_layers : PySem.W.nsIn K mainGlobals "layers" = some (some (.ref f_layers)))
    (l_layers : K.lookup f_layers = some ⟨oc_layers, od_layers, .func (PySem.W.fnOf "layers" "layers" (defArgs s_layers) (defBody s_layers) (defScope s_layers) .none kV_layers dc_layers pm_layers an_layers cd_layers ct_layers), sl_layers⟩)
    (c_layers : PySem.W.codeIn K cd_layers "layers" = true)
    (k_layers : PySem.W.keepIn K (.ref f_layers) = true)
    (a_left_over : PySem.W.nsIn K mainGlobals "left_over" = some (some (.ref f_left_over)))
    (l_left_over : K.lookup f_left_over = some ⟨oc_left_over, od_left_over, .func (PySem.W.fnOf "left_over" "left_over" (defArgs s_left_over) (defBody s_left_over) (defScope s_left_over) .none kV_left_over dc_left_over pm_left_over an_left_over cd_left_over ct_left_over), sl_left_over⟩)
    (c_left_over : PySem.W.codeIn K cd_left_over "left_over" = true)
    (k_left_over : PySem.W.keepIn K (.ref f_left_over) = true)
    (a_how_many : PySem.W.nsIn K mainGlobals "how_many" = some (some (.ref f_how_many)))
    (l_how_many : K.lookup f_how_many = some ⟨oc_how_many, od_how_many, .func (PySem.W.fnOf "how_many" "how_many" (defArgs s_how_many) (defBody s_how_many) (defScope s_how_many) .none kV_how_many dc_how_many pm_how_many an_how_many cd_how_many ct_how_many), sl_how_many⟩)
    (c_how_many : PySem.W.codeIn K cd_how_many "how_many" = true)
    (k_how_many : PySem.W.keepIn K (.ref f_how_many) = true)
    (a_places : PySem.W.nsIn K mainGlobals "places" = some (some (.ref f_places)))
    (l_places : K.lookup f_places = some ⟨oc_places, od_places, .func (PySem.W.fnOf "places" "places" (defArgs s_places) (defBody s_places) (defScope s_places) .none kV_places dc_places pm_places an_places cd_places ct_places), sl_places⟩)
    (c_places : PySem.W.codeIn K cd_places "places" = true)
    (k_places : PySem.W.keepIn K (.ref f_places) = true)
    (a_all_lots : PySem.W.nsIn K mainGlobals "all_lots" = some (some (.ref f_all_lots)))
    (l_all_lots : K.lookup f_all_lots = some ⟨oc_all_lots, od_all_lots, .func (PySem.W.fnOf "all_lots" "all_lots" (defArgs s_all_lots) (defBody s_all_lots) (defScope s_all_lots) .none kV_all_lots dc_all_lots pm_all_lots an_all_lots (.ref lc_all_lots) ct_all_lots), sl_all_lots⟩)
    (c_all_lots : PySem.W.codeIn K (.ref lc_all_lots) "all_lots" = true)
    (k_all_lots : PySem.W.keepIn K (.ref f_all_lots) = true)
    (lk_all_lots : K.lookup lc_all_lots = some ⟨lo_all_lots, ld_all_lots, .fields lv_all_lots, ls_all_lots⟩)
    (lp_all_lots : lv_all_lots[11]? = some (.ref lt_all_lots))
    (ln_all_lots : K.lookup lt_all_lots = none)
    (lr_all_lots : ((recsOf q).any fun e => e.name == "all_lots") = true)
    (a_has_part : PySem.W.nsIn K mainGlobals "has_part" = some (some (.ref f_has_part)))
    (l_has_part : K.lookup f_has_part = some ⟨oc_has_part, od_has_part, .func (PySem.W.fnOf "has_part" "has_part" (defArgs s_has_part) (defBody s_has_part) (defScope s_has_part) .none kV_has_part dc_has_part pm_has_part an_has_part cd_has_part ct_has_part), sl_has_part⟩)
    (c_has_part : PySem.W.codeIn K cd_has_part "has_part" = true)
    (k_has_part : PySem.W.keepIn K (.ref f_has_part) = true)
    (a_fits_without : PySem.W.nsIn K mainGlobals "fits_without" = some (some (.ref f_fits_without)))
    (l_fits_without : K.lookup f_fits_without = some ⟨oc_fits_without, od_fits_without, .func (PySem.W.fnOf "fits_without" "fits_without" (defArgs s_fits_without) (defBody s_fits_without) (defScope s_fits_without) .none kV_fits_without dc_fits_without pm_fits_without an_fits_without cd_fits_without ct_fits_without), sl_fits_without⟩)
    (c_fits_without : PySem.W.codeIn K cd_fits_without "fits_without" = true)
    (k_fits_without : PySem.W.keepIn K (.ref f_fits_without) = true)
    (a_struck : PySem.W.nsIn K mainGlobals "struck" = some (some (.ref f_struck)))
    (l_struck : K.lookup f_struck = some ⟨oc_struck, od_struck, .func (PySem.W.fnOf "struck" "struck" (defArgs s_struck) (defBody s_struck) (defScope s_struck) .none kV_struck dc_struck pm_struck an_struck cd_struck ct_struck), sl_struck⟩)
    (c_struck : PySem.W.codeIn K cd_struck "struck" = true)
    (k_struck : PySem.W.keepIn K (.ref f_struck) = true)
    (a_count_fallen : PySem.W.nsIn K mainGlobals "count_fallen" = some (some (.ref f_count_fallen)))
    (l_count_fallen : K.lookup f_count_fallen = some ⟨oc_count_fallen, od_count_fallen, .func (PySem.W.fnOf "count_fallen" "count_fallen" (defArgs s_count_fallen) (defBody s_count_fallen) (defScope s_count_fallen) .none kV_count_fallen dc_count_fallen pm_count_fallen an_count_fallen cd_count_fallen ct_count_fallen), sl_count_fallen⟩)
    (c_count_fallen : PySem.W.codeIn K cd_count_fallen "count_fallen" = true)
    (k_count_fallen : PySem.W.keepIn K (.ref f_count_fallen) = true)
    (a_least_wrong : PySem.W.nsIn K mainGlobals "least_wrong" = some (some (.ref f_least_wrong)))
    (l_least_wrong : K.lookup f_least_wrong = some ⟨oc_least_wrong, od_least_wrong, .func (PySem.W.fnOf "least_wrong" "least_wrong" (defArgs s_least_wrong) (defBody s_least_wrong) (defScope s_least_wrong) .none kV_least_wrong dc_least_wrong pm_least_wrong an_least_wrong cd_least_wrong ct_least_wrong), sl_least_wrong⟩)
    (c_least_wrong : PySem.W.codeIn K cd_least_wrong "least_wrong" = true)
    (k_least_wrong : PySem.W.keepIn K (.ref f_least_wrong) = true)
    (a_fewest_of_all : PySem.W.nsIn K mainGlobals "fewest_of_all" = some (some (.ref f_fewest_of_all)))
    (l_fewest_of_all : K.lookup f_fewest_of_all = some ⟨oc_fewest_of_all, od_fewest_of_all, .func (PySem.W.fnOf "fewest_of_all" "fewest_of_all" (defArgs s_fewest_of_all) (defBody s_fewest_of_all) (defScope s_fewest_of_all) .none kV_fewest_of_all dc_fewest_of_all pm_fewest_of_all an_fewest_of_all cd_fewest_of_all ct_fewest_of_all), sl_fewest_of_all⟩)
    (c_fewest_of_all : PySem.W.codeIn K cd_fewest_of_all "fewest_of_all" = true)
    (k_fewest_of_all : PySem.W.keepIn K (.ref f_fewest_of_all) = true)
    (a_fewest_wrong : PySem.W.nsIn K mainGlobals "fewest_wrong" = some (some (.ref f_fewest_wrong)))
    (l_fewest_wrong : K.lookup f_fewest_wrong = some ⟨oc_fewest_wrong, od_fewest_wrong, .func (PySem.W.fnOf "fewest_wrong" "fewest_wrong" (defArgs s_fewest_wrong) (defBody s_fewest_wrong) (defScope s_fewest_wrong) .none kV_fewest_wrong dc_fewest_wrong pm_fewest_wrong an_fewest_wrong cd_fewest_wrong ct_fewest_wrong), sl_fewest_wrong⟩)
    (c_fewest_wrong : PySem.W.codeIn K cd_fewest_wrong "fewest_wrong" = true)
    (k_fewest_wrong : PySem.W.keepIn K (.ref f_fewest_wrong) = true)
    (a_meets_all : PySem.W.nsIn K mainGlobals "meets_all" = some (some (.ref f_meets_all)))
    (l_meets_all : K.lookup f_meets_all = some ⟨oc_meets_all, od_meets_all, .func (PySem.W.fnOf "meets_all" "meets_all" (defArgs s_meets_all) (defBody s_meets_all) (defScope s_meets_all) .none kV_meets_all dc_meets_all pm_meets_all an_meets_all cd_meets_all ct_meets_all), sl_meets_all⟩)
    (c_meets_all : PySem.W.codeIn K cd_meets_all "meets_all" = true)
    (k_meets_all : PySem.W.keepIn K (.ref f_meets_all) = true)
    (a_above : PySem.W.nsIn K mainGlobals "above" = some (some (.ref f_above)))
    (l_above : K.lookup f_above = some ⟨oc_above, od_above, .func (PySem.W.fnOf "above" "above" (defArgs s_above) (defBody s_above) (defScope s_above) .none kV_above dc_above pm_above an_above cd_above ct_above), sl_above⟩)
    (c_above : PySem.W.codeIn K cd_above "above" = true)
    (k_above : PySem.W.keepIn K (.ref f_above) = true)
    (a_least_lots : PySem.W.nsIn K mainGlobals "least_lots" = some (some (.ref f_least_lots)))
    (l_least_lots : K.lookup f_least_lots = some ⟨oc_least_lots, od_least_lots, .func (PySem.W.fnOf "least_lots" "least_lots" (defArgs s_least_lots) (defBody s_least_lots) (defScope s_least_lots) .none kV_least_lots dc_least_lots pm_least_lots an_least_lots cd_least_lots ct_least_lots), sl_least_lots⟩)
    (c_least_lots : PySem.W.codeIn K cd_least_lots "least_lots" = true)
    (k_least_lots : PySem.W.keepIn K (.ref f_least_lots) = true)
    (a_reasons : PySem.W.nsIn K mainGlobals "reasons" = some (some (.ref f_reasons)))
    (l_reasons : K.lookup f_reasons = some ⟨oc_reasons, od_reasons, .func (PySem.W.fnOf "reasons" "reasons" (defArgs s_reasons) (defBody s_reasons) (defScope s_reasons) .none kV_reasons dc_reasons pm_reasons an_reasons cd_reasons ct_reasons), sl_reasons⟩)
    (c_reasons : PySem.W.codeIn K cd_reasons "reasons" = true)
    (k_reasons : PySem.W.keepIn K (.ref f_reasons) = true)
    (a_needless : PySem.W.nsIn K mainGlobals "needless" = some (some (.ref f_needless)))
    (l_needless : K.lookup f_needless = some ⟨oc_needless, od_needless, .func (PySem.W.fnOf "needless" "needless" (defArgs s_needless) (defBody s_needless) (defScope s_needless) .none kV_needless dc_needless pm_needless an_needless cd_needless ct_needless), sl_needless⟩)
    (c_needless : PySem.W.codeIn K cd_needless "needless" = true)
    (k_needless : PySem.W.keepIn K (.ref f_needless) = true)
    (a__law_purse : PySem.W.nsIn K mainGlobals "_law_purse" = some (some (.ref f__law_purse)))
    (l__law_purse : K.lookup f__law_purse = some ⟨oc__law_purse, od__law_purse, .func (PySem.W.fnOf "_law_purse" "_law_purse" (defArgs s__law_purse) (defBody s__law_purse) (defScope s__law_purse) .none kV__law_purse dc__law_purse pm__law_purse an__law_purse cd__law_purse ct__law_purse), sl__law_purse⟩)
    (c__law_purse : PySem.W.codeIn K cd__law_purse "_law_purse" = true)
    (k__law_purse : PySem.W.keepIn K (.ref f__law_purse) = true)
    (a__law_draw : PySem.W.nsIn K mainGlobals "_law_draw" = some (some (.ref f__law_draw)))
    (l__law_draw : K.lookup f__law_draw = some ⟨oc__law_draw, od__law_draw, .func (PySem.W.fnOf "_law_draw" "_law_draw" (defArgs s__law_draw) (defBody s__law_draw) (defScope s__law_draw) .none kV__law_draw dc__law_draw pm__law_draw an__law_draw cd__law_draw ct__law_draw), sl__law_draw⟩)
    (c__law_draw : PySem.W.codeIn K cd__law_draw "_law_draw" = true)
    (k__law_draw : PySem.W.keepIn K (.ref f__law_draw) = true)
    (a__law_labels : PySem.W.nsIn K mainGlobals "_law_labels" = some (some (.ref f__law_labels)))
    (l__law_labels : K.lookup f__law_labels = some ⟨oc__law_labels, od__law_labels, .func (PySem.W.fnOf "_law_labels" "_law_labels" (defArgs s__law_labels) (defBody s__law_labels) (defScope s__law_labels) .none kV__law_labels dc__law_labels pm__law_labels an__law_labels cd__law_labels ct__law_labels), sl__law_labels⟩)
    (c__law_labels : PySem.W.codeIn K cd__law_labels "_law_labels" = true)
    (k__law_labels : PySem.W.keepIn K (.ref f__law_labels) = true)
    (a__law_holds : PySem.W.nsIn K mainGlobals "_law_holds" = some (some (.ref f__law_holds)))
    (l__law_holds : K.lookup f__law_holds = some ⟨oc__law_holds, od__law_holds, .func (PySem.W.fnOf "_law_holds" "_law_holds" (defArgs s__law_holds) (defBody s__law_holds) (defScope s__law_holds) .none kV__law_holds dc__law_holds pm__law_holds an__law_holds cd__law_holds ct__law_holds), sl__law_holds⟩)
    (c__law_holds : PySem.W.codeIn K cd__law_holds "_law_holds" = true)
    (k__law_holds : PySem.W.keepIn K (.ref f__law_holds) = true)
    (a__law_flipped : PySem.W.nsIn K mainGlobals "_law_flipped" = some (some (.ref f__law_flipped)))
    (l__law_flipped : K.lookup f__law_flipped = some ⟨oc__law_flipped, od__law_flipped, .func (PySem.W.fnOf "_law_flipped" "_law_flipped" (defArgs s__law_flipped) (defBody s__law_flipped) (defScope s__law_flipped) .none kV__law_flipped dc__law_flipped pm__law_flipped an__law_flipped cd__law_flipped ct__law_flipped), sl__law_flipped⟩)
    (c__law_flipped : PySem.W.codeIn K cd__law_flipped "_law_flipped" = true)
    (k__law_flipped : PySem.W.keepIn K (.ref f__law_flipped) = true)
    (a__law_signs : PySem.W.nsIn K mainGlobals "_law_signs" = some (some (.ref f__law_signs)))
    (l__law_signs : K.lookup f__law_signs = some ⟨oc__law_signs, od__law_signs, .func (PySem.W.fnOf "_law_signs" "_law_signs" (defArgs s__law_signs) (defBody s__law_signs) (defScope s__law_signs) .none kV__law_signs dc__law_signs pm__law_signs an__law_signs cd__law_signs ct__law_signs), sl__law_signs⟩)
    (c__law_signs : PySem.W.codeIn K cd__law_signs "_law_signs" = true)
    (k__law_signs : PySem.W.keepIn K (.ref f__law_signs) = true)
    (a__law_rows : PySem.W.nsIn K mainGlobals "_law_rows" = some (some (.ref f__law_rows)))
    (l__law_rows : K.lookup f__law_rows = some ⟨oc__law_rows, od__law_rows, .func (PySem.W.fnOf "_law_rows" "_law_rows" (defArgs s__law_rows) (defBody s__law_rows) (defScope s__law_rows) .none kV__law_rows dc__law_rows pm__law_rows an__law_rows cd__law_rows ct__law_rows), sl__law_rows⟩)
    (c__law_rows : PySem.W.codeIn K cd__law_rows "_law_rows" = true)
    (k__law_rows : PySem.W.keepIn K (.ref f__law_rows) = true)
    (a__law_spelled : PySem.W.nsIn K mainGlobals "_law_spelled" = some (some (.ref f__law_spelled)))
    (l__law_spelled : K.lookup f__law_spelled = some ⟨oc__law_spelled, od__law_spelled, .func (PySem.W.fnOf "_law_spelled" "_law_spelled" (defArgs s__law_spelled) (defBody s__law_spelled) (defScope s__law_spelled) .none kV__law_spelled dc__law_spelled pm__law_spelled an__law_spelled cd__law_spelled ct__law_spelled), sl__law_spelled⟩)
    (c__law_spelled : PySem.W.codeIn K cd__law_spelled "_law_spelled" = true)
    (k__law_spelled : PySem.W.keepIn K (.ref f__law_spelled) = true)
    (a__law_book : PySem.W.nsIn K mainGlobals "_law_book" = some (some (.ref f__law_book)))
    (l__law_book : K.lookup f__law_book = some ⟨oc__law_book, od__law_book, .func (PySem.W.fnOf "_law_book" "_law_book" (defArgs s__law_book) (defBody s__law_book) (defScope s__law_book) .none kV__law_book dc__law_book pm__law_book an__law_book cd__law_book ct__law_book), sl__law_book⟩)
    (c__law_book : PySem.W.codeIn K cd__law_book "_law_book" = true)
    (k__law_book : PySem.W.keepIn K (.ref f__law_book) = true)
    (a__law_shape : PySem.W.nsIn K mainGlobals "_law_shape" = some (some (.ref f__law_shape)))
    (l__law_shape : K.lookup f__law_shape = some ⟨oc__law_shape, od__law_shape, .func (PySem.W.fnOf "_law_shape" "_law_shape" (defArgs s__law_shape) (defBody s__law_shape) (defScope s__law_shape) .none kV__law_shape dc__law_shape pm__law_shape an__law_shape cd__law_shape ct__law_shape), sl__law_shape⟩)
    (c__law_shape : PySem.W.codeIn K cd__law_shape "_law_shape" = true)
    (k__law_shape : PySem.W.keepIn K (.ref f__law_shape) = true)
    (a_Book___init__ : PySem.W.findIn K (.ref C_Book) "__init__" = some (some (.ref f_Book___init__)))
    (i_Book___init__ : PySem.W.isFn K (.ref f_Book___init__) = true)
    (l_Book___init__ : K.lookup f_Book___init__ = some ⟨oc_Book___init__, od_Book___init__, .func (PySem.W.fnOf "__init__" "Book.__init__" (defArgs s_Book___init__) (defBody s_Book___init__) (defScope s_Book___init__) .none kV_Book___init__ dc_Book___init__ pm_Book___init__ an_Book___init__ cd_Book___init__ ct_Book___init__), sl_Book___init__⟩)
    (c_Book___init__ : PySem.W.codeIn K cd_Book___init__ "Book.__init__" = true)
    (k_Book___init__ : PySem.W.keepIn K (.ref f_Book___init__) = true)
    (a__law_right : PySem.W.nsIn K mainGlobals "_law_right" = some (some (.ref f__law_right)))
    (l__law_right : K.lookup f__law_right = some ⟨oc__law_right, od__law_right, .func (PySem.W.fnOf "_law_right" "_law_right" (defArgs s__law_right) (defBody s__law_right) (defScope s__law_right) .none kV__law_right dc__law_right pm__law_right an__law_right cd__law_right ct__law_right), sl__law_right⟩)
    (c__law_right : PySem.W.codeIn K cd__law_right "_law_right" = true)
    (k__law_right : PySem.W.keepIn K (.ref f__law_right) = true)
    (a_law : PySem.W.nsIn K mainGlobals "law" = some (some (.ref f_law)))
    (l_law : K.lookup f_law = some ⟨oc_law, od_law, .func (PySem.W.fnOf "law" "law" (defArgs s_law) (defBody s_law) (defScope s_law) .none kV_law dc_law pm_law an_law cd_law ct_law), sl_law⟩)
    (c_law : PySem.W.codeIn K cd_law "law" = true)
    (k_law : PySem.W.keepIn K (.ref f_law) = true)
    (z_abs : PySem.W.nsIn K mainGlobals "abs" = some none)
    (z_all : PySem.W.nsIn K mainGlobals "all" = some none)
    (z_any : PySem.W.nsIn K mainGlobals "any" = some none)
    (z_bool : PySem.W.nsIn K mainGlobals "bool" = some none)
    (z_divmod : PySem.W.nsIn K mainGlobals "divmod" = some none)
    (z_enumerate : PySem.W.nsIn K mainGlobals "enumerate" = some none)
    (z_int : PySem.W.nsIn K mainGlobals "int" = some none)
    (z_isinstance : PySem.W.nsIn K mainGlobals "isinstance" = some none)
    (z_len : PySem.W.nsIn K mainGlobals "len" = some none)
    (z_list : PySem.W.nsIn K mainGlobals "list" = some none)
    (z_max : PySem.W.nsIn K mainGlobals "max" = some none)
    (z_min : PySem.W.nsIn K mainGlobals "min" = some none)
    (z_range : PySem.W.nsIn K mainGlobals "range" = some none)
    (z_reversed : PySem.W.nsIn K mainGlobals "reversed" = some none)
    (z_sorted : PySem.W.nsIn K mainGlobals "sorted" = some none)
    (z_str : PySem.W.nsIn K mainGlobals "str" = some none)
    (z_sum : PySem.W.nsIn K mainGlobals "sum" = some none)
    (z_tuple : PySem.W.nsIn K mainGlobals "tuple" = some none)
    (z_zip : PySem.W.nsIn K mainGlobals "zip" = some none)
    (v_LETTERS : PySem.W.nsIn K mainGlobals "LETTERS" = some (some (.str "abcdefghijklmnopqrstuvwxyz" t_LETTERS)))
    (v_MOST_LETTERS : PySem.W.nsIn K mainGlobals "MOST_LETTERS" = some (some (.int 8 t_MOST_LETTERS)))
    (v_MOST_ROWS : PySem.W.nsIn K mainGlobals "MOST_ROWS" = some (some (.int 20 t_MOST_ROWS)))
    (v_MOST_RULES : PySem.W.nsIn K mainGlobals "MOST_RULES" = some (some (.int 8 t_MOST_RULES)))
    (v_MOST_STRUCK : PySem.W.nsIn K mainGlobals "MOST_STRUCK" = some (some (.int 10 t_MOST_STRUCK)))
    (v_SIGNS : PySem.W.nsIn K mainGlobals "SIGNS" = some (some (.str "+-." t_SIGNS)))
    (no1 : PySem.W.findIn K (.ref C_Book) "_text" = some none)
    (no2 : PySem.W.findIn K (.ref C_Book) "_names" = some none)
    (no3 : PySem.W.findIn K (.ref C_Book) "_rows" = some none) :
    EndT l w K mg 9 fa "_law_script" h (spLaw K) := by
  have e := hfa.symm.trans (PySem.W.mg_of X G a_law)
  cases e
  have o_all_lots := tb "all_lots" f_all_lots lr_all_lots (PySem.W.mg_of X G a_all_lots) lc_all_lots lt_all_lots _ _ _ _ _ _ l_all_lots rfl rfl lk_all_lots lp_all_lots
  letI I : Tabs0 := ⟨fun a => List.lookup a [(lt_all_lots, qn_all_lots f_all_lots lc_all_lots)]⟩
  have ok : TabsOk [(lt_all_lots, qn_all_lots f_all_lots lc_all_lots)] := tabsOk_of (by simp)
  let T : Txt K w mg := {
    C_Book := C_Book,
    m_Book := PySem.W.mg_of X G cm_Book,
    cl_Book := ⟨cpg_Book, chd_Book, cpo_Book, csa_Book⟩,
    f_is_name := f_is_name,
    e_is_name := PySem.W.fnOf "is_name" "is_name" (defArgs s_is_name) (defBody s_is_name) (defScope s_is_name) .none kV_is_name dc_is_name pm_is_name an_is_name cd_is_name ct_is_name,
    F_is_name := fun_mk (st := s_is_name) l_is_name c_is_name k_is_name,
    b_is_name := Fun.binds (ps := ["value"]) (fun_mk (st := s_is_name) l_is_name c_is_name k_is_name) fun _ _ _ _ _ _ us hl => match us, hl with | [_], _ => rfl,
    m_is_name := PySem.W.mg_of X G a_is_name,
    f_are_names := f_are_names,
    e_are_names := PySem.W.fnOf "are_names" "are_names" (defArgs s_are_names) (defBody s_are_names) (defScope s_are_names) .none kV_are_names dc_are_names pm_are_names an_are_names cd_are_names ct_are_names,
    F_are_names := fun_mk (st := s_are_names) l_are_names c_are_names k_are_names,
    b_are_names := Fun.binds (ps := ["values"]) (fun_mk (st := s_are_names) l_are_names c_are_names k_are_names) fun _ _ _ _ _ _ us hl => match us, hl with | [_], _ => rfl,
    m_are_names := PySem.W.mg_of X G a_are_names,
    f_is_any_row := f_is_any_row,
    e_is_any_row := PySem.W.fnOf "is_any_row" "is_any_row" (defArgs s_is_any_row) (defBody s_is_any_row) (defScope s_is_any_row) .none kV_is_any_row dc_is_any_row pm_is_any_row an_is_any_row cd_is_any_row ct_is_any_row,
    F_is_any_row := fun_mk (st := s_is_any_row) l_is_any_row c_is_any_row k_is_any_row,
    b_is_any_row := Fun.binds (ps := ["value"]) (fun_mk (st := s_is_any_row) l_is_any_row c_is_any_row k_is_any_row) fun _ _ _ _ _ _ us hl => match us, hl with | [_], _ => rfl,
    m_is_any_row := PySem.W.mg_of X G a_is_any_row,
    f_is_row := f_is_row,
    e_is_row := PySem.W.fnOf "is_row" "is_row" (defArgs s_is_row) (defBody s_is_row) (defScope s_is_row) .none kV_is_row dc_is_row pm_is_row an_is_row cd_is_row ct_is_row,
    F_is_row := fun_mk (st := s_is_row) l_is_row c_is_row k_is_row,
    b_is_row := Fun.binds (ps := ["value", "many"]) (fun_mk (st := s_is_row) l_is_row c_is_row k_is_row) fun _ _ _ _ _ _ us hl => match us, hl with | [_, _], _ => rfl,
    m_is_row := PySem.W.mg_of X G a_is_row,
    f_is_whole := f_is_whole,
    e_is_whole := PySem.W.fnOf "is_whole" "is_whole" (defArgs s_is_whole) (defBody s_is_whole) (defScope s_is_whole) .none kV_is_whole dc_is_whole pm_is_whole an_is_whole cd_is_whole ct_is_whole,
    F_is_whole := fun_mk (st := s_is_whole) l_is_whole c_is_whole k_is_whole,
    b_is_whole := Fun.binds (ps := ["value"]) (fun_mk (st := s_is_whole) l_is_whole c_is_whole k_is_whole) fun _ _ _ _ _ _ us hl => match us, hl with | [_], _ => rfl,
    m_is_whole := PySem.W.mg_of X G a_is_whole,
    f_is_index := f_is_index,
    e_is_index := PySem.W.fnOf "is_index" "is_index" (defArgs s_is_index) (defBody s_is_index) (defScope s_is_index) .none kV_is_index dc_is_index pm_is_index an_is_index cd_is_index ct_is_index,
    F_is_index := fun_mk (st := s_is_index) l_is_index c_is_index k_is_index,
    b_is_index := Fun.binds (ps := ["value", "many"]) (fun_mk (st := s_is_index) l_is_index c_is_index k_is_index) fun _ _ _ _ _ _ us hl => match us, hl with | [_, _], _ => rfl,
    m_is_index := PySem.W.mg_of X G a_is_index,
    f_check_rule := f_check_rule,
    e_check_rule := PySem.W.fnOf "check_rule" "check_rule" (defArgs s_check_rule) (defBody s_check_rule) (defScope s_check_rule) .none kV_check_rule dc_check_rule pm_check_rule an_check_rule cd_check_rule ct_check_rule,
    F_check_rule := fun_mk (st := s_check_rule) l_check_rule c_check_rule k_check_rule,
    b_check_rule := Fun.binds (ps := ["rule", "many"]) (fun_mk (st := s_check_rule) l_check_rule c_check_rule k_check_rule) fun _ _ _ _ _ _ us hl => match us, hl with | [_, _], _ => rfl,
    m_check_rule := PySem.W.mg_of X G a_check_rule,
    f_read_book := f_read_book,
    e_read_book := PySem.W.fnOf "read_book" "read_book" (defArgs s_read_book) (defBody s_read_book) (defScope s_read_book) .none kV_read_book dc_read_book pm_read_book an_read_book cd_read_book ct_read_book,
    F_read_book := fun_mk (st := s_read_book) l_read_book c_read_book k_read_book,
    b_read_book := Fun.binds (ps := ["text"]) (fun_mk (st := s_read_book) l_read_book c_read_book k_read_book) fun _ _ _ _ _ _ us hl => match us, hl with | [_], _ => rfl,
    m_read_book := PySem.W.mg_of X G a_read_book,
    f_check_book := f_check_book,
    e_check_book := PySem.W.fnOf "check_book" "check_book" (defArgs s_check_book) (defBody s_check_book) (defScope s_check_book) .none kV_check_book dc_check_book pm_check_book an_check_book cd_check_book ct_check_book,
    F_check_book := fun_mk (st := s_check_book) l_check_book c_check_book k_check_book,
    b_check_book := Fun.binds (ps := ["book"]) (fun_mk (st := s_check_book) l_check_book c_check_book k_check_book) fun _ _ _ _ _ _ us hl => match us, hl with | [_], _ => rfl,
    m_check_book := PySem.W.mg_of X G a_check_book,
    f_head_of := f_head_of,
    e_head_of := PySem.W.fnOf "head_of" "head_of" (defArgs s_head_of) (defBody s_head_of) (defScope s_head_of) .none kV_head_of dc_head_of pm_head_of an_head_of cd_head_of ct_head_of,
    F_head_of := fun_mk (st := s_head_of) l_head_of c_head_of k_head_of,
    b_head_of := Fun.binds (ps := ["rules"]) (fun_mk (st := s_head_of) l_head_of c_head_of k_head_of) fun _ _ _ _ _ _ us hl => match us, hl with | [_], _ => rfl,
    m_head_of := PySem.W.mg_of X G a_head_of,
    f_rules_of := f_rules_of,
    e_rules_of := PySem.W.fnOf "rules_of" "rules_of" (defArgs s_rules_of) (defBody s_rules_of) (defScope s_rules_of) .none kV_rules_of dc_rules_of pm_rules_of an_rules_of cd_rules_of ct_rules_of,
    F_rules_of := fun_mk (st := s_rules_of) l_rules_of c_rules_of k_rules_of,
    b_rules_of := Fun.binds (ps := ["head", "many"]) (fun_mk (st := s_rules_of) l_rules_of c_rules_of k_rules_of) fun _ _ _ _ _ _ us hl => match us, hl with | [_, _], _ => rfl,
    m_rules_of := PySem.W.mg_of X G a_rules_of,
    f_sides := f_sides,
    e_sides := PySem.W.fnOf "sides" "sides" (defArgs s_sides) (defBody s_sides) (defScope s_sides) .none kV_sides dc_sides pm_sides an_sides cd_sides ct_sides,
    F_sides := fun_mk (st := s_sides) l_sides c_sides k_sides,
    b_sides := Fun.binds (ps := ["row"]) (fun_mk (st := s_sides) l_sides c_sides k_sides) fun _ _ _ _ _ _ us hl => match us, hl with | [_], _ => rfl,
    m_sides := PySem.W.mg_of X G a_sides,
    f_rules_behind := f_rules_behind,
    e_rules_behind := PySem.W.fnOf "rules_behind" "rules_behind" (defArgs s_rules_behind) (defBody s_rules_behind) (defScope s_rules_behind) .none kV_rules_behind dc_rules_behind pm_rules_behind an_rules_behind cd_rules_behind ct_rules_behind,
    F_rules_behind := fun_mk (st := s_rules_behind) l_rules_behind c_rules_behind k_rules_behind,
    b_rules_behind := Fun.binds (ps := ["head", "told", "many"]) (fun_mk (st := s_rules_behind) l_rules_behind c_rules_behind k_rules_behind) fun _ _ _ _ _ _ us hl => match us, hl with | [_, _, _], _ => rfl,
    m_rules_behind := PySem.W.mg_of X G a_rules_behind,
    f_steps := f_steps,
    e_steps := PySem.W.fnOf "steps" "steps" (defArgs s_steps) (defBody s_steps) (defScope s_steps) .none kV_steps dc_steps pm_steps an_steps cd_steps ct_steps,
    F_steps := fun_mk (st := s_steps) l_steps c_steps k_steps,
    b_steps := Fun.binds (ps := ["rows", "many"]) (fun_mk (st := s_steps) l_steps c_steps k_steps) fun _ _ _ _ _ _ us hl => match us, hl with | [_, _], _ => rfl,
    m_steps := PySem.W.mg_of X G a_steps,
    f_openings := f_openings,
    e_openings := PySem.W.fnOf "openings" "openings" (defArgs s_openings) (defBody s_openings) (defScope s_openings) .none kV_openings dc_openings pm_openings an_openings cd_openings ct_openings,
    F_openings := fun_mk (st := s_openings) l_openings c_openings k_openings,
    b_openings := Fun.binds (ps := ["behind"]) (fun_mk (st := s_openings) l_openings c_openings k_openings) fun _ _ _ _ _ _ us hl => match us, hl with | [_], _ => rfl,
    m_openings := PySem.W.mg_of X G a_openings,
    f_endings := f_endings,
    e_endings := PySem.W.fnOf "endings" "endings" (defArgs s_endings) (defBody s_endings) (defScope s_endings) .none kV_endings dc_endings pm_endings an_endings cd_endings ct_endings,
    F_endings := fun_mk (st := s_endings) l_endings c_endings k_endings,
    b_endings := Fun.binds (ps := ["behind"]) (fun_mk (st := s_endings) l_endings c_endings k_endings) fun _ _ _ _ _ _ us hl => match us, hl with | [_], _ => rfl,
    m_endings := PySem.W.mg_of X G a_endings,
    f_count_fitting := f_count_fitting,
    e_count_fitting := PySem.W.fnOf "count_fitting" "count_fitting" (defArgs s_count_fitting) (defBody s_count_fitting) (defScope s_count_fitting) .none kV_count_fitting dc_count_fitting pm_count_fitting an_count_fitting cd_count_fitting ct_count_fitting,
    F_count_fitting := fun_mk (st := s_count_fitting) l_count_fitting c_count_fitting k_count_fitting,
    b_count_fitting := Fun.binds (ps := ["rows", "many"]) (fun_mk (st := s_count_fitting) l_count_fitting c_count_fitting k_count_fitting) fun _ _ _ _ _ _ us hl => match us, hl with | [_, _], _ => rfl,
    m_count_fitting := PySem.W.mg_of X G a_count_fitting,
    f_heads_above := f_heads_above,
    e_heads_above := PySem.W.fnOf "heads_above" "heads_above" (defArgs s_heads_above) (defBody s_heads_above) (defScope s_heads_above) .none kV_heads_above dc_heads_above pm_heads_above an_heads_above cd_heads_above ct_heads_above,
    F_heads_above := fun_mk (st := s_heads_above) l_heads_above c_heads_above k_heads_above,
    b_heads_above := Fun.binds (ps := ["rows", "many"]) (fun_mk (st := s_heads_above) l_heads_above c_heads_above k_heads_above) fun _ _ _ _ _ _ us hl => match us, hl with | [_, _], _ => rfl,
    m_heads_above := PySem.W.mg_of X G a_heads_above,
    f_has_sign := f_has_sign,
    e_has_sign := PySem.W.fnOf "has_sign" "has_sign" (defArgs s_has_sign) (defBody s_has_sign) (defScope s_has_sign) .none kV_has_sign dc_has_sign pm_has_sign an_has_sign cd_has_sign ct_has_sign,
    F_has_sign := fun_mk (st := s_has_sign) l_has_sign c_has_sign k_has_sign,
    b_has_sign := Fun.binds (ps := ["row", "rules", "sign"]) (fun_mk (st := s_has_sign) l_has_sign c_has_sign k_has_sign) fun _ _ _ _ _ _ us hl => match us, hl with | [_, _, _], _ => rfl,
    m_has_sign := PySem.W.mg_of X G a_has_sign,
    f_split := f_split,
    e_split := PySem.W.fnOf "split" "split" (defArgs s_split) (defBody s_split) (defScope s_split) .none kV_split dc_split pm_split an_split cd_split ct_split,
    F_split := fun_mk (st := s_split) l_split c_split k_split,
    b_split := Fun.binds (ps := ["rows", "many"]) (fun_mk (st := s_split) l_split c_split k_split) fun _ _ _ _ _ _ us hl => match us, hl with | [_, _], _ => rfl,
    m_split := PySem.W.mg_of X G a_split,
    f_some_fits := f_some_fits,
    e_some_fits := PySem.W.fnOf "some_fits" "some_fits" (defArgs s_some_fits) (defBody s_some_fits) (defScope s_some_fits) .none kV_some_fits dc_some_fits pm_some_fits an_some_fits cd_some_fits ct_some_fits,
    F_some_fits := fun_mk (st := s_some_fits) l_some_fits c_some_fits k_some_fits,
    b_some_fits := Fun.binds (ps := ["rows", "many"]) (fun_mk (st := s_some_fits) l_some_fits c_some_fits k_some_fits) fun _ _ _ _ _ _ us hl => match us, hl with | [_, _], _ => rfl,
    m_some_fits := PySem.W.mg_of X G a_some_fits,
    f_Book_rows := f_Book_rows,
    e_Book_rows := PySem.W.fnOf "rows" "Book.rows" (defArgs s_Book_rows) (defBody s_Book_rows) (defScope s_Book_rows) .none kV_Book_rows dc_Book_rows pm_Book_rows an_Book_rows cd_Book_rows ct_Book_rows,
    F_Book_rows := fun_mk (st := s_Book_rows) l_Book_rows c_Book_rows k_Book_rows,
    b_Book_rows := Fun.binds (ps := ["self"]) (fun_mk (st := s_Book_rows) l_Book_rows c_Book_rows k_Book_rows) fun _ _ _ _ _ _ us hl => match us, hl with | [_], _ => rfl,
    q_Book_rows := q_Book_rows,
    p_Book_rows := ⟨a_Book_rows, g_Book_rows, t_Book_rows, ⟨_, r_Book_rows⟩⟩,
    f_Book_names := f_Book_names,
    e_Book_names := PySem.W.fnOf "names" "Book.names" (defArgs s_Book_names) (defBody s_Book_names) (defScope s_Book_names) .none kV_Book_names dc_Book_names pm_Book_names an_Book_names cd_Book_names ct_Book_names,
    F_Book_names := fun_mk (st := s_Book_names) l_Book_names c_Book_names k_Book_names,
    b_Book_names := Fun.binds (ps := ["self"]) (fun_mk (st := s_Book_names) l_Book_names c_Book_names k_Book_names) fun _ _ _ _ _ _ us hl => match us, hl with | [_], _ => rfl,
    q_Book_names := q_Book_names,
    p_Book_names := ⟨a_Book_names, g_Book_names, t_Book_names, ⟨_, r_Book_names⟩⟩,
    f_check_some_fits := f_check_some_fits,
    e_check_some_fits := PySem.W.fnOf "check_some_fits" "check_some_fits" (defArgs s_check_some_fits) (defBody s_check_some_fits) (defScope s_check_some_fits) .none kV_check_some_fits dc_check_some_fits pm_check_some_fits an_check_some_fits cd_check_some_fits ct_check_some_fits,
    F_check_some_fits := fun_mk (st := s_check_some_fits) l_check_some_fits c_check_some_fits k_check_some_fits,
    b_check_some_fits := Fun.binds (ps := ["book"]) (fun_mk (st := s_check_some_fits) l_check_some_fits c_check_some_fits k_check_some_fits) fun _ _ _ _ _ _ us hl => match us, hl with | [_], _ => rfl,
    m_check_some_fits := PySem.W.mg_of X G a_check_some_fits,
    f_layers := f_layers,
    e_layers := PySem.W.fnOf "layers" "layers" (defArgs s_layers) (defBody s_layers) (defScope s_layers) .none kV_layers dc_layers pm_layers an_layers cd_layers ct_layers,
    F_layers := fun_mk (st := s_layers) l_layers c_layers k_layers,
    b_layers := Fun.binds (ps := ["book"]) (fun_mk (st := s_layers) l_layers c_layers k_layers) fun _ _ _ _ _ _ us hl => match us, hl with | [_], _ => rfl,
    m_layers := PySem.W.mg_of X G a_layers,
    f_left_over := f_left_over,
    e_left_over := PySem.W.fnOf "left_over" "left_over" (defArgs s_left_over) (defBody s_left_over) (defScope s_left_over) .none kV_left_over dc_left_over pm_left_over an_left_over cd_left_over ct_left_over,
    F_left_over := fun_mk (st := s_left_over) l_left_over c_left_over k_left_over,
    b_left_over := Fun.binds (ps := ["book"]) (fun_mk (st := s_left_over) l_left_over c_left_over k_left_over) fun _ _ _ _ _ _ us hl => match us, hl with | [_], _ => rfl,
    m_left_over := PySem.W.mg_of X G a_left_over,
    f_how_many := f_how_many,
    e_how_many := PySem.W.fnOf "how_many" "how_many" (defArgs s_how_many) (defBody s_how_many) (defScope s_how_many) .none kV_how_many dc_how_many pm_how_many an_how_many cd_how_many ct_how_many,
    F_how_many := fun_mk (st := s_how_many) l_how_many c_how_many k_how_many,
    b_how_many := Fun.binds (ps := ["book"]) (fun_mk (st := s_how_many) l_how_many c_how_many k_how_many) fun _ _ _ _ _ _ us hl => match us, hl with | [_], _ => rfl,
    m_how_many := PySem.W.mg_of X G a_how_many,
    f_places := f_places,
    e_places := PySem.W.fnOf "places" "places" (defArgs s_places) (defBody s_places) (defScope s_places) .none kV_places dc_places pm_places an_places cd_places ct_places,
    F_places := fun_mk (st := s_places) l_places c_places k_places,
    b_places := Fun.binds (ps := ["book", "rule"]) (fun_mk (st := s_places) l_places c_places k_places) fun _ _ _ _ _ _ us hl => match us, hl with | [_, _], _ => rfl,
    m_places := PySem.W.mg_of X G a_places,
    f_all_lots := f_all_lots,
    e_all_lots := PySem.W.fnOf "all_lots" "all_lots" (defArgs s_all_lots) (defBody s_all_lots) (defScope s_all_lots) .none kV_all_lots dc_all_lots pm_all_lots an_all_lots (.ref lc_all_lots) ct_all_lots,
    F_all_lots := fun_mk (st := s_all_lots) l_all_lots c_all_lots k_all_lots,
    b_all_lots := Fun.binds (ps := ["many"]) (fun_mk (st := s_all_lots) l_all_lots c_all_lots k_all_lots) fun _ _ _ _ _ _ us hl => match us, hl with | [_], _ => rfl,
    lc_all_lots := lc_all_lots,
    lt_all_lots := lt_all_lots,
    FC_all_lots := ⟨_, _, _, _, _, _, _, _, rfl, l_all_lots, c_all_lots⟩,
    m_all_lots := PySem.W.mg_of X G a_all_lots,
    f_has_part := f_has_part,
    e_has_part := PySem.W.fnOf "has_part" "has_part" (defArgs s_has_part) (defBody s_has_part) (defScope s_has_part) .none kV_has_part dc_has_part pm_has_part an_has_part cd_has_part ct_has_part,
    F_has_part := fun_mk (st := s_has_part) l_has_part c_has_part k_has_part,
    b_has_part := Fun.binds (ps := ["lot", "others"]) (fun_mk (st := s_has_part) l_has_part c_has_part k_has_part) fun _ _ _ _ _ _ us hl => match us, hl with | [_, _], _ => rfl,
    m_has_part := PySem.W.mg_of X G a_has_part,
    f_fits_without := f_fits_without,
    e_fits_without := PySem.W.fnOf "fits_without" "fits_without" (defArgs s_fits_without) (defBody s_fits_without) (defScope s_fits_without) .none kV_fits_without dc_fits_without pm_fits_without an_fits_without cd_fits_without ct_fits_without,
    F_fits_without := fun_mk (st := s_fits_without) l_fits_without c_fits_without k_fits_without,
    b_fits_without := Fun.binds (ps := ["book", "lot"]) (fun_mk (st := s_fits_without) l_fits_without c_fits_without k_fits_without) fun _ _ _ _ _ _ us hl => match us, hl with | [_, _], _ => rfl,
    m_fits_without := PySem.W.mg_of X G a_fits_without,
    f_struck := f_struck,
    e_struck := PySem.W.fnOf "struck" "struck" (defArgs s_struck) (defBody s_struck) (defScope s_struck) .none kV_struck dc_struck pm_struck an_struck cd_struck ct_struck,
    F_struck := fun_mk (st := s_struck) l_struck c_struck k_struck,
    b_struck := Fun.binds (ps := ["book"]) (fun_mk (st := s_struck) l_struck c_struck k_struck) fun _ _ _ _ _ _ us hl => match us, hl with | [_], _ => rfl,
    m_struck := PySem.W.mg_of X G a_struck,
    f_count_fallen := f_count_fallen,
    e_count_fallen := PySem.W.fnOf "count_fallen" "count_fallen" (defArgs s_count_fallen) (defBody s_count_fallen) (defScope s_count_fallen) .none kV_count_fallen dc_count_fallen pm_count_fallen an_count_fallen cd_count_fallen ct_count_fallen,
    F_count_fallen := fun_mk (st := s_count_fallen) l_count_fallen c_count_fallen k_count_fallen,
    b_count_fallen := Fun.binds (ps := ["told", "head", "rule"]) (fun_mk (st := s_count_fallen) l_count_fallen c_count_fallen k_count_fallen) fun _ _ _ _ _ _ us hl => match us, hl with | [_, _, _], _ => rfl,
    m_count_fallen := PySem.W.mg_of X G a_count_fallen,
    f_least_wrong := f_least_wrong,
    e_least_wrong := PySem.W.fnOf "least_wrong" "least_wrong" (defArgs s_least_wrong) (defBody s_least_wrong) (defScope s_least_wrong) .none kV_least_wrong dc_least_wrong pm_least_wrong an_least_wrong cd_least_wrong ct_least_wrong,
    F_least_wrong := fun_mk (st := s_least_wrong) l_least_wrong c_least_wrong k_least_wrong,
    b_least_wrong := Fun.binds (ps := ["rows", "row"]) (fun_mk (st := s_least_wrong) l_least_wrong c_least_wrong k_least_wrong) fun _ _ _ _ _ _ us hl => match us, hl with | [_, _], _ => rfl,
    m_least_wrong := PySem.W.mg_of X G a_least_wrong,
    f_fewest_of_all := f_fewest_of_all,
    e_fewest_of_all := PySem.W.fnOf "fewest_of_all" "fewest_of_all" (defArgs s_fewest_of_all) (defBody s_fewest_of_all) (defScope s_fewest_of_all) .none kV_fewest_of_all dc_fewest_of_all pm_fewest_of_all an_fewest_of_all cd_fewest_of_all ct_fewest_of_all,
    F_fewest_of_all := fun_mk (st := s_fewest_of_all) l_fewest_of_all c_fewest_of_all k_fewest_of_all,
    b_fewest_of_all := Fun.binds (ps := ["book"]) (fun_mk (st := s_fewest_of_all) l_fewest_of_all c_fewest_of_all k_fewest_of_all) fun _ _ _ _ _ _ us hl => match us, hl with | [_], _ => rfl,
    m_fewest_of_all := PySem.W.mg_of X G a_fewest_of_all,
    f_fewest_wrong := f_fewest_wrong,
    e_fewest_wrong := PySem.W.fnOf "fewest_wrong" "fewest_wrong" (defArgs s_fewest_wrong) (defBody s_fewest_wrong) (defScope s_fewest_wrong) .none kV_fewest_wrong dc_fewest_wrong pm_fewest_wrong an_fewest_wrong cd_fewest_wrong ct_fewest_wrong,
    F_fewest_wrong := fun_mk (st := s_fewest_wrong) l_fewest_wrong c_fewest_wrong k_fewest_wrong,
    b_fewest_wrong := Fun.binds (ps := ["book"]) (fun_mk (st := s_fewest_wrong) l_fewest_wrong c_fewest_wrong k_fewest_wrong) fun _ _ _ _ _ _ us hl => match us, hl with | [_], _ => rfl,
    m_fewest_wrong := PySem.W.mg_of X G a_fewest_wrong,
    f_meets_all := f_meets_all,
    e_meets_all := PySem.W.fnOf "meets_all" "meets_all" (defArgs s_meets_all) (defBody s_meets_all) (defScope s_meets_all) .none kV_meets_all dc_meets_all pm_meets_all an_meets_all cd_meets_all ct_meets_all,
    F_meets_all := fun_mk (st := s_meets_all) l_meets_all c_meets_all k_meets_all,
    b_meets_all := Fun.binds (ps := ["lot", "heads"]) (fun_mk (st := s_meets_all) l_meets_all c_meets_all k_meets_all) fun _ _ _ _ _ _ us hl => match us, hl with | [_, _], _ => rfl,
    m_meets_all := PySem.W.mg_of X G a_meets_all,
    f_above := f_above,
    e_above := PySem.W.fnOf "above" "above" (defArgs s_above) (defBody s_above) (defScope s_above) .none kV_above dc_above pm_above an_above cd_above ct_above,
    F_above := fun_mk (st := s_above) l_above c_above k_above,
    b_above := Fun.binds (ps := ["book"]) (fun_mk (st := s_above) l_above c_above k_above) fun _ _ _ _ _ _ us hl => match us, hl with | [_], _ => rfl,
    m_above := PySem.W.mg_of X G a_above,
    f_least_lots := f_least_lots,
    e_least_lots := PySem.W.fnOf "least_lots" "least_lots" (defArgs s_least_lots) (defBody s_least_lots) (defScope s_least_lots) .none kV_least_lots dc_least_lots pm_least_lots an_least_lots cd_least_lots ct_least_lots,
    F_least_lots := fun_mk (st := s_least_lots) l_least_lots c_least_lots k_least_lots,
    b_least_lots := Fun.binds (ps := ["heads", "many"]) (fun_mk (st := s_least_lots) l_least_lots c_least_lots k_least_lots) fun _ _ _ _ _ _ us hl => match us, hl with | [_, _], _ => rfl,
    m_least_lots := PySem.W.mg_of X G a_least_lots,
    f_reasons := f_reasons,
    e_reasons := PySem.W.fnOf "reasons" "reasons" (defArgs s_reasons) (defBody s_reasons) (defScope s_reasons) .none kV_reasons dc_reasons pm_reasons an_reasons cd_reasons ct_reasons,
    F_reasons := fun_mk (st := s_reasons) l_reasons c_reasons k_reasons,
    b_reasons := Fun.binds (ps := ["book", "rule"]) (fun_mk (st := s_reasons) l_reasons c_reasons k_reasons) fun _ _ _ _ _ _ us hl => match us, hl with | [_, _], _ => rfl,
    m_reasons := PySem.W.mg_of X G a_reasons,
    f_needless := f_needless,
    e_needless := PySem.W.fnOf "needless" "needless" (defArgs s_needless) (defBody s_needless) (defScope s_needless) .none kV_needless dc_needless pm_needless an_needless cd_needless ct_needless,
    F_needless := fun_mk (st := s_needless) l_needless c_needless k_needless,
    b_needless := Fun.binds (ps := ["book"]) (fun_mk (st := s_needless) l_needless c_needless k_needless) fun _ _ _ _ _ _ us hl => match us, hl with | [_], _ => rfl,
    m_needless := PySem.W.mg_of X G a_needless,
    f__law_purse := f__law_purse,
    e__law_purse := PySem.W.fnOf "_law_purse" "_law_purse" (defArgs s__law_purse) (defBody s__law_purse) (defScope s__law_purse) .none kV__law_purse dc__law_purse pm__law_purse an__law_purse cd__law_purse ct__law_purse,
    F__law_purse := fun_mk (st := s__law_purse) l__law_purse c__law_purse k__law_purse,
    b__law_purse := Fun.binds (ps := ["_law_script", "_law_spot"]) (fun_mk (st := s__law_purse) l__law_purse c__law_purse k__law_purse) fun _ _ _ _ _ _ us hl => match us, hl with | [_, _], _ => rfl,
    m__law_purse := PySem.W.mg_of X G a__law_purse,
    f__law_draw := f__law_draw,
    e__law_draw := PySem.W.fnOf "_law_draw" "_law_draw" (defArgs s__law_draw) (defBody s__law_draw) (defScope s__law_draw) .none kV__law_draw dc__law_draw pm__law_draw an__law_draw cd__law_draw ct__law_draw,
    F__law_draw := fun_mk (st := s__law_draw) l__law_draw c__law_draw k__law_draw,
    b__law_draw := Fun.binds (ps := ["_law_purse_here", "_law_many"]) (fun_mk (st := s__law_draw) l__law_draw c__law_draw k__law_draw) fun _ _ _ _ _ _ us hl => match us, hl with | [_, _], _ => rfl,
    m__law_draw := PySem.W.mg_of X G a__law_draw,
    f__law_labels := f__law_labels,
    e__law_labels := PySem.W.fnOf "_law_labels" "_law_labels" (defArgs s__law_labels) (defBody s__law_labels) (defScope s__law_labels) .none kV__law_labels dc__law_labels pm__law_labels an__law_labels cd__law_labels ct__law_labels,
    F__law_labels := fun_mk (st := s__law_labels) l__law_labels c__law_labels k__law_labels,
    b__law_labels := Fun.binds (ps := ["_law_purse_here", "_law_many"]) (fun_mk (st := s__law_labels) l__law_labels c__law_labels k__law_labels) fun _ _ _ _ _ _ us hl => match us, hl with | [_, _], _ => rfl,
    m__law_labels := PySem.W.mg_of X G a__law_labels,
    f__law_holds := f__law_holds,
    e__law_holds := PySem.W.fnOf "_law_holds" "_law_holds" (defArgs s__law_holds) (defBody s__law_holds) (defScope s__law_holds) .none kV__law_holds dc__law_holds pm__law_holds an__law_holds cd__law_holds ct__law_holds,
    F__law_holds := fun_mk (st := s__law_holds) l__law_holds c__law_holds k__law_holds,
    b__law_holds := Fun.binds (ps := ["_law_row_here", "_law_order_here"]) (fun_mk (st := s__law_holds) l__law_holds c__law_holds k__law_holds) fun _ _ _ _ _ _ us hl => match us, hl with | [_, _], _ => rfl,
    m__law_holds := PySem.W.mg_of X G a__law_holds,
    f__law_flipped := f__law_flipped,
    e__law_flipped := PySem.W.fnOf "_law_flipped" "_law_flipped" (defArgs s__law_flipped) (defBody s__law_flipped) (defScope s__law_flipped) .none kV__law_flipped dc__law_flipped pm__law_flipped an__law_flipped cd__law_flipped ct__law_flipped,
    F__law_flipped := fun_mk (st := s__law_flipped) l__law_flipped c__law_flipped k__law_flipped,
    b__law_flipped := Fun.binds (ps := ["_law_row_here"]) (fun_mk (st := s__law_flipped) l__law_flipped c__law_flipped k__law_flipped) fun _ _ _ _ _ _ us hl => match us, hl with | [_], _ => rfl,
    m__law_flipped := PySem.W.mg_of X G a__law_flipped,
    f__law_signs := f__law_signs,
    e__law_signs := PySem.W.fnOf "_law_signs" "_law_signs" (defArgs s__law_signs) (defBody s__law_signs) (defScope s__law_signs) .none kV__law_signs dc__law_signs pm__law_signs an__law_signs cd__law_signs ct__law_signs,
    F__law_signs := fun_mk (st := s__law_signs) l__law_signs c__law_signs k__law_signs,
    b__law_signs := Fun.binds (ps := ["_law_purse_here", "_law_many"]) (fun_mk (st := s__law_signs) l__law_signs c__law_signs k__law_signs) fun _ _ _ _ _ _ us hl => match us, hl with | [_, _], _ => rfl,
    m__law_signs := PySem.W.mg_of X G a__law_signs,
    f__law_rows := f__law_rows,
    e__law_rows := PySem.W.fnOf "_law_rows" "_law_rows" (defArgs s__law_rows) (defBody s__law_rows) (defScope s__law_rows) .none kV__law_rows dc__law_rows pm__law_rows an__law_rows cd__law_rows ct__law_rows,
    F__law_rows := fun_mk (st := s__law_rows) l__law_rows c__law_rows k__law_rows,
    b__law_rows := Fun.binds (ps := ["_law_purse_here", "_law_many", "_law_most", "_law_wrong"]) (fun_mk (st := s__law_rows) l__law_rows c__law_rows k__law_rows) fun _ _ _ _ _ _ us hl => match us, hl with | [_, _, _, _], _ => rfl,
    m__law_rows := PySem.W.mg_of X G a__law_rows,
    f__law_spelled := f__law_spelled,
    e__law_spelled := PySem.W.fnOf "_law_spelled" "_law_spelled" (defArgs s__law_spelled) (defBody s__law_spelled) (defScope s__law_spelled) .none kV__law_spelled dc__law_spelled pm__law_spelled an__law_spelled cd__law_spelled ct__law_spelled,
    F__law_spelled := fun_mk (st := s__law_spelled) l__law_spelled c__law_spelled k__law_spelled,
    b__law_spelled := Fun.binds (ps := ["_law_labels_here", "_law_rows_here"]) (fun_mk (st := s__law_spelled) l__law_spelled c__law_spelled k__law_spelled) fun _ _ _ _ _ _ us hl => match us, hl with | [_, _], _ => rfl,
    m__law_spelled := PySem.W.mg_of X G a__law_spelled,
    f__law_book := f__law_book,
    e__law_book := PySem.W.fnOf "_law_book" "_law_book" (defArgs s__law_book) (defBody s__law_book) (defScope s__law_book) .none kV__law_book dc__law_book pm__law_book an__law_book cd__law_book ct__law_book,
    F__law_book := fun_mk (st := s__law_book) l__law_book c__law_book k__law_book,
    b__law_book := Fun.binds (ps := ["_law_purse_here", "_law_least", "_law_span", "_law_most"]) (fun_mk (st := s__law_book) l__law_book c__law_book k__law_book) fun _ _ _ _ _ _ us hl => match us, hl with | [_, _, _, _], _ => rfl,
    m__law_book := PySem.W.mg_of X G a__law_book,
    f__law_shape := f__law_shape,
    e__law_shape := PySem.W.fnOf "_law_shape" "_law_shape" (defArgs s__law_shape) (defBody s__law_shape) (defScope s__law_shape) .none kV__law_shape dc__law_shape pm__law_shape an__law_shape cd__law_shape ct__law_shape,
    F__law_shape := fun_mk (st := s__law_shape) l__law_shape c__law_shape k__law_shape,
    b__law_shape := Fun.binds (ps := ["_law_log", "_law_spots"]) (fun_mk (st := s__law_shape) l__law_shape c__law_shape k__law_shape) fun _ _ _ _ _ _ us hl => match us, hl with | [_, _], _ => rfl,
    m__law_shape := PySem.W.mg_of X G a__law_shape,
    f_Book___init__ := f_Book___init__,
    e_Book___init__ := PySem.W.fnOf "__init__" "Book.__init__" (defArgs s_Book___init__) (defBody s_Book___init__) (defScope s_Book___init__) .none kV_Book___init__ dc_Book___init__ pm_Book___init__ an_Book___init__ cd_Book___init__ ct_Book___init__,
    F_Book___init__ := fun_mk (st := s_Book___init__) l_Book___init__ c_Book___init__ k_Book___init__,
    b_Book___init__ := Fun.binds (ps := ["self", "text"]) (fun_mk (st := s_Book___init__) l_Book___init__ c_Book___init__ k_Book___init__) fun _ _ _ _ _ _ us hl => match us, hl with | [_, _], _ => rfl,
    mk_Book := ⟨cmk_Book, a_Book___init__, i_Book___init__, ckc_Book⟩,
    f__law_right := f__law_right,
    e__law_right := PySem.W.fnOf "_law_right" "_law_right" (defArgs s__law_right) (defBody s__law_right) (defScope s__law_right) .none kV__law_right dc__law_right pm__law_right an__law_right cd__law_right ct__law_right,
    F__law_right := fun_mk (st := s__law_right) l__law_right c__law_right k__law_right,
    b__law_right := Fun.binds (ps := ["_law_purse_here"]) (fun_mk (st := s__law_right) l__law_right c__law_right k__law_right) fun _ _ _ _ _ _ us hl => match us, hl with | [_], _ => rfl,
    m__law_right := PySem.W.mg_of X G a__law_right,
    f_law := fa,
    e_law := PySem.W.fnOf "law" "law" (defArgs s_law) (defBody s_law) (defScope s_law) .none kV_law dc_law pm_law an_law cd_law ct_law,
    F_law := fun_mk (st := s_law) l_law c_law k_law,
    b_law := Fun.binds (ps := ["_law_script"]) (fun_mk (st := s_law) l_law c_law k_law) fun _ _ _ _ _ _ us hl => match us, hl with | [_], _ => rfl,
    m_law := PySem.W.mg_of X G a_law,
    n_abs := PySem.W.mg_none_of X G z_abs,
    n_all := PySem.W.mg_none_of X G z_all,
    n_any := PySem.W.mg_none_of X G z_any,
    n_bool := PySem.W.mg_none_of X G z_bool,
    n_divmod := PySem.W.mg_none_of X G z_divmod,
    n_enumerate := PySem.W.mg_none_of X G z_enumerate,
    n_int := PySem.W.mg_none_of X G z_int,
    n_isinstance := PySem.W.mg_none_of X G z_isinstance,
    n_len := PySem.W.mg_none_of X G z_len,
    n_list := PySem.W.mg_none_of X G z_list,
    n_max := PySem.W.mg_none_of X G z_max,
    n_min := PySem.W.mg_none_of X G z_min,
    n_range := PySem.W.mg_none_of X G z_range,
    n_reversed := PySem.W.mg_none_of X G z_reversed,
    n_sorted := PySem.W.mg_none_of X G z_sorted,
    n_str := PySem.W.mg_none_of X G z_str,
    n_sum := PySem.W.mg_none_of X G z_sum,
    n_tuple := PySem.W.mg_none_of X G z_tuple,
    n_zip := PySem.W.mg_none_of X G z_zip,
    t_LETTERS := t_LETTERS,
    c_LETTERS := PySem.W.mg_of X G v_LETTERS,
    t_MOST_LETTERS := t_MOST_LETTERS,
    c_MOST_LETTERS := PySem.W.mg_of X G v_MOST_LETTERS,
    t_MOST_ROWS := t_MOST_ROWS,
    c_MOST_ROWS := PySem.W.mg_of X G v_MOST_ROWS,
    t_MOST_RULES := t_MOST_RULES,
    c_MOST_RULES := PySem.W.mg_of X G v_MOST_RULES,
    t_MOST_STRUCK := t_MOST_STRUCK,
    c_MOST_STRUCK := PySem.W.mg_of X G v_MOST_STRUCK,
    t_SIGNS := t_SIGNS,
    c_SIGNS := PySem.W.mg_of X G v_SIGNS,
    no_text := no1,
    no_names := no2,
    no_rows := no3,
    ins_Book := ⟨⟨cpg_Book, chd_Book, cpo_Book, csa_Book⟩, cia_Book, ihn, iht, cim_Book⟩,
    tts := [(lt_all_lots, qn_all_lots f_all_lots lc_all_lots)], tabs := ok, hm_all_lots := List.mem_cons_self }
  exact ⟨T.e_law, I, [(lc_all_lots, lt_all_lots, qn_all_lots f_all_lots lc_all_lots)], fun s v => .of_eq rfl, ok, (f_cons o_all_lots.1 f_nil), (f_cons ln_all_lots f_nil), (f_cons o_all_lots.2 f_nil), fun base hb => d_law T (hb _ List.mem_cons_self)⟩
end K18

open PySem PySem.W PyProof.Rows in
set_option maxRecDepth 100000 in
set_option maxHeartbeats 0 in
theorem PySem.Challenge.cw_rankedrules_k18_whole_rules_exchanged_holds : PySem.Challenge.rw_rankedrules_k18_whole_rules_exchanged.Holds := by
  w_on; o_law; k_head; (case hw => w_witness2)
  k_fill
  refine Dw.walk_GT (l := PySem.Challenge.rw_rankedrules_k18_whole_rules_exchanged) (k := 9) (x := "_law_script") (sp := K18.spLaw) rfl rfl ⟨rfl, by decide, by decide⟩ (fun w h Y => PySem.W.km_in_of Y) (fun K ns h hb => ⟨ns, rfl, ⟨h, hb⟩, fun d h => h⟩) ?F
  case F =>
    intro w mg fa h KX G hmg tb
    refine' K18.all_mk KX G hmg tb ?cm_Book ?cpg_Book ?chd_Book ?cpo_Book ?csa_Book ?cmk_Book ?ckc_Book ?cia_Book ?cim_Book ?ihn ?iht ?a_is_name ?l_is_name ?c_is_name ?k_is_name ?a_are_names ?l_are_names ?c_are_names ?k_are_names ?a_is_any_row ?l_is_any_row ?c_is_any_row ?k_is_any_row ?a_is_row ?l_is_row ?c_is_row ?k_is_row ?a_is_whole ?l_is_whole ?c_is_whole ?k_is_whole ?a_is_index ?l_is_index ?c_is_index ?k_is_index ?a_check_rule ?l_check_rule ?c_check_rule ?k_check_rule ?a_read_book ?l_read_book ?c_read_book ?k_read_book ?a_check_book ?l_check_book ?c_check_book ?k_check_book ?a_head_of ?l_head_of ?c_head_of ?k_head_of ?a_rules_of ?l_rules_of ?c_rules_of ?k_rules_of ?a_sides ?l_sides ?c_sides ?k_sides ?a_rules_behind ?l_rules_behind ?c_rules_behind ?k_rules_behind ?a_steps ?l_steps ?c_steps ?k_steps ?a_openings ?l_openings ?c_openings ?k_openings ?a_endings ?l_endings ?c_endings ?k_endings ?a_count_fitting ?l_count_fitting ?c_count_fitting ?k_count_fitting ?a_heads_above ?l_heads_above ?c_heads_above ?k_heads_above ?a_has_sign ?l_has_sign ?c_has_sign ?k_has_sign ?a_split ?l_split ?c_split ?k_split ?a_some_fits ?l_some_fits ?c_some_fits ?k_some_fits ?a_Book_rows ?g_Book_rows ?t_Book_rows ?r_Book_rows ?l_Book_rows ?c_Book_rows ?k_Book_rows ?a_Book_names ?g_Book_names ?t_Book_names ?r_Book_names ?l_Book_names ?c_Book_names ?k_Book_names ?a_check_some_fits ?l_check_some_fits ?c_check_some_fits ?k_check_some_fits ?a_layers ?l_layers ?c_layers ?k_layers ?a_left_over ?l_left_over ?c_left_over ?k_left_over ?a_how_many ?l_how_many ?c_how_many ?k_how_many ?a_places ?l_places ?c_places ?k_places ?a_all_lots ?l_all_lots ?c_all_lots ?k_all_lots ?lk_all_lots ?lp_all_lots ?ln_all_lots ?lr_all_lots ?a_has_part ?l_has_part ?c_has_part ?k_has_part ?a_fits_without ?l_fits_without ?c_fits_without ?k_fits_without ?a_struck ?l_struck ?c_struck ?k_struck ?a_count_fallen ?l_count_fallen ?c_count_fallen ?k_count_fallen ?a_least_wrong ?l_least_wrong ?c_least_wrong ?k_least_wrong ?a_fewest_of_all ?l_fewest_of_all ?c_fewest_of_all ?k_fewest_of_all ?a_fewest_wrong ?l_fewest_wrong ?c_fewest_wrong ?k_fewest_wrong ?a_meets_all ?l_meets_all ?c_meets_all ?k_meets_all ?a_above ?l_above ?c_above ?k_above ?a_least_lots ?l_least_lots ?c_least_lots ?k_least_lots ?a_reasons ?l_reasons ?c_reasons ?k_reasons ?a_needless ?l_needless ?c_needless ?k_needless ?a__law_purse ?l__law_purse ?c__law_purse ?k__law_purse ?a__law_draw ?l__law_draw ?c__law_draw ?k__law_draw ?a__law_labels ?l__law_labels ?c__law_labels ?k__law_labels ?a__law_holds ?l__law_holds ?c__law_holds ?k__law_holds ?a__law_flipped ?l__law_flipped ?c__law_flipped ?k__law_flipped ?a__law_signs ?l__law_signs ?c__law_signs ?k__law_signs ?a__law_rows ?l__law_rows ?c__law_rows ?k__law_rows ?a__law_spelled ?l__law_spelled ?c__law_spelled ?k__law_spelled ?a__law_book ?l__law_book ?c__law_book ?k__law_book ?a__law_shape ?l__law_shape ?c__law_shape ?k__law_shape ?a_Book___init__ ?i_Book___init__ ?l_Book___init__ ?c_Book___init__ ?k_Book___init__ ?a__law_right ?l__law_right ?c__law_right ?k__law_right ?a_law ?l_law ?c_law ?k_law ?z_abs ?z_all ?z_any ?z_bool ?z_divmod ?z_enumerate ?z_int ?z_isinstance ?z_len ?z_list ?z_max ?z_min ?z_range ?z_reversed ?z_sorted ?z_str ?z_sum ?z_tuple ?z_zip ?v_LETTERS ?v_MOST_LETTERS ?v_MOST_ROWS ?v_MOST_RULES ?v_MOST_STRUCK ?v_SIGNS ?no1 ?no2 ?no3
    (case cm_Book => k_is)
    (case cpg_Book => k_is)
    (case chd_Book => k_is)
    (case cpo_Book => k_is)
    (case csa_Book => k_is)
    (case cmk_Book => k_is)
    (case ckc_Book => k_is)
    (case cia_Book => k_is)
    (case cim_Book => k_is)
    (case ihn => k_is)
    (case iht => k_is)
    (case a_is_name => k_is)
    (case l_is_name => k_is)
    (case c_is_name => k_is)
    (case k_is_name => k_is)
    (case a_are_names => k_is)
    (case l_are_names => k_is)
    (case c_are_names => k_is)
    (case k_are_names => k_is)
    (case a_is_any_row => k_is)
    (case l_is_any_row => k_is)
    (case c_is_any_row => k_is)
    (case k_is_any_row => k_is)
    (case a_is_row => k_is)
    (case l_is_row => k_is)
    (case c_is_row => k_is)
    (case k_is_row => k_is)
    (case a_is_whole => k_is)
    (case l_is_whole => k_is)
    (case c_is_whole => k_is)
    (case k_is_whole => k_is)
    (case a_is_index => k_is)
    (case l_is_index => k_is)
    (case c_is_index => k_is)
    (case k_is_index => k_is)
    (case a_check_rule => k_is)
    (case l_check_rule => k_is)
    (case c_check_rule => k_is)
    (case k_check_rule => k_is)
    (case a_read_book => k_is)
    (case l_read_book => k_is)
    (case c_read_book => k_is)
    (case k_read_book => k_is)
    (case a_check_book => k_is)
    (case l_check_book => k_is)
    (case c_check_book => k_is)
    (case k_check_book => k_is)
    (case a_head_of => k_is)
    (case l_head_of => k_is)
    (case c_head_of => k_is)
    (case k_head_of => k_is)
    (case a_rules_of => k_is)
    (case l_rules_of => k_is)
    (case c_rules_of => k_is)
    (case k_rules_of => k_is)
    (case a_sides => k_is)
    (case l_sides => k_is)
    (case c_sides => k_is)
    (case k_sides => k_is)
    (case a_rules_behind => k_is)
    (case l_rules_behind => k_is)
    (case c_rules_behind => k_is)
    (case k_rules_behind => k_is)
    (case a_steps => k_is)
    (case l_steps => k_is)
    (case c_steps => k_is)
    (case k_steps => k_is)
    (case a_openings => k_is)
    (case l_openings => k_is)
    (case c_openings => k_is)
    (case k_openings => k_is)
    (case a_endings => k_is)
    (case l_endings => k_is)
    (case c_endings => k_is)
    (case k_endings => k_is)
    (case a_count_fitting => k_is)
    (case l_count_fitting => k_is)
    (case c_count_fitting => k_is)
    (case k_count_fitting => k_is)
    (case a_heads_above => k_is)
    (case l_heads_above => k_is)
    (case c_heads_above => k_is)
    (case k_heads_above => k_is)
    (case a_has_sign => k_is)
    (case l_has_sign => k_is)
    (case c_has_sign => k_is)
    (case k_has_sign => k_is)
    (case a_split => k_is)
    (case l_split => k_is)
    (case c_split => k_is)
    (case k_split => k_is)
    (case a_some_fits => k_is)
    (case l_some_fits => k_is)
    (case c_some_fits => k_is)
    (case k_some_fits => k_is)
    (case a_Book_rows => k_is)
    (case g_Book_rows => k_is)
    (case t_Book_rows => k_is)
    (case r_Book_rows => k_is)
    (case l_Book_rows => k_is)
    (case c_Book_rows => k_is)
    (case k_Book_rows => k_is)
    (case a_Book_names => k_is)
    (case g_Book_names => k_is)
    (case t_Book_names => k_is)
    (case r_Book_names => k_is)
    (case l_Book_names => k_is)
    (case c_Book_names => k_is)
    (case k_Book_names => k_is)
    (case a_check_some_fits => k_is)
    (case l_check_some_fits => k_is)
    (case c_check_some_fits => k_is)
    (case k_check_some_fits => k_is)
    (case a_layers => k_is)
    (case l_layers => k_is)
    (case c_layers => k_is)
    (case k_layers => k_is)
    (case a_left_over => k_is)
    (case l_left_over => k_is)
    (case c_left_over => k_is)
    (case k_left_over => k_is)
    (case a_how_many => k_is)
    (case l_how_many => k_is)
    (case c_how_many => k_is)
    (case k_how_many => k_is)
    (case a_places => k_is)
    (case l_places => k_is)
    (case c_places => k_is)
    (case k_places => k_is)
    (case a_all_lots => k_is)
    (case l_all_lots => k_is)
    (case c_all_lots => k_is)
    (case k_all_lots => k_is)
    (case lk_all_lots => k_is)
    (case lp_all_lots => rfl)
    (case ln_all_lots => first | rfl | kernel_rfl)
    (case lr_all_lots => first | rfl | decide +kernel)
    (case a_has_part => k_is)
    (case l_has_part => k_is)
    (case c_has_part => k_is)
    (case k_has_part => k_is)
    (case a_fits_without => k_is)
    (case l_fits_without => k_is)
    (case c_fits_without => k_is)
    (case k_fits_without => k_is)
    (case a_struck => k_is)
    (case l_struck => k_is)
    (case c_struck => k_is)
    (case k_struck => k_is)
    (case a_count_fallen => k_is)
    (case l_count_fallen => k_is)
    (case c_count_fallen => k_is)
    (case k_count_fallen => k_is)
    (case a_least_wrong => k_is)
    (case l_least_wrong => k_is)
    (case c_least_wrong => k_is)
    (case k_least_wrong => k_is)
    (case a_fewest_of_all => k_is)
    (case l_fewest_of_all => k_is)
    (case c_fewest_of_all => k_is)
    (case k_fewest_of_all => k_is)
    (case a_fewest_wrong => k_is)
    (case l_fewest_wrong => k_is)
    (case c_fewest_wrong => k_is)
    (case k_fewest_wrong => k_is)
    (case a_meets_all => k_is)
    (case l_meets_all => k_is)
    (case c_meets_all => k_is)
    (case k_meets_all => k_is)
    (case a_above => k_is)
    (case l_above => k_is)
    (case c_above => k_is)
    (case k_above => k_is)
    (case a_least_lots => k_is)
    (case l_least_lots => k_is)
    (case c_least_lots => k_is)
    (case k_least_lots => k_is)
    (case a_reasons => k_is)
    (case l_reasons => k_is)
    (case c_reasons => k_is)
    (case k_reasons => k_is)
    (case a_needless => k_is)
    (case l_needless => k_is)
    (case c_needless => k_is)
    (case k_needless => k_is)
    (case a__law_purse => k_is)
    (case l__law_purse => k_is)
    (case c__law_purse => k_is)
    (case k__law_purse => k_is)
    (case a__law_draw => k_is)
    (case l__law_draw => k_is)
    (case c__law_draw => k_is)
    (case k__law_draw => k_is)
    (case a__law_labels => k_is)
    (case l__law_labels => k_is)
    (case c__law_labels => k_is)
    (case k__law_labels => k_is)
    (case a__law_holds => k_is)
    (case l__law_holds => k_is)
    (case c__law_holds => k_is)
    (case k__law_holds => k_is)
    (case a__law_flipped => k_is)
    (case l__law_flipped => k_is)
    (case c__law_flipped => k_is)
    (case k__law_flipped => k_is)
    (case a__law_signs => k_is)
    (case l__law_signs => k_is)
    (case c__law_signs => k_is)
    (case k__law_signs => k_is)
    (case a__law_rows => k_is)
    (case l__law_rows => k_is)
    (case c__law_rows => k_is)
    (case k__law_rows => k_is)
    (case a__law_spelled => k_is)
    (case l__law_spelled => k_is)
    (case c__law_spelled => k_is)
    (case k__law_spelled => k_is)
    (case a__law_book => k_is)
    (case l__law_book => k_is)
    (case c__law_book => k_is)
    (case k__law_book => k_is)
    (case a__law_shape => k_is)
    (case l__law_shape => k_is)
    (case c__law_shape => k_is)
    (case k__law_shape => k_is)
    (case a_Book___init__ => k_is)
    (case i_Book___init__ => k_is)
    (case l_Book___init__ => k_is)
    (case c_Book___init__ => k_is)
    (case k_Book___init__ => k_is)
    (case a__law_right => k_is)
    (case l__law_right => k_is)
    (case c__law_right => k_is)
    (case k__law_right => k_is)
    (case a_law => k_is)
    (case l_law => k_is)
    (case c_law => k_is)
    (case k_law => k_is)
    (case z_abs => k_is)
    (case z_all => k_is)
    (case z_any => k_is)
    (case z_bool => k_is)
    (case z_divmod => k_is)
    (case z_enumerate => k_is)
    (case z_int => k_is)
    (case z_isinstance => k_is)
    (case z_len => k_is)
    (case z_list => k_is)
    (case z_max => k_is)
    (case z_min => k_is)
    (case z_range => k_is)
    (case z_reversed => k_is)
    (case z_sorted => k_is)
    (case z_str => k_is)
    (case z_sum => k_is)
    (case z_tuple => k_is)
    (case z_zip => k_is)
    (case v_LETTERS => k_is)
    (case v_MOST_LETTERS => k_is)
    (case v_MOST_ROWS => k_is)
    (case v_MOST_RULES => k_is)
    (case v_MOST_STRUCK => k_is)
    (case v_SIGNS => k_is)
    (case no1 => k_is)
    (case no2 => k_is)
    (case no3 => k_is)
#print axioms PySem.Challenge.cw_rankedrules_k18_whole_rules_exchanged_holds



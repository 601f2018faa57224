import PyProof.Rows.All
import Wide.All
import OpenK.AllK
import Wide.FinOn
import HandS.ForMost
import HandS.ForExc
import HandS.IsInst
import HandS.SortRule
import HandS.SortInts
import HandS.Star
import HandS.Flow
import HandS.Style
import HandS.Zip
import HandS.Conv
import HandS.Deep
import HandS.ExcCtx
import HandS.HotCalls
import HandS.DictComp
import HandS.OwnEq
import KE.KExcInit
import PyProof.TupleIter
import KE.KDictKeyed
import KE.KDictWalk
import HandS.Walk
import KE.KDictSum
import KE.KDictCopyH
import KE.SortData
import HandS.DictEq
import KE.KDictDisplayH
import KE.GoesMore
import KE.GoesEnumKw
import HandS.SortKw
import HandS.SetKeys
import HandS.Steps
import HandS.TupAny
import PySem.Challenge.RW_twicedated_k58_whole_letters
import HandS.Codes
import KE.KExcLine

set_option Elab.async false
set_option linter.all false
set_option maxRecDepth 100000
set_option pp.maxSteps 1500
/-! Dicts whose keys are facts: (relation, names), names a tuple of texts. -/
namespace YjD
open PySem PySem.Spec PyProof.Rows L2
abbrev Fct := Str × List Str
def keyF (f : Fct) : NestedKey := .tup [.text f.1, .tup (f.2.map NestedKey.text)]
theorem texts_inj : ∀ {a b : List Str}, a.map NestedKey.text = b.map NestedKey.text → a = b
  | [], [], _ => rfl
  | [], _ :: _, h => by cases h
  | _ :: _, [], h => by cases h
  | x :: a, y :: b, h => by
    rw [List.map_cons, List.map_cons] at h
    injection h with h1 h2
    injection h1 with h1
    rw [h1, texts_inj h2]
theorem keyF_inj {f g : Fct} (h : keyF f = keyF g) : f = g := by
  obtain ⟨r, n⟩ := f
  obtain ⟨s, m⟩ := g
  unfold keyF at h
  injection h with h
  injection h with h1 h2
  injection h1 with h1
  injection h2 with h2 _
  injection h2 with h2
  exact Prod.ext h1 (texts_inj h2)
theorem depth_texts : ∀ n : List Str, NestedKey.depthAll (n.map NestedKey.text) = 0
  | [] => rfl
  | x :: n => by
    show max 0 (NestedKey.depthAll (n.map NestedKey.text)) = 0
    rw [depth_texts n]
    rfl
theorem depth_key (f : Fct) : (keyF f).depth ≤ 8 := by
  show max 0 (max (NestedKey.depthAll (f.2.map NestedKey.text) + 1) 0) + 1 ≤ 8
  rw [depth_texts]
  decide
/-- the fact f stands at a: a tuple of its relation and of a tuple of its names -/
def KeyAt (H : Hp) (a : Addr) (f : Fct) : Prop := ∃ n, H a = some (.tup [.str f.1, .ref n]) ∧ H n = some (.tup (f.2.map V.str))
theorem KeyAt.tups {H H' : Hp} {a : Addr} {f : Fct} (ht : ∀ b xs, H b = some (.tup xs) → H' b = some (.tup xs)) (h : KeyAt H a f) : KeyAt H' a f := by
  obtain ⟨n, h1, h2⟩ := h
  exact ⟨n, ht _ _ h1, ht _ _ h2⟩
theorem KeyAt.mono {H H' : Hp} {a : Addr} {f : Fct} (s : Same H H') (h : KeyAt H a f) : KeyAt H' a f := h.tups fun b xs e => s _ _ e
theorem strs_inj : ∀ {a b : List Str}, a.map V.str = b.map V.str → a = b
  | [], [], _ => rfl
  | [], _ :: _, h => by cases h
  | _ :: _, [], h => by cases h
  | x :: a, y :: b, h => by
    rw [List.map_cons, List.map_cons] at h
    injection h with h1 h2
    injection h1 with h1
    rw [h1, strs_inj h2]
theorem KeyAt.inj {H : Hp} {a : Addr} {f g : Fct} (h : KeyAt H a f) (k : KeyAt H a g) : f = g := by
  obtain ⟨n, h1, h2⟩ := h
  obtain ⟨m, k1, k2⟩ := k
  rw [h1] at k1
  injection k1 with k1
  injection k1 with k1
  injection k1 with e1 e2
  injection e1 with e1
  injection e2 with e2 _
  injection e2 with e2
  subst e2
  rw [h2] at k2
  injection k2 with k2
  injection k2 with k2
  exact Prod.ext e1 (strs_inj k2)
theorem texts_are {h : Heap} : ∀ {n : List Str} {us : List Value}, Vals (n.map V.str) us → NestedAll h (n.map NestedKey.text) us
  | [], _, r => by
    cases r
    exact .nil
  | x :: n, _, r => by
    cases r with
    | cons a t =>
      obtain ⟨k, rfl⟩ := (show ∃ t, _ = Value.str x t from a)
      exact .cons (.text x k) (texts_are t)
theorem fact_is {P : Program} {w : World} {H : Hp} {h : Heap} {a : Addr} {f : Fct} (ok : HOk P w H h) (k : KeyAt H a f) : (nestedKind P w).is h (keyF f) a := by
  obtain ⟨n, h1, h2⟩ := k
  obtain ⟨_, its, r, o, e1, e2, m, e3⟩ := (show ObjOk P w H h a _ from ok a _ h1)
  obtain ⟨_, jts, q, u, d1, d2, l, d3⟩ := (show ObjOk P w H h n _ from ok n _ h2)
  refine ⟨.tup e1 e2 e3 ?_, depth_key f⟩
  cases r with
  | cons r1 t1 =>
    cases t1 with
    | cons r2 t2 =>
      cases t2
      obtain ⟨k, rfl⟩ := (show ∃ t, _ = Value.str f.1 t from r1)
      obtain rfl := (show _ = Value.ref n from r2)
      refine .cons (.text _ _) (.cons (.tup d1 d2 d3 ?_) .nil)
      exact texts_are q
/-- the object o stands at d -/
def obO (d : Addr) (o : Obj) : HO := .ext fun h => h.get? d = some o
/-- entries told by values -/
abbrev FR (H : Hp) : List (Fct × V) → List (NestedKey × Addr × Value) → Prop := Paired fun p q => keyF p.1 = q.1 ∧ KeyAt H q.2.1 p.1 ∧ RelV p.2 q.2.2
/-- at d stands a dict with the facts and values kvs, in the order of insertion: the object o -/
structure FDo (P : Program) (w : World) (H : Hp) (d : Addr) (o : Obj) (kvs : List (Fct × V)) : Prop where
  sys : (d == sysModules) = false
  len : kvs.length ≤ sizeLine
  nod : (kvs.map (·.1)).Nodup
  here : H d = some (obO d o)
  exact' : o.ExactDict
  ent : ∃ es ep xs, o.data = .dict es ep ∧ es.toList = xs.map (entryOfKey (nestedKind P w)) ∧ FR H kvs xs
def FD (P : Program) (w : World) (H : Hp) (d : Addr) (kvs : List (Fct × V)) : Prop := ∃ o, FDo P w H d o kvs
theorem FD.sys {P : Program} {w : World} {H : Hp} {d : Addr} {kvs : List (Fct × V)} (F : FD P w H d kvs) : (d == sysModules) = false := let ⟨_, f⟩ := F; f.sys
theorem FD.len {P : Program} {w : World} {H : Hp} {d : Addr} {kvs : List (Fct × V)} (F : FD P w H d kvs) : kvs.length ≤ sizeLine := let ⟨_, f⟩ := F; f.len
theorem FD.nod {P : Program} {w : World} {H : Hp} {d : Addr} {kvs : List (Fct × V)} (F : FD P w H d kvs) : (kvs.map (·.1)).Nodup := let ⟨_, f⟩ := F; f.nod
theorem FR.tups {H H' : Hp} {kvs : List (Fct × V)} {xs : List (NestedKey × Addr × Value)} (ht : ∀ b ys, H b = some (.tup ys) → H' b = some (.tup ys)) (r : FR H kvs xs) : FR H' kvs xs :=
  Paired.mapP r fun _ _ z => ⟨z.1, z.2.1.tups ht, z.2.2⟩
theorem FDo.keep {P : Program} {w : World} {H H' : Hp} {d : Addr} {o : Obj} {kvs : List (Fct × V)} (F : FDo P w H d o kvs) (hd : H' d = H d) (ht : ∀ b ys, H b = some (.tup ys) → H' b = some (.tup ys)) : FDo P w H' d o kvs := by
  obtain ⟨s, l, n, h, x, es, ep, xs, e1, e2, r⟩ := F
  exact ⟨s, l, n, hd.trans h, x, es, ep, xs, e1, e2, r.tups ht⟩
theorem FD.keep {P : Program} {w : World} {H H' : Hp} {d : Addr} {kvs : List (Fct × V)} (F : FD P w H d kvs) (hd : H' d = H d) (ht : ∀ b ys, H b = some (.tup ys) → H' b = some (.tup ys)) : FD P w H' d kvs := by
  obtain ⟨o, F⟩ := F
  exact ⟨o, F.keep hd ht⟩
theorem FD.ext {P : Program} {w : World} {H : Hp} {d : Addr} {kvs : List (Fct × V)} (F : FD P w H d kvs) : ∃ φ, H d = some (.ext φ) := by
  obtain ⟨o, F⟩ := F
  exact ⟨_, F.here⟩
theorem FDo.mono {P : Program} {w : World} {H H' : Hp} {d : Addr} {o : Obj} {kvs : List (Fct × V)} (s : Same H H') (F : FDo P w H d o kvs) : FDo P w H' d o kvs := F.keep ((s _ _ F.here).trans F.here.symm) fun b ys e => s _ _ e
theorem FD.mono {P : Program} {w : World} {H H' : Hp} {d : Addr} {kvs : List (Fct × V)} (s : Same H H') (F : FD P w H d kvs) : FD P w H' d kvs := by
  obtain ⟨o, F⟩ := F
  exact ⟨o, F.mono s⟩
theorem FR.nodup {H : Hp} {kvs : List (Fct × V)} {xs : List (NestedKey × Addr × Value)} (r : FR H kvs xs) (n : (kvs.map (·.1)).Nodup) : (xs.map (·.1)).Nodup := by
  have e : xs.map (·.1) = (kvs.map (·.1)).map keyF := by
    clear n
    induction r with
    | nil => rfl
    | cons h t ih =>
      rw [List.map_cons, List.map_cons, List.map_cons, ih, h.1]
  rw [e]
  unfold List.Nodup at n ⊢
  rw [List.pairwise_map]
  exact n.imp fun h z => h (keyF_inj z)
theorem FR.all {P : Program} {w : World} {H : Hp} {h : Heap} (ok : HOk P w H h) {kvs : List (Fct × V)} {xs : List (NestedKey × Addr × Value)} (r : FR H kvs xs) : ∀ x ∈ xs, (nestedKind P w).is h x.1 x.2.1 := by
  induction r with
  | nil =>
    intro x hx
    cases hx
  | cons a t ih =>
    intro x hx
    rcases List.mem_cons.mp hx with e | hx
    · rw [e, ← a.1]
      exact fact_is ok a.2.1
    · exact ih x hx
/-- the library's own word of it -/
theorem FDo.of {P : Program} {w : World} {H : Hp} {h : Heap} {d : Addr} {o : Obj} {kvs : List (Fct × V)} (ok : HOk P w H h) (F : FDo P w H d o kvs) : h.get? d = some o ∧ ∃ xs, FR H kvs xs ∧ h.DictOfH (nestedKind P w) d xs := by
  obtain ⟨_, _, n, e, h2, es, ep, xs, h3, h4, r⟩ := F
  obtain ⟨h1, _⟩ := (show ObjOk P w H h d (obO d o) from ok d _ e)
  exact ⟨h1, xs, r, o, es, ep, h1, h2, h3, h4, r.all ok, r.nodup n⟩
theorem FD.of {P : Program} {w : World} {H : Hp} {h : Heap} {d : Addr} {kvs : List (Fct × V)} (ok : HOk P w H h) (F : FD P w H d kvs) : ∃ xs, FR H kvs xs ∧ h.DictOfH (nestedKind P w) d xs := by
  obtain ⟨o, F⟩ := F
  exact (F.of ok).2
theorem ob_new {P : Program} {w : World} {H : Hp} {h : Heap} {d : Addr} {o : Obj} (e : h.get? d = some o) : ObjOk P w H h d (obO d o) := ⟨e, ⟨o, e⟩, fun _ _ z k => k _ z⟩
theorem FR.val {H : Hp} {kvs : List (Fct × V)} {xs : List (NestedKey × Addr × Value)} (r : FR H kvs xs) (f : Fct) : RelO (valV kvs f) ((atKey xs (keyF f)).map (·.2)) := by
  induction r with
  | nil => exact True.intro
  | @cons p q ps qs a t ih =>
    by_cases e : p.1 = f
    · have e' : q.1 = keyF f := by rw [← a.1, e]
      have b : atKey (q :: qs) (keyF f) = some q.2 := by simp [atKey, List.find?_cons, e']
      rw [valV_pos e, b]
      exact a.2.2
    · have e' : ¬ q.1 = keyF f := fun z => e (keyF_inj (a.1.trans z))
      have b : atKey (q :: qs) (keyF f) = atKey qs (keyF f) := by simp [atKey, List.find?_cons, e']
      rw [valV_neg e, b]
      exact ih
theorem FR.swap {H : Hp} {kvs : List (Fct × V)} {xs : List (NestedKey × Addr × Value)} (r : FR H kvs xs) (f : Fct) {y : V} {u : Value} (ry : RelV y u) : FR H (kvs.map fun kv => if kv.1 = f then (kv.1, y) else kv) (xs.map (putAt (keyF f) u)) := by
  induction r with
  | nil => exact .nil
  | @cons p q ps qs a t ih =>
    refine .cons ?_ ih
    unfold putAt
    dsimp only
    by_cases e : p.1 = f
    · rw [if_pos e, if_pos (by rw [← a.1, e])]
      exact ⟨a.1, a.2.1, ry⟩
    · rw [if_neg e, if_neg fun z => e (keyF_inj (a.1.trans z))]
      exact a
theorem FR.put {H : Hp} {kvs : List (Fct × V)} {xs : List (NestedKey × Addr × Value)} (r : FR H kvs xs) (f : Fct) {b : Addr} {y : V} {u : Value} (hb : KeyAt H b f) (ry : RelV y u) : FR H (putK kvs f y) (storedH xs (keyF f) b u) := by
  have e : (kvs.any fun kv => decide (kv.1 = f)) = (atKey xs (keyF f)).isSome := by
    rw [valV_any, (r.val f).isSome_eq, Option.isSome_map]
  unfold putK storedH
  rw [e]
  by_cases q : (atKey xs (keyF f)).isSome = true
  · rw [if_pos q, if_pos q]
    exact r.swap f ry
  · rw [if_neg q, if_neg q]
    exact Paired.snoc r ⟨rfl, hb, ry⟩
theorem keys_put {kvs : List (Fct × V)} (f : Fct) (y : V) : (putK kvs f y).map (·.1) = if (valV kvs f).isSome then kvs.map (·.1) else kvs.map (·.1) ++ [f] := by
  unfold putK
  rw [valV_any]
  by_cases q : (valV kvs f).isSome = true
  · rw [if_pos q, if_pos q, List.map_map]
    refine List.map_congr_left fun p _ => ?_
    by_cases e : p.1 = f
    · simp [e]
    · simp [e]
  · rw [if_neg q, if_neg q, List.map_append]
    rfl
theorem valV_mem {kvs : List (Fct × V)} {f : Fct} (h : valV kvs f = none) : f ∉ kvs.map (·.1) := by
  induction kvs with
  | nil => intro z; cases z
  | cons p ps ih =>
    by_cases e : p.1 = f
    · rw [valV_pos e] at h
      cases h
    · rw [valV_neg e] at h
      intro z
      rcases List.mem_cons.mp z with z | z
      · exact e z.symm
      · exact ih h z
theorem nod_put {kvs : List (Fct × V)} (f : Fct) (y : V) (n : (kvs.map (·.1)).Nodup) : ((putK kvs f y).map (·.1)).Nodup := by
  rw [keys_put]
  split
  · exact n
  · rename_i h
    have h' : valV kvs f = none := by
      cases e : valV kvs f with
      | none => rfl
      | some v => rw [e] at h; exact absurd rfl h
    rw [List.nodup_append]
    exact ⟨n, List.nodup_cons.mpr ⟨List.not_mem_nil, List.nodup_nil⟩, fun a ha b hb => by
      rw [List.mem_singleton.mp hb]
      intro z
      exact valV_mem h' (z ▸ ha)⟩
section
variable {X : Cx} {pins : List (Addr × Obj)} {σ : L2.St} {H : Hp} {s : Shared}
/-- the dict at d behind a store -/
theorem FD.stored {d b : Addr} {kvs : List (Fct × V)} {f : Fct} {y : V} {u : Value} {xs : List (NestedKey × Addr × Value)} {h' : Heap} {t' : Nat} (I : Inv X pins σ H s) (F : FD X.prog X.w H d kvs) (hb : KeyAt H b f) (ry : RelV y u) (hl : kvs.length < sizeLine) (r : FR H kvs xs)
    (D : h'.DictOfH (nestedKind X.prog X.w) d (storedH xs (keyF f) b u)) (hs : Heap.SameBut d s.heap h') :
    ∃ o', Inv X pins σ (upd H d o') { s with heap := h', toks := t' } ∧ FD X.prog X.w (upd H d o') d (putK kvs f y) := by
  obtain ⟨φ, hd⟩ := F.ext
  obtain ⟨o, es, ep, h1, h2, h3, h4, _⟩ := D
  refine ⟨obO d o, d_write I (by rw [hd]; exact True.intro) hs ⟨o, h1⟩ (ob_new h1), o, F.sys, ?_, nod_put f y F.nod, upd_same, h2, es, ep, _, h3, h4, (r.put f hb ry).tups fun b ys e => ?_⟩
  · have := length_putK kvs f y
    omega
  · rw [upd_ne fun z => ?_]
    · exact e
    · rw [z, hd] at e
      cases e
variable {a e k v : Expr} {ta te tk tv : TE} {pos apos cpos : Pos}
/-- d[k], there -/
def tFGet (P : Program) (w : World) (ta tk : TE) : TE := fun σ H Q => ta σ H fun x H1 => tk σ H1 fun y H2 => ∃ d kvs b f v, x = .ref d ∧ y = .ref b ∧ FD P w H2 d kvs ∧ KeyAt H2 b f ∧ valV kvs f = some v ∧ Q v H2
theorem pe_fget (hu : X.A.units + 64 < cLine) (ho : PE X a ta) (hi : PE X k tk) (hs : NoSl k) : PE X (.Subscript a k pos) (tFGet X.prog X.w ta tk) := by
  refine ⟨fun pins s σ H Q I h => ?_⟩
  refine subD_of PySem.F.slot_dict_getitem.lookup hs ?_
  refine thn (ho.run pins s σ H _ I h) fun u s1 h1 => ?_
  obtain ⟨x, H1, I1, rx, q1⟩ := h1
  refine thn (hi.run pins s1 σ H1 _ I1 q1) fun j s2 h2 => ?_
  obtain ⟨y, H2, I2, ry, d, kvs, b, f, z, rfl, rfl, F, K, hv, q⟩ := h2
  obtain rfl : u = Value.ref d := rx
  obtain rfl : j = Value.ref b := ry
  obtain ⟨xs, r, D⟩ := F.of I2.hok
  obtain ⟨u', hu', ru⟩ := RelO.some_of (v := z) (o := (atKey xs (keyF f)).map (·.2)) (by rw [← hv]; exact r.val f)
  obtain ⟨p, hp, hp2⟩ := Option.map_eq_some_iff.mp hu'
  refine ⟨D.typeIs, wpAny_getItem_heap (by show X.A.units + 1 + 8 < cLine; omega) (fact_is I2.hok K) D hp ?_⟩
  rw [hp2]
  exact ⟨z, H2, I2.tok _, ru, q⟩
/-- d.get(k, e) -/
def tFOr (P : Program) (w : World) (ta tk te : TE) : TE := fun σ H Q => ta σ H fun x H1 => ∃ d kvs, x = .ref d ∧ FD P w H1 d kvs ∧ tk σ H1 fun y H2 => te σ H2 fun z H3 => ∃ b f, y = .ref b ∧ FD P w H3 d kvs ∧ KeyAt H3 b f ∧ Q ((valV kvs f).getD z) H3
theorem pe_for (hu : X.A.units + 64 < cLine) (ho : PE X a ta) (hk : PE X k tk) (he : PE X e te) (m : M2 X a "get" apos k e cpos) : PE X (.Call (.Attribute a "get" apos) [k, e] [] cpos) (tFOr X.prog X.w ta tk te) := by
  refine ⟨fun pins s σ H Q I h => ?_⟩
  refine wpAny_Call_method m.base m.few m.line PySem.F.plainAttrs_dict PySem.F.slot_dict_get PySem.F.type_dict_get (thn (ho.run pins s σ H _ I h) fun u s1 h1 => ?_)
  obtain ⟨x, H1, I1, rx, d, kvs, rfl, F, q1⟩ := h1
  obtain rfl : u = Value.ref d := rx
  obtain ⟨_, _, D1⟩ := F.of I1.hok
  have one : ∀ c, Value.ref d = .ref c → ∃ ob, s1.heap.get? c = some ob ∧ ob.dict = none := fun c z => by
    cases z
    obtain ⟨ob, _, _, h1, h2, _⟩ := D1
    exact ⟨ob, h1, h2.2.1⟩
  refine ⟨D1.typeIs, one, ?_⟩
  rw [m.trees]
  refine Calls.callWith_builtin rfl (Calls.evalArgs_plain (Calls.spliced_cons (thn (hk.run pins s1 σ H1 _ I1 q1) fun j s2 h2 => ?_)))
  obtain ⟨y, H2, I2, ry, q2⟩ := h2
  refine Calls.spliced_cons (thn (he.run pins s2 σ H2 _ I2 q2) fun l s3 h3 => Calls.spliced_nil ?_)
  obtain ⟨z, H3, I3, rz, b, f, rfl, F3, K, q⟩ := h3
  obtain rfl : j = Value.ref b := ry
  obtain ⟨xs, r, D⟩ := F3.of I3.hok
  refine call_meetsIn PySem.F.slot_dict_get D.typeIs PySem.F.entry_dict_get (PySem.F.args_dict_get_3 _ _ _) (meetsH_dict_get_default (nestedKind X.prog X.w) d b F3.sys l) ?_
  refine ⟨by show X.A.units + 1 + 8 < cLine; omega, keyF f, xs, fact_is I3.hok K, D, ?_⟩
  exact ⟨_, H3, I3.tok _, (r.val f).getD rz, q⟩
/-- k in d -/
def rInF (P : Program) (w : World) (neg : Bool) : R2 := fun x y H Q => ∃ d kvs b f, x = .ref b ∧ y = .ref d ∧ FD P w H d kvs ∧ KeyAt H b f ∧ Q (.bl (if neg then !(valV kvs f).isSome else (valV kvs f).isSome)) H
theorem op_inF (hu : X.A.units + 64 < cLine) : OpR X (compareOp .In) (rInF X.prog X.w false) := by
  intro pins s σ H x y v u Q I rx ry h
  obtain ⟨d, kvs, b, f, rfl, rfl, F, K, q⟩ := h
  obtain rfl : v = Value.ref b := rx
  obtain rfl : u = Value.ref d := ry
  obtain ⟨xs, r, D⟩ := F.of I.hok
  refine wpAny_in_heap (by show X.A.units + 1 + 8 < cLine; omega) (fact_is I.hok K) F.sys D ?_
  have e := (r.val f).isSome_eq
  rw [Option.isSome_map] at e
  rw [← e]
  exact ⟨.bl _, H, I.tok _, rfl, q⟩
theorem op_notInF (hu : X.A.units + 64 < cLine) : OpR X (compareOp .NotIn) (rInF X.prog X.w true) := by
  intro pins s σ H x y v u Q I rx ry h
  obtain ⟨d, kvs, b, f, rfl, rfl, F, K, q⟩ := h
  obtain rfl : v = Value.ref b := rx
  obtain rfl : u = Value.ref d := ry
  obtain ⟨xs, r, D⟩ := F.of I.hok
  refine wpAny_notIn_heap (by show X.A.units + 1 + 8 < cLine; omega) (fact_is I.hok K) F.sys D ?_
  have e := (r.val f).isSome_eq
  rw [Option.isSome_map] at e
  rw [← e]
  exact ⟨.bl _, H, I.tok _, rfl, q⟩
/-- d[k] = v -/
def tSetF (P : Program) (w : World) : V → V → V → Hp → (Hp → Prop) → Prop := fun o i v H Q => ∃ d kvs b f, o = .ref d ∧ i = .ref b ∧ FD P w H d kvs ∧ KeyAt H b f ∧ kvs.length < sizeLine ∧ ∀ o', FD P w (upd H d o') d (putK kvs f v) → Q (upd H d o')
theorem set_fact (hu : X.A.units + 64 < cLine) : PSet X (tSetF X.prog X.w) := by
  intro pins s σ H o i v ov iv u Q I ro ri rv h
  obtain ⟨d, kvs, b, f, rfl, rfl, F, K, hl, q⟩ := h
  obtain rfl : ov = Value.ref d := ro
  obtain rfl : iv = Value.ref b := ri
  obtain ⟨xs, r, D⟩ := F.of I.hok
  have e := Paired.length r
  refine wpAny_setItem_heap (hsz := by omega) (by show X.A.units + 1 + 8 < cLine; omega) (fact_is I.hok K) D fun h' D' hs => ?_
  obtain ⟨o', I', F'⟩ := F.stored (t' := s.toks + (nestedKind X.prog X.w).draws (keyF f)) I K rv hl r D' hs
  exact ⟨_, I', q o' F'⟩
/-- {}, to be a dict of facts -/
def tFNew (P : Program) (w : World) : TE := fun _ H Q => ∀ d o, H d = none → FD P w (upd H d o) d [] → Q (.ref d) (upd H d o)
def newO : Obj := { cls := .type "dict", data := .dict #[] }
theorem fd_empty {P : Program} {w : World} {H : Hp} {d : Addr} (hb : sysModules < d) : FD P w (upd H d (obO d newO)) d [] :=
  ⟨newO, beq_eq_false_iff_ne.mpr (Ne.symm (Nat.ne_of_lt hb)), Nat.zero_le _, List.nodup_nil, upd_same, ⟨rfl, rfl, rfl⟩, #[], 0, [], rfl, rfl, .nil⟩
theorem pe_fnew : PE X (.Dict [] [] pos) (tFNew X.prog X.w) := ⟨fun pins s σ H Q I h => by
  refine wpAny_Dict_empty ⟨.ref s.heap.objs.size, _, I.laid (a := s.heap.objs.size) (o := obO s.heap.objs.size newO) (t' := s.toks) (fun _ _ q => Heap.get?_push_of_some _ q) (Nat.le_refl _) (ob_new (Heap.get?_push_size _ rfl)), rfl, ?_⟩
  exact h _ _ (I.hok.fresh (Nat.le_refl _)) (fd_empty I.big)⟩
/-- len(d) -/
theorem call_lenF (hc : X.calm = true) : CallR X (.builtin "len") (fun vs H Q => ∃ d kvs, vs = [V.ref d] ∧ FD X.prog X.w H d kvs ∧ Q (.int (kvs.length : Nat)) H) := by
  intro pins s σ H vs us Q I r h
  obtain ⟨d, kvs, rfl, F, q⟩ := h
  obtain ⟨u, rfl, ru⟩ := vals1 r
  obtain rfl : u = Value.ref d := ru
  obtain ⟨xs, rr, D⟩ := F.of I.hok
  have e := Paired.length rr
  have hz := F.len
  have hz2 := sizeLine_eq
  refine PyProof.Rows.call_len_slot (n := xs.length) D.typeIs PySem.F.slot_dict_len (fun Q' hq => len_keyed F.sys ⟨xs, D, rfl⟩ (by rw [pairsH_length]; exact hq)) (by omega) (by omega) ?_
  rw [← e]
  exact ⟨.int _, H, I.tok _, ⟨_, rfl⟩, q⟩
end
end YjD
set_option Elab.async false
set_option linter.all false
set_option maxRecDepth 100000
set_option pp.maxSteps 1500
/-! A dict of facts, walked by its keys. -/
namespace YjD
open PySem PySem.Spec PyProof.Rows L2
theorem FDo.at {P : Program} {w : World} {H : Hp} {d : Addr} {o : Obj} {kvs : List (Fct × V)} {es : Array DictEntry} {ep : Nat} (F : FDo P w H d o kvs) (hod : o.data = .dict es ep) : es.size = kvs.length ∧
    ∀ i (hi : i < es.size), ∃ ka f v, kvs[i]? = some (f, v) ∧ es[i].key = .ref ka ∧ KeyAt H ka f ∧ RelV v es[i].val := by
  obtain ⟨_, _, _, _, _, es', ep', xs, e1, e2, r⟩ := F
  rw [hod] at e1
  cases e1
  have hl := Paired.length r
  have hs := size_of_entries e2
  refine ⟨hs.trans hl.symm, fun i hi => ?_⟩
  have he := entry_at e2 i
  have hx : i < xs.length := hs ▸ hi
  rw [Array.getElem?_eq_getElem hi, List.getElem?_eq_getElem hx, Option.map_some] at he
  have he := Option.some.inj he
  have g : ∀ {l : List (Fct × V)} {m : List (NestedKey × Addr × Value)}, FR H l m → ∀ (j : Nat) (hj : j < m.length), ∃ f v, l[j]? = some (f, v) ∧ KeyAt H m[j].2.1 f ∧ RelV v m[j].2.2 := by
    intro l m q
    induction q with
    | nil =>
      intro j hj
      exact absurd hj (Nat.not_lt_zero j)
    | @cons p q ps qs a t ih =>
      intro j hj
      cases j with
      | zero => exact ⟨p.1, p.2, rfl, a.2.1, a.2.2⟩
      | succ j => exact ih j (Nat.lt_of_succ_lt_succ hj)
  obtain ⟨f, v, h1, h2, h3⟩ := g r i hx
  refine ⟨xs[i].2.1, f, v, h1, ?_, h2, ?_⟩
  · rw [he]
    rfl
  · rw [he]
    exact h3
/-- the keys of the dict at d, one by one -/
def ItF (P : Program) (w : World) (d : Addr) (o : Obj) (kvs : List (Fct × V)) : It :=
  ⟨fun i H => FDo P w H d o kvs ∧ i < kvs.length, fun i H x H' => H' = H ∧ ∃ ka f v, x = .ref ka ∧ kvs[i]? = some (f, v) ∧ KeyAt H ka f, fun i H => FDo P w H d o kvs ∧ i = kvs.length⟩
theorem turn_facts {P : Program} {w : World} {K : PySem.W.Frag} {tg : Expr} {d : Addr} {o : Obj} {kvs : List (Fct × V)} {es : Array DictEntry} {ep : Nat} (it : Addr) (hod : o.data = .dict es ep) :
    Turn P w K tg (ItF P w d o kvs) [it] it (fun i h => h.IsKeyIter it d i es.size ep) := by
  refine ⟨by simp, fun i h st b hb => ?_, fun i h h' st k => st.at fun oi e => k it (by simp) oi e, ?_, ?_, fun A i s Q E st h => wpAny_pyIter_keyiter st h⟩
  · rw [List.mem_singleton.mp hb]
    obtain ⟨oi, e, _, dd⟩ := st
    exact ⟨oi, e, fun v z => by rw [dd] at z; cases z⟩
  · intro X hP hw hK hc i pins s σ H E I hf st hg
    subst hP hw hK
    obtain ⟨F, hi⟩ := hg
    obtain ⟨f0, f1, f2, f3, f4, f5⟩ := hf it (by simp)
    obtain ⟨hd, _⟩ := F.of I.hok
    obtain ⟨hs, hat⟩ := F.at hod
    obtain ⟨ka, f, v, h1, h2, h3, _⟩ := hat i (by omega)
    refine wpAny_pyNext_keys_item_raw st ⟨o, hd, F.exact', hod⟩ (by omega) fun h' st' sb => ?_
    have J : Inv X pins σ H { s with heap := h' } := I.turned (t' := s.toks) (fun b ob hb e => (sb.2 b hb).trans e) f0 f1 f3 f4 f5
    obtain ⟨oi, e, c, dd⟩ := id st'
    exact ⟨_, rfl, go_of (s := { s with heap := h' }) e c dd (by decide) ⟨.ref ka, H, J, h2, ⟨rfl, ka, f, v, rfl, h1, h3⟩, st', fun b hb => (hf b hb).1⟩⟩
  · intro X hP hw hK hc i pins s σ H E I hf st hg
    subst hP hw hK
    obtain ⟨F, hi⟩ := hg
    obtain ⟨f0, f1, f2, f3, f4, f5⟩ := hf it (by simp)
    obtain ⟨hd, _⟩ := F.of I.hok
    obtain ⟨hs, _⟩ := F.at hod
    exact wpAny_pyNext_keys_end_raw (I.ok.hd hc) st ⟨o, hd, F.exact', hod⟩ (by omega) fun h' eb => ⟨rfl, I.turned (t' := s.toks) (fun b ob hb e => eb b ob hb e) f0 f1 f3 f4 f5⟩
/-- a dict of facts, walked -/
def iFacts (P : Program) (w : World) (te : TE) : TI := fun σ H R => te σ H fun x H1 => ∃ d o kvs, x = .ref d ∧ FDo P w H1 d o kvs ∧ R (ItF P w d o kvs) H1
theorem pi_facts {X : Cx} {e tg : Expr} {te : TE} (ha : PE X e te) : PI X tg e (iFacts X.prog X.w te) := by
  refine ⟨fun pins s σ H R I h => ?_⟩
  refine thn (ha.run pins s σ H _ I h) fun u s1 h1 => ?_
  obtain ⟨x, H1, I1, rx, d, o, kvs, rfl, F, q⟩ := h1
  obtain rfl : u = Value.ref d := rx
  obtain ⟨hd, _⟩ := F.of I1.hok
  obtain ⟨es, ep, xs, e1, e2, r⟩ := F.ent
  refine wpAny_pyIter_dict_raw F.sys ⟨o, hd, F.exact', e1⟩ ?_
  have fp : ∀ b ∈ [s1.heap.objs.size], FpOk X pins H1 b := fun b hb => by
    rw [List.mem_singleton.mp hb]
    exact I1.fpOk (Nat.le_refl _) (I1.hok.fresh (Nat.le_refl _))
  refine ⟨s1.heap.objs.size, _, _, _, H1, rfl, I1.kept (t' := s1.toks) fun b ob z => Heap.get?_push_of_some _ z, turn_facts s1.heap.objs.size e1, ?_, fp, q⟩
  exact ⟨_, Heap.get?_push_size _ rfl, rfl, rfl⟩
theorem walk_facts {P : Program} {w : World} {d : Addr} {o : Obj} {kvs : List (Fct × V)} : Walk (ItF P w d o kvs) kvs.length (fun H => FDo P w H d o kvs) (fun i H x H' => H' = H ∧ ∃ ka f v, x = .ref ka ∧ kvs[i]? = some (f, v) ∧ KeyAt H ka f) :=
  ⟨fun i H hi q => ⟨q, hi⟩, fun H q => ⟨q, rfl⟩, fun i H x H' hi q y => y⟩
end YjD
set_option Elab.async false
set_option linter.all false
set_option maxRecDepth 100000
set_option pp.maxSteps 1500
/-! The facts of a dict as a list, and sorted. -/
namespace YjD
open PySem PySem.Spec PyProof.Rows L2
/-- references to facts that stand in the heap -/
abbrev KeysAt (H : Hp) : List V → List Fct → Prop := Paired fun u f => ∃ ka, u = V.ref ka ∧ KeyAt H ka f
theorem KeysAt.mono {H H' : Hp} (s : Same H H') {us : List V} {fs : List Fct} (h : KeysAt H us fs) : KeysAt H' us fs := Paired.mapP h fun _ _ ⟨ka, e, k⟩ => ⟨ka, e, k.mono s⟩
theorem KeysAt.get {H : Hp} {us : List V} {fs : List Fct} (h : KeysAt H us fs) : ∀ {i : Nat} {v : V}, us[i]? = some v → ∃ ka f, v = .ref ka ∧ fs[i]? = some f ∧ KeyAt H ka f := by
  induction h with
  | nil =>
    intro i v e
    cases e
  | @cons u f us fs a t ih =>
    intro i v e
    cases i with
    | zero =>
      obtain ⟨ka, e2, k⟩ := a
      have e := Option.some.inj e
      exact ⟨ka, f, e.symm.trans e2, rfl, k⟩
    | succ i => exact ih (i := i) e
def factD (f : Fct) : PyData := .tuple [.str f.1, .tuple (f.2.map PyData.str)]
def sortF (fs : List Fct) : List Fct := fs.mergeSort (PySem.W.dataLe false factD)
theorem alike_strs : ∀ a b : List Str, PySem.W.alikeAll (a.map PyData.str) (b.map PyData.str) = true
  | [], _ => by simp [PySem.W.alikeAll]
  | _ :: _, [] => by simp [PySem.W.alikeAll]
  | x :: a, y :: b => by
    show PySem.W.alikeAll (PyData.str x :: a.map PyData.str) (PyData.str y :: b.map PyData.str) = true
    rw [PySem.W.alikeAll, alike_strs a b]
    simp [PySem.W.alike]
theorem alike_facts (f g : Fct) : PySem.W.alike (factD f) (factD g) = true := by
  unfold factD
  rw [PySem.W.alike, PySem.W.alikeAll, PySem.W.alikeAll, PySem.W.alikeAll, PySem.W.alike, PySem.W.alike, alike_strs]
  rfl
theorem depth_strs : ∀ n : List Str, PyData.depthAll (n.map PyData.str) = 0
  | [] => by simp [PyData.depthAll]
  | x :: n => by
    show PyData.depthAll (PyData.str x :: n.map PyData.str) = 0
    rw [PyData.depthAll, depth_strs n]
    simp [PyData.depth]
theorem depth_fact (f : Fct) : (factD f).depth = 2 := by
  unfold factD
  rw [PyData.depth, PyData.depthAll, PyData.depthAll, PyData.depthAll, PyData.depth, PyData.depth, depth_strs]
  rfl
theorem reads_strs {h : Heap} : ∀ {n : List Str} {us : List Value}, Vals (n.map V.str) us → ReadsAll h us (n.map PyData.str) []
  | [], _, r => by
    cases r
    exact .nil
  | x :: n, _, r => by
    cases r with
    | cons a t =>
      obtain ⟨k, rfl⟩ := (show ∃ t, _ = Value.str x t from a)
      exact ReadsAll.cons (as := []) (bs := []) (.str x k) (reads_strs t)
theorem reads_fact {P : Program} {w : World} {H : Hp} {h : Heap} {a : Addr} {f : Fct} (ok : HOk P w H h) (k : KeyAt H a f) : Reads h (.ref a) (factD f) [] := by
  obtain ⟨n, h1, h2⟩ := k
  obtain ⟨_, its, r, o, e1, e2, m, e3⟩ := (show ObjOk P w H h a _ from ok a _ h1)
  obtain ⟨_, jts, q, u, d1, d2, l, d3⟩ := (show ObjOk P w H h n _ from ok n _ h2)
  refine .tuple e1 e2 e3 ?_
  cases r with
  | cons r1 t1 =>
    cases t1 with
    | cons r2 t2 =>
      cases t2
      obtain ⟨k, rfl⟩ := (show ∃ t, _ = Value.str f.1 t from r1)
      obtain rfl := (show _ = Value.ref n from r2)
      refine ReadsAll.cons (as := []) (bs := []) (.str _ _) (ReadsAll.cons (as := []) (bs := []) (.tuple d1 d2 d3 ?_) .nil)
      exact reads_strs q
theorem sortF_perm (fs : List Fct) : (sortF fs).Perm fs := List.mergeSort_perm fs _
section
variable {X : Cx}
/-- the values that a walk of the keys has collected -/
theorem keys_of {P : Program} {w : World} {H : Hp} {d : Addr} {o : Obj} {kvs : List (Fct × V)} {es : Array DictEntry} {ep : Nat} {acc : Array Value} (F : FDo P w H d o kvs) (hod : o.data = .dict es ep)
    (hacc : PySem.ItemsOf (fun i v => ∃ hi : i < es.size, v = es[i].key) acc es.size) : ∃ us, Vals us acc.toList ∧ KeysAt H us (kvs.map (·.1)) := by
  obtain ⟨hs, hat⟩ := F.at hod
  obtain ⟨h1, h2⟩ := hacc
  have g : ∀ (vs : List Value) (fs : List Fct), vs.length = fs.length → (∀ (i : Nat) (v : Value) (f : Fct), vs[i]? = some v → fs[i]? = some f → ∃ ka, v = Value.ref ka ∧ KeyAt H ka f) → ∃ us, Vals us vs ∧ KeysAt H us fs := by
    intro vs
    induction vs with
    | nil =>
      intro fs e _
      cases fs with
      | nil => exact ⟨[], .nil, .nil⟩
      | cons f fs => cases e
    | cons v vs ih =>
      intro fs e k
      cases fs with
      | nil => cases e
      | cons f fs =>
        obtain ⟨ka, e1, k1⟩ := k 0 v f rfl rfl
        obtain ⟨us, r1, r2⟩ := ih fs (Nat.succ.inj e) fun i => k (i + 1)
        exact ⟨.ref ka :: us, .cons e1 r1, .cons ⟨ka, rfl, k1⟩ r2⟩
  refine g acc.toList (kvs.map (·.1)) ?_ fun i v f ev ef => ?_
  · rw [Array.length_toList, List.length_map, h1, hs]
  · rw [Array.getElem?_toList] at ev
    obtain ⟨hi, rfl⟩ := h2 i v ev
    obtain ⟨ka, f', v', e1, e2, e3, _⟩ := hat i hi
    rw [List.getElem?_map, e1] at ef
    have ef := Option.some.inj ef
    dsimp only at ef
    subst ef
    exact ⟨ka, e2, e3⟩
/-- list(d) -/
def rListF (P : Program) (w : World) : List V → Hp → VK → Prop := fun vs H Q => ∃ d kvs, vs = [V.ref d] ∧ FD P w H d kvs ∧ ∀ us p, H p = none → KeysAt H us (kvs.map (·.1)) → Q (.ref p) (upd H p (.lst us))
theorem call_listF (hc : X.calm = true) : CallR X (.type "list") (rListF X.prog X.w) := by
  intro pins s σ H vs us Q I r h
  obtain ⟨d, kvs, rfl, ⟨o, F⟩, q⟩ := h
  obtain ⟨u, rfl, ru⟩ := vals1 r
  obtain rfl : u = Value.ref d := ru
  obtain ⟨hd, _⟩ := F.of I.hok
  obtain ⟨es, ep, xs, e1, e2, _⟩ := F.ent
  have hs := (F.at e1).1
  refine PySem.W.kdl_call (PySem.KdlSrc.rawDict F.sys) (I.ok.hd hc) ⟨o, hd, F.exact', e1⟩ (by have := F.len; omega) fun h' tk acc c hk hn hacc => ?_
  obtain ⟨ks, k1, k2⟩ := keys_of F e1 hacc
  refine ⟨.ref s.heap.objs.size, upd H s.heap.objs.size (.lst ks), I.laid (t' := tk) hk (Nat.le_refl _) ?_, rfl, q ks _ (I.hok.fresh (Nat.le_refl _)) k2⟩
  refine ⟨?_, acc.toList, c, k1, ?_⟩
  · have := Paired.length k2
    rw [List.length_map] at this
    have := F.len
    omega
  · rw [Array.toArray_toList]
    exact hn
/-- sorted(d) -/
def rSortF (P : Program) (w : World) : List V → Hp → VK → Prop := fun vs H Q => ∃ d kvs, vs = [V.ref d] ∧ FD P w H d kvs ∧ ∀ us p, H p = none → KeysAt H us (sortF (kvs.map (·.1))) → Q (.ref p) (upd H p (.lst us))
theorem each_paired {α β : Type} {F : α → β → Prop} : ∀ {l : List α} {m : List β}, PySem.W.EachIs F l m → Paired F l m
  | _, _, .nil => .nil
  | _, _, .cons a t => .cons a (each_paired t)
theorem cr_sortF (hc : X.calm = true) (hu : X.A.units + 64 < cLine) : CallR X (.builtin "sorted") (rSortF X.prog X.w) := by
  intro pins s σ H vs us Q I r h
  obtain ⟨d, kvs, rfl, ⟨o, F⟩, q⟩ := h
  obtain ⟨u, rfl, ru⟩ := vals1 r
  obtain rfl : u = Value.ref d := ru
  obtain ⟨hd, _⟩ := F.of I.hok
  obtain ⟨es, ep, xs, e1, e2, _⟩ := F.ent
  have hs := (F.at e1).1
  have hlen := F.len
  refine Calls.call_function_entry PyProof.Rows.kind_sorted PyProof.Rows.plain_sorted PyProof.Rows.entry_sorted (PyProof.Rows.args_sorted1 _) ?_
  unfold Builtin.«sorted»
  refine wpAny_bind (m := checkCount "sorted" 1 1 _) (wpAny_pure ?_)
  refine wpAny_bind (PySem.W.kdu_collect (A := X.A.in1) (PySem.KdlSrc.rawDict F.sys) (I.ok.hd hc) ⟨o, hd, F.exact', e1⟩ (by omega) fun h' tk acc hk hacc => ?_)
  obtain ⟨ks, k1, k2⟩ := keys_of F e1 hacc
  have I1 : Inv X pins σ H { s with heap := h', toks := tk } := I.kept hk
  have hal : acc.toList.length = kvs.length := by rw [Array.length_toList, hacc.1, hs]
  refine wpAny_bind (wpAny_newList ?_ (by omega))
  have hoL : (h'.push (seqObj "list" acc.toList.toArray 0)).get? h'.objs.size = some (seqObj "list" acc.toList.toArray 0) := Heap.get?_push_size _ rfl
  show wpAny _ _ _ _ _ { s with heap := h'.push (seqObj "list" acc.toList.toArray 0), toks := tk }
  have old : ∀ b ob, h'.get? b = some ob → (h'.push (seqObj "list" acc.toList.toArray 0)).get? b = some ob := fun b ob e => Heap.get?_push_of_some _ e
  have each : ∀ {R : Value → Fct → Prop}, (∀ v ka f, KeyAt H ka f → v = .ref ka → R v f) → PySem.W.EachIs R acc.toList (kvs.map (·.1)) := by
    intro R hR
    have g : ∀ {us : List V} {vs : List Value} {fs : List Fct}, Vals us vs → KeysAt H us fs → PySem.W.EachIs R vs fs := by
      intro us vs fs a b
      induction b generalizing vs with
      | nil =>
        cases a
        exact .nil
      | cons x t ih =>
        cases a with
        | cons a1 a2 =>
          obtain ⟨ka, rfl, kk⟩ := x
          exact .cons (hR _ ka _ kk a1) (ih a2)
    exact g k1 k2
  refine wpAny_bind (wpAny_holding ?_)
  refine PySem.W.list_sort_data (s := { s with heap := h'.push (seqObj "list" acc.toList.toArray 0), toks := tk }) (bs := kvs.map (·.1)) (enc := factD) (R := fun v f => ∃ ka, v = Value.ref ka ∧ KeyAt H ka f) hoL
    (each fun v ka f kk e => ⟨ka, e, kk⟩) (each fun v ka f kk e => ⟨[], by rw [e]; exact PyProof.Rows.Reads.keeps old (reads_fact I1.hok kk), List.not_mem_nil⟩) (PySem.W.AllAlike.of alike_facts) (PySem.W.Sortable.tuples fun f => ⟨_, _, rfl⟩) (by rw [List.length_map]; omega)
    (fun f _ => by rw [depth_fact]; show X.A.units + 1 + 1 + 2 < cLine; omega) fun out ho hout => ?_
  obtain ⟨c, hc'⟩ := PyProof.Rows.sortedHeap_at (vs := acc.toList) (out := List.toArray out) hoL
  have back : ∀ {vs : List Value} {fs : List Fct}, PySem.W.EachIs (fun v f => ∃ ka, v = Value.ref ka ∧ KeyAt H ka f) vs fs → ∃ us, Vals us vs ∧ KeysAt H us fs := by
    intro vs fs a
    induction a with
    | nil => exact ⟨[], .nil, .nil⟩
    | cons a t ih =>
      obtain ⟨us, r1, r2⟩ := ih
      obtain ⟨ka, rfl, kk⟩ := a
      exact ⟨.ref ka :: us, .cons rfl r1, .cons ⟨ka, rfl, kk⟩ r2⟩
  obtain ⟨us, u1, u2⟩ := back hout
  have hz : us.length ≤ sizeLine := by
    have h1 := Paired.length u1
    rw [List.length_map] at ho
    omega
  refine wpAny_pure ⟨_, rfl, .ref h'.objs.size, upd H h'.objs.size (.lst us), I1.laid (t' := tk) (fun b u e => ?_) (Nat.le_refl _) ⟨hz, out, c, u1, hc'⟩, rfl, q us _ (I1.hok.fresh (Nat.le_refl _)) u2⟩
  have hb : b < h'.objs.size := Heap.lt_size e
  rw [PyProof.Rows.sortedHeap_old (Nat.ne_of_lt hb) (by rw [size_push']; exact Nat.lt_succ_of_lt hb)]
  exact old _ _ e
end
end YjD
set_option Elab.async false
set_option linter.all false
set_option maxRecDepth 100000
set_option maxHeartbeats 1000000
set_option pp.maxSteps 1500
/-! {fact: value for .. in .. if ..} -/
namespace YjD
open PySem PySem.Spec PyProof.Rows L2
/-- one turn's end: the pair is stored, or there was none -/
def FcEnd (P : Program) (w : World) (D : Addr) (tk tv : TE) (Nx : Hp → Prop) (σ : L2.St) (b : Bool) (H : Hp) : Prop :=
  if b = true then tk σ H fun y H4 => tv σ H4 fun z H5 => ∃ kvs a f, y = .ref a ∧ FD P w H5 D kvs ∧ KeyAt H5 a f ∧ kvs.length < sizeLine ∧ ∀ o', FD P w (upd H5 D o') D (putK kvs f z) → Nx (upd H5 D o') else Nx H
/-- what is left to show of the turns: W says what holds ahead of the i-th -/
def FcTurns (P : Program) (w : World) (D : Addr) (J : It) (g : TG) (tt : TT) (tk tv : TE) (vs : List Nat) (σ : L2.St) (Qd : Hp → Prop) (W : Nat → Nat → Hp → Prop) : Prop :=
  ∀ i m H, W i m H → (J.stop i H ∧ Qd H) ∨ (J.go i H ∧ ∃ Nx : Hp → Prop, (∀ H', Nx H' → ∃ m', m' < m ∧ W (i + 1) m' H') ∧
    ∀ x H', J.yld i H x H' → g x (wipe σ vs) H' fun σ2 H2 => wipe σ2 vs = wipe σ vs ∧ tt σ2 H2 (FcEnd P w D tk tv Nx σ2))
def tFc (P : Program) (w : World) (wi : TI) (g : TG) (tt : TT) (tk tv : TE) (vs : List Nat) : TE := fun σ H Q =>
  wi σ H fun J H1 => ∀ D o0, H1 D = none → FD P w (upd H1 D o0) D [] → ∃ W : Nat → Nat → Hp → Prop, (∃ m, W 0 m (upd H1 D o0)) ∧ FcTurns P w D J g tt tk tv vs σ (Q (.ref D)) W
section
variable {X : Cx} {kx vx tg iter : Expr} {ifs : List Expr} {scope : Scope} {own : List (Str × Nat)} {pos pos' : Pos} {wi : TI} {g : TG} {tt : TT} {tk tv : TE}
/-- the parts of the comprehension, each read in the comprehension's own frame -/
structure FcParts (X : Cx) (scope : Scope) (tg kx vx : Expr) (ifs : List Expr) (g : TG) (tt : TT) (tk tv : TE) : Prop where
  pg : ∀ (s : Shared) (H : Hp) (C : Addr) (cl : List (Str × Addr)) (fp : List Addr), PG (X.blk s H scope (compEnvC scope cl C X.env) fp) tg g
  pt : ∀ (s : Shared) (H : Hp) (C : Addr) (cl : List (Str × Addr)) (fp : List Addr), PTs (X.blk s H scope (compEnvC scope cl C X.env) fp) ifs tt
  pk : ∀ (s : Shared) (H : Hp) (C : Addr) (cl : List (Str × Addr)) (fp : List Addr), PE (X.blk s H scope (compEnvC scope cl C X.env) fp) kx tk
  pv : ∀ (s : Shared) (H : Hp) (C : Addr) (cl : List (Str × Addr)) (fp : List Addr), PE (X.blk s H scope (compEnvC scope cl C X.env) fp) vx tv
/-- the loop, in its frame B: from W at the start to Qd at the end -/
theorem fc_loop {B : Cx} {pins : List (Addr × Obj)} {J : It} {fp : List Addr} {it D C : Addr} {tn : Nat → Heap → Prop} {W : Nat → Nat → Hp → Prop} {σ : L2.St} {Qd : Hp → Prop} {R : Result → Shared → Prop} {ce : Env} {vs : List Nat} {s3 : Shared} {H3 : Hp}
    (hB : B = X.blk s3 H3 scope ce fp) (hc : X.calm = true) (hu : X.A.units + 64 < cLine) (T : Turn X.prog X.w X.K tg J fp it tn) (pg : PG B tg g) (pt : PTs B ifs tt) (pk : PE B kx tk) (pv : PE B vx tv)
    (turns : FcTurns X.prog X.w D J g tt tk tv vs σ Qd W)
    (hx : ∀ {σ' : L2.St} {H' : Hp} {s' : Shared}, Inv B [] σ' H' s' → (∀ b ∈ fp, H' b = none) → ∀ b ∈ fp, FpOk B [] H' b) (hend : ∀ s' H', Inv B [] (wipe σ vs) H' s' → Qd H' → R (.ok .next) s')
    {n : Nat} {s4 : Shared} {H4 : Hp} (I4 : Inv B [] (wipe σ vs) H4 s4) (st4 : tn 0 s4.heap) (n4 : ∀ b ∈ fp, H4 b = none) (w4 : W 0 n H4) :
    codeAny (model X.prog X.w) X.A (.compLoop (.DictComp kx vx [⟨tg, iter, ifs, 0⟩] scope pos) 0 (.ref it) (.ref D) ce) R s4 := by
  subst hB
  refine L2.compLoop_anyD (fun n s' => ∃ i H', Inv (X.blk s3 H3 scope ce fp) [] (wipe σ vs) H' s' ∧ tn i s'.heap ∧ (∀ b ∈ fp, H' b = none) ∧ W i n H') (fun n s5 z => ?_) n ⟨0, H4, I4, st4, n4, w4⟩
  obtain ⟨i, H5, I5, st5, n5, w5⟩ := z
  rcases turns i n H5 w5 with ⟨stop, qd⟩ | ⟨go, Nx, hNx, step⟩
  · refine thnF (T.done (X.blk s3 H3 scope ce fp) rfl rfl rfl hc i [] s5 _ H5 (fun _ _ => False) I5 (hx I5 n5) st5 stop) ?_
    rintro r s6 ⟨rfl, I6⟩
    exact hend s6 H5 I6 qd
  refine thnF (T.item (X.blk s3 H3 scope ce fp) rfl rfl rfl hc i [] s5 _ H5 (fun _ _ => False) I5 (hx I5 n5) st5 go) ?_
  rintro r s6 ⟨u, rfl, h6⟩
  refine thnF h6 ?_
  rintro _ s7 ⟨x, H7, I7, r7, y7, st7, n7⟩
  have P7 := I7.pinned (hx I7 n7) (T.obj _ _ st7)
  refine thnF (pg.run _ s7 _ H7 x u _ P7 r7 (step x H7 y7)) ?_
  rintro _ s8 ⟨σ8, H8, I8, hw, q8⟩
  refine thnF (pt.run _ s8 σ8 H8 _ I8 q8) ?_
  rintro b s9 ⟨H9, I9, q9⟩
  have ended : ∀ {s' : Shared} {H' : Hp}, Inv (X.blk s3 H3 scope ce fp) ([] ++ pinsAt fp s7.heap) σ8 H' s' → Nx H' →
      ∃ m, m < n ∧ ∃ i H', Inv (X.blk s3 H3 scope ce fp) [] (wipe σ vs) H' s' ∧ tn i s'.heap ∧ (∀ b ∈ fp, H' b = none) ∧ W i m H' := by
    intro s' H' J' nx
    obtain ⟨m', hm, w'⟩ := hNx H' nx
    have still : ∀ b ∈ fp, ∀ o, s7.heap.get? b = some o → s'.heap.get? b = some o ∧ H' b = none := by
      intro b hb o e
      have z := J'.pin (b, o) (List.mem_append_right _ (List.mem_append_right _ (mem_pinsAt hb e)))
      exact ⟨z.1, z.2.1⟩
    refine ⟨m', hm, i + 1, H', (J'.unpinned (pins := [])).weak (by rw [← hw, wipe_length]) (fun j v e => ?_), T.keep _ _ _ st7 fun b hb o e => (still b hb o e).1, fun b hb => ?_, w'⟩
    · rw [← hw] at e
      exact (wipe_some e).1
    · obtain ⟨o, e, _⟩ := T.obj _ _ st7 b hb
      exact (still b hb o e).2
  unfold FcEnd at q9
  cases b with
  | false => exact ended I9 q9
  | true =>
    refine thnF (pk.run _ s9 σ8 H9 _ I9 q9) ?_
    rintro zk s10 ⟨yk, H10, I10, r10, q10⟩
    refine thnF (pv.run _ s10 σ8 H10 _ I10 q10) ?_
    rintro zv s11 ⟨yv, H11, I11, r11, kvs, a, f, rfl, F11, K11, hl, nx⟩
    obtain rfl : zk = Value.ref a := r10
    obtain ⟨xs, rr, DD⟩ := F11.of I11.hok
    have e := Paired.length rr
    refine wpAny_dictSet_heap (hsz := by omega) (by show X.A.units + 8 < cLine; omega) (fact_is I11.hok K11) DD fun h' D' hs => ?_
    obtain ⟨o', I', F'⟩ := FD.stored (X := X.blk s3 H3 scope ce fp) (t' := s11.toks + (nestedKind X.prog X.w).draws (keyF f)) I11 F11 K11 r11 hl rr D' hs
    exact ended I' (nx o' F')
/-- up to the loop: the new dict, the comprehension's own frame -/
theorem fc_core {pins : List (Addr × Obj)} {s : Shared} {σ : L2.St} {H : Hp} {Q : VK} {use : Option (Value → Sem Unit)} {Qf : Value → Shared → Prop}
    (hc : X.calm = true) (hu : X.A.units + 64 < cLine) (hN : X.N.Nodup) (I : Inv X pins σ H s) (hi : PI X tg iter wi) (ok : BlkOk X.N X.env.scope scope own) (G : FcParts X scope tg kx vx ifs g tt tk tv)
    (hs : ∀ x, foldedSetIterable iter X.env x = pure x) (h : tFc X.prog X.w wi g tt tk tv (own.map (·.2)) σ H Q)
    (hRR : ∀ D C s' m H', Inv X pins σ H' s' → Q (.ref D) H' → s'.heap.Ns C m → FpOk X pins H' C → compPost (model X.prog X.w) X.A X.xe use Qf (.ref D) C (.ok .next) s') :
    wpAny (model X.prog X.w) X.A (comprehension (.DictComp kx vx [⟨tg, iter, ifs, 0⟩] scope pos) scope X.env pos' newDict false (eval iter X.env) use) Qf X.xe s := by
  have bound : ∀ y ∈ scope.names, y.2 = .free → ∃ c, X.env.cells.lookup y.1 = some c := by
    intro y hy e
    rcases ok.free y hy e with k | k
    · exact I.ok.has _ (.inl k)
    · exact I.ok.has _ (.inr k)
  have walked := thn (hi.run pins s σ H _ I h) (Q' := fun v s1 => wpAny (model X.prog X.w) X.A (pyIter v) (PIE X pins σ tg (fun J H1 => ∀ D o0, H1 D = none → FD X.prog X.w (upd H1 D o0) D [] → ∃ W : Nat → Nat → Hp → Prop, (∃ m, W 0 m (upd H1 D o0)) ∧ FcTurns X.prog X.w D J g tt tk tv (own.map (·.2)) σ (Q (.ref D)) W)) X.xe s1) fun _ _ z => z
  refine wpAny_comprehension_free (use := use) rfl hs (closure_ok bound) ok.kind (fun y hy e => by rw [ok.uniq y hy, e]) (thn walked fun xv s1 hx => thn hx fun itv s2 h2 => ?_)
  obtain ⟨it, fp, tn, J, H2, rfl, I2, T, st2, f2, q⟩ := h2
  have fresh : H2 s2.heap.objs.size = none := I2.hok.fresh (Nat.le_refl _)
  obtain ⟨W, ⟨m0, w0⟩, turns⟩ := q _ _ fresh (fd_empty I2.big)
  have I3 : Inv X pins σ (upd H2 s2.heap.objs.size (obO s2.heap.objs.size newO)) { s2 with heap := s2.heap.push newO } :=
    I2.laid (t' := s2.toks) (fun _ _ e => Heap.get?_push_of_some _ e) (Nat.le_refl _) (ob_new (Heap.get?_push_size _ rfl))
  have old : ∀ b ∈ fp, b < s2.heap.objs.size := by
    intro b hb
    obtain ⟨o, e, _⟩ := T.obj _ _ st2 b hb
    exact Heap.lt_size e
  have f3 : ∀ b ∈ fp, FpOk X pins (upd H2 s2.heap.objs.size (obO s2.heap.objs.size newO)) b ∧ b < (s2.heap.push newO).objs.size := by
    intro b hb
    have lt := old b hb
    refine ⟨⟨?_, (f2 b hb).2⟩, by rw [Heap.size_push]; exact Nat.lt_succ_of_lt lt⟩
    rw [upd_ne (Nat.ne_of_lt lt)]
    exact (f2 b hb).1
  have st3 : tn 0 (s2.heap.push newO) := T.keep _ _ _ st2 fun b _ o e => Heap.get?_push_of_some _ e
  refine wpAny_newObj_type (newEnv_comp ?_)
  show codeAny _ _ (.compStart (.DictComp kx vx [⟨tg, iter, ifs, 0⟩] scope pos) 0 (.ref it) (.ref s2.heap.objs.size) (compEnvC scope (cellsFrom ((s2.heap.push newO).objs.size + 1) scope.names (cloFrom X.env.cells scope.names [])) (s2.heap.push newO).objs.size X.env))
    (compPost (model X.prog X.w) X.A X.xe use Qf (.ref s2.heap.objs.size) (s2.heap.push newO).objs.size) { s2 with heap := pushCells ((s2.heap.push newO).push { cls := .type "dict", data := .dict #[] }) scope.names }
  generalize hs3 : ({ s2 with heap := s2.heap.push newO } : Shared) = s3 at I3
  have h3 : s3.heap = s2.heap.push newO := by rw [← hs3]
  rw [← h3] at f3 st3 ⊢
  generalize s2.heap.objs.size = D at *
  generalize hH3 : upd H2 D (obO D newO) = H3 at I3 f3 w0
  have I4 := block_start I3 ok hN f3
  have pg := G.pg s3 H3 s3.heap.objs.size (cellsFrom (s3.heap.objs.size + 1) scope.names (cloFrom X.env.cells scope.names [])) fp
  have pt := G.pt s3 H3 s3.heap.objs.size (cellsFrom (s3.heap.objs.size + 1) scope.names (cloFrom X.env.cells scope.names [])) fp
  have pk := G.pk s3 H3 s3.heap.objs.size (cellsFrom (s3.heap.objs.size + 1) scope.names (cloFrom X.env.cells scope.names [])) fp
  have pv := G.pv s3 H3 s3.heap.objs.size (cellsFrom (s3.heap.objs.size + 1) scope.names (cloFrom X.env.cells scope.names [])) fp
  generalize hce : compEnvC scope (cellsFrom (s3.heap.objs.size + 1) scope.names (cloFrom X.env.cells scope.names [])) s3.heap.objs.size X.env = ce at I4 pg pt pk pv ⊢
  have cL : ce.locals = s3.heap.objs.size := by
    rw [← hce]
    rfl
  have e4 : ({ s2 with heap := pushCells (s3.heap.push { cls := .type "dict", data := .dict #[] }) scope.names } : Shared) = { s3 with heap := pushCells (s3.heap.push { cls := .type "dict", data := .dict #[] }) scope.names } := by rw [← hs3]
  rw [e4]
  have st4 : tn 0 (pushCells (s3.heap.push { cls := .type "dict", data := .dict #[] }) scope.names) := T.keep _ _ _ st3 fun b _ o e => pushCells_keeps _ _ _ _ (Heap.get?_push_of_some _ e)
  have mine : ∀ {σ' : L2.St} {H' : Hp} {s' : Shared}, Inv (X.blk s3 H3 scope ce fp) [] σ' H' s' → (∀ b ∈ fp, H' b = none) → ∀ b ∈ fp, FpOk (X.blk s3 H3 scope ce fp) [] H' b := by
    intro σ' H' s' J' n b hb
    exact ⟨n b hb, (J'.ok.exf b hb).1, J'.ok.exfs b hb, .inl hb, fun x c e => (J'.ok.exf b hb).2 x c e, fun p hp => nomatch (show p ∈ ([] : List (Addr × Obj)) ++ [] from hp)⟩
  have out : ∀ s' H', Inv (X.blk s3 H3 scope ce fp) [] (wipe σ (own.map (·.2))) H' s' → Q (.ref D) H' → compPost (model X.prog X.w) X.A X.xe use Qf (.ref D) s3.heap.objs.size (.ok .next) s' := by
    intro s' H' J' qd
    have back : Inv X pins σ H' s' := I3.call' (ch := fp) J'.os J'.base J'.hok J'.bare fun b hb => ⟨(f3 b hb).1.2.2.2.1, (f3 b hb).1.2.1, (f3 b hb).1.2.2.2.2.1, (f3 b hb).1.2.2.2.2.2⟩
    have nC : H' s3.heap.objs.size = none := by
      have z : H' ce.locals = none := J'.free
      rw [cL] at z
      exact z
    obtain ⟨m, hn, _⟩ := J'.loc
    have hn : s'.heap.Ns ce.locals m := hn
    rw [cL] at hn
    exact hRR D _ s' m H' back qd hn (I3.fpOk (Nat.le_refl _) nC)
  have loop := fc_loop (C := s3.heap.objs.size) (pins := pins) (kx := kx) (vx := vx) (tg := tg) (iter := iter) (ifs := ifs) (scope := scope) (pos := pos) (D := D) (it := it) rfl hc hu T pg pt pk pv turns mine out I4 st4 (fun b hb => (f3 b hb).1.1) w0
  exact codeAny_compStart_dict loop (T.self X.A 0 _ _ _ st4 loop)
/-- as a value -/
theorem pe_fc (hc : X.calm = true) (hu : X.A.units + 64 < cLine) (hN : X.N.Nodup) (hi : PI X tg iter wi) (ok : BlkOk X.N X.env.scope scope own) (G : FcParts X scope tg kx vx ifs g tt tk tv) (hs : ∀ x, foldedSetIterable iter X.env x = pure x := by intro _; rfl) :
    PE X (.DictComp kx vx [⟨tg, iter, ifs, 0⟩] scope pos) (tFc X.prog X.w wi g tt tk tv (own.map (·.2))) := by
  refine ⟨fun pins s σ H Q I h => ?_⟩
  rw [arm_eval_DictComp]
  refine fc_core hc hu hN I hi ok G hs h fun D C s' m H' J q hn f => ⟨m, hn, fun h'' sb => ?_⟩
  obtain ⟨f0, f1, f2, f3, f4, f5⟩ := f
  exact ⟨.ref D, H', J.turned (t' := s'.toks) (fun b o hb e => (sb.2 b hb).trans e) f0 f1 f3 f4 f5, rfl, q⟩
/-- the turns of a comprehension over a walk, by what holds ahead of each -/
theorem fc_it {J : It} {n : Nat} {Gd : Hp → Prop} {Y : Nat → Hp → V → Hp → Prop} (w : Walk J n Gd Y) {P : Program} {wd : World} {vs : List Nat} {σ : L2.St} {H1 : Hp} {D : Addr} {Qd : Hp → Prop} (Pv : Nat → Hp → Prop) (h0 : Pv 0 H1) (hG : ∀ i H, i ≤ n → Pv i H → Gd H)
    (hs : ∀ i x H H', i < n → Pv i H → Y i H x H' → g x (wipe σ vs) H' fun σ2 H2 => wipe σ2 vs = wipe σ vs ∧ tt σ2 H2 (FcEnd P wd D tk tv (Pv (i + 1)) σ2)) (hd : ∀ H, Pv n H → Qd H) :
    ∃ W : Nat → Nat → Hp → Prop, (∃ m, W 0 m H1) ∧ FcTurns P wd D J g tt tk tv vs σ Qd W := by
  refine ⟨fun i m H => m = n - i ∧ i ≤ n ∧ Pv i H, ⟨n, rfl, Nat.zero_le _, h0⟩, ?_⟩
  rintro i m H ⟨rfl, hi, p⟩
  have gd := hG i H hi p
  by_cases lt : i < n
  · refine .inr ⟨w.1 i H lt gd, Pv (i + 1), fun H' p' => ⟨n - (i + 1), by omega, rfl, lt, p'⟩, fun x H' y => ?_⟩
    exact hs i x H H' lt p (w.3 i H x H' lt gd y)
  · have e : i = n := by omega
    subst e
    exact .inl ⟨w.2 H gd, hd H p⟩
end
end YjD
set_option Elab.async false
set_option linter.all false
set_option maxRecDepth 100000
set_option maxHeartbeats 1000000
set_option pp.maxSteps 1500
/-! name = {fact: value for ..}; == of dicts of facts. -/
namespace YjD
open PySem PySem.Spec PyProof.Rows L2
section
variable {X : Cx} {kx vx tg iter : Expr} {ifs : List Expr} {scope : Scope} {own : List (Str × Nat)} {pos spos py : Pos} {wi : TI} {g : TG} {tt : TT} {tk tv : TE} {i : Nat} {y : Str}
theorem ps_setFc (hc : X.calm = true) (hu : X.A.units + 64 < cLine) (hN : X.N.Nodup) (hy : X.N[i]? = some y) (hyl : X.env.scope.names.lookup y = some .local)
    (hsw : swapsWith (.DictComp kx vx [⟨tg, iter, ifs, 0⟩] scope pos) (some (.Name y py)) spos.line X.env = pure true) (hi : PI X tg iter wi) (ok : BlkOk X.N X.env.scope scope own) (G : FcParts X scope tg kx vx ifs g tt tk tv)
    (hs : ∀ x, foldedSetIterable iter X.env x = pure x := by intro _; rfl) :
    PS X (.Assign [.Name y py] (.DictComp kx vx [⟨tg, iter, ifs, 0⟩] scope pos) spos) (tAsg (tFc X.prog X.w wi g tt tk tv (own.map (·.2))) (gName i)) := by
  refine ⟨fun pins s σ H D I h => ?_⟩
  have h0 : tFc X.prog X.w wi g tt tk tv (own.map (·.2)) σ H (fun x H1 => gName i x σ H1 D.nx) := h
  have stored : ∀ L C s' m H', Inv X pins σ H' s' → gName i (V.ref L) σ H' D.nx → s'.heap.Ns C m → FpOk X pins H' C →
      compPost (model X.prog X.w) X.A X.xe (some (assign (.Name y py) X.env)) (fun _ s' => SP X pins D .next s') (.ref L) C (.ok .next) s' := by
    intro L C s' m H' J q hn f
    obtain ⟨f0, f1, f2, f3, f4, f5⟩ := f
    show wpAny _ _ (assign (.Name y py) X.env (.ref L)) _ _ _
    refine wpAny_assign_Name (store_ok2 (v := V.ref L) J hN hy (.inl hyl) rfl (fun s2 I2 z => ?_) (.inr hyl))
    obtain ⟨a, sb, ha⟩ := z
    have apart : C ≠ a := by
      rcases ha with z | z
      · rw [z]
        exact f1
      · exact fun e => f4 y a z e.symm
    refine ⟨m, hn.sameBut sb apart, fun h3 sb3 => ?_⟩
    exact ⟨_, H', I2.turned (t' := s2.toks) (fun b o hb e => (sb3.2 b hb).trans e) f0 f1 f3 f4 f5, q⟩
  rw [exec_Assign_Name_used _ _ _ _ hsw]
  refine wpAny_bind (wpAny_standAt (wpAny_bind ?_))
  refine wpAny_bind (thn (fc_core (use := some (assign (.Name y py) X.env)) (pos' := firstIterPos [⟨tg, iter, ifs, 0⟩] pos) hc hu hN I hi ok G hs h0 stored) fun _ s' hq => ?_)
  exact wpAny_pure (wpAny_pure hq)
theorem sw_dc {env : Env} {l : Nat} (kd : env.scope.kind = .function) (lo : env.scope.names.lookup y = some .local) (ln : (py.line == pos.line) = true)
    (no : (scope.names.any fun (n, k) => n == y && (k == .local || k == .cell)) = false) : swapsWith (.DictComp kx vx [⟨tg, iter, ifs, 0⟩] scope pos) (some (.Name y py)) l env = pure true := by
  have k1 : env.kindOf y = some .local := lo
  have k2 : env.blockKind = .function := by
    unfold Env.blockKind
    rw [kd]
    rfl
  unfold swapsWith
  simp only [k2, k1, no, Expr.pos, ln]
  rfl
end
end YjD
set_option Elab.async false
set_option linter.all false
set_option maxRecDepth 100000
set_option maxHeartbeats 1000000
set_option pp.maxSteps 1500
/-! == of dicts of facts. -/
namespace YjD
open PySem PySem.Spec PyProof.Rows L2
section
variable {prog : Program} {w : World} {A : Around} {E : Value → Shared → Prop} {s : Shared} {T : Type} [DecidableEq T] {knd : HeapKind prog w T}
/-- all pairs of one are the other's: e tells of each key whether both values are equal -/
def allIn (xb : List (T × Addr × Value)) (e : T → Bool) (xa : List (T × Addr × Value)) : Bool := xa.all fun x => (atKey xb x.1).isSome && e x.1
theorem pairs_facts {nm : String} {a b : Addr} {xa xb : List (T × Addr × Value)} {e : T → Bool} {Q : Bool → Shared → Prop} (ha : (a == sysModules) = false) (hb : (b == sysModules) = false) (hu : knd.room A) (da : s.heap.DictOfH knd a xa) (db : s.heap.DictOfH knd b xb)
    (eq : ∀ x ∈ xa, ∀ p, atKey xb x.1 = some p → SeqAt.EqP prog w A s x.2.2 p.2 (e x.1)) (h : Q (xa.length == xb.length && allIn xb e xa) s) : wpAny (model prog w) A (Builtin.Dict.samePairs nm a b) Q E s := by
  obtain ⟨oa, es, ep, hoa, _, hda, hea, hia, hna⟩ := da
  obtain ⟨ob, es', ep', hob, _, hdb, heb, hib, hnb⟩ := db
  have la := size_of_entries hea
  have lb := size_of_entries heb
  rw [← la, ← lb] at h
  unfold Builtin.Dict.samePairs Builtin.Dict.showsAll
  rw [if_neg (by rw [ha]; exact Bool.false_ne_true), if_neg (by rw [hb]; exact Bool.false_ne_true)]
  refine wpAny_bind (wpAny_pure (wpAny_bind (wpAny_pure (wpAny_bind (wpAny_dictEntries hoa hda ?_)))))
  dsimp only
  refine wpAny_bind (wpAny_dictEntries hob hdb ?_)
  by_cases hsz : es.size = es'.size
  case neg =>
    rw [if_pos (by simpa using hsz)]
    rw [show (es.size == es'.size) = false by simpa using hsz, Bool.false_and] at h
    exact wpAny_bind (wpAny_rule (wpAny_pure h))
  rw [show (es.size == es'.size) = true by simpa using hsz, Bool.true_and] at h
  rw [if_neg (by rw [hsz]; simp)]
  refine wpAny_bind (wpAny_dictEpoch hoa hda (wpAny_bind ?_))
  rw [Std.Legacy.Range.forIn_eq_forIn_range']
  simp only [Std.Legacy.Range.size, Nat.sub_zero, Nat.add_sub_cancel, Nat.div_one]
  have cut : ∀ {x i : Nat} {rest : List Nat}, x :: rest = List.range' i (es.size - i) → i < es.size ∧ x = i ∧ rest = List.range' (i + 1) (es.size - (i + 1)) := by
    intro x i rest hr
    have lt : i < es.size := by
      rcases Nat.lt_or_ge i es.size with z | z
      · exact z
      · rw [Nat.sub_eq_zero_of_le z] at hr
        cases hr
    rw [show es.size - i = (es.size - (i + 1)) + 1 by omega, List.range'_succ] at hr
    injection hr with h1 h2
    exact ⟨lt, h1, h2⟩
  refine wpAny_forIn_list _ (fun rest q s' => s' = s ∧ q = (none, ()) ∧ ∃ i, rest = List.range' i (es.size - i) ∧ i ≤ es.size ∧ Q (allIn xb e (xa.drop i)) s) _ ?_ ?_ _ _ ⟨rfl, rfl, 0, by simp, Nat.zero_le _, h⟩
  · rintro x rest q s' ⟨rfl, rfl, i, hr, hi, hq⟩
    obtain ⟨lt, rfl, hrest⟩ := cut hr
    have lt' : x < xa.length := by omega
    have hx : xa[x]? = some xa[x] := List.getElem?_eq_getElem lt'
    have ent := entry_at hea x
    rw [Array.getElem?_eq_getElem lt, hx, Option.map_some] at ent
    have ent := Option.some.inj ent
    rw [List.drop_eq_getElem_cons lt'] at hq
    have memx : xa[x] ∈ xa := List.getElem_mem lt'
    refine wpAny_bind (wpAny_dictEntries hoa hda ?_)
    rw [Array.getElem?_eq_getElem lt]
    show wpAny _ _ (holding [es[x].key, es[x].val] _ >>= _) _ _ _
    rw [ent]
    generalize xa[x] = y at hq memx
    have step : ∀ p, atKey xb y.1 = some p → SeqAt.EqP prog w A s' y.2.2 p.2 (e y.1) := eq y memx
    refine wpAny_bind (wpAny_holding (wpAny_bind ?_))
    show wpAny _ _ (dictFind b (.ref y.2.1) (knd.hash y.1)) _ _ _
    refine wpAny_dictFind_heap hu (hia y memx) hob hdb heb hib hnb (fun hno => ?_) (fun j p hj => ?_)
    · refine wpAny_pure ?_
      show wpAny _ _ (if (!false) = true then _ else _) _ _ _
      rw [if_pos (by decide)]
      have z : allIn xb e (y :: xa.drop (x + 1)) = false := by
        show ((atKey xb y.1).isSome && e y.1 && _) = false
        rw [atKey_none_of_get hno]
        rfl
      rw [z] at hq
      exact wpAny_pure (wpAny_pure hq)
    · have hp := atKey_of_get hnb hj
      refine wpAny_bind (wpAny_dictEntries hob hdb ?_)
      have ent2 := entry_at heb j
      rw [hj, Option.map_some] at ent2
      rw [ent2]
      refine wpAny_holding (step p hp _ _ ?_)
      have z : allIn xb e (y :: xa.drop (x + 1)) = (e y.1 && allIn xb e (xa.drop (x + 1))) := by
        show ((atKey xb y.1).isSome && e y.1 && _) = _
        rw [hp]
        rfl
      rw [z] at hq
      cases ee : e y.1 with
      | false =>
        rw [ee, Bool.false_and] at hq
        show wpAny _ _ (if (!false) = true then _ else _) _ _ _
        rw [if_pos (by decide)]
        exact wpAny_pure (wpAny_pure hq)
      | true =>
        rw [ee, Bool.true_and] at hq
        show wpAny _ _ (if (!true) = true then _ else _) _ _ _
        rw [if_neg (by decide)]
        refine wpAny_bind (wpAny_dictEpoch hoa hda ?_)
        rw [if_neg (by simp)]
        exact wpAny_pure ⟨rfl, rfl, x + 1, hrest, lt, hq⟩
  · rintro q s' ⟨rfl, rfl, i, hr, hi, hq⟩
    have full : i = es.size := by
      rcases Nat.lt_or_ge i es.size with z | z
      · rw [show es.size - i = (es.size - (i + 1)) + 1 by omega, List.range'_succ] at hr
        cases hr
      · exact Nat.le_antisymm hi z
    refine wpAny_pure ?_
    rw [full, la, List.drop_length] at hq
    exact hq
/-- what == and != answer, whichever it is -/
theorem cmp_facts {a b : Addr} {xa xb : List (T × Addr × Value)} {e : T → Bool} {Q : Value → Shared → Prop} (ha : (a == sysModules) = false) (hb : (b == sysModules) = false) (hr : knd.room A.in1) (hu : A.units < cLine) (da : s.heap.DictOfH knd a xa) (db : s.heap.DictOfH knd b xb)
    (eq : ∀ x ∈ xa, ∀ p, atKey xb x.1 = some p → SeqAt.EqP prog w A.in1 s x.2.2 p.2 (e x.1)) :
    (Q (.bool (xa.length == xb.length && allIn xb e xa)) s → wpAny (model prog w) A (compareOp .Eq (.ref a) (.ref b)) Q E s) ∧
    (Q (.bool (!(xa.length == xb.length && allIn xb e xa))) s → wpAny (model prog w) A (compareOp .NotEq (.ref a) (.ref b)) Q E s) := by
  constructor
  · intro h
    refine wpAny_richCompare_same_room (op := .Eq) da.typeIs db.typeIs PySem.F.slot_dict_eq (wpAny_call_entry PySem.F.slot_dict_eq da.typeIs PySem.F.entry_dict_eq ?_ (PySem.F.args_dict_eq_2 _ _)) hu
    show wpAny _ _ (Builtin.Dict.dictSlotArgs "__eq__" ⟨[.ref a, .ref b], []⟩ >>= _) _ _ s
    unfold Builtin.Dict.dictSlotArgs
    refine wpAny_bind (wpAny_bind (wpAny_notOrdered_dict da.typeIs ?_))
    show wpAny _ _ (pure (Value.ref a, Value.ref b)) _ _ s
    refine wpAny_pure (wpAny_bind (wpAny_isInstance (T := "dict") db.typeIs PySem.F.sub_dict_dict ?_))
    simp only [Bool.not_true, Bool.false_eq_true, if_false]
    refine wpAny_bind (wpAny_pure (wpAny_bind (wpAny_pure (wpAny_bind (pairs_facts ha hb hr da db eq ?_)))))
    exact wpAny_pure ⟨_, rfl, (fun x => nomatch x), by simpa using h⟩
  · intro h
    refine wpAny_richCompare_same_room (op := .NotEq) da.typeIs db.typeIs PySem.F.slot_dict_ne (wpAny_call_entry PySem.F.slot_dict_ne da.typeIs PySem.F.entry_dict_ne ?_ (PySem.F.args_dict_ne_2 _ _)) hu
    show wpAny _ _ (Builtin.Dict.dictSlotArgs "__ne__" ⟨[.ref a, .ref b], []⟩ >>= _) _ _ s
    unfold Builtin.Dict.dictSlotArgs
    refine wpAny_bind (wpAny_bind (wpAny_notOrdered_dict da.typeIs ?_))
    show wpAny _ _ (pure (Value.ref a, Value.ref b)) _ _ s
    refine wpAny_pure (wpAny_bind (wpAny_isInstance (T := "dict") db.typeIs PySem.F.sub_dict_dict ?_))
    simp only [Bool.not_true, Bool.false_eq_true, if_false]
    refine wpAny_bind (wpAny_pure (wpAny_bind (wpAny_pure (wpAny_bind (pairs_facts ha hb hr da db eq ?_)))))
    exact wpAny_pure ⟨_, rfl, (fun x => nomatch x), by simpa using h⟩
end
theorem room128 {k : Nat} {A : Around} (r : Room k A) : A.units + 128 < cLine := by
  have := r.un
  omega
/-- whether two dicts of facts are equal, their values by data -/
def eqF (ka kb : List (Fct × V)) (da db : Fct → PyData) : Bool := ka.length == kb.length && ka.all fun p => (valV kb p.1).isSome && PyData.eqv (da p.1) (db p.1)
/-- the values of a dict of facts, as data -/
def DataF (K : PySem.W.Frag) (H : Hp) (ka : List (Fct × V)) (da : Fct → PyData) : Prop := ∀ p ∈ ka, Dp K H p.2 (da p.1) ∧ SeqAt.shaped (da p.1) = true
def rEqF (P : Program) (w : World) (K : PySem.W.Frag) (neg : Bool) : R2 := fun x y H Q => ∃ a b ka kb da db, x = .ref a ∧ y = .ref b ∧ FD P w H a ka ∧ FD P w H b kb ∧ DataF K H ka da ∧ DataF K H kb db ∧ Q (.bl (if neg then !eqF ka kb da db else eqF ka kb da db)) H
theorem valV_in {ka : List (Fct × V)} {f : Fct} {v : V} (h : valV ka f = some v) : (f, v) ∈ ka := by
  induction ka with
  | nil => cases h
  | cons p ps ih =>
    by_cases e : p.1 = f
    · rw [valV_pos e] at h
      have h := Option.some.inj h
      rw [← e, ← h]
      exact List.mem_cons_self ..
    · rw [valV_neg e] at h
      exact List.mem_cons_of_mem _ (ih h)
theorem FR.mem {H : Hp} {kvs : List (Fct × V)} {xs : List (NestedKey × Addr × Value)} (r : FR H kvs xs) : ∀ x ∈ xs, ∃ p ∈ kvs, keyF p.1 = x.1 ∧ RelV p.2 x.2.2 := by
  induction r with
  | nil =>
    intro x hx
    cases hx
  | cons a t ih =>
    intro x hx
    rcases List.mem_cons.mp hx with e | hx
    · rw [e]
      exact ⟨_, List.mem_cons_self .., a.1, a.2.2⟩
    · obtain ⟨p, hp, h⟩ := ih x hx
      exact ⟨p, List.mem_cons_of_mem _ hp, h⟩
theorem allIn_facts {H : Hp} {ka kb : List (Fct × V)} {xa xb : List (NestedKey × Addr × Value)} {e : NestedKey → Bool} (ra : FR H ka xa) (rb : FR H kb xb) : allIn xb e xa = ka.all fun p => (valV kb p.1).isSome && e (keyF p.1) := by
  induction ra with
  | nil => rfl
  | @cons p q ps qs a t ih =>
    show ((atKey xb q.1).isSome && e q.1 && allIn xb e qs) = ((valV kb p.1).isSome && e (keyF p.1) && ps.all _)
    have z := (rb.val p.1).isSome_eq
    rw [Option.isSome_map] at z
    rw [ih, ← a.1, z]
open Classical in
theorem cmp_F {X : Cx} {pins : List (Addr × Obj)} {σ : L2.St} {H : Hp} {s : Shared} (hu : X.A.units + 128 < cLine) (I : Inv X pins σ H s) {a b : Addr} {ka kb : List (Fct × V)} {da db : Fct → PyData} {Q : Value → Shared → Prop} (Fa : FD X.prog X.w H a ka) (Fb : FD X.prog X.w H b kb) (Da : DataF X.K H ka da) (Db : DataF X.K H kb db) :
    (Q (.bool (eqF ka kb da db)) s → wpAny (model X.prog X.w) X.A (compareOp .Eq (.ref a) (.ref b)) Q X.xe s) ∧ (Q (.bool (!eqF ka kb da db)) s → wpAny (model X.prog X.w) X.A (compareOp .NotEq (.ref a) (.ref b)) Q X.xe s) := by
  obtain ⟨xa, ra, A1⟩ := Fa.of I.hok
  obtain ⟨xb, rb, B1⟩ := Fb.of I.hok
  obtain ⟨e, he⟩ : ∃ e : NestedKey → Bool, ∀ f, e (keyF f) = PyData.eqv (da f) (db f) := by
    refine ⟨fun k => if h : ∃ f, keyF f = k then PyData.eqv (da h.choose) (db h.choose) else false, fun f => ?_⟩
    have h : ∃ g, keyF g = keyF f := ⟨f, rfl⟩
    dsimp only
    rw [dif_pos h, keyF_inj h.choose_spec]
  have e1 : (xa.length == xb.length && allIn xb e xa) = eqF ka kb da db := by
    unfold eqF
    rw [allIn_facts ra rb, Paired.length ra, Paired.length rb]
    congr 1
    refine congrArg _ (funext fun p => ?_)
    rw [he]
  rw [← e1]
  refine cmp_facts Fa.sys Fb.sys (by show X.A.units + 1 + 8 < cLine; omega) (by omega) A1 B1 fun x hx p hp => ?_
  obtain ⟨q, hq, k1, r1⟩ := ra.mem x hx
  have z := rb.val q.1
  rw [k1, hp] at z
  obtain ⟨v, hv, r2⟩ : ∃ v, valV kb q.1 = some v ∧ RelV v p.2 := by
    cases ev : valV kb q.1 with
    | none =>
      rw [ev] at z
      exact z.elim
    | some v =>
      rw [ev] at z
      exact ⟨v, rfl, z⟩
  obtain ⟨d1, s1⟩ := Da q hq
  obtain ⟨d2, s2⟩ := Db _ (valV_in hv)
  obtain ⟨as, w1⟩ := Dp.reads I _ q.2 _ d1 r1
  obtain ⟨bs, w2⟩ := Dp.reads I _ v _ d2 r2
  rw [← k1, he]
  exact (PySem.W.keq_at (A := X.A) w1 w2 s1 s2 (by show X.A.units + 1 + 64 < cLine; omega)).eqP
section
variable {X : Cx}
theorem op_eqF (hu : X.A.units + 128 < cLine) : OpR X (compareOp .Eq) (rEqF X.prog X.w X.K false) := by
  intro pins s σ H x y v u Q I rx ry h
  obtain ⟨a, b, ka, kb, da, db, rfl, rfl, Fa, Fb, Da, Db, q⟩ := h
  obtain rfl : v = Value.ref a := rx
  obtain rfl : u = Value.ref b := ry
  exact (cmp_F hu I Fa Fb Da Db).1 ⟨.bl _, H, I, rfl, q⟩
theorem op_neF (hu : X.A.units + 128 < cLine) : OpR X (compareOp .NotEq) (rEqF X.prog X.w X.K true) := by
  intro pins s σ H x y v u Q I rx ry h
  obtain ⟨a, b, ka, kb, da, db, rfl, rfl, Fa, Fb, Da, Db, q⟩ := h
  obtain rfl : v = Value.ref a := rx
  obtain rfl : u = Value.ref b := ry
  exact (cmp_F hu I Fa Fb Da Db).2 ⟨.bl _, H, I, rfl, q⟩
end
end YjD
set_option Elab.async false
set_option linter.all false
set_option maxRecDepth 100000
set_option maxHeartbeats 1000000
set_option pp.maxSteps 1500
/-! The same rules by names of the program, the world and the written part: for a comprehension's block. -/
namespace YjD
open PySem PySem.Spec PyProof.Rows L2
section
variable {X : Cx} {P : Program} {w : World} {K : PySem.W.Frag} {a e k tg : Expr} {ta te tk : TE} {pos apos cpos : Pos} {f : Str}
theorem pe_fldK (he : PE X e ta) (hb : attributeBase e f X.env (eval e X.env) = eval e X.env) (hK : X.K = K := by rfl) : PE X (.Attribute e f pos) (tFld K ta f) := by
  subst hK
  exact pe_fld he hb
theorem pe_fgetK (hu : X.A.units + 64 < cLine) (ho : PE X a ta) (hi : PE X k tk) (hs : NoSl k) (hP : X.prog = P := by rfl) (hw : X.w = w := by rfl) : PE X (.Subscript a k pos) (tFGet P w ta tk) := by
  subst hP hw
  exact pe_fget hu ho hi hs
theorem pe_forK (hu : X.A.units + 64 < cLine) (ho : PE X a ta) (hk : PE X k tk) (he : PE X e te) (m : M2 X a "get" apos k e cpos) (hP : X.prog = P := by rfl) (hw : X.w = w := by rfl) : PE X (.Call (.Attribute a "get" apos) [k, e] [] cpos) (tFOr P w ta tk te) := by
  subst hP hw
  exact pe_for hu ho hk he m
theorem op_inFK (hu : X.A.units + 64 < cLine) (hP : X.prog = P := by rfl) (hw : X.w = w := by rfl) : OpR X (compareOp .In) (rInF P w false) := by
  subst hP hw
  exact op_inF hu
theorem op_eqDK (hu : X.A.units + 64 < cLine) (hK : X.K = K := by rfl) : OpR X (compareOp .Eq) (rEqD K) := by
  subst hK
  exact op_eqD hu
theorem op_neDK (hu : X.A.units + 64 < cLine) (hK : X.K = K := by rfl) : OpR X (compareOp .NotEq) (rNeD K) := by
  subst hK
  exact op_neD hu
theorem op_inDK (hu : X.A.units + 65 < cLine) (hK : X.K = K := by rfl) : OpR X (compareOp .In) (rInD K) := by
  subst hK
  exact op_inD hu
theorem pi_factsK (ha : PE X e te) (hP : X.prog = P := by rfl) (hw : X.w = w := by rfl) : PI X tg e (iFacts P w te) := by
  subst hP hw
  exact pi_facts ha
theorem set_factK (hu : X.A.units + 64 < cLine) (hP : X.prog = P := by rfl) (hw : X.w = w := by rfl) : PSet X (tSetF P w) := by
  subst hP hw
  exact set_fact hu
theorem cr_sortFK (hc : X.calm = true) (hu : X.A.units + 64 < cLine) (hP : X.prog = P := by rfl) (hw : X.w = w := by rfl) : CallR X (.builtin "sorted") (rSortF P w) := by
  subst hP hw
  exact cr_sortF hc hu
theorem call_listFK (hc : X.calm = true) (hP : X.prog = P := by rfl) (hw : X.w = w := by rfl) : CallR X (.type "list") (rListF P w) := by
  subst hP hw
  exact call_listF hc
theorem op_eqFK (hu : X.A.units + 128 < cLine) (hP : X.prog = P := by rfl) (hw : X.w = w := by rfl) (hK : X.K = K := by rfl) : OpR X (compareOp .Eq) (rEqF P w K false) := by
  subst hP hw hK
  exact op_eqF hu
theorem op_neFK (hu : X.A.units + 128 < cLine) (hP : X.prog = P := by rfl) (hw : X.w = w := by rfl) (hK : X.K = K := by rfl) : OpR X (compareOp .NotEq) (rEqF P w K true) := by
  subst hP hw hK
  exact op_neF hu
theorem call_isiKK (hK : X.K = K := by rfl) : CallR X (.builtin "isinstance") (rIsi K) := by
  subst hK
  exact call_isi
end
/-- a room for all of these rules -/
theorem room65 {k : Nat} {A : Around} (r : Room k A) : A.units + 65 < cLine := by
  have := r.un
  omega
end YjD
set_option Elab.async false
set_option linter.all false
set_option maxRecDepth 100000
set_option maxHeartbeats 1000000
set_option pp.maxSteps 1500
/-! A class with its own __eq__. -/
namespace YjD
open PySem PySem.Spec PyProof.Rows L2
/-- what the top has left of a class at C whose __eq__ is the def at f, and that has no __ne__ of its own -/
structure OwnEq (K : PySem.W.Frag) (C f : Addr) : Prop where
  at_ : PySem.W.findIn K (.ref C) "__eq__" = some (some (.ref f))
  fn : PySem.W.isFn K (.ref f) = true
  nf : PySem.W.notFirst K C (.ref C) = true
  nd : PySem.W.notFirst K C (.type "dict") = true
  ne : PySem.W.findIn K (.ref C) "__ne__" = some (some (.builtin "object.__ne__"))
  ob : PySem.W.mroIn K C (.type "object") = some true
/-- the turns of a dict comprehension with keys that are texts or ints, over a walk, by what holds ahead of each -/
theorem dc_it {J : It} {n : Nat} {Gd : Hp → Prop} {Y : Nat → Hp → V → Hp → Prop} (wk : Walk J n Gd Y) {g : TG} {tt : TT} {tk tv : TE} {vs : List Nat} {σ : L2.St} {H1 : Hp} {D : Addr} {Qd : Hp → Prop} (Pv : Nat → Hp → Prop) (h0 : Pv 0 (upd H1 D (.dK []))) (hG : ∀ i H, i ≤ n → Pv i H → Gd H)
    (hs : ∀ i x H H', i < n → Pv i H → Y i H x H' → g x (wipe σ vs) H' fun σ2 H2 => wipe σ2 vs = wipe σ vs ∧ tt σ2 H2 fun b H3 =>
      if b = true then tk σ2 H3 fun y H4 => tv σ2 H4 fun z H5 => ∃ kvs k, y = kV k ∧ H5 D = some (.dK kvs) ∧ kvs.length < sizeLine ∧ Pv (i + 1) (upd H5 D (.dK (putK kvs k z))) else Pv (i + 1) H3) (hd : ∀ H, Pv n H → Qd H) :
    ∃ W : Nat → Nat → Hp → Prop, (∃ m, W 0 m (upd H1 D (.dK []))) ∧ ∀ i m H, W i m H →
      (J.stop i H ∧ Qd H) ∨ (J.go i H ∧ ∃ Nx : Hp → Prop, (∀ H', Nx H' → ∃ m', m' < m ∧ W (i + 1) m' H') ∧ ∀ x H', J.yld i H x H' → g x (wipe σ vs) H' fun σ2 H2 => wipe σ2 vs = wipe σ vs ∧ tt σ2 H2 fun b H3 =>
        if b = true then tk σ2 H3 fun y H4 => tv σ2 H4 fun z H5 => ∃ kvs k, y = kV k ∧ H5 D = some (.dK kvs) ∧ kvs.length < sizeLine ∧ Nx (upd H5 D (.dK (putK kvs k z))) else Nx H3) := by
  refine ⟨fun i m H => m = n - i ∧ i ≤ n ∧ Pv i H, ⟨n, rfl, Nat.zero_le _, h0⟩, ?_⟩
  rintro i m H ⟨rfl, hi, p⟩
  have gd := hG i H hi p
  by_cases lt : i < n
  · refine .inr ⟨wk.goes i H lt gd, Pv (i + 1), fun H' p' => ⟨n - (i + 1), by omega, rfl, lt, p'⟩, fun x H' y => ?_⟩
    exact hs i x H H' lt p (wk.yields i H x H' lt gd y)
  · have e : i = n := by omega
    subst e
    exact .inl ⟨wk.stops H gd, hd H p⟩
end YjD
set_option Elab.async false
set_option linter.all false
set_option maxRecDepth 100000
set_option maxHeartbeats 1000000
set_option pp.maxSteps 1500
/-! isinstance of a dict of facts; == and != of instances with an own __eq__; d.values(); a display of one fact. -/
namespace YjD
open PySem PySem.Spec PyProof.Rows L2
/-- isinstance(x, c), where x may be a dict of facts -/
def rIsiF (P : Program) (w : World) (K : PySem.W.Frag) : List V → Hp → VK → Prop := fun xs H Q => ∃ (x c : V) (t u : Value) (b : Bool), xs = [x, c] ∧ ClsV c u ∧ (TyX K H x t ∨ ∃ d kvs, x = .ref d ∧ FD P w H d kvs ∧ t = .type "dict") ∧ PySem.W.kitOne K t u = some b ∧ Q (.bl b) H
section
variable {X : Cx}
theorem call_isiF : CallR X (.builtin "isinstance") (rIsiF X.prog X.w X.K) := by
  intro pins s σ H xs us Q I r h
  obtain ⟨x, c, t, u, b, rfl, k, ty, e, q⟩ := h
  rcases ty with ty | ⟨d, kvs, rfl, F, rfl⟩
  · exact call_isi pins s σ H _ us Q I r ⟨x, c, t, u, b, rfl, k, ty, e, q⟩
  · obtain ⟨v, z, rfl, r1, r2⟩ := vals2 r
    obtain rfl : v = Value.ref d := r1
    obtain rfl := k.eq r2
    obtain ⟨_, _, D⟩ := F.of I.hok
    obtain ⟨o, _, _, h1, h2, _⟩ := D
    exact PySem.W.kia_one PySem.W.kitx_dict I.kIn ⟨o, h1, h2.1⟩ e (fun z => nomatch z) fun tk => ⟨.bl b, H, I.tok tk, rfl, q⟩
theorem call_isiFK {P : Program} {w : World} {K : PySem.W.Frag} (hP : X.prog = P := by rfl) (hw : X.w = w := by rfl) (hK : X.K = K := by rfl) : CallR X (.builtin "isinstance") (rIsiF P w K) := by
  subst hP hw hK
  exact call_isiF
/-! ### == and != by an own __eq__ -/
/-- the operand on the right: an instance of the same class, or a dict of facts -/
def RightOp (P : Program) (w : World) (C : Addr) (dct : Bool) (H : Hp) (y : V) : Prop := (∃ b dx fs, y = .ref b ∧ H b = some (.ins C dx fs)) ∨ (dct = true ∧ ∃ d kvs, y = .ref d ∧ FD P w H d kvs)
def rOwn (P : Program) (w : World) (C : Addr) (sp : Sp) (neg : Bool) : R2 := fun x y H Q => ∃ a dx fs, x = .ref a ∧ H a = some (.ins C dx fs) ∧ RightOp P w C (!neg) H y ∧ sp [x, y] H (fun v H' => ∃ r, v = .bl r ∧ Q (.bl (if neg then !r else r)) H') E0
theorem looks_cls {M : Model} {h : Heap} {a : Addr} {o : Obj} (e : h.get? a = some o) : PySem.W.Looks M h (typeOf (.ref a)) o.cls := (PySem.W.Looks.ld e).andThen .now
variable {k : Nat} {C f : Addr} {fd : FuncData} {ps : List Str} {sp : Sp}
/-- the call of the own __eq__, somewhere below -/
theorem own_call (F : FnOk X.prog X.w X.K X.mg X.base CX0 k f fd ps sp) (hb : Binds X.K fd ps []) {A : Around} (hr : Room k A) (hA : A.frames = X.A.frames) {pins : List (Addr × Obj)} {σ : L2.St} {H : Hp} {s : Shared} (I : Inv X pins σ H s) {x y : V} {u v : Value} (rx : RelV x u) (ry : RelV y v) {Q : VK} {R : Value → Shared → Prop}
    (h : sp [x, y] H Q E0) (hR : ∀ z H' w s', Inv X pins σ H' s' → RelV z w → Q z H' → R w s') : wpAny (model X.prog X.w) A (call (.ref f) [u, v]) R X.xe s := by
  have e0 : Env0 X.prog X.w X.K X.mg X.base A X.stack s H := by
    have e := I.env0
    exact ⟨by rw [hA]; exact e.frames, e.mod, e.bs, e.bsz, e.funs, e.frf, e.hok, e.bare⟩
  have hl := F.len _ _ _ _ h
  have bd := hb s [u, v] I.kIn (by simpa using hl)
  rw [List.append_nil] at bd
  refine wpAny_call (codeAny_mono (F.run A X.stack s H ⟨[u, v], []⟩ [u, v] [x, y] Q E0 hr e0 bd (.cons rx (.cons ry .nil)) h) fun r s' hq => ?_)
  cases r with
  | error e => exact pass0 pins σ H s e s' I hq
  | ok fl =>
    cases fl with
    | ret z =>
      obtain ⟨zz, H', I', rz, ez⟩ := I.after hq
      exact hR zz H' z s' I' rz ez
    | next => exact False.elim hq
    | brk => exact False.elim hq
    | cont => exact False.elim hq
theorem right_looks {dct : Bool} (O : OwnEq X.K C f) {pins : List (Addr × Obj)} {σ : L2.St} {H : Hp} {s : Shared} (I : Inv X pins σ H s) {y : V} {v : Value} (ry : RelV y v) (h : RightOp X.prog X.w C dct H y) :
    ∃ t, PySem.W.Looks (model X.prog X.w) s.heap (typeOf v) t ∧ PySem.W.notFirst X.K C t = true ∧ (dct = false → t = .ref C) := by
  rcases h with ⟨b, dx, fs, rfl, hb⟩ | ⟨e, d, kvs, rfl, F⟩
  · obtain rfl : v = Value.ref b := ry
    obtain ⟨mB, J, _⟩ := ins_get I.hok hb
    obtain ⟨od, J, _⟩ := J.look
    exact ⟨.ref C, J.type, O.nf, fun _ => rfl⟩
  · obtain rfl : v = Value.ref d := ry
    obtain ⟨_, _, D⟩ := F.of I.hok
    obtain ⟨o, _, _, h1, h2, _⟩ := D
    refine ⟨.type "dict", ?_, O.nd, fun z => ?_⟩
    · have z := looks_cls (M := model X.prog X.w) h1
      rw [h2.1] at z
      exact z
    · rw [e] at z
      cases z
theorem op_own (O : OwnEq X.K C f) (F : FnOk X.prog X.w X.K X.mg X.base CX0 k f fd ps sp) (hb : Binds X.K fd ps []) (hr : Room k X.A) : OpR X (compareOp .Eq) (rOwn X.prog X.w C sp false) := by
  intro pins s σ H x y v u Q I rx ry h
  obtain ⟨a, dx, fs, rfl, ha, hy, hsp⟩ := h
  obtain rfl : v = Value.ref a := rx
  obtain ⟨mA, J, _⟩ := ins_get I.hok ha
  obtain ⟨od, J, _⟩ := J.look
  obtain ⟨m, hF⟩ := I.fr
  obtain ⟨t, L, n, _⟩ := right_looks O I ry hy
  show wpAny (model X.prog X.w) X.A (richCompare .Eq (.ref a) u) (EP X pins σ Q) X.xe s
  refine PySem.W.cmp_K (op := .Eq) (tb := t) hr.units0 hF I.ok.mod.kin J L n O.at_ O.fn ?_
  refine own_call (x := .ref a) (u := .ref a) F hb hr rfl I rfl ry hsp fun z H' w s' I' rz hz => ?_
  obtain ⟨r, rfl, q⟩ := hz
  obtain rfl : w = Value.bool r := rz
  exact ⟨.bl r, H', I', rfl, q⟩
theorem op_nown (O : OwnEq X.K C f) (F : FnOk X.prog X.w X.K X.mg X.base CX0 k f fd ps sp) (hb : Binds X.K fd ps []) (hr : Room (k + 1) X.A) : OpR X (compareOp .NotEq) (rOwn X.prog X.w C sp true) := by
  intro pins s σ H x y v u Q I rx ry h
  obtain ⟨a, dx, fs, rfl, ha, hy, hsp⟩ := h
  obtain rfl : v = Value.ref a := rx
  obtain ⟨mA, J, _⟩ := ins_get I.hok ha
  obtain ⟨od, J, _⟩ := J.look
  have KI := I.kIn
  obtain ⟨t, L, n, ht⟩ := right_looks O I ry hy
  obtain rfl := ht rfl
  show wpAny (model X.prog X.w) X.A (richCompare .NotEq (.ref a) u) (EP X pins σ Q) X.xe s
  have inner : wpAny (model X.prog X.w) X.A.in1 (Builtin.«object.__ne__» ⟨[.ref a, u], []⟩) (fun fin s' => ∃ r, fin = .done (.ret (.bool (!r))) ∧ EP X pins σ Q (.bool (!r)) s') X.xe s := by
    unfold Builtin.«object.__ne__»
    refine wpAny_bind (m := slotArgs "__ne__" 1 ⟨[.ref a, u], []⟩) (wpAny_pure ?_)
    refine wpAny_bind (wpAny_cRoomFor (hr.in1).units0 ?_)
    refine wpAny_bind (PySem.W.ifBound_K KI J O.at_ O.fn (own_call (x := .ref a) (u := .ref a) F hb hr.in1 rfl I rfl ry hsp fun z H' w s' I' rz hz => ?_))
    obtain ⟨r, rfl, q⟩ := hz
    obtain rfl : w = Value.bool r := rz
    refine wpAny_bind (wpAny_truthy_bool ?_)
    exact wpAny_pure ⟨r, rfl, .bl (!r), H', I', rfl, q⟩
  have isObj : PySem.W.Looks (model X.prog X.w) s.heap (isInstance (.ref a) (.type "object")) true := J.type.andThen (PySem.W.looks_mroIn KI O.ob)
  have called : wpAny (model X.prog X.w) X.A (call (.builtin "object.__ne__") [.ref a, u]) (fun v s' => ∃ r, v = .bool r ∧ EP X pins σ Q v s') X.xe s := by
    refine wpAny_call (codeAny_call_builtin PySem.F.cmp_object.ne.plain PySem.F.cmpEntry_ne (PySem.W.check_slot PySem.F.cmpKind_ne PySem.F.cmpSplit_ne isObj (PySem.F.cmpArgs_ne _ _) ?_))
    refine wpAny_mono inner (fun fin s' z => ?_) fun _ _ e => e
    obtain ⟨r, rfl, q⟩ := z
    exact ⟨_, rfl, q⟩
  have bound : wpAny (model X.prog X.w) X.A (callSpecialIfBound? (.ref a) "__ne__" [u]) (fun r s' => ∃ b, r = some (.bool b) ∧ EP X pins σ Q (.bool b) s') X.xe s := by
    simp only [callSpecialIfBound?, bindSpecialIfBound?]
    refine wpAny_holding (wpAny_bind (wpAny_bind (wpAny_bind (J.type.here ((PySem.W.looks_findIn KI O.ne).here ?_)))))
    simp only [PySem.F.cmp_object.ne.bind]
    refine wpAny_bind (wpAny_askSetting (wpAny_ite ?_))
    have fin : wpAny (model X.prog X.w) X.A (call (.builtin "object.__ne__") ([.ref a] ++ [u]) >>= fun v => pure (some v)) (fun r s' => ∃ b, r = some (.bool b) ∧ EP X pins σ Q (.bool b) s') X.xe s :=
      wpAny_bind (wpAny_mono called (fun v s' z => by obtain ⟨r, rfl, q⟩ := z; exact wpAny_pure ⟨r, rfl, q⟩) fun _ _ e => e)
    split
    · exact wpAny_bind (wpAny_pure (wpAny_pure fin))
    · exact wpAny_tryCatch (wpAny_bind (wpAny_pure (wpAny_pure fin)))
  have one : wpAny (model X.prog X.w) X.A (tryCompare (.ref a) "__ne__" u) (fun r s' => ∃ v, r = some v ∧ EP X pins σ Q v s') X.xe s := by
    unfold tryCompare
    refine wpAny_bind (wpAny_mono bound (fun r s' z => ?_) fun _ _ e => e)
    obtain ⟨b, rfl, q⟩ := z
    exact wpAny_pure ⟨_, rfl, q⟩
  unfold richCompare
  simp only [oneThing_ref]
  refine wpAny_holding (wpAny_bind (wpAny_cRoomFor hr.units0 ?_))
  refine wpAny_bind (J.type.here (wpAny_bind (L.here ?_)))
  rw [show (Value.ref C != Value.ref C) = false by simp]
  simp only [Bool.false_eq_true, if_false]
  refine wpAny_bind (wpAny_pure ?_)
  simp only [Bool.false_eq_true, if_false]
  refine wpAny_bind (wpAny_mono one (fun r s' z => ?_) fun _ _ e => e)
  obtain ⟨v, rfl, q⟩ := z
  exact wpAny_pure q
/-! ### d.values() -/
def viewV (d : Addr) : Obj := { cls := .type "dict_values", data := .fields #[.ref d] }
def tVals (P : Program) (w : World) (td : TE) : TE := fun σ H Q => td σ H fun x H1 => ∃ d kvs, x = .ref d ∧ FD P w H1 d kvs ∧ ∀ v, H1 v = none → Q (.ref v) (upd H1 v (obO v (viewV d)))
theorem pe_valuesF {e : Expr} {apos cpos : Pos} {td : TE} (he : PE X e td) (hbase : attributeBase e "values" X.env (eval e X.env) = eval e X.env := by rfl) (hline : (apos.endLine == cpos.line) = true := by rfl) :
    PE X (.Call (.Attribute e "values" apos) [] [] cpos) (tVals X.prog X.w td) := by
  refine ⟨fun pins s σ H Q I h => ?_⟩
  refine wpAny_Call_method0_late hbase hline (thn (he.run pins s σ H _ I h) fun v s1 z => ?_)
  obtain ⟨x, H1, I1, rx, d, kvs, rfl, ⟨o, F⟩, q⟩ := z
  obtain rfl : v = Value.ref d := rx
  obtain ⟨hd, _⟩ := F.of I1.hok
  obtain ⟨es, ep, xs, e1, _, _⟩ := F.ent
  have raw : s1.heap.DictRaw d es ep := ⟨o, hd, F.exact', e1⟩
  refine ⟨"dict", "dict.values", PySem.F.plainAttrs_dict, PySem.F.slot_dict_values, PySem.F.type_dict_values, raw.typeIs, fun b z => ?_, Calls.callWith_builtin rfl (PySem.evalArgs_none ?_)⟩
  · cases z
    exact ⟨o, hd, F.exact'.2.1⟩
  refine call_meetsIn PySem.F.slot_dict_values raw.typeIs PySem.F.entry_dict_values (PySem.F.args_dict_values_1 _) (PySem.meets_dict_values_raw d F.sys) ⟨⟨es, ep, raw⟩, ?_⟩
  exact ⟨.ref s1.heap.objs.size, upd H1 s1.heap.objs.size (obO s1.heap.objs.size (viewV d)), I1.laid (t' := s1.toks) (fun b u e => Heap.get?_push_of_some _ e) (Nat.le_refl _) (ob_new (Heap.get?_push_size _ rfl)), rfl, q _ (I1.hok.fresh (Nat.le_refl _))⟩
theorem vals_of {P : Program} {w : World} {H : Hp} {d : Addr} {o : Obj} {kvs : List (Fct × V)} {es : Array DictEntry} {ep : Nat} {acc : Array Value} (F : FDo P w H d o kvs) (hod : o.data = .dict es ep)
    (hacc : PySem.ItemsOf (fun i v => ∃ hi : i < es.size, v = es[i].val) acc es.size) : Vals (kvs.map (·.2)) acc.toList := by
  obtain ⟨hs, hat⟩ := F.at hod
  obtain ⟨h1, h2⟩ := hacc
  have g : ∀ (vs : List Value) (xs : List V), vs.length = xs.length → (∀ (i : Nat) (v : Value) (x : V), vs[i]? = some v → xs[i]? = some x → RelV x v) → Vals xs vs := by
    intro vs
    induction vs with
    | nil =>
      intro xs e _
      cases xs with
      | nil => exact .nil
      | cons x xs => cases e
    | cons v vs ih =>
      intro xs e k
      cases xs with
      | nil => cases e
      | cons x xs => exact .cons (k 0 v x rfl rfl) (ih xs (Nat.succ.inj e) fun i => k (i + 1))
  refine g acc.toList (kvs.map (·.2)) ?_ fun i v x ev ex => ?_
  · rw [Array.length_toList, List.length_map, h1, hs]
  · rw [Array.getElem?_toList] at ev
    obtain ⟨hi, rfl⟩ := h2 i v ev
    obtain ⟨ka, f', v', e1, _, _, e4⟩ := hat i hi
    rw [List.getElem?_map, e1] at ex
    obtain rfl := Option.some.inj ex
    exact e4
/-- list(d.values()) -/
def rListV (P : Program) (w : World) : List V → Hp → VK → Prop := fun vs H Q => ∃ v d kvs, vs = [V.ref v] ∧ H v = some (obO v (viewV d)) ∧ FD P w H d kvs ∧ ∀ p, H p = none → Q (.ref p) (upd H p (.lst (kvs.map (·.2))))
theorem call_listV (hc : X.calm = true) : CallR X (.type "list") (rListV X.prog X.w) := by
  intro pins s σ H vs us Q I r h
  obtain ⟨v, d, kvs, rfl, hv, ⟨o, F⟩, q⟩ := h
  obtain ⟨u, rfl, ru⟩ := vals1 r
  obtain rfl : u = Value.ref v := ru
  obtain ⟨hd, _⟩ := F.of I.hok
  obtain ⟨hview, _, _⟩ : ObjOk X.prog X.w H s.heap v (obO v (viewV d)) := I.hok v _ hv
  obtain ⟨es, ep, xs, e1, e2, _⟩ := F.ent
  have hs := (F.at e1).1
  refine PySem.W.kdl_call (PySem.KdlSrc.rawValues (r := v) (d := d)) (I.ok.hd hc) ⟨⟨viewV d, hview, rfl, rfl⟩, o, hd, F.exact', e1⟩ (by have := F.len; omega) fun h' tk acc c hk hn hacc => ?_
  have k1 := vals_of F e1 hacc
  refine ⟨.ref s.heap.objs.size, upd H s.heap.objs.size (.lst (kvs.map (·.2))), I.laid (t' := tk) hk (Nat.le_refl _) ?_, rfl, q _ (I.hok.fresh (Nat.le_refl _))⟩
  refine ⟨?_, acc.toList, c, k1, ?_⟩
  · rw [List.length_map]
    exact F.len
  · rw [Array.toArray_toList]
    exact hn
/-! ### {fact: value} -/
def tDisp1 (P : Program) (w : World) (tk tv : TE) : TE := fun σ H Q => ∀ d o, H d = none → FD P w (upd H d o) d [] → tk σ (upd H d o) fun y H1 => tv σ H1 fun z H2 => ∃ b f, y = .ref b ∧ FD P w H2 d [] ∧ KeyAt H2 b f ∧ ∀ o', FD P w (upd H2 d o') d [(f, z)] → Q (.ref d) (upd H2 d o')
end
/-! ### dict comprehensions, their parts one by one -/
section
variable {X : Cx} {kx vx tg iter : Expr} {ifs : List Expr} {scope : Scope} {own : List (Str × Nat)} {pos spos py : Pos} {wi : TI} {g : TG} {tt : TT} {tk tv : TE} {i : Nat} {y : Str}
theorem pe_fc4 (hc : X.calm = true) (hu : X.A.units + 64 < cLine) (hN : X.N.Nodup) (hi : PI X tg iter wi) (ok : BlkOk X.N X.env.scope scope own)
    (pg : ∀ (s : Shared) (H : Hp) (C : Addr) (cl : List (Str × Addr)) (fp : List Addr), PG (X.blk s H scope (compEnvC scope cl C X.env) fp) tg g) (pt : ∀ (s : Shared) (H : Hp) (C : Addr) (cl : List (Str × Addr)) (fp : List Addr), PTs (X.blk s H scope (compEnvC scope cl C X.env) fp) ifs tt)
    (pk : ∀ (s : Shared) (H : Hp) (C : Addr) (cl : List (Str × Addr)) (fp : List Addr), PE (X.blk s H scope (compEnvC scope cl C X.env) fp) kx tk) (pv : ∀ (s : Shared) (H : Hp) (C : Addr) (cl : List (Str × Addr)) (fp : List Addr), PE (X.blk s H scope (compEnvC scope cl C X.env) fp) vx tv)
    (hs : ∀ x, foldedSetIterable iter X.env x = pure x := by intro _; rfl) : PE X (.DictComp kx vx [⟨tg, iter, ifs, 0⟩] scope pos) (tFc X.prog X.w wi g tt tk tv (own.map (·.2))) := pe_fc hc hu hN hi ok ⟨pg, pt, pk, pv⟩ hs
theorem ps_setFc4 (hc : X.calm = true) (hu : X.A.units + 64 < cLine) (hN : X.N.Nodup) (hy : X.N[i]? = some y) (hyl : X.env.scope.names.lookup y = some .local)
    (hsw : swapsWith (.DictComp kx vx [⟨tg, iter, ifs, 0⟩] scope pos) (some (.Name y py)) spos.line X.env = pure true) (hi : PI X tg iter wi) (ok : BlkOk X.N X.env.scope scope own)
    (pg : ∀ (s : Shared) (H : Hp) (C : Addr) (cl : List (Str × Addr)) (fp : List Addr), PG (X.blk s H scope (compEnvC scope cl C X.env) fp) tg g) (pt : ∀ (s : Shared) (H : Hp) (C : Addr) (cl : List (Str × Addr)) (fp : List Addr), PTs (X.blk s H scope (compEnvC scope cl C X.env) fp) ifs tt)
    (pk : ∀ (s : Shared) (H : Hp) (C : Addr) (cl : List (Str × Addr)) (fp : List Addr), PE (X.blk s H scope (compEnvC scope cl C X.env) fp) kx tk) (pv : ∀ (s : Shared) (H : Hp) (C : Addr) (cl : List (Str × Addr)) (fp : List Addr), PE (X.blk s H scope (compEnvC scope cl C X.env) fp) vx tv)
    (hs : ∀ x, foldedSetIterable iter X.env x = pure x := by intro _; rfl) : PS X (.Assign [.Name y py] (.DictComp kx vx [⟨tg, iter, ifs, 0⟩] scope pos) spos) (tAsg (tFc X.prog X.w wi g tt tk tv (own.map (·.2))) (gName i)) := ps_setFc hc hu hN hy hyl hsw hi ok ⟨pg, pt, pk, pv⟩ hs
end
theorem pt_truthK {X : Cx} {K : PySem.W.Frag} {a : Expr} {ta : TE} (ha : PE X a ta) (he : ∀ whole, isTrue a X.env whole = (do let v ← whole; standAt a.pos; holding [v] (truthy v))) (hK : X.K = K := by rfl) :
    PT X a (fun σ H Q => ta σ H fun x H' => ∃ k, TruV K x H' k ∧ Q k H') := by
  subst hK
  exact pt_truth ha he
end YjD
set_option Elab.async false
set_option linter.all false
set_option maxRecDepth 100000
set_option maxHeartbeats 1000000
set_option pp.maxSteps 1500
/-! {fact: value}; isinstance with an own class. -/
namespace YjD
open PySem PySem.Spec PyProof.Rows L2
/-- what the top has left of the class at C, asked by isinstance -/
structure IsCls (K : PySem.W.Frag) (C : Addr) : Prop where
  ha : PySem.W.findIn K (.ref C) "__class__" = some (some (.builtin "object.__class__"))
  hn : PySem.W.specialIn K (.builtin "object.__class__") "__get__" = some (some (.builtin "getset_descriptor.__get__"))
  ht : PySem.W.takesIn K (.builtin "object.__class__") = some true
  hm : PySem.W.mroIn K C (.type "object") = some true
  me : PySem.W.kitOne K (.ref C) (.ref C) = some true
  dict : PySem.W.kitOne K (.type "dict") (.ref C) = some false
theorem IsCls.ty {K : PySem.W.Frag} {C : Addr} (z : IsCls K C) (cl : Cls K C) {H : Hp} {a dx : Addr} {fs : List (Str × V)} (e : H a = some (.ins C dx fs)) : TyX K H (.ref a) (.ref C) := .base (.ins e cl z.ha z.hn z.ht z.hm)
section
variable {X : Cx} {k v : Expr} {tk tv : TE} {pos : Pos}
theorem pe_fdisp1 (hu : X.A.units + 64 < cLine) (hk : PE X k tk) (hv : PE X v tv) : PE X (.Dict [some k] [v] pos) (tDisp1 X.prog X.w tk tv) := by
  refine ⟨fun pins s σ H Q I h => ?_⟩
  have hn := I.hok.fresh (Nat.le_refl s.heap.objs.size)
  have I1 := I.laid (a := s.heap.objs.size) (o := obO s.heap.objs.size newO) (h' := s.heap.push { cls := .type "dict", data := .dict #[] }) (t' := s.toks) (fun _ _ q => Heap.get?_push_of_some _ q) (Nat.le_refl _) (ob_new (Heap.get?_push_size _ rfl))
  have shape : (evalEachOpt [some k] X.env).zip ((evalEach [v] X.env).map fun v => do let x ← v; standAt pos; pure x) = [(eval k X.env, (do let x ← eval v X.env; standAt pos; pure x : Sem Value))].map fun p => (some p.1, p.2) := rfl
  rw [arm_eval_Dict, shape, dictDisplay_pairs _ (by simp) (by show 1 < 17; decide)]
  refine wpAny_bind (wpAny_standAt (wpAny_bind (wpAny_subDictH (knd := nestedKind X.prog X.w) (Q := fun d s' => wpAny (model X.prog X.w) X.A (pure (Value.ref d)) (EP X pins σ Q) X.xe s') (by show X.A.units + 8 < cLine; omega) (by show 1 ≤ 15; decide) ?_)))
  refine evalPairs_cons (thn (hk.run pins _ σ _ _ I1 (h _ _ hn (fd_empty I.big))) fun kv s1 z => ?_)
  obtain ⟨y, H1, I2, ry, q1⟩ := z
  refine wpAny_bind (thn (hv.run pins s1 σ H1 _ I2 q1) fun vv s2 z => ?_)
  obtain ⟨z, H2, I3, rz, b, f, rfl, F, K, q⟩ := z
  obtain rfl : kv = Value.ref b := ry
  refine wpAny_bind (wpAny_standAt (wpAny_pure (evalPairs_nil ?_)))
  obtain ⟨xs, rr, DD⟩ := F.of I3.hok
  cases rr
  refine ⟨[(keyF f, b, vv)], ⟨rfl, rfl, fact_is I3.hok K, trivial⟩, DD, fun h' tk D' hs => wpAny_pure ?_⟩
  obtain ⟨o', I', F'⟩ := FD.stored (t' := tk) I3 F K rz (by rw [sizeLine_eq]; show 0 < _; omega) .nil D' hs
  exact ⟨.ref _, _, I', rfl, q o' F'⟩
end
end YjD
set_option Elab.async false
set_option linter.all false
set_option maxRecDepth 100000
set_option maxHeartbeats 1000000
set_option pp.maxSteps 1500
/-! Methods and makings whose errors are handled: what is promised of an error may speak of the slots. -/
namespace YjD
open PySem PySem.Spec PyProof.Rows L2
section
variable {X : Cx} {CX : CXT} {k : Nat} {f C : Addr} {fd : FuncData} {ps : List Str} {sp : Sp} {Er : L2.St → XK} {x m : Str} {p pos apos : Pos} {e o : Expr} {es : List Expr} {ta : TE} {t : TA}
def tMethE (C : Addr) (m : Str) (sp : Sp) (Er : L2.St → XK) (ta : TE) (t : TA) : TE := fun σ H Q => ta σ H fun y H1 => ∃ a dx fs, y = .ref a ∧ H1 a = some (.ins C dx fs) ∧ fs.lookup m = none ∧ t σ H1 fun ys H2 => sp (y :: ys) H2 Q (Er σ)
theorem pe_methE {line : Sem Bool} (onit : PE X o ta) (c : Cls X.K C) (has : Meth X.K C m f) (F : FnOk X.prog X.w X.K X.mg X.base CX k f fd ps sp) (room : Room k X.A) (bind : Binds X.K fd ps []) (out : ∀ σ, PassesAt CX X σ (Er σ)) (args : PA X (e :: es) t)
    (h1 : starEach (e :: es) X.env = (false, eval e X.env) :: starEach es X.env := by rfl) (h2 : (backTo pos (starEach es X.env)).any (·.1) = false := by rfl)
    (h3 : eval (.Call (.Attribute o m apos) (e :: es) [] pos) X.env = (do
      let who ← eval o X.env
      standAt apos.atName
      let (g, one) ← holding [who] (getMethod who m line)
      callWith pos g one (backTo pos (starEach (e :: es) X.env)) (backToKw pos (keywordEach [] X.env))) := by rfl) : PE X (.Call (.Attribute o m apos) (e :: es) [] pos) (tMethE C m sp Er ta t) := by
  refine ⟨fun held s0 σ H Q I0 want => PySem.W.methodCall_KW (pl := line) (thn (onit.run held s0 σ H _ I0 want) fun u s1 got => ?_) h3⟩
  obtain ⟨y, H1, I1, ry, a, dx, fs, rfl, ea, none', rest⟩ := got
  obtain rfl : u = Value.ref a := ry
  refine getmeth_ok I1 ea c has none' (PySem.W.callWith_K (first := [.ref a]) (h₀ := X.base) I1.ok.mod.kin has.kp (thn (args.run pos held s1 σ H1 _ I1 rest) fun us s2 got => ?_) h1 h2)
  obtain ⟨ys, H2, I2, r, done⟩ := got
  exact ⟨I2.kIn, run_fnS (us := .ref a :: us) (vs := .ref a :: ys) F room bind (out σ) I2 (.cons rfl r) done⟩
def tMakeE (C : Addr) (sp : Sp) (Er : L2.St → XK) (t : TA) : TE := fun σ H Q => t σ H fun ys H1 => ∀ z dz, H1 z = none → H1 dz = none → dz ≠ z → sp (.ref z :: ys) (upd (upd H1 dz (.own z)) z (.ins C dz [])) (fun v H2 => v = .non ∧ Q (.ref z) H2) (Er σ)
theorem pe_makeE (M : Mk X.K C f) (F : FnOk X.prog X.w X.K X.mg X.base CX k f fd ps sp) (room : Room (k + 1) X.A) (free : Gl X x) (top : X.mg x = some (.ref C)) (bind : Binds X.K fd ps []) (out : ∀ σ, PassesAt CX X σ (Er σ)) (args : PA X (e :: es) t)
    (nd : (x == ("__debug__" : Str)) = false := by decide) (h1 : starEach (e :: es) X.env = (false, eval e X.env) :: starEach es X.env := by rfl) (h2 : (backTo pos (starEach es X.env)).any (·.1) = false := by rfl) : PE X (.Call (.Name x p) (e :: es) [] pos) (tMakeE C sp Er t) := by
  refine ⟨fun held s0 σ H Q I0 want => wpAny_Call_Name_kw (ld_glob I0 free top ?_ nd)⟩
  refine PySem.W.callWith_K (h₀ := X.base) I0.ok.mod.kin M.kp (thn (args.run pos held s0 σ H _ I0 want) fun us s got => ?_) h1 h2
  obtain ⟨ys, H1, I, r, rest⟩ := got
  refine ⟨I.kIn, ?_⟩
  have now := rest (s.heap.objs.size + 1) s.heap.objs.size (I.hok.fresh (Nat.le_succ _)) (I.hok.fresh (Nat.le_refl _)) (Nat.ne_of_lt (Nat.lt_succ_self _))
  have J := Inv.made (C := C) I
  have rr : Vals (V.ref (s.heap.objs.size + 1) :: ys) (Value.ref (s.heap.objs.size + 1) :: us) := .cons rfl r
  have count : ((Value.ref (s.heap.objs.size + 1) :: us) ++ []).length = ps.length := by
    have z := rr.length
    rw [F.len _ _ _ _ now] at z
    rw [List.append_nil]
    exact z.symm
  have bd := bind _ (Value.ref (s.heap.objs.size + 1) :: us) J.kIn count
  rw [List.append_nil] at bd
  refine wpAny_call (make_map (f := f) I.kIn M.makes M.init (beq_iff_eq.mp M.fn) (codeAny_mono (F.run _ X.stack _ _ ⟨Value.ref (s.heap.objs.size + 1) :: us, []⟩ _ _ _ (Er σ) (room.make C us []) (J.env0.make C us []) bd rr now) fun way s' got => ?_))
  match way, got with
  | .error err, got => exact out σ held _ _ err s' J got
  | .ok (.ret u), got =>
    obtain ⟨v, H', I3, rv, rfl, last⟩ := J.after got
    exact ⟨rv, ⟨V.ref (s.heap.objs.size + 1), H', I3, rfl, last⟩⟩
  | .ok .next, got => exact False.elim got
  | .ok .brk, got => exact False.elim got
  | .ok .cont, got => exact False.elim got
end
theorem pe_fdisp1K {X : Cx} {P : Program} {w : World} {k v : Expr} {tk tv : TE} {pos : Pos} (hu : X.A.units + 64 < cLine) (hk : PE X k tk) (hv : PE X v tv) (hP : X.prog = P := by rfl) (hw : X.w = w := by rfl) : PE X (.Dict [some k] [v] pos) (tDisp1 P w tk tv) := by
  subst hP hw
  exact pe_fdisp1 hu hk hv
end YjD
set_option Elab.async false
set_option linter.all false
set_option maxRecDepth 100000
set_option maxHeartbeats 4000000
set_option pp.maxSteps 1500
/-! What is never reached; a new dict walked at once; enumerate(.., start=1) over a list or a tuple. -/
namespace YjE
open PySem PySem.Spec PyProof.Rows L2
theorem pe_never {X : Cx} {e : Expr} : PE X e (fun _ _ _ => False) := ⟨fun _ _ _ _ _ _ h => h.elim⟩
theorem pss_never {X : Cx} {st : List Stmt} : PSs X st (fun _ _ _ => False) := ⟨fun _ _ _ _ _ _ h => h.elim⟩
theorem ps_skip {X : Cx} {st : Stmt} : PS X st (fun _ _ _ => False) := ⟨fun _ _ _ _ _ _ h => h.elim⟩
/-- an object that nothing else will ever see, locked for good -/
def tFrz (te : TE) : TE := fun σ H Q => te σ H fun x H1 => ∃ d u, x = .ref d ∧ H1 d = some u ∧ Mut (some u) ∧ ∀ od, Q x (upd H1 d (.frz od u))
theorem pe_frz {X : Cx} {e : Expr} {te : TE} (h : PE X e te) : PE X e (tFrz te) := ⟨fun pins s σ H Q I hw => thn (h.run pins s σ H _ I hw) fun v s1 q => by
  obtain ⟨x, H1, I1, r, d, u, rfl, hd, mu, q⟩ := q
  obtain ⟨od, I2⟩ := I1.lock hd mu
  exact ⟨_, _, I2, r, q od⟩⟩
/-! ### enumerate(.., start=1) -/
theorem shiftD {prog : Program} {w : World} {A : Around} {it : Addr} {fp : List Addr} {n : Nat} {P : Nat → Value → Prop} {St : Nat → Heap → Prop} (D : Draws prog w A it fp n P St) :
    Draws prog w A it fp (n + 1) (fun i v => ∃ j, i = j + 1 ∧ P j v) (fun i h => ∃ j, i = j + 1 ∧ St j h) where
  live := fun i h ⟨j, _, st⟩ => D.live j h st
  frame := fun i h h' ⟨j, e, st⟩ k => ⟨j, e, D.frame j h h' st k⟩
  item := fun i s Q E lt ⟨j, e, st⟩ hq => D.item j s Q E (by omega) st fun x h' tk p st' sb => hq x h' tk ⟨j, e, p⟩ ⟨j + 1, by omega, st'⟩ sb
  done := fun s Q E ⟨j, e, st⟩ hq => by
    have z : n = j := by omega
    subst z
    exact D.done s Q E st hq
/-- each item in a new pair with its place, from 1 on; R tells what is walked -/
def IteS (R : Hp → List V → Prop) : It :=
  ⟨fun i H => ∃ (xs : List V) (x : V), R H xs ∧ xs[i]? = some x, fun i H v H' => ∃ T x, v = .ref T ∧ H T = none ∧ H' = upd H T (.tup [.int ((i : Nat) + 1 : Int), x]) ∧ ∀ xs, R H xs → xs[i]? = some x, fun i H => ∃ xs : List V, R H xs ∧ xs.length = i⟩
theorem kindsE {h : Heap} {a b : Addr} {o u : Obj} (ha : h.get? a = some o) (hb : h.get? b = some u) (hc : o.cls ≠ u.cls) : a ≠ b := fun z => by
  subst z
  rw [ha] at hb
  cases hb
  exact hc rfl
theorem turn_enumST {P : Program} {w : World} {K : PySem.W.Frag} {elts : List Expr} {kk : Nat} {tpos : Pos} (a e it : Addr) :
    Turn P w K (.Tuple elts kk tpos) (IteS fun H xs => SqT K H a xs) [e, it] e (fun i h => (∃ old, IsEnum h e it ((i + 1 : Nat) : Int) old) ∧ h.IsTupleIter it a i ∧ e ≠ it) where
  mem := List.mem_cons_self ..
  obj := fun i h st b hb => by
    obtain ⟨⟨old, he⟩, ⟨o, ho, hc, hd⟩, _⟩ := st
    rcases (by simpa using hb : b = e ∨ b = it) with z | z
    · rw [z]
      exact ⟨_, he, fun v q => nomatch q⟩
    · exact ⟨o, by rw [z]; exact ho, fun v q => by rw [hd] at q; cases q⟩
  keep := fun i h h' st k => ⟨by
    obtain ⟨⟨old, he⟩, _⟩ := st
    exact ⟨old, k e (by simp) _ he⟩, st.2.1.at fun o q => k it (by simp) o q, st.2.2⟩
  item := by
    rintro X rfl rfl rfl hc i pins s σ H E I hf st hg
    have hh : X.A.in1.handled = none := I.ok.hd hc
    obtain ⟨⟨old, he⟩, hit, hne⟩ := st
    obtain ⟨xs, x, hq, hx⟩ := hg
    obtain ⟨its, rv, p0, hz⟩ := I.tuple hq
    have p := p0
    obtain ⟨u, hu, ru⟩ := rv.get hx
    have lte : e < s.heap.objs.size := Heap.lt_size he
    have lti : it < s.heap.objs.size := by
      obtain ⟨_, q, _⟩ := hit
      exact Heap.lt_size q
    obtain ⟨ot, hot, hct, hdt⟩ := id p
    obtain ⟨oi, hoi, hci, hdi⟩ := id hit
    have nai : a ≠ it := kindsE hot hoi (by rw [hct, hci]; intro z; exact absurd (Value.type.inj z) (by decide))
    have nae : a ≠ e := kindsE hot he (by rw [hct]; intro z; exact absurd (Value.type.inj z) (by decide))
    refine wpAny_pyNext_enum_itemD (shiftD (Draws.tuple hh it a nai its.toArray)) he ⟨i, rfl, hit, p⟩ (i := i + 1) ?_ hne (by simp [hne, Ne.symm nae]) fun y h' tk hy ho hit' hT hsz hk => ?_
    · have := (List.getElem?_eq_some_iff.mp hu).1
      simpa using this
    obtain ⟨j, ej, hy⟩ := hy
    obtain ⟨j', ej', hit'⟩ := hit'
    have e0 : j = i := by omega
    have e1 : j' = i + 1 := by omega
    subst e0 e1
    have ey : y = u := by
      have z : its.toArray[j]? = some y := hy
      rw [List.getElem?_toArray, hu] at z
      exact (Option.some.inj z).symm
    subst ey
    refine ⟨_, rfl, wpAny_letOwnedTupleGo_enum (s := { s with heap := h', toks := tk + 1 }) ho fun h'' he' sb => ?_⟩
    have hT2 := (sb.2 _ (Nat.ne_of_gt lte)).trans hT
    have ec : (((j + 1 : Nat) : Int)) = (j : Int) + 1 := by omega
    have new : ObjOk X.prog X.w (upd H s.heap.objs.size (.tup [.int ((j : Nat) + 1 : Int), x])) h'' s.heap.objs.size (.tup [.int ((j : Nat) + 1 : Int), x]) :=
      ⟨by show 2 ≤ sizeLine; decide, [.int (j + 1 : Nat) tk, y], .cons ⟨tk, by rw [← ec]⟩ (.cons ru .nil), ⟨_, hT2, rfl, _, rfl⟩⟩
    have I1 : Inv X pins σ (upd H s.heap.objs.size (.tup [.int ((j : Nat) + 1 : Int), x])) { s with heap := h'', toks := tk + 1 } :=
      I.turnedNew (ch := [e, it]) (fun b ob hb q => (sb.2 b (fun z => hb (by simp [z]))).trans (hk b ob (fun z => hb (by simp [z])) (fun z => hb (by simp [z])) q)) hf (Nat.le_refl _) new
    refine ⟨.ref s.heap.objs.size, _, I1, rfl, ⟨_, x, rfl, I.hok.fresh (Nat.le_refl _), rfl, fun ys hy => by rw [I.tuple_inj hy hq]; exact hx⟩, ⟨⟨y, ?_⟩, hit'.1.at fun o q => (sb.2 it (Ne.symm hne)).trans q, hne⟩, fun b hb => ?_⟩
    · have e2 : ((j + 1 + 1 : Nat) : Int) = ((j + 1 : Nat) : Int) + 1 := by omega
      rw [e2]
      exact he'
    · have hb' : b < s.heap.objs.size := by
        rcases (by simpa using hb : b = e ∨ b = it) with z | z <;> rw [z] <;> assumption
      rw [upd_ne (Nat.ne_of_lt hb')]
      exact (hf b hb).1
  done := by
    rintro X rfl rfl rfl hc i pins s σ H E I hf st hg
    have hh : X.A.in1.handled = none := I.ok.hd hc
    obtain ⟨⟨old, he⟩, hit, hne⟩ := st
    obtain ⟨xs, hq, hx⟩ := hg
    obtain ⟨its, rv, p0, hz⟩ := I.tuple hq
    have p := p0
    obtain ⟨f0, f1, f2, f3, f4, f5⟩ := hf it (by simp)
    obtain ⟨ot, hot, hct, hdt⟩ := id p
    obtain ⟨oi, hoi, hci, hdi⟩ := id hit
    have nai : a ≠ it := kindsE hot hoi (by rw [hct, hci]; intro z; exact absurd (Value.type.inj z) (by decide))
    have ei : its.toArray.size = i := by
      have hl := rv.length
      rw [List.size_toArray]
      omega
    refine wpAny_pyNext_enum_endD (shiftD (Draws.tuple hh it a nai its.toArray)) he ?_ fun h' eb => ⟨rfl, I.turned (t' := s.toks) (fun b o hb q => eb b o hb q) f0 f1 f3 f4 f5⟩
    exact ⟨i, by rw [ei], hit, p⟩
  self := fun A i s Q E st h => by
    obtain ⟨⟨_, he⟩, _⟩ := st
    exact wpAny_pyIter_enum he h
theorem turn_enumSL {P : Program} {w : World} {K : PySem.W.Frag} {elts : List Expr} {kk : Nat} {tpos : Pos} (a e it : Addr) :
    Turn P w K (.Tuple elts kk tpos) (IteS fun H xs => SqL K H a xs) [e, it] e (fun i h => (∃ old, IsEnum h e it ((i + 1 : Nat) : Int) old) ∧ h.IsListIter it a i ∧ e ≠ it) where
  mem := List.mem_cons_self ..
  obj := fun i h st b hb => by
    obtain ⟨⟨old, he⟩, ⟨o, ho, hc, hd⟩, _⟩ := st
    rcases (by simpa using hb : b = e ∨ b = it) with z | z
    · rw [z]
      exact ⟨_, he, fun v q => nomatch q⟩
    · exact ⟨o, by rw [z]; exact ho, fun v q => by rw [hd] at q; cases q⟩
  keep := fun i h h' st k => ⟨by
    obtain ⟨⟨old, he⟩, _⟩ := st
    exact ⟨old, k e (by simp) _ he⟩, st.2.1.at fun o q => k it (by simp) o q, st.2.2⟩
  item := by
    rintro X rfl rfl rfl hc i pins s σ H E I hf st hg
    have hh : X.A.in1.handled = none := I.ok.hd hc
    obtain ⟨⟨old, he⟩, hit, hne⟩ := st
    obtain ⟨xs, x, hq, hx⟩ := hg
    obtain ⟨its, rv, p0, hz⟩ := I.list hq
    have p := p0.isList
    obtain ⟨u, hu, ru⟩ := rv.get hx
    have lte : e < s.heap.objs.size := Heap.lt_size he
    have lti : it < s.heap.objs.size := by
      obtain ⟨_, q, _⟩ := hit
      exact Heap.lt_size q
    obtain ⟨ot, hot, hct, hdt⟩ := id p
    obtain ⟨oi, hoi, hci, hdi⟩ := id hit
    have nai : a ≠ it := kindsE hot hoi (by rw [hct, hci]; intro z; exact absurd (Value.type.inj z) (by decide))
    have nae : a ≠ e := kindsE hot he (by rw [hct]; intro z; exact absurd (Value.type.inj z) (by decide))
    refine wpAny_pyNext_enum_itemD (shiftD (Draws.list hh it a nai its.toArray)) he ⟨i, rfl, hit, p⟩ (i := i + 1) ?_ hne (by simp [hne, Ne.symm nae]) fun y h' tk hy ho hit' hT hsz hk => ?_
    · have := (List.getElem?_eq_some_iff.mp hu).1
      simpa using this
    obtain ⟨j, ej, hy⟩ := hy
    obtain ⟨j', ej', hit'⟩ := hit'
    have e0 : j = i := by omega
    have e1 : j' = i + 1 := by omega
    subst e0 e1
    have ey : y = u := by
      have z : its.toArray[j]? = some y := hy
      rw [List.getElem?_toArray, hu] at z
      exact (Option.some.inj z).symm
    subst ey
    refine ⟨_, rfl, wpAny_letOwnedTupleGo_enum (s := { s with heap := h', toks := tk + 1 }) ho fun h'' he' sb => ?_⟩
    have hT2 := (sb.2 _ (Nat.ne_of_gt lte)).trans hT
    have ec : (((j + 1 : Nat) : Int)) = (j : Int) + 1 := by omega
    have new : ObjOk X.prog X.w (upd H s.heap.objs.size (.tup [.int ((j : Nat) + 1 : Int), x])) h'' s.heap.objs.size (.tup [.int ((j : Nat) + 1 : Int), x]) :=
      ⟨by show 2 ≤ sizeLine; decide, [.int (j + 1 : Nat) tk, y], .cons ⟨tk, by rw [← ec]⟩ (.cons ru .nil), ⟨_, hT2, rfl, _, rfl⟩⟩
    have I1 : Inv X pins σ (upd H s.heap.objs.size (.tup [.int ((j : Nat) + 1 : Int), x])) { s with heap := h'', toks := tk + 1 } :=
      I.turnedNew (ch := [e, it]) (fun b ob hb q => (sb.2 b (fun z => hb (by simp [z]))).trans (hk b ob (fun z => hb (by simp [z])) (fun z => hb (by simp [z])) q)) hf (Nat.le_refl _) new
    refine ⟨.ref s.heap.objs.size, _, I1, rfl, ⟨_, x, rfl, I.hok.fresh (Nat.le_refl _), rfl, fun ys hy => by rw [I.list_inj hy hq]; exact hx⟩, ⟨⟨y, ?_⟩, hit'.1.at fun o q => (sb.2 it (Ne.symm hne)).trans q, hne⟩, fun b hb => ?_⟩
    · have e2 : ((j + 1 + 1 : Nat) : Int) = ((j + 1 : Nat) : Int) + 1 := by omega
      rw [e2]
      exact he'
    · have hb' : b < s.heap.objs.size := by
        rcases (by simpa using hb : b = e ∨ b = it) with z | z <;> rw [z] <;> assumption
      rw [upd_ne (Nat.ne_of_lt hb')]
      exact (hf b hb).1
  done := by
    rintro X rfl rfl rfl hc i pins s σ H E I hf st hg
    have hh : X.A.in1.handled = none := I.ok.hd hc
    obtain ⟨⟨old, he⟩, hit, hne⟩ := st
    obtain ⟨xs, hq, hx⟩ := hg
    obtain ⟨its, rv, p0, hz⟩ := I.list hq
    have p := p0.isList
    obtain ⟨f0, f1, f2, f3, f4, f5⟩ := hf it (by simp)
    obtain ⟨ot, hot, hct, hdt⟩ := id p
    obtain ⟨oi, hoi, hci, hdi⟩ := id hit
    have nai : a ≠ it := kindsE hot hoi (by rw [hct, hci]; intro z; exact absurd (Value.type.inj z) (by decide))
    have ei : its.toArray.size = i := by
      have hl := rv.length
      rw [List.size_toArray]
      omega
    refine wpAny_pyNext_enum_endD (shiftD (Draws.list hh it a nai its.toArray)) he ?_ fun h' eb => ⟨rfl, I.turned (t' := s.toks) (fun b o hb q => eb b o hb q) f0 f1 f3 f4 f5⟩
    exact ⟨i, by rw [ei], hit, p⟩
  self := fun A i s Q E st h => by
    obtain ⟨⟨_, he⟩, _⟩ := st
    exact wpAny_pyIter_enum he h
section
variable {M : Model} {A : Around} {E : Value → Shared → Prop} {s : Shared}
theorem callWith_typeK {pos : Pos} {T : String} {args : List (Bool × Sem Value)} {keywords : List (Option Str × Sem Value)} {Q : Value → Shared → Prop} (hp : args.any (·.1) = false) (hn : keywords.any (·.1.isNone) = false)
    (h : wpAny M A (evalArgs (.type T) true args keywords) (fun a s1 => wpAny M A (call (.type T) a.pos a.kw) Q E s1) E s) : wpAny M A (callWith pos (.type T) [] args keywords) Q E s := by
  unfold callWith
  refine wpAny_bind (wpAny_holding (wpAny_mono h (fun a s1 h1 => wpAny_bind (wpAny_standAt ?_)) fun _ _ z => z))
  simp only [hp, hn, Bool.or_false]
  exact wpAny_bind (wpAny_pure (wpAny_bind (wpAny_mono h1 (fun r s2 hr => wpAny_bind (wpAny_holding (wpAny_point (wpAny_pure hr)))) fun _ _ z => z)))
end
/-- a list or a tuple with places from 1 on -/
def iEnumS (K : PySem.W.Frag) (ta : TA) : TI := fun σ H R => ta σ H fun vs H1 => ∃ a xs, vs = [.ref a] ∧ ((SqL K H1 a xs ∧ R (IteS fun H xs => SqL K H a xs) H1) ∨ (SqT K H1 a xs ∧ R (IteS fun H xs => SqT K H a xs) H1))
theorem pi_enumS {X : Cx} {e : Expr} {ta : TA} {p p1 kp pos tpos : Pos} {kc : Nat} {elts : List Expr} {kk : Nat} (hg : Gl X "enumerate") (hm : X.mg "enumerate" = none) (ha : PA X [e] ta) (hs : starEach [e] X.env = [(false, eval e X.env)] := by rfl) :
    PI X (.Tuple elts kk tpos) (.Call (.Name "enumerate" p) [e] [⟨some "start", .Constant (.int 1) kc p1, kp⟩] pos) (iEnumS X.K ta) := by
  refine ⟨fun pins s σ H R I h => ?_⟩
  refine wpAny_Call_Name_kw (ld_blt I hg hm boot_enumerate ?_)
  have e0 : backTo pos (starEach [e] X.env) = [(false, eval e X.env)] := by rw [hs]; rfl
  refine callWith_typeK (by rw [e0]; rfl) rfl ?_
  have ha1 := ha.run pos pins s σ H _ I h
  rw [e0] at ha1 ⊢
  refine evalArgs_kwB rfl (thn ha1 fun us s1 ⟨vs, H1, I1, r1, q1⟩ => kws_cons (thn ((pe_int (X := X)).run pins s1 σ H1 (fun v H2 => v = .int 1 ∧ H2 = H1) I1 ⟨rfl, rfl⟩) fun u s2 ⟨v, H2, I2, r2, e2, e3⟩ => kws_nil ?_))
  subst e2 e3
  obtain ⟨tk, rfl⟩ := r2
  obtain ⟨a, xs, rfl, q⟩ := q1
  obtain ⟨u, rfl, ru⟩ := vals1 r1
  obtain rfl : u = Value.ref a := ru
  have fp : ∀ b ∈ [s2.heap.objs.size + 1, s2.heap.objs.size], FpOk X pins H2 b := fun b hb => by
    have hle : s2.heap.objs.size ≤ b := by
      rcases (by simpa using hb : b = s2.heap.objs.size + 1 ∨ b = s2.heap.objs.size) with z | z <;> omega
    exact I2.fpOk hle (I2.hok.fresh hle)
  rcases q with ⟨hq, q⟩ | ⟨hq, q⟩
  · obtain ⟨its, rv, p', hz⟩ := I2.list hq
    refine enum_begins_start (begins_list a its.toArray) p'.isList (by decide) (by decide) fun h' he hit hsz hk => wpAny_pyIter_enum he ?_
    exact ⟨s2.heap.objs.size + 1, _, _, _, H2, rfl, I2.kept (t' := s2.toks) hk, turn_enumSL a (s2.heap.objs.size + 1) s2.heap.objs.size, ⟨⟨.none, he⟩, ⟨_, hit, rfl, rfl⟩, Nat.succ_ne_self _⟩, fp, q⟩
  · obtain ⟨its, rv, p', hz⟩ := I2.tuple hq
    refine enum_begins_start (begins_tuple a its.toArray) p' (by decide) (by decide) fun h' he hit hsz hk => wpAny_pyIter_enum he ?_
    exact ⟨s2.heap.objs.size + 1, _, _, _, H2, rfl, I2.kept (t' := s2.toks) hk, turn_enumST a (s2.heap.objs.size + 1) s2.heap.objs.size, ⟨⟨.none, he⟩, ⟨_, hit, rfl, rfl⟩, Nat.succ_ne_self _⟩, fp, q⟩
theorem walk_enumS {R : Hp → List V → Prop} {xs : List V} : Walk (IteS R) xs.length (fun H => R H xs) (YPair (fun i => some (.int ((i : Nat) + 1 : Int))) (fun i => xs[i]?)) := by
  refine ⟨fun i H hi q => ⟨xs, xs[i], q, by simp [hi]⟩, fun H q => ⟨xs, q, rfl⟩, fun i H v H' hi q y => ?_⟩
  obtain ⟨T, x, h1, h2, h3, h4⟩ := y
  exact ⟨T, .int ((i : Nat) + 1 : Int), x, h1, h2, h3, rfl, h4 xs q⟩
theorem call_tupleK {X : Cx} {K : PySem.W.Frag} (hK : X.K = K := by rfl) : CallR X (.type "tuple") (fun xs H Q => ∃ p ys, xs = [V.ref p] ∧ ((SqL K H p ys ∧ ∀ l, H l = none → Q (.ref l) (upd H l (.tup ys))) ∨ (SqT K H p ys ∧ Q (.ref p) H))) := by
  subst hK
  exact call_tuple_of
theorem sl_tupK {X : Cx} {K : PySem.W.Frag} (hK : X.K = K := by rfl) : SlR X (rSlA K) := by
  subst hK
  exact sl_tupA
end YjE
namespace Yj
open PySem PySem.Spec PyProof.Rows L2
theorem takesN0 {X : Cx} : L2N.Takes X (fun _ _ _ _ => False) := fun _ _ x => by
  obtain ⟨_, _, _, _, _, _, _, _, _, _, _, _, _, _, _, _, z⟩ := x
  exact z.elim
end Yj
set_option Elab.async false
set_option linter.all false
set_option maxRecDepth 100000
set_option maxHeartbeats 4000000
set_option pp.maxSteps 1500
/-! An own error below an own error below Exception, with one field that its __init__ stores. -/
namespace PySem
namespace YjX_BadEntry
open PySem.W PySem.Calls PyProof.Rows PySem.HandSPX
abbrev exTail : List Value := [.type "Exception", .type "BaseException", .type "object"]
def nArgs (p1 p2 : Pos) : Arguments := { posonlyargs := [], args := [{ arg := "self", annotation := none, pos := p1 }, { arg := "entry", annotation := none, pos := p2 }], vararg := none, kwonlyargs := [], kw_defaults := [], kwarg := none, defaults := [] }
def nBody (q1 q2 q3 q4 : Pos) : List Stmt := [.Assign [.Attribute (.Name "self" q1) "entry" q2] (.Name "entry" q3) q4]
def nScope (mo : List (Str × Const)) : Scope := { kind := .function, names := [(PySem.Str.ofString "self", .local), (PySem.Str.ofString "entry", .local)], isGenerator := false, isCoroutine := false, more := mo }
/-- what the top has left of such a class at C, its __init__ at fI -/
structure OneTxt (K : Frag) (mg : Str → Option Value) (C fI : Addr) : Prop where
  cla : mg "BadEntry" = some (.ref C)
  ini : excInitIn K C exTail "Exception.__new__" = true
  ovr : excOver K C exTail = true
  tak : takerIn K C "entry" = some none
  dct : ∃ cd, clsIn K C = some cd ∧ cd.hasDict = true
  sto : findIn K (.ref C) "__setattr__" = some (some (.builtin "object.__setattr__"))
  gat : findIn K (.ref C) "__getattribute__" = some (some (.builtin "BaseException.__getattribute__"))
  ggt : findIn K (.ref C) "__getattr__" = some none
  non : findIn K (.ref C) "entry" = some none
  iCl : findIn K (.ref C) "__init__" = some (some (.ref fI))
  tyI : typeIn K (.ref fI) = some (.type "function")
  kep : keepIn K (.ref C) = true
  exB : subIn K (.ref C) (.type "BaseException") = some true
  tyC : typeIn K (.ref C) = some (.type "type")
  hdC : hasDictIn K C = true
  exm : exmOne K (.ref C) (.ref C) = some true
  fun' : ∃ (oc : Value) (od : Option Addr) (doc pm : Value) (an : Option Addr) (cdv ct : Value) (osl : Array (Option Value)) (p1 p2 q1 q2 q3 q4 : Pos) (mo : List (Str × Const)) (kw : Value),
    K.lookup fI = some ⟨oc, od, .func (fnOf "__init__" "BadEntry.__init__" (nArgs p1 p2) (nBody q1 q2 q3 q4) (nScope mo) .none kw doc pm an cdv ct), osl⟩ ∧ codeIn K cdv "BadEntry.__init__" = true
section
open Builtin Builtin.ObjectAttr
variable {prog : Program} {w : World} {A : Around} {E : Value → Shared → Prop} {R : Result → Shared → Prop} {hp : Heap} {g : Array GenState} {dr : Drawn} {t : Nat} {os : OsState} {K : Frag} {mg : Str → Option Value} {C fI : Addr}
/-- the first field of an exception that has no dict yet -/
theorem one_store (T : OneTxt K mg C fI) {x t0 : Addr} {tk : Tok} {v : Value} (X : K.In hp) (hx : hp.get? x = some (excO C t0))
    (hq : ∀ h' tk' dx, (∀ b o, b ≠ x → hp.get? b = some o → h'.get? b = some o) → hp.objs.size ≤ dx → dx ≠ x → h'.get? x = some { cls := .ref C, dict := some dx, data := .fields #[.ref t0, .none, .none, .none, .bool false, .none] } →
      h'.Ns1 dx (fun y => if y = "entry" then some v else none) → R (.ok (.ret .none)) ⟨h', g, dr, tk', os⟩) :
    codeAny (model prog w) A (.call (.builtin "object.__setattr__") ⟨[.ref x, .str "entry" tk, v], []⟩) R ⟨hp, g, dr, t, os⟩ := by
  have I : InstAt hp x (excO C t0) C none := ⟨hx, rfl, rfl, trivial⟩
  obtain ⟨cd, hcd, hdd⟩ := T.dct
  have hcl : Looks (model prog w) hp (classData C) cd := looks_clsIn X hcd
  have far : x ≠ hp.objs.size := Nat.ne_of_lt (Heap.lt_size hx)
  refine osa_openX (s := ⟨hp, g, dr, t, os⟩) F.store_Exception X I T.ovr T.tak fun b => ?_
  show wpAny _ _ (storeInOwnDict (.ref x) (.ref C) (.str "entry" tk) "entry" v b) _ _ _
  unfold storeInOwnDict ownDictForStores
  obtain ⟨c1, c2, c3, c4, c5, c6, c7, c8, c9, c10, c11⟩ := cd
  dsimp only at hdd
  subst hdd
  repeat (first | with_reducible refine store_in_new ?_ ?_ | with_reducible refine wpAny_loadPart_at hx ?_ | with_reducible refine hcl.at ?_ | wp_step)
  · exact ⟨_, #[], _, (Heap.get?_update_ne _ _ _ _ far.symm).trans (Heap.get?_push_at rfl rfl), rfl, fun e he => absurd he (by simp), fun _ => rfl⟩
  · intro h' tk' hn' hs
    have e1 : (hp.push { cls := .type "dict", data := .dict #[] }).get? x = some (excO C t0) := Heap.get?_push_of_some _ hx
    refine hq h' tk' hp.objs.size (fun b o hb ho => ?_) (Nat.le_refl _) far.symm ?_ hn'
    · refine (hs.2 b (Nat.ne_of_lt (Heap.lt_size ho))).trans ?_
      exact (Heap.get?_update_ne _ _ _ _ hb).trans (Heap.get?_push_of_some _ ho)
    · exact (hs.2 x far).trans (Heap.get?_update_self _ e1 rfl)
end
/-- a name of the def, read -/
theorem nread {M : Model} {s : Shared} {A : Around} {E : Value → Shared → Prop} {name : Str} {scope : Scope} {L a : Addr} {cd : Value} {m : Str → Option Value} {x : Str} {pos : Pos} {v : Value} {Q : Value → Shared → Prop} (hn : s.heap.Ns L m) (hv : m x = some v) (h : Q v s)
    (hk : scope.kind = .function := by rfl) (hl : (envOfC name scope L a cd).kindOf x = some .local := by rfl) (hd : (x == ("__debug__" : Str)) = false := by decide) :
    wpAny M A (eval (.Name x pos) (envOfC name scope L a cd)) Q E s := by
  exact wpAny_Name (wpAny_loadName_local hk hl hn hv h) hd
section
variable {prog : Program} {w : World} {A : Around} {E : Value → Shared → Prop} {R : Result → Shared → Prop} {s : Shared} {K : Frag} {mg : Str → Option Value} {C fI : Addr}
/-- what __init__ leaves of a fresh exception at x -/
structure Inited (h h' : Heap) (x C dx t1 : Addr) (v : Value) : Prop where
  old : ∀ b o, b ≠ x → h.get? b = some o → h'.get? b = some o
  its : h'.get? x = some { cls := .ref C, dict := some dx, data := .fields #[.ref t1, .none, .none, .none, .bool false, .none] }
  far : h.objs.size ≤ dx
  two : dx ≠ x
  fld : h'.Ns1 dx (fun y => if y = "entry" then some v else none)
theorem one_init (T : OneTxt K mg C fI) {x t0 : Addr} {v : Value} (X : K.In s.heap) (hlim : s.heap.NoLimit) (hx : s.heap.get? x = some (excO C t0)) (hroom : A.depth < recursionLimit)
    (hq : ∀ h' tk dx, Inited s.heap h' x C dx t0 v → R (.ok (.ret .none)) { s with heap := h', toks := tk }) :
    codeAny (model prog w) A (.call (.ref fI) ⟨[.ref x, v], []⟩) R s := by
  obtain ⟨oc, od, doc, pm, an, cdv, ct, osl, p1, p2, q1, q2, q3, q4, mo, kw, ho, hcd⟩ := T.fun'
  refine Att.call_fn (binds := [("self", .ref x), ("entry", v)]) X hlim ho hcd hroom (BindsTo.of_eq (by first | rfl | with_unfolding_all rfl)) (by first | rfl | decide | with_unfolding_all rfl) (fun s1 IC => ?_) rfl rfl rfl
  obtain ⟨h1, tk1, rfl⟩ := IC.toInCall.same
  have keep : ∀ b o, s.heap.get? b = some o → h1.get? b = some o := IC.toInCall.keep
  have names := IC.toInCall.ns
  have hx1 := keep _ _ hx
  show wpAny _ _ (execs _ _) _ _ _
  refine wpAny_execs_cons (plainObj_wpAny_Assign_Attribute ?_)
  refine nread (v := v) names (by first | rfl | with_unfolding_all rfl | kernel_rfl) (nread (v := .ref x) names (by first | rfl | with_unfolding_all rfl | kernel_rfl) ?_)
  refine set_plain (X.keeps keep) (ox := excO C t0) (od := none) ⟨hx1, rfl, rfl, trivial⟩ T.sto ?_
  refine one_store T (X.keeps keep) hx1 (fun h3 tk3 dx k3 far ne hx3 hn3 => ?_)
  show wpAny _ _ (execs _ _) _ _ _
  have z : s.heap.objs.size < h1.objs.size := names.lt
  exact wpAny_execs_nil (hq h3 tk3 dx ⟨fun b o hb e => k3 b o hb (keep b o e), hx3, Nat.le_of_lt (Nat.lt_of_lt_of_le z far), ne, hn3⟩)
/-- one that was made -/
structure Made (h h' : Heap) (e C d : Addr) (v : Value) : Prop where
  old : ∀ b o, h.get? b = some o → h'.get? b = some o
  new : h.objs.size ≤ e
  its : ∃ oe vs, h'.get? e = some oe ∧ oe.cls = .ref C ∧ oe.dict = some d ∧ oe.data = .fields vs ∧ vs[1]? = some .none ∧ vs[2]? = some .none
  far : h.objs.size ≤ d
  two : d ≠ e
  fld : h'.Ns1 d (fun y => if y = "entry" then some v else none)
theorem one_made (T : OneTxt K mg C fI) {v : Value} (X : K.In s.heap) (hlim : s.heap.NoLimit) (hroom : A.depth + 1 < recursionLimit)
    (hq : ∀ h' tk e d, Made s.heap h' e C d v → R (.ok (.ret (.ref e))) { s with heap := h', toks := tk }) :
    codeAny (model prog w) A (.call (.ref C) ⟨[v], []⟩) R s := by
  obtain ⟨nm', N', qn, bs, bm, hdct, sn, sub, ab, col, dd, k0, k1, k2, k3, k5, hC, hT⟩ := excInit_of X T.ini
  obtain ⟨hp, g, dr, tk, os⟩ := s
  have keep : ∀ b o, hp.get? b = some o → ((hp.push (kdv_tup [v])).push (excO C hp.objs.size)).get? b = some o := fun b o e => by
    exact Heap.get?_push_of_some _ (Heap.get?_push_of_some _ e)
  have here : ((hp.push (kdv_tup [v])).push (excO C hp.objs.size)).get? (hp.objs.size + 1) = some (excO C hp.objs.size) := by heap_get
  have one : [v].length ≤ sizeLine := by
    show 1 ≤ sizeLine
    rw [sizeLine_eq]
    decide
  refine call_own F.excBase_Exception hT hC (looks_findIn X T.iCl) (fun self => bind_fn X self T.tyI) one ?_
  refine one_init (s := ⟨(hp.push (kdv_tup [v])).push (excO C hp.objs.size), g, dr, tk, os⟩) T (X.keeps keep) (hlim.keeps keep) here ?_ fun h' tk' dx Z => ?_
  · show A.depth + 1 < recursionLimit
    exact hroom
  · have z : hp.objs.size + 1 + 1 ≤ dx := by
      have q := Z.far
      first
        | exact q
        | (simpa only [Heap.size_push] using q)
    refine ⟨rfl, hq h' tk' (hp.objs.size + 1) dx ⟨fun b o e => Z.old b o (Nat.ne_of_lt (Nat.lt_succ_of_lt (Heap.lt_size e))) (keep b o e), Nat.le_succ _, ⟨_, _, Z.its, rfl, rfl, rfl, rfl, rfl⟩, ?_, Z.two, Z.fld⟩⟩
    show hp.objs.size ≤ dx
    omega
end
end YjX_BadEntry
end PySem
namespace Yj
open PySem PySem.Spec PyProof.Rows L2
theorem relO_BadEntry {v : V} {v' : Value} (r : RelV v v') (f : Str) : RelO (List.lookup f [(("entry" : Str), v)]) (if f = "entry" then some v' else none) := by
  by_cases hw : f = "entry"
  · subst hw
    have q : List.lookup ("entry" : Str) [(("entry" : Str), v)] = some v := by simp [List.lookup]
    rw [if_pos rfl, q]
    exact r
  · have qw : (f == ("entry" : Str)) = false := by simpa using hw
    have q2 : List.lookup f [(("entry" : Str), v)] = none := by simp [List.lookup, qw]
    rw [if_neg hw, q2]
    trivial
section
variable {X : Cx} {C fI : Addr}
/-- BadEntry(e), made where nothing is handled -/
def tMk_BadEntry (C : Addr) (ta : TA) : L2.St → Hp → XK → Prop := fun σ H Q => ta σ H fun vs H1 => ∃ v, vs = [v] ∧ ∀ d, H1 d = none → Q (.ref C) (some d) (upd H1 d (.xd [(("entry" : Str), v)]))
theorem pmk_BadEntry {a : Expr} {ta : TA} {p pos : Pos} {k : Nat} (T : PySem.YjX_BadEntry.OneTxt X.K X.mg C fI) (hr : Room k X.A) (ha : PA X [a] ta) (hg : Gl X "BadEntry" := by rfl) (hdb : (("BadEntry" : Str) == ("__debug__" : Str)) = false := by decide)
    (he : starEach (a :: []) X.env = (false, eval a X.env) :: starEach [] X.env := by rfl) (hpl : (backTo pos (starEach [] X.env)).any (·.1) = false := by rfl) :
    L2N.PMk X (.Call (.Name "BadEntry" p) [a] [] pos) (tMk_BadEntry C ta) := by
  intro pins s σ H Q I h
  refine wpAny_Call_Name_kw (ld_glob I hg T.cla ?_ hdb)
  refine PySem.W.callWith_K (h₀ := X.base) I.ok.mod.kin T.kep (thn (ha.run pos pins s σ H _ I h) fun us s1 hh => ?_) he hpl
  obtain ⟨vs, H1, I1, r1, v, ev, q1⟩ := hh
  subst ev
  obtain ⟨v', rfl, rv⟩ := vals1 r1
  refine ⟨I1.kIn, ?_⟩
  show wpAny _ _ (call (.ref C) [v']) _ _ _
  have lim := I1.nolimit
  obtain ⟨hp, g, dr, tk, os⟩ := s1
  refine wpAny_call (PySem.YjX_BadEntry.one_made T I1.kIn lim (by have := hr.dp; omega) fun h' tk' e d M => ?_)
  show L2N.MkP X pins σ Q (.ref e) ⟨h', g, dr, tk', os⟩
  obtain ⟨oe, fv, hoe, hc, hd, hdat, h1, h2⟩ := M.its
  obtain ⟨G', g1, g2⟩ := restrict h' fun b => decide (b ≠ e)
  have gk : ∀ b, b ≠ e → G'.get? b = h'.get? b := fun b hb => g1 b (decide_eq_true hb)
  have ge : G'.get? e = none := g2 e (by simp)
  have old : ∀ b o, hp.get? b = some o → G'.get? b = some o := fun b o q => by
    rw [gk b (Nat.ne_of_lt (Nat.lt_of_lt_of_le (Heap.lt_size q) M.new))]
    exact M.old b o q
  have ob : ObjOk X.prog X.w (upd H1 d (.xd [(("entry" : Str), v)])) G' d (.xd [(("entry" : Str), v)]) :=
    ⟨_, M.fld.at (fun o q => (gk d M.two).trans q), fun f => relO_BadEntry rv f⟩
  have J : Inv X pins σ (upd H1 d (.xd [(("entry" : Str), v)])) ⟨G', g, dr, tk', os⟩ := I1.laid (t' := tk') old M.far ob
  refine ⟨e, oe, fv, ⟨G', g, dr, tk', os⟩, _, .ref C, some d, rfl, J, fun b o q => ?_, ge, hoe, ⟨hc, hd, fun vs e' => ?_⟩, hdat, h1, ?_, rfl, I1.bare, raises_own T.exB T.tyC, q1 d (I1.hok.fresh M.far)⟩
  · have hb : b ≠ e := fun z => by
      have q' : G'.get? b = some o := q
      rw [z, ge] at q'
      cases q'
    exact (gk b hb).symm.trans q
  · rw [hdat] at e'
    cases e'
    exact h2
  · rw [upd_ne (Ne.symm M.two)]
    exact I1.hok.fresh M.new
/-- raise BadEntry(e) -/
def tRaise_BadEntry (C : Addr) (W : WX) (ta : TA) : TS := fun _ σ H => tMk_BadEntry C ta σ H fun cls d H' => W cls d σ H'
theorem ps_raise_BadEntry {a : Expr} {ta : TA} {W : WX} {p pos pos2 : Pos} {k : Nat} (hc : X.calm = true) (T : PySem.YjX_BadEntry.OneTxt X.K X.mg C fI) (hr : Room k X.A) (tk : L2N.Takes X W) (ha : PA X [a] ta) (hg : Gl X "BadEntry" := by rfl) (hdb : (("BadEntry" : Str) == ("__debug__" : Str)) = false := by decide)
    (he : starEach (a :: []) X.env = (false, eval a X.env) :: starEach [] X.env := by rfl) (hpl : (backTo pos (starEach [] X.env)).any (·.1) = false := by rfl) :
    PS X (.Raise (some (.Call (.Name "BadEntry" p) [a] [] pos)) none pos2) (tRaise_BadEntry C W ta) := by
  exact L2N.ps_raise hc tk (pmk_BadEntry T hr ha hg hdb he hpl)
/-- bad.entry, bad the exception that the suite holds -/
def tBy_BadEntry (C : Addr) (a : Addr) (cls : Value) (d : Option Addr) (te : TE) : TE := fun σ H Q => te σ H fun x H1 => x = .ref a ∧ cls = .ref C ∧ ∃ (dd : Addr) (v : V), d = some dd ∧ H1 dd = some (.xd [(("entry" : Str), v)]) ∧ Q v H1
theorem pe_by_BadEntry {a : Addr} {oe : Obj} {cls : Value} {d : Option Addr} {pn : List (Addr × Obj)} {e : Expr} {te : TE} {pos : Pos} (T : PySem.YjX_BadEntry.OneTxt X.K X.mg C fI) (hz : L2N.Zn cls d oe) (hf : ∃ vs, oe.data = .fields vs) (he : PE (X.suite a ((a, oe) :: pn)) e te)
    (hb : attributeBase e "entry" X.env (eval e X.env) = eval e X.env := by rfl) :
    PE (X.suite a ((a, oe) :: pn)) (.Attribute e "entry" pos) (tBy_BadEntry C a cls d te) := by
  refine ⟨fun pins s σ H Q I h => ?_⟩
  refine attr_of hb (thn (he.run pins s σ H _ I h) fun u s1 hh => ?_)
  obtain ⟨x, H1, I1, rx, rfl, rfl, dd, v, rfl, ea, q⟩ := hh
  obtain rfl : u = Value.ref a := rx
  obtain ⟨ha, _⟩ := I1.pin (a, oe) (List.mem_append_left _ List.mem_cons_self)
  obtain ⟨vs, hd⟩ := hf
  obtain ⟨mA, hns, hr⟩ := (show ObjOk X.prog X.w H1 s1.heap dd (.xd [(("entry" : Str), v)]) from I1.hok dd _ ea)
  obtain ⟨od, ho, hl⟩ := lookIn_ns hns
  have l : List.lookup ("entry" : Str) [(("entry" : Str), v)] = some v := by simp [List.lookup]
  obtain ⟨u, hu, ru⟩ := RelO.some_of (v := v) (o := mA "entry") (by rw [← l]; exact hr "entry")
  have J : PySem.W.InstAt s1.heap a oe C (some od) := ⟨ha, hz.1, by unfold PySem.W.notCls; rw [hd] <;> rfl, by rw [hz.2.1]; exact ho⟩
  refine HandSPX.exc_get I1.kIn J T.gat T.ggt T.exB (PySem.W.findObj_own T.hdC T.non rfl (by rw [hl, hu])) (handed_of ru) ?_
  exact ⟨v, H1, I1.tok _, ru, q⟩
end
end Yj
set_option Elab.async false
set_option linter.all false
set_option maxRecDepth 100000
namespace Yj
open PySem PySem.Spec PyProof.Rows L2
/-! ### the text -/
def topS (i : Nat) : Stmt := PySem.Challenge.pw_twicedated_k58_whole_letters.main.body.getD i (.Pass ⟨0, 0, 0, 0⟩)
abbrev s_is_integer : Stmt := topS 12
abbrev N_is_integer : List Str := ["thing"]
theorem sc_is_integer : FnScope N_is_integer ["thing"] (defScope s_is_integer) := ⟨rfl, rfl, rfl, by decide +kernel, rfl, by decide +kernel, by decide +kernel⟩
abbrev s_is_name : Stmt := topS 13
abbrev N_is_name : List Str := ["thing", "sign"]
theorem sc_is_name : FnScope N_is_name ["thing"] (defScope s_is_name) := ⟨rfl, rfl, rfl, by decide +kernel, rfl, by decide +kernel, by decide +kernel⟩
abbrev s_checked_relations : Stmt := topS 16
abbrev N_checked_relations : List Str := ["relations", "name", "many"]
theorem sc_checked_relations : FnScope N_checked_relations ["relations"] (defScope s_checked_relations) := ⟨rfl, rfl, rfl, by decide +kernel, rfl, by decide +kernel, by decide +kernel⟩
abbrev s_number_by : Stmt := topS 28
abbrev N_number_by : List Str := ["word", "sign"]
theorem sc_number_by : FnScope N_number_by ["word"] (defScope s_number_by) := ⟨rfl, rfl, rfl, by decide +kernel, rfl, by decide +kernel, by decide +kernel⟩
abbrev s_names_word : Stmt := topS 29
abbrev N_names_word : List Str := ["names"]
theorem sc_names_word : FnScope N_names_word ["names"] (defScope s_names_word) := ⟨rfl, rfl, rfl, by decide +kernel, rfl, by decide +kernel, by decide +kernel⟩
abbrev s_names_by : Stmt := topS 30
abbrev N_names_by : List Str := ["word", "names", "name"]
theorem sc_names_by : FnScope N_names_by ["word"] (defScope s_names_by) := ⟨rfl, rfl, rfl, by decide +kernel, rfl, by decide +kernel, by decide +kernel⟩
abbrev s_is_entry : Stmt := topS 37
abbrev N_is_entry : List Str := ["relations", "thing"]
theorem sc_is_entry : FnScope N_is_entry ["relations", "thing"] (defScope s_is_entry) := ⟨rfl, rfl, rfl, by decide +kernel, rfl, by decide +kernel, by decide +kernel⟩
abbrev s__are_letter_names : Stmt := topS 38
abbrev N__are_letter_names : List Str := ["thing", "name"]
theorem sc__are_letter_names : FnScope N__are_letter_names ["thing"] (defScope s__are_letter_names) := ⟨rfl, rfl, rfl, by decide +kernel, rfl, by decide +kernel, by decide +kernel⟩
abbrev s_entry_line : Stmt := topS 39
abbrev N_entry_line : List Str := ["number", "entry", "words"]
theorem sc_entry_line : FnScope N_entry_line ["number", "entry"] (defScope s_entry_line) := ⟨rfl, rfl, rfl, by decide +kernel, rfl, by decide +kernel, by decide +kernel⟩
abbrev s_entry_by : Stmt := topS 40
abbrev N_entry_by : List Str := ["relations", "number", "line", "words", "entry"]
theorem sc_entry_by : FnScope N_entry_by ["relations", "number", "line"] (defScope s_entry_by) := ⟨rfl, rfl, rfl, by decide +kernel, rfl, by decide +kernel, by decide +kernel⟩
abbrev s__entry_of : Stmt := topS 41
abbrev N__entry_of : List Str := ["words"]
theorem sc__entry_of : FnScope N__entry_of ["words"] (defScope s__entry_of) := ⟨rfl, rfl, rfl, by decide +kernel, rfl, by decide +kernel, by decide +kernel⟩
abbrev s__read : Stmt := topS 44
abbrev N__read : List Str := ["relations", "text", "entries", "number", "line", "entry"]
theorem sc__read : FnScope N__read ["relations", "text"] (defScope s__read) := ⟨rfl, rfl, rfl, by decide +kernel, rfl, by decide +kernel, by decide +kernel⟩
abbrev s__line : Stmt := topS 45
abbrev N__line : List Str := ["number", "entry"]
theorem sc__line : FnScope N__line ["number", "entry"] (defScope s__line) := ⟨rfl, rfl, rfl, by decide +kernel, rfl, by decide +kernel, by decide +kernel⟩
abbrev s_Post___init__ : Stmt := inClass (topS 18) 0
abbrev N_Post___init__ : List Str := ["self", "journal"]
theorem sc_Post___init__ : FnScope N_Post___init__ ["self", "journal"] (defScope s_Post___init__) := ⟨rfl, rfl, rfl, by decide +kernel, rfl, by decide +kernel, by decide +kernel⟩
abbrev s_Post_waiting : Stmt := inClass (topS 18) 1
abbrev N_Post_waiting : List Str := ["self", "found", "letters", "receiver", "number", "names"]
theorem sc_Post_waiting : FnScope N_Post_waiting ["self"] (defScope s_Post_waiting) := ⟨rfl, rfl, rfl, by decide +kernel, rfl, by decide +kernel, by decide +kernel⟩
abbrev s_Post_hear : Stmt := inClass (topS 18) 2
abbrev N_Post_hear : List Str := ["self", "receiver", "number", "many"]
theorem sc_Post_hear : FnScope N_Post_hear ["self", "receiver", "number"] (defScope s_Post_hear) := ⟨rfl, rfl, rfl, by decide +kernel, rfl, by decide +kernel, by decide +kernel⟩
abbrev s_Receiver___init__ : Stmt := inClass (topS 19) 0
abbrev N_Receiver___init__ : List Str := ["self"]
theorem sc_Receiver___init__ : FnScope N_Receiver___init__ ["self"] (defScope s_Receiver___init__) := ⟨rfl, rfl, rfl, by decide +kernel, rfl, by decide +kernel, by decide +kernel⟩
abbrev s_Receiver_get : Stmt := inClass (topS 19) 1
abbrev N_Receiver_get : List Str := ["self", "number", "names"]
theorem sc_Receiver_get : FnScope N_Receiver_get ["self", "number", "names"] (defScope s_Receiver_get) := ⟨rfl, rfl, rfl, by decide +kernel, rfl, by decide +kernel, by decide +kernel⟩
abbrev s_Journal___init__ : Stmt := inClass (topS 46) 0
abbrev N_Journal___init__ : List Str := ["self", "relations", "text", "number", "entry"]
theorem sc_Journal___init__ : FnScope N_Journal___init__ ["self", "relations", "text"] (defScope s_Journal___init__) := ⟨rfl, rfl, rfl, by decide +kernel, rfl, by decide +kernel, by decide +kernel⟩
abbrev s_Journal_write : Stmt := inClass (topS 46) 1
abbrev N_Journal_write : List Str := ["self", "entry"]
theorem sc_Journal_write : FnScope N_Journal_write ["self", "entry"] (defScope s_Journal_write) := ⟨rfl, rfl, rfl, by decide +kernel, rfl, by decide +kernel, by decide +kernel⟩
abbrev s_Journal_settle : Stmt := inClass (topS 46) 2
abbrev N_Journal_settle : List Str := ["self"]
theorem sc_Journal_settle : FnScope N_Journal_settle ["self"] (defScope s_Journal_settle) := ⟨rfl, rfl, rfl, by decide +kernel, rfl, by decide +kernel, by decide +kernel⟩
abbrev s_Journal_fallen : Stmt := inClass (topS 46) 3
abbrev N_Journal_fallen : List Str := ["self", "cut"]
theorem sc_Journal_fallen : FnScope N_Journal_fallen ["self", "cut"] (defScope s_Journal_fallen) := ⟨rfl, rfl, rfl, by decide +kernel, rfl, by decide +kernel, by decide +kernel⟩
abbrev s_Journal_letters : Stmt := inClass (topS 46) 5
abbrev N_Journal_letters : List Str := ["self", "found", "entry", "receiver"]
theorem sc_Journal_letters : FnScope N_Journal_letters ["self"] (defScope s_Journal_letters) := ⟨rfl, rfl, rfl, by decide +kernel, rfl, by decide +kernel, by decide +kernel⟩
abbrev s__law_number : Stmt := topS 48
abbrev N__law_number : List Str := ["script", "index", "cell", "blend"]
theorem sc__law_number : FnScope N__law_number ["script", "index"] (defScope s__law_number) := ⟨rfl, rfl, rfl, by decide +kernel, rfl, by decide +kernel, by decide +kernel⟩
abbrev s__law_take : Stmt := topS 49
abbrev N__law_take : List Str := ["draw", "many"]
theorem sc__law_take : FnScope N__law_take ["draw", "many"] (defScope s__law_take) := ⟨rfl, rfl, rfl, by decide +kernel, rfl, by decide +kernel, by decide +kernel⟩
abbrev s__law_pick : Stmt := topS 50
abbrev N__law_pick : List Str := ["draw", "items"]
theorem sc__law_pick : FnScope N__law_pick ["draw", "items"] (defScope s__law_pick) := ⟨rfl, rfl, rfl, by decide +kernel, rfl, by decide +kernel, by decide +kernel⟩
abbrev s__law_relations : Stmt := topS 51
abbrev N__law_relations : List Str := []
theorem sc__law_relations : FnScope N__law_relations [] (defScope s__law_relations) := ⟨rfl, rfl, rfl, by decide +kernel, rfl, by decide +kernel, by decide +kernel⟩
abbrev s__law_right : Stmt := topS 58
abbrev N__law_right : List Str := ["journal", "receivers", "due", "name"]
theorem sc__law_right : FnScope N__law_right ["journal", "receivers"] (defScope s__law_right) := ⟨rfl, rfl, rfl, by decide +kernel, rfl, by decide +kernel, by decide +kernel⟩
abbrev s_law : Stmt := topS 59
abbrev N_law : List Str := ["script", "draw", "relations", "journal", "post", "receivers", "under", "heard", "turn", "kind", "at", "receiver", "number", "letter", "due", "name", "letters", "bad"]
theorem sc_law : FnScope N_law ["script"] (defScope s_law) := ⟨rfl, rfl, rfl, by decide +kernel, rfl, by decide +kernel, by decide +kernel⟩
structure Txt (K : PySem.W.Frag) (mg : Str → Option Value) (ad : Nat → Addr) (fds : Nat → FuncData) (cs : Nat → Value) : Prop where
  g_is_integer : mg "is_integer" = some (.ref (ad 12))
  F_is_integer : Fun K "is_integer" "is_integer" s_is_integer (ad 12) (fds 12)
  g_is_name : mg "is_name" = some (.ref (ad 13))
  F_is_name : Fun K "is_name" "is_name" s_is_name (ad 13) (fds 13)
  g_checked_relations : mg "checked_relations" = some (.ref (ad 16))
  F_checked_relations : Fun K "checked_relations" "checked_relations" s_checked_relations (ad 16) (fds 16)
  g_number_by : mg "number_by" = some (.ref (ad 28))
  F_number_by : Fun K "number_by" "number_by" s_number_by (ad 28) (fds 28)
  g_names_word : mg "names_word" = some (.ref (ad 29))
  F_names_word : Fun K "names_word" "names_word" s_names_word (ad 29) (fds 29)
  g_names_by : mg "names_by" = some (.ref (ad 30))
  F_names_by : Fun K "names_by" "names_by" s_names_by (ad 30) (fds 30)
  g_is_entry : mg "is_entry" = some (.ref (ad 37))
  F_is_entry : Fun K "is_entry" "is_entry" s_is_entry (ad 37) (fds 37)
  g__are_letter_names : mg "_are_letter_names" = some (.ref (ad 38))
  F__are_letter_names : Fun K "_are_letter_names" "_are_letter_names" s__are_letter_names (ad 38) (fds 38)
  g_entry_line : mg "entry_line" = some (.ref (ad 39))
  F_entry_line : Fun K "entry_line" "entry_line" s_entry_line (ad 39) (fds 39)
  g_entry_by : mg "entry_by" = some (.ref (ad 40))
  F_entry_by : Fun K "entry_by" "entry_by" s_entry_by (ad 40) (fds 40)
  g__entry_of : mg "_entry_of" = some (.ref (ad 41))
  F__entry_of : Fun K "_entry_of" "_entry_of" s__entry_of (ad 41) (fds 41)
  g__read : mg "_read" = some (.ref (ad 44))
  F__read : Fun K "_read" "_read" s__read (ad 44) (fds 44)
  g__line : mg "_line" = some (.ref (ad 45))
  F__line : Fun K "_line" "_line" s__line (ad 45) (fds 45)
  F_Post___init__ : Fun K "__init__" "Post.__init__" s_Post___init__ (ad 19000) (fds 19000)
  F_Post_waiting : Fun K "waiting" "Post.waiting" s_Post_waiting (ad 19001) (fds 19001)
  F_Post_hear : Fun K "hear" "Post.hear" s_Post_hear (ad 19002) (fds 19002)
  F_Receiver___init__ : Fun K "__init__" "Receiver.__init__" s_Receiver___init__ (ad 20000) (fds 20000)
  F_Receiver_get : Fun K "get" "Receiver.get" s_Receiver_get (ad 20001) (fds 20001)
  F_Journal___init__ : Fun K "__init__" "Journal.__init__" s_Journal___init__ (ad 47000) (fds 47000)
  F_Journal_write : Fun K "write" "Journal.write" s_Journal_write (ad 47001) (fds 47001)
  F_Journal_settle : Fun K "settle" "Journal.settle" s_Journal_settle (ad 47002) (fds 47002)
  F_Journal_fallen : Fun K "fallen" "Journal.fallen" s_Journal_fallen (ad 47003) (fds 47003)
  F_Journal_letters : Fun K "letters" "Journal.letters" s_Journal_letters (ad 47005) (fds 47005)
  g__law_number : mg "_law_number" = some (.ref (ad 48))
  F__law_number : Fun K "_law_number" "_law_number" s__law_number (ad 48) (fds 48)
  g__law_take : mg "_law_take" = some (.ref (ad 49))
  F__law_take : Fun K "_law_take" "_law_take" s__law_take (ad 49) (fds 49)
  g__law_pick : mg "_law_pick" = some (.ref (ad 50))
  F__law_pick : Fun K "_law_pick" "_law_pick" s__law_pick (ad 50) (fds 50)
  g__law_relations : mg "_law_relations" = some (.ref (ad 51))
  F__law_relations : Fun K "_law_relations" "_law_relations" s__law_relations (ad 51) (fds 51)
  g__law_right : mg "_law_right" = some (.ref (ad 58))
  F__law_right : Fun K "_law_right" "_law_right" s__law_right (ad 58) (fds 58)
  g_law : mg "law" = some (.ref (ad 59))
  F_law : Fun K "law" "law" s_law (ad 59) (fds 59)
  g_Post : mg "Post" = some (.ref (ad 19999))
  cl_Post : Cls K (ad 19999)
  mk_Post : Mk K (ad 19999) (ad 19000)
  na_Post_journal : NoAttr K (ad 19999) "journal"
  na_Post_heard : NoAttr K (ad 19999) "heard"
  m_Post_waiting : Meth K (ad 19999) "waiting" (ad 19001)
  m_Post_hear : Meth K (ad 19999) "hear" (ad 19002)
  is_Post : YjD.IsCls K (ad 19999)
  g_Receiver : mg "Receiver" = some (.ref (ad 20999))
  cl_Receiver : Cls K (ad 20999)
  mk_Receiver : Mk K (ad 20999) (ad 20000)
  na_Receiver_taken : NoAttr K (ad 20999) "taken"
  na_Receiver_early : NoAttr K (ad 20999) "early"
  m_Receiver_get : Meth K (ad 20999) "get" (ad 20001)
  is_Receiver : YjD.IsCls K (ad 20999)
  g_Journal : mg "Journal" = some (.ref (ad 47999))
  cl_Journal : Cls K (ad 47999)
  mk_Journal : Mk K (ad 47999) (ad 47000)
  na_Journal_relations : NoAttr K (ad 47999) "relations"
  na_Journal_entries : NoAttr K (ad 47999) "entries"
  na_Journal_text : NoAttr K (ad 47999) "text"
  na_Journal_loose : NoAttr K (ad 47999) "loose"
  na_Journal_settled : NoAttr K (ad 47999) "settled"
  m_Journal_write : Meth K (ad 47999) "write" (ad 47001)
  m_Journal_settle : Meth K (ad 47999) "settle" (ad 47002)
  m_Journal_fallen : Meth K (ad 47999) "fallen" (ad 47003)
  m_Journal_letters : Meth K (ad 47999) "letters" (ad 47005)
  is_Journal : YjD.IsCls K (ad 47999)
  x_BadEntry : PySem.YjX_BadEntry.OneTxt K mg (ad 5999) (ad 5000)
  z_isinstance : mg "isinstance" = none
  z_len : mg "len" = none
  z_all : mg "all" = none
  z_any : mg "any" = none
  z_sum : mg "sum" = none
  z_sorted : mg "sorted" = none
  z_max : mg "max" = none
  z_min : mg "min" = none
  z_tuple : mg "tuple" = none
  z_list : mg "list" = none
  z_int : mg "int" = none
  z_bool : mg "bool" = none
  z_str : mg "str" = none
  z_enumerate : mg "enumerate" = none
  z_range : mg "range" = none
  z_zip : mg "zip" = none
  z_abs : mg "abs" = none
  c_LETTERS : mg "LETTERS" = some (cs 7)
  r_LETTERS : RelV (.str "abcdefghijklmnopqrstuvwxyz") (cs 7)
  c_FIGURES : mg "FIGURES" = some (cs 8)
  r_FIGURES : RelV (.str "0123456789") (cs 8)
  c_LONGEST_NAME : mg "LONGEST_NAME" = some (cs 9)
  r_LONGEST_NAME : RelV (.int 8) (cs 9)
  c_MOST_NAMES : mg "MOST_NAMES" = some (cs 11)
  r_MOST_NAMES : RelV (.int 4) (cs 11)
  c_MOST_FIGURES : mg "MOST_FIGURES" = some (cs 27)
  r_MOST_FIGURES : RelV (.int 6) (cs 27)
  c_CHANGE : mg "CHANGE" = some (cs 34)
  r_CHANGE : RelV (.str "change") (cs 34)
  c_LETTER : mg "LETTER" = some (cs 35)
  r_LETTER : RelV (.str "letter") (cs 35)
  c_MOST_IN_LETTER : mg "MOST_IN_LETTER" = some (cs 36)
  r_MOST_IN_LETTER : RelV (.int 6) (cs 36)
  c_END_OF_LINE : mg "END_OF_LINE" = some (cs 42)
  r_END_OF_LINE : RelV (.str "\n") (cs 42)
section
variable {P : Program} {w : World} {K : PySem.W.Frag} {mg : Str → Option Value} {base : Heap} {ad : Nat → Addr} {fds : Nat → FuncData} {cs : Nat → Value}
theorem bi_is_integer (T : Txt K mg ad fds cs) : Binds K (fds 12) ["thing"] [] := T.F_is_integer.binds (ps := ["thing"]) fun _ _ _ _ _ _ us hl => match us, hl with | [_], _ => rfl
theorem bi_is_name (T : Txt K mg ad fds cs) : Binds K (fds 13) ["thing"] [] := T.F_is_name.binds (ps := ["thing"]) fun _ _ _ _ _ _ us hl => match us, hl with | [_], _ => rfl
theorem bi_checked_relations (T : Txt K mg ad fds cs) : Binds K (fds 16) ["relations"] [] := T.F_checked_relations.binds (ps := ["relations"]) fun _ _ _ _ _ _ us hl => match us, hl with | [_], _ => rfl
theorem bi_number_by (T : Txt K mg ad fds cs) : Binds K (fds 28) ["word"] [] := T.F_number_by.binds (ps := ["word"]) fun _ _ _ _ _ _ us hl => match us, hl with | [_], _ => rfl
theorem bi_names_word (T : Txt K mg ad fds cs) : Binds K (fds 29) ["names"] [] := T.F_names_word.binds (ps := ["names"]) fun _ _ _ _ _ _ us hl => match us, hl with | [_], _ => rfl
theorem bi_names_by (T : Txt K mg ad fds cs) : Binds K (fds 30) ["word"] [] := T.F_names_by.binds (ps := ["word"]) fun _ _ _ _ _ _ us hl => match us, hl with | [_], _ => rfl
theorem bi_is_entry (T : Txt K mg ad fds cs) : Binds K (fds 37) ["relations", "thing"] [] := T.F_is_entry.binds (ps := ["relations", "thing"]) fun _ _ _ _ _ _ us hl => match us, hl with | [_, _], _ => rfl
theorem bi__are_letter_names (T : Txt K mg ad fds cs) : Binds K (fds 38) ["thing"] [] := T.F__are_letter_names.binds (ps := ["thing"]) fun _ _ _ _ _ _ us hl => match us, hl with | [_], _ => rfl
theorem bi_entry_line (T : Txt K mg ad fds cs) : Binds K (fds 39) ["number", "entry"] [] := T.F_entry_line.binds (ps := ["number", "entry"]) fun _ _ _ _ _ _ us hl => match us, hl with | [_, _], _ => rfl
theorem bi_entry_by (T : Txt K mg ad fds cs) : Binds K (fds 40) ["relations", "number", "line"] [] := T.F_entry_by.binds (ps := ["relations", "number", "line"]) fun _ _ _ _ _ _ us hl => match us, hl with | [_, _, _], _ => rfl
theorem bi__entry_of (T : Txt K mg ad fds cs) : Binds K (fds 41) ["words"] [] := T.F__entry_of.binds (ps := ["words"]) fun _ _ _ _ _ _ us hl => match us, hl with | [_], _ => rfl
theorem bi__read (T : Txt K mg ad fds cs) : Binds K (fds 44) ["relations", "text"] [] := T.F__read.binds (ps := ["relations", "text"]) fun _ _ _ _ _ _ us hl => match us, hl with | [_, _], _ => rfl
theorem bi__line (T : Txt K mg ad fds cs) : Binds K (fds 45) ["number", "entry"] [] := T.F__line.binds (ps := ["number", "entry"]) fun _ _ _ _ _ _ us hl => match us, hl with | [_, _], _ => rfl
theorem bi_Post___init__ (T : Txt K mg ad fds cs) : Binds K (fds 19000) ["self", "journal"] [] := T.F_Post___init__.binds (ps := ["self", "journal"]) fun _ _ _ _ _ _ us hl => match us, hl with | [_, _], _ => rfl
theorem bi_Post_waiting (T : Txt K mg ad fds cs) : Binds K (fds 19001) ["self"] [] := T.F_Post_waiting.binds (ps := ["self"]) fun _ _ _ _ _ _ us hl => match us, hl with | [_], _ => rfl
theorem bi_Post_hear (T : Txt K mg ad fds cs) : Binds K (fds 19002) ["self", "receiver", "number"] [] := T.F_Post_hear.binds (ps := ["self", "receiver", "number"]) fun _ _ _ _ _ _ us hl => match us, hl with | [_, _, _], _ => rfl
theorem bi_Receiver___init__ (T : Txt K mg ad fds cs) : Binds K (fds 20000) ["self"] [] := T.F_Receiver___init__.binds (ps := ["self"]) fun _ _ _ _ _ _ us hl => match us, hl with | [_], _ => rfl
theorem bi_Receiver_get (T : Txt K mg ad fds cs) : Binds K (fds 20001) ["self", "number", "names"] [] := T.F_Receiver_get.binds (ps := ["self", "number", "names"]) fun _ _ _ _ _ _ us hl => match us, hl with | [_, _, _], _ => rfl
theorem bi_Journal___init__ (T : Txt K mg ad fds cs) : Binds K (fds 47000) ["self", "relations", "text"] [] := T.F_Journal___init__.binds (ps := ["self", "relations", "text"]) fun _ _ _ _ _ _ us hl => match us, hl with | [_, _, _], _ => rfl
theorem bi_Journal_write (T : Txt K mg ad fds cs) : Binds K (fds 47001) ["self", "entry"] [] := T.F_Journal_write.binds (ps := ["self", "entry"]) fun _ _ _ _ _ _ us hl => match us, hl with | [_, _], _ => rfl
theorem bi_Journal_settle (T : Txt K mg ad fds cs) : Binds K (fds 47002) ["self"] [] := T.F_Journal_settle.binds (ps := ["self"]) fun _ _ _ _ _ _ us hl => match us, hl with | [_], _ => rfl
theorem bi_Journal_fallen (T : Txt K mg ad fds cs) : Binds K (fds 47003) ["self", "cut"] [] := T.F_Journal_fallen.binds (ps := ["self", "cut"]) fun _ _ _ _ _ _ us hl => match us, hl with | [_, _], _ => rfl
theorem bi_Journal_letters (T : Txt K mg ad fds cs) : Binds K (fds 47005) ["self"] [] := T.F_Journal_letters.binds (ps := ["self"]) fun _ _ _ _ _ _ us hl => match us, hl with | [_], _ => rfl
theorem bi__law_number (T : Txt K mg ad fds cs) : Binds K (fds 48) ["script", "index"] [] := T.F__law_number.binds (ps := ["script", "index"]) fun _ _ _ _ _ _ us hl => match us, hl with | [_, _], _ => rfl
theorem bi__law_take (T : Txt K mg ad fds cs) : Binds K (fds 49) ["draw", "many"] [] := T.F__law_take.binds (ps := ["draw", "many"]) fun _ _ _ _ _ _ us hl => match us, hl with | [_, _], _ => rfl
theorem bi__law_pick (T : Txt K mg ad fds cs) : Binds K (fds 50) ["draw", "items"] [] := T.F__law_pick.binds (ps := ["draw", "items"]) fun _ _ _ _ _ _ us hl => match us, hl with | [_, _], _ => rfl
theorem bi__law_relations (T : Txt K mg ad fds cs) : Binds K (fds 51) [] [] := T.F__law_relations.binds (ps := []) fun _ _ _ _ _ _ us hl => match us, hl with | [], _ => rfl
theorem bi__law_right (T : Txt K mg ad fds cs) : Binds K (fds 58) ["journal", "receivers"] [] := T.F__law_right.binds (ps := ["journal", "receivers"]) fun _ _ _ _ _ _ us hl => match us, hl with | [_, _], _ => rfl
theorem bi_law (T : Txt K mg ad fds cs) : Binds K (fds 59) ["script"] [] := T.F_law.binds (ps := ["script"]) fun _ _ _ _ _ _ us hl => match us, hl with | [_], _ => rfl
theorem passN {X : Cx} : Passes (L2N.CX X.prog X.w) X E0 := fun _ _ _ _ _ _ _ h => by
  obtain ⟨_, _, _, _, _, _, _, _, _, _, _, _, z⟩ := h
  exact z.elim
end
end Yj
set_option Elab.async false
set_option linter.all false
set_option maxRecDepth 100000
set_option maxHeartbeats 4000000
set_option pp.maxSteps 1500
namespace Yj
open PySem PySem.Spec PyProof.Rows L2 RZ
/-! ### things -/
/-- a thing of anybody's, as it stands in the heap -/
inductive Pl (H : Hp) : V → Prop
  | non : Pl H .non
  | bl (b : Bool) : Pl H (.bl b)
  | int (i : Int) : Pl H (.int i)
  | str (x : Str) : Pl H (.str x)
  | lst {a : Addr} {xs : List V} (h : H a = some (.lst xs)) : Pl H (.ref a)
  | tup {a : Addr} {xs : List V} (h : H a = some (.tup xs)) : Pl H (.ref a)
def isI : V → Bool
  | .int _ => true
  | _ => false
end Yj
set_option Elab.async false
set_option linter.all false
set_option maxRecDepth 100000
set_option maxHeartbeats 4000000
set_option pp.maxSteps 1500
namespace Yj
open PySem PySem.Spec PyProof.Rows L2 RZ
section
variable {P : Program} {w : World} {K : PySem.W.Frag} {mg : Str → Option Value} {base : Heap} {ad : Nat → Addr} {fds : Nat → FuncData} {cs : Nat → Value}
def spInteger : Sp := fun vs H Q _ => ∃ x, vs = [x] ∧ Pl H x ∧ Q (.bl (isI x)) H
theorem ok_is_integer (T : Txt K mg ad fds cs) : FnOk P w K mg base CX0 1 (ad 12) (fds 12) ["thing"] spInteger := by
  refine T.F_is_integer.ok sc_is_integer (fun vs H Q E h => ?_) (fun cdv A outer s H vs Q E hr h => ?_)
  · obtain ⟨x, rfl, _⟩ := h
    rfl
  · obtain ⟨x, rfl, hx, q⟩ := h
    refine ⟨_, (pss_one (ps_ret (pe_and (pe_callB call_isi (by rfl) T.z_isinstance (by decide +kernel) (pa_cons (pv 0) (pa_cons (pe_bltn (v := .ty "int") (u := .type "int") (by rfl) T.z_int (by decide +kernel) rfl) pa_nil))) (pe_one (pe_not (pe_callB call_isi (by rfl) T.z_isinstance (by decide +kernel) (pa_cons (pv 0) (pa_cons (pe_bltn (v := .ty "bool") (u := .type "bool") (by rfl) T.z_bool (by decide +kernel) rfl) pa_nil)))))))), ?_⟩
    cases hx with
    | non => exact ⟨_, rfl, _, _, _, _, false, rfl, ClsV.ty _, TyX.base .non, kit_ty (by decide +kernel), _, rfl, iteF q⟩
    | bl b => exact ⟨_, rfl, _, _, _, _, true, rfl, ClsV.ty _, TyX.base (.bl b), kit_ty (by decide +kernel), _, rfl, iteT ⟨_, rfl, _, _, _, _, true, rfl, ClsV.ty _, TyX.base (.bl b), kit_ty (by decide +kernel), _, rfl, q⟩⟩
    | int i => exact ⟨_, rfl, _, _, _, _, true, rfl, ClsV.ty _, TyX.base (.int i), kit_ty (by decide +kernel), _, rfl, iteT ⟨_, rfl, _, _, _, _, false, rfl, ClsV.ty _, TyX.base (.int i), kit_ty (by decide +kernel), _, rfl, q⟩⟩
    | str x => exact ⟨_, rfl, _, _, _, _, false, rfl, ClsV.ty _, TyX.base (.str x), kit_ty (by decide +kernel), _, rfl, iteF q⟩
    | lst h => exact ⟨_, rfl, _, _, _, _, false, rfl, ClsV.ty _, TyX.base (.lst h), kit_ty (by decide +kernel), _, rfl, iteF q⟩
    | tup h => exact ⟨_, rfl, _, _, _, _, false, rfl, ClsV.ty _, TyX.base (.tup h), kit_ty (by decide +kernel), _, rfl, iteF q⟩
end
end Yj
set_option Elab.async false
set_option linter.all false
set_option maxRecDepth 100000
set_option maxHeartbeats 4000000
set_option pp.maxSteps 1500
namespace Yj
open PySem PySem.Spec PyProof.Rows L2 RZ
/-! ### rows of spans: the mathematics -/
abbrev Sps := List (Int × Int)
/-- a day is in one of the spans -/
def Mem : Sps → Int → Prop
  | [], _ => False
  | p :: x, d => (p.1 ≤ d ∧ d ≤ p.2) ∨ Mem x d
instance memDec : (l : Sps) → (d : Int) → Decidable (Mem l d)
  | [], _ => .isFalse id
  | p :: x, d => @instDecidableOr _ _ _ (memDec x d)
/-- the one form: from lo on, ascending, a day between each two -/
def Nf : Int → Sps → Prop
  | _, [] => True
  | lo, p :: x => lo ≤ p.1 ∧ p.1 ≤ p.2 ∧ Nf (p.2 + 2) x
/-- all spans are such -/
def Val : Sps → Prop
  | [] => True
  | p :: x => (0 ≤ p.1 ∧ p.1 ≤ p.2 ∧ p.2 ≤ 999999) ∧ Val x
theorem Nf.mono : ∀ {l : Sps} {lo lo' : Int}, Nf lo l → lo' ≤ lo → Nf lo' l
  | [], _, _, _, _ => True.intro
  | p :: x, _, _, h, e => ⟨Int.le_trans e h.1, h.2.1, h.2.2⟩
theorem Nf.low : ∀ {l : Sps} {lo d : Int}, Nf lo l → Mem l d → lo ≤ d
  | [], _, _, _, h => h.elim
  | p :: x, lo, d, ⟨h1, h2, h3⟩, h => by
    rcases h with h | h
    · omega
    · have := h3.low h
      omega
theorem Nf.val : ∀ {l : Sps} {lo : Int}, Nf lo l → ∀ p ∈ l, p.1 ≤ p.2
  | [], _, _, p, h => by cases h
  | q :: x, lo, ⟨h1, h2, h3⟩, p, h => by
    rcases List.mem_cons.mp h with e | h
    · rw [e]
      exact h2
    · exact h3.val p h
theorem Nf.uniq : ∀ {l m : Sps} {lo lo' : Int}, Nf lo l → Nf lo' m → (∀ d, Mem l d ↔ Mem m d) → l = m
  | [], [], _, _, _, _, _ => rfl
  | [], q :: y, _, _, _, hm, h => ((h q.1).mpr (.inl ⟨Int.le_refl _, hm.2.1⟩)).elim
  | p :: x, [], _, _, hl, _, h => ((h p.1).mp (.inl ⟨Int.le_refl _, hl.2.1⟩)).elim
  | (a, b) :: x, (c, d) :: y, _, _, ⟨l1, l2, l3⟩, ⟨m1, m2, m3⟩, h => by
    dsimp only at l1 l2 l3 m1 m2 m3
    have lx : ∀ e, Mem x e → b + 2 ≤ e := fun e z => l3.low z
    have ly : ∀ e, Mem y e → d + 2 ≤ e := fun e z => m3.low z
    have hh : ∀ e, ((a ≤ e ∧ e ≤ b) ∨ Mem x e) ↔ ((c ≤ e ∧ e ≤ d) ∨ Mem y e) := h
    have hac : a = c := by
      have h1 := (hh a).mp (.inl ⟨Int.le_refl _, l2⟩)
      have h2 := (hh c).mpr (.inl ⟨Int.le_refl _, m2⟩)
      rcases h1 with h1 | h1
      · rcases h2 with h2 | h2
        · omega
        · have := lx _ h2
          omega
      · have := ly _ h1
        rcases h2 with h2 | h2
        · omega
        · have := lx _ h2
          omega
    subst hac
    have hbd : b = d := by
      rcases Int.lt_trichotomy b d with z | z | z
      · have h1 := (hh (b + 1)).mpr (.inl ⟨by omega, by omega⟩)
        rcases h1 with h1 | h1
        · omega
        · have := lx _ h1
          omega
      · exact z
      · have h1 := (hh (d + 1)).mp (.inl ⟨by omega, by omega⟩)
        rcases h1 with h1 | h1
        · omega
        · have := ly _ h1
          omega
    subst hbd
    have : x = y := Nf.uniq l3 m3 fun e => by
      constructor
      · intro z
        have g := lx _ z
        rcases (hh e).mp (.inr z) with q | q
        · omega
        · exact q
      · intro z
        have g := ly _ z
        rcases (hh e).mpr (.inr z) with q | q
        · omega
        · exact q
    rw [this]
theorem Val.mem : ∀ {l : Sps} {d : Int}, Val l → Mem l d → 0 ≤ d ∧ d ≤ 999999
  | [], _, _, h => h.elim
  | p :: x, d, ⟨v, vx⟩, h => by
    rcases h with h | h
    · omega
    · exact vx.mem h
theorem Val.all : ∀ {l : Sps}, Val l → ∀ p ∈ l, 0 ≤ p.1 ∧ p.1 ≤ p.2 ∧ p.2 ≤ 999999
  | [], _, _, h => by cases h
  | q :: x, ⟨v, vx⟩, p, h => by
    rcases List.mem_cons.mp h with e | h
    · rw [e]
      exact v
    · exact vx.all p h
theorem val_of : ∀ {l : Sps}, (∀ p ∈ l, 0 ≤ p.1 ∧ p.1 ≤ p.2 ∧ p.2 ≤ 999999) → Val l
  | [], _ => True.intro
  | q :: x, h => ⟨h q (List.mem_cons_self ..), val_of fun p z => h p (List.mem_cons_of_mem _ z)⟩
theorem mem_iff : ∀ {l : Sps} {d : Int}, Mem l d ↔ ∃ p ∈ l, p.1 ≤ d ∧ d ≤ p.2
  | [], d => ⟨fun h => h.elim, fun ⟨_, h, _⟩ => by cases h⟩
  | q :: x, d => by
    constructor
    · intro h
      rcases h with h | h
      · exact ⟨q, List.mem_cons_self .., h⟩
      · obtain ⟨p, hp, h⟩ := mem_iff.mp h
        exact ⟨p, List.mem_cons_of_mem _ hp, h⟩
    · rintro ⟨p, hp, h⟩
      rcases List.mem_cons.mp hp with e | hp
      · rw [e] at h
        exact .inl h
      · exact .inr (mem_iff.mpr ⟨p, hp, h⟩)
theorem mem_append {l m : Sps} {d : Int} : Mem (l ++ m) d ↔ Mem l d ∨ Mem m d := by
  rw [mem_iff, mem_iff, mem_iff]
  constructor
  · rintro ⟨p, hp, h⟩
    rcases List.mem_append.mp hp with z | z
    · exact .inl ⟨p, z, h⟩
    · exact .inr ⟨p, z, h⟩
  · rintro (⟨p, hp, h⟩ | ⟨p, hp, h⟩)
    · exact ⟨p, List.mem_append_left _ hp, h⟩
    · exact ⟨p, List.mem_append_right _ hp, h⟩
/-- a row: in its one form, of days -/
def Row (l : Sps) : Prop := Nf 0 l ∧ Val l
theorem Row.uniq {l m : Sps} (a : Row l) (b : Row m) (h : ∀ d, 0 ≤ d → d ≤ 999999 → (Mem l d ↔ Mem m d)) : l = m := a.1.uniq b.1 fun d => by
  constructor
  · intro z
    obtain ⟨h1, h2⟩ := a.2.mem z
    exact (h d h1 h2).mp z
  · intro z
    obtain ⟨h1, h2⟩ := b.2.mem z
    exact (h d h1 h2).mpr z
/-! melting -/
def meltM : Int × Int → Sps → Sps
  | c, [] => [c]
  | c, p :: x => if p.1 ≤ c.2 + 1 then meltM (c.1, if p.2 > c.2 then p.2 else c.2) x else c :: meltM p x
def melt : Sps → Sps
  | [] => []
  | p :: x => meltM p x
/-- ascending by their first days, each above -/
def Asc : Int → Sps → Prop
  | _, [] => True
  | lo, p :: x => lo ≤ p.1 ∧ p.1 ≤ p.2 ∧ Asc p.1 x
theorem Asc.mono : ∀ {l : Sps} {lo lo' : Int}, Asc lo l → lo' ≤ lo → Asc lo' l
  | [], _, _, _, _ => True.intro
  | p :: x, _, _, h, e => ⟨Int.le_trans e h.1, h.2.1, h.2.2⟩
theorem meltM_nf : ∀ {x : Sps} {c : Int × Int} {lo : Int}, lo ≤ c.1 → c.1 ≤ c.2 → Asc c.1 x → Nf lo (meltM c x)
  | [], c, lo, h1, h2, _ => ⟨h1, h2, True.intro⟩
  | p :: x, c, lo, h1, h2, ⟨a1, a2, a3⟩ => by
    unfold meltM
    split
    · refine meltM_nf h1 ?_ (a3.mono a1)
      dsimp only
      split <;> omega
    · refine ⟨h1, h2, meltM_nf ?_ a2 a3⟩
      omega
theorem meltM_mem : ∀ {x : Sps} {c : Int × Int} {d : Int}, c.1 ≤ c.2 → Asc c.1 x → (Mem (meltM c x) d ↔ (c.1 ≤ d ∧ d ≤ c.2) ∨ Mem x d)
  | [], c, d, _, _ => Iff.rfl
  | p :: x, c, d, h2, ⟨a1, a2, a3⟩ => by
    unfold meltM
    split
    · rename_i h
      have hc : c.1 ≤ (if p.2 > c.2 then p.2 else c.2) := by split <;> omega
      have e := meltM_mem (x := x) (c := (c.1, if p.2 > c.2 then p.2 else c.2)) (d := d) hc (a3.mono a1)
      rw [e]
      show _ ↔ (c.1 ≤ d ∧ d ≤ c.2) ∨ ((p.1 ≤ d ∧ d ≤ p.2) ∨ Mem x d)
      by_cases m : Mem x d
      · simp only [m, or_true]
      · simp only [m, or_false]
        split <;> omega
    · show (c.1 ≤ d ∧ d ≤ c.2) ∨ Mem (meltM p x) d ↔ (c.1 ≤ d ∧ d ≤ c.2) ∨ ((p.1 ≤ d ∧ d ≤ p.2) ∨ Mem x d)
      rw [meltM_mem a2 a3]
theorem meltM_val : ∀ {x : Sps} {c : Int × Int}, (0 ≤ c.1 ∧ c.1 ≤ c.2 ∧ c.2 ≤ 999999) → Val x → Val (meltM c x)
  | [], c, h, _ => ⟨h, True.intro⟩
  | p :: x, c, h, ⟨v, vx⟩ => by
    unfold meltM
    split
    · refine meltM_val ?_ vx
      dsimp only
      split <;> omega
    · exact ⟨h, meltM_val v vx⟩
theorem meltM_len : ∀ {x : Sps} {c : Int × Int}, (meltM c x).length ≤ x.length + 1
  | [], c => Nat.le_refl _
  | p :: x, c => by
    unfold meltM
    split
    · exact Nat.le_trans meltM_len (Nat.le_succ _)
    · exact Nat.succ_le_succ meltM_len
theorem melt_row : ∀ {l : Sps}, Asc 0 l → Val l → Row (melt l) ∧ (∀ d, Mem (melt l) d ↔ Mem l d) ∧ (melt l).length ≤ l.length
  | [], _, _ => ⟨⟨True.intro, True.intro⟩, fun _ => Iff.rfl, Nat.le_refl _⟩
  | p :: x, ⟨a1, a2, a3⟩, ⟨v, vx⟩ => ⟨⟨meltM_nf a1 a2 a3, meltM_val v vx⟩, fun d => meltM_mem a2 a3, meltM_len⟩
/-! meeting -/
def meetM : Sps → Sps → Sps
  | [], _ => []
  | _ :: _, [] => []
  | a :: x, b :: y =>
    let f := if b.1 > a.1 then b.1 else a.1
    let g := if b.2 < a.2 then b.2 else a.2
    let r := if a.2 < b.2 then meetM x (b :: y) else meetM (a :: x) y
    if f ≤ g then (f, g) :: r else r
termination_by l m => l.length + m.length
theorem meetM_nil (m : Sps) : meetM [] m = [] := by unfold meetM; rfl
theorem meetM_nil2 (l : Sps) : meetM l [] = [] := by cases l <;> (unfold meetM; rfl)
theorem meetM_cons (a b : Int × Int) (x y : Sps) : meetM (a :: x) (b :: y) =
    if (if b.1 > a.1 then b.1 else a.1) ≤ (if b.2 < a.2 then b.2 else a.2) then ((if b.1 > a.1 then b.1 else a.1), (if b.2 < a.2 then b.2 else a.2)) :: (if a.2 < b.2 then meetM x (b :: y) else meetM (a :: x) y)
    else (if a.2 < b.2 then meetM x (b :: y) else meetM (a :: x) y) := by
  rw [meetM]
theorem meetM_nf : ∀ (n : Nat) {l m : Sps} {lo lo' : Int}, l.length + m.length ≤ n → Nf lo l → Nf lo' m → Nf lo (meetM l m) ∧ Nf lo' (meetM l m) ∧ (∀ d, Mem (meetM l m) d ↔ Mem l d ∧ Mem m d) ∧ (meetM l m).length ≤ l.length + m.length
  | _, [], m, _, _, _, _, _ => by
    rw [meetM_nil]
    exact ⟨True.intro, True.intro, fun d => ⟨fun h => h.elim, fun h => h.1.elim⟩, Nat.zero_le _⟩
  | _, _ :: _, [], _, _, _, _, _ => by
    rw [meetM_nil2]
    exact ⟨True.intro, True.intro, fun d => ⟨fun h => h.elim, fun h => h.2.elim⟩, Nat.zero_le _⟩
  | 0, _ :: _, _ :: _, _, _, hn, _, _ => by simp at hn
  | n + 1, (a, a') :: x, (b, b') :: y, lo, lo', hn, ⟨l1, l2, l3⟩, ⟨m1, m2, m3⟩ => by
    rw [meetM_cons]
    simp only [List.length_cons] at hn
    dsimp only at l1 l2 l3 m1 m2 m3 ⊢
    have lx : ∀ e, Mem x e → a' + 2 ≤ e := fun e z => l3.low z
    have ly : ∀ e, Mem y e → b' + 2 ≤ e := fun e z => m3.low z
    by_cases c : a' < b'
    · rw [if_pos c]
      obtain ⟨r1, r2, r3, r4⟩ := meetM_nf n (l := x) (m := (b, b') :: y) (by simp only [List.length_cons]; omega) l3 ⟨m1, m2, m3⟩
      have key : ∀ d, ((a ≤ d ∧ d ≤ a') ∨ Mem x d) ∧ ((b ≤ d ∧ d ≤ b') ∨ Mem y d) ↔ ((if b > a then b else a) ≤ d ∧ d ≤ (if b' < a' then b' else a')) ∨ (Mem x d ∧ ((b ≤ d ∧ d ≤ b') ∨ Mem y d)) := by
        intro d
        have q1 := lx d
        have q2 := ly d
        by_cases mx : Mem x d
        · simp only [mx, or_true, true_and]
          have := q1 mx
          split <;> split <;> by_cases my : Mem y d <;> simp only [my, or_true, or_false, or_iff_right_iff_imp] <;> omega
        · by_cases my : Mem y d
          · simp only [mx, my, or_true, or_false, and_true, false_and]
            have := q2 my
            split <;> split <;> omega
          · simp only [mx, my, or_false, false_and]
            split <;> split <;> omega
      by_cases f : (if b > a then b else a) ≤ (if b' < a' then b' else a')
      · rw [if_pos f]
        have e : (if b' < a' then b' else a') = a' := by rw [if_neg (by omega)]
        refine ⟨⟨?_, f, ?_⟩, ⟨?_, f, ?_⟩, fun d => ?_, ?_⟩
        · dsimp only
          split <;> omega
        · dsimp only
          rw [e]
          exact r1
        · dsimp only
          split <;> omega
        · dsimp only
          rw [e]
          exact r1
        · exact Iff.trans (or_congr Iff.rfl (r3 d)) (key d).symm
        · simp only [List.length_cons] at r4 ⊢
          omega
      · rw [if_neg f]
        refine ⟨r1.mono (by omega), r2, fun d => ?_, ?_⟩
        · rw [r3 d]
          refine Iff.trans ?_ (key d).symm
          show Mem x d ∧ ((b ≤ d ∧ d ≤ b') ∨ Mem y d) ↔ _
          constructor
          · exact .inr
          · rintro (z | z)
            · omega
            · exact z
        · simp only [List.length_cons] at r4 ⊢
          omega
    · rw [if_neg c]
      obtain ⟨r1, r2, r3, r4⟩ := meetM_nf n (l := (a, a') :: x) (m := y) (by simp only [List.length_cons]; omega) ⟨l1, l2, l3⟩ m3
      have key : ∀ d, ((a ≤ d ∧ d ≤ a') ∨ Mem x d) ∧ ((b ≤ d ∧ d ≤ b') ∨ Mem y d) ↔ ((if b > a then b else a) ≤ d ∧ d ≤ (if b' < a' then b' else a')) ∨ (((a ≤ d ∧ d ≤ a') ∨ Mem x d) ∧ Mem y d) := by
        intro d
        have q1 := lx d
        have q2 := ly d
        by_cases my : Mem y d
        · simp only [my, or_true, and_true]
          have := q2 my
          split <;> split <;> by_cases mx : Mem x d <;> simp only [mx, or_true, or_false, or_iff_right_iff_imp] <;> omega
        · by_cases mx : Mem x d
          · simp only [mx, my, or_true, or_false, true_and, and_false]
            have := q1 mx
            split <;> split <;> omega
          · simp only [mx, my, or_false, and_false]
            split <;> split <;> omega
      by_cases f : (if b > a then b else a) ≤ (if b' < a' then b' else a')
      · rw [if_pos f]
        have e : (if b' < a' then b' else a') = b' := by split <;> omega
        refine ⟨⟨?_, f, ?_⟩, ⟨?_, f, ?_⟩, fun d => ?_, ?_⟩
        · dsimp only
          split <;> omega
        · dsimp only
          rw [e]
          exact r2
        · dsimp only
          split <;> omega
        · dsimp only
          rw [e]
          exact r2
        · exact Iff.trans (or_congr Iff.rfl (r3 d)) (key d).symm
        · simp only [List.length_cons] at r4 ⊢
          omega
      · rw [if_neg f]
        refine ⟨r1, r2.mono (by omega), fun d => ?_, ?_⟩
        · rw [r3 d]
          refine Iff.trans ?_ (key d).symm
          show ((a ≤ d ∧ d ≤ a') ∨ Mem x d) ∧ Mem y d ↔ _
          constructor
          · exact .inr
          · rintro (z | z)
            · omega
            · exact z
        · simp only [List.length_cons] at r4 ⊢
          omega
theorem nf_val {l : Sps} (h : ∀ {d}, Mem l d → d ≤ 999999) : ∀ {m : Sps} {lo : Int}, 0 ≤ lo → Nf lo m → (∀ d, Mem m d → d ≤ 999999) → Val m
  | [], _, _, _, _ => True.intro
  | p :: x, lo, h0, ⟨h1, h2, h3⟩, k => ⟨⟨by omega, h2, k p.2 (.inl ⟨h2, Int.le_refl _⟩)⟩, nf_val @h (lo := p.2 + 2) (by omega) h3 fun d z => k d (.inr z)⟩
theorem row_of {l : Sps} (h : Nf 0 l) (k : ∀ d, Mem l d → d ≤ 999999) : Row l := ⟨h, nf_val (l := l) (fun {d} z => k d z) (Int.le_refl 0) h k⟩
theorem meet_row {l m : Sps} (hl : Row l) (hm : Row m) : Row (meetM l m) ∧ (∀ d, Mem (meetM l m) d ↔ Mem l d ∧ Mem m d) ∧ (meetM l m).length ≤ l.length + m.length := by
  obtain ⟨r1, r2, r3, r4⟩ := meetM_nf (l.length + m.length) (Nat.le_refl _) hl.1 hm.1
  exact ⟨row_of r1 fun d z => (hl.2.mem ((r3 d).mp z).1).2, r3, r4⟩
/-! others -/
def othersM : Int → Sps → Sps
  | f, [] => if f ≤ 999999 then [(f, 999999)] else []
  | f, p :: x => if f < p.1 then (f, p.1 - 1) :: othersM (p.2 + 1) x else othersM (p.2 + 1) x
theorem othersM_nf : ∀ {l : Sps} {f : Int}, Nf f l → Val l → Nf f (othersM f l) ∧ (∀ d, Mem (othersM f l) d ↔ f ≤ d ∧ d ≤ 999999 ∧ ¬ Mem l d) ∧ (othersM f l).length ≤ l.length + 1
  | [], f, _, _ => by
    unfold othersM
    by_cases c : f ≤ 999999
    · rw [if_pos c]
      refine ⟨⟨Int.le_refl _, c, True.intro⟩, fun d => ?_, Nat.le_refl _⟩
      simp [Mem]
    · rw [if_neg c]
      refine ⟨True.intro, fun d => ?_, Nat.zero_le _⟩
      simp [Mem]
      omega
  | (a, b) :: x, f, ⟨h1, h2, h3⟩, ⟨v, vx⟩ => by
    dsimp only at h1 h2 h3 v
    unfold othersM
    dsimp only
    obtain ⟨r1, r2, r3⟩ := othersM_nf (l := x) (f := b + 1) (h3.mono (by omega)) vx
    have lx : ∀ e, Mem x e → b + 2 ≤ e := fun e z => h3.low z
    by_cases c : f < a
    · rw [if_pos c]
      refine ⟨⟨Int.le_refl _, by dsimp only; omega, by dsimp only; exact r1.mono (by omega)⟩, fun d => ?_, by simp only [List.length_cons]; omega⟩
      show (f ≤ d ∧ d ≤ a - 1) ∨ Mem (othersM (b + 1) x) d ↔ f ≤ d ∧ d ≤ 999999 ∧ ¬ ((a ≤ d ∧ d ≤ b) ∨ Mem x d)
      rw [r2 d]
      have q := lx d
      by_cases mx : Mem x d
      · have := q mx
        simp only [mx, or_true, not_true_eq_false, and_false, or_false, iff_false]
        omega
      · simp only [mx, or_false, not_false_eq_true, and_true]
        omega
    · rw [if_neg c]
      refine ⟨r1.mono (by omega), fun d => ?_, by simp only [List.length_cons]; omega⟩
      rw [r2 d]
      show b + 1 ≤ d ∧ d ≤ 999999 ∧ ¬ Mem x d ↔ f ≤ d ∧ d ≤ 999999 ∧ ¬ ((a ≤ d ∧ d ≤ b) ∨ Mem x d)
      by_cases mx : Mem x d
      · simp only [mx, or_true, not_true_eq_false, and_false]
      · simp only [mx, or_false, not_false_eq_true, and_true]
        omega
theorem others_row {l : Sps} (h : Row l) : Row (othersM 0 l) ∧ (∀ d, Mem (othersM 0 l) d ↔ 0 ≤ d ∧ d ≤ 999999 ∧ ¬ Mem l d) ∧ (othersM 0 l).length ≤ l.length + 1 := by
  obtain ⟨r1, r2, r3⟩ := othersM_nf h.1 h.2
  exact ⟨row_of r1 fun d z => ((r2 d).mp z).2.1, r2, r3⟩
/-! how many -/
def card : Sps → Int
  | [] => 0
  | p :: x => p.2 - p.1 + 1 + card x
/-- how many of the days 0, 1 .. below n are so -/
def cnt (P : Int → Prop) [DecidablePred P] : Nat → Int
  | 0 => 0
  | n + 1 => (if P n then 1 else 0) + cnt P n
theorem cnt_congr {P Q : Int → Prop} [DecidablePred P] [DecidablePred Q] : ∀ n : Nat, (∀ d : Int, 0 ≤ d → d < n → (P d ↔ Q d)) → cnt P n = cnt Q n
  | 0, _ => rfl
  | n + 1, h => by
    unfold cnt
    rw [cnt_congr n fun d h0 h1 => h d h0 (by omega)]
    have e := h n (by omega) (by omega)
    by_cases p : P n
    · rw [if_pos p, if_pos (e.mp p)]
    · rw [if_neg p, if_neg fun z => p (e.mpr z)]
theorem cnt_or {P Q : Int → Prop} [DecidablePred P] [DecidablePred Q] : ∀ n : Nat, cnt (fun d => P d ∨ Q d) n + cnt (fun d => P d ∧ Q d) n = cnt P n + cnt Q n
  | 0 => rfl
  | n + 1 => by
    unfold cnt
    have := cnt_or (P := P) (Q := Q) n
    by_cases p : P n <;> by_cases q : Q n <;> simp only [p, q, or_true, or_false, and_true, and_false, if_true, if_false] <;> omega
theorem cnt_not {P : Int → Prop} [DecidablePred P] : ∀ n : Nat, cnt P n + cnt (fun d => ¬ P d) n = n
  | 0 => rfl
  | n + 1 => by
    unfold cnt
    have := cnt_not (P := P) n
    by_cases p : P n <;> simp only [p, not_true_eq_false, not_false_eq_true, if_true, if_false] <;> omega
theorem cnt_span (a b : Int) : ∀ n : Nat, 0 ≤ a → a ≤ b + 1 → cnt (fun d => a ≤ d ∧ d ≤ b) n = if (n : Int) ≤ a then 0 else if (n : Int) ≤ b then n - a else b + 1 - a
  | 0, h0, h1 => by
    unfold cnt
    rw [if_pos (by omega)]
  | n + 1, h0, h1 => by
    unfold cnt
    rw [cnt_span a b n h0 h1]
    split <;> split <;> split <;> (try split) <;> omega
theorem cnt_none {P : Int → Prop} [DecidablePred P] : ∀ n : Nat, (∀ d : Int, ¬ P d) → cnt P n = 0
  | 0, _ => rfl
  | n + 1, h => by
    unfold cnt
    rw [if_neg (h _), cnt_none n h]
    rfl
theorem card_cnt : ∀ {l : Sps} {lo : Int}, 0 ≤ lo → Nf lo l → Val l → card l = cnt (fun d => Mem l d) 1000000
  | [], _, _, _, _ => (cnt_none 1000000 fun _ => id).symm
  | (a, b) :: x, lo, h0, ⟨h1, h2, h3⟩, ⟨v, vx⟩ => by
    dsimp only at h1 h2 h3 v
    have e := cnt_or (P := fun d => a ≤ d ∧ d ≤ b) (Q := fun d => Mem x d) 1000000
    have e0 : cnt (fun d => (a ≤ d ∧ d ≤ b) ∧ Mem x d) 1000000 = 0 := cnt_none 1000000 fun d z => by
      have := h3.low z.2
      omega
    have e1 := cnt_span a b 1000000 (by omega) (by omega)
    rw [if_neg (by omega), if_neg (by omega)] at e1
    have e2 := card_cnt (lo := b + 2) (by omega) h3 vx
    have e3 : cnt (fun d => Mem ((a, b) :: x) d) 1000000 = cnt (fun d => (a ≤ d ∧ d ≤ b) ∨ Mem x d) 1000000 := cnt_congr _ fun d _ _ => Iff.rfl
    rw [e3]
    show b - a + 1 + card x = _
    omega
theorem Row.card {l : Sps} (h : Row l) : card l = cnt (fun d => Mem l d) 1000000 := card_cnt (Int.le_refl 0) h.1 h.2
theorem card_others {l m : Sps} (h : Row l) (hm : Row m) (k : ∀ d, Mem m d ↔ 0 ≤ d ∧ d ≤ 999999 ∧ ¬ Mem l d) : card l + card m = 1000000 := by
  rw [h.card, hm.card]
  have e := cnt_not (P := fun d => Mem l d) 1000000
  rw [cnt_congr (P := fun d => Mem m d) (Q := fun d => ¬ Mem l d) 1000000 fun d h0 h1 => ?_]
  · exact e
  · rw [k d]
    constructor
    · exact fun z => z.2.2
    · exact fun z => ⟨h0, by omega, z⟩
theorem card_union {l m u t : Sps} (hl : Row l) (hm : Row m) (hu : Row u) (ht : Row t) (k : ∀ d, Mem u d ↔ Mem l d ∨ Mem m d) (k2 : ∀ d, Mem t d ↔ Mem l d ∧ Mem m d) : card u = card l + card m - card t := by
  rw [hl.card, hm.card, hu.card, ht.card]
  have e := cnt_or (P := fun d => Mem l d) (Q := fun d => Mem m d) 1000000
  rw [cnt_congr (P := fun d => Mem u d) (Q := fun d => Mem l d ∨ Mem m d) 1000000 fun d _ _ => k d, cnt_congr (P := fun d => Mem t d) (Q := fun d => Mem l d ∧ Mem m d) 1000000 fun d _ _ => k2 d]
  omega
/-! breaks -/
def brk : Sps → List Int
  | [] => []
  | p :: x => p.1 :: (p.2 + 1) :: brk x
theorem brk_len : ∀ l : Sps, (brk l).length = 2 * l.length
  | [] => rfl
  | p :: x => by
    show (brk x).length + 1 + 1 = 2 * (x.length + 1)
    rw [brk_len x]
    omega
theorem brk_low : ∀ {l : Sps} {lo : Int}, Nf lo l → ∀ z ∈ brk l, lo ≤ z
  | [], _, _, z, h => by cases h
  | p :: x, lo, ⟨h1, h2, h3⟩, z, h => by
    rcases List.mem_cons.mp h with e | h
    · omega
    · rcases List.mem_cons.mp h with e | h
      · omega
      · have := brk_low h3 z h
        omega
theorem brk_asc : ∀ {l : Sps} {lo : Int}, Nf lo l → (brk l).Pairwise (· ≤ ·)
  | [], _, _ => .nil
  | p :: x, lo, ⟨h1, h2, h3⟩ => by
    have k := brk_low h3
    refine .cons (fun z h => ?_) (.cons (fun z h => ?_) (brk_asc h3))
    · rcases List.mem_cons.mp h with e | h
      · omega
      · have := k z h
        omega
    · have := k z h
      omega
theorem brk_mem : ∀ {l : Sps} {lo : Int}, Nf lo l → ∀ d, d ∈ brk l ↔ ¬ (Mem l d ↔ Mem l (d - 1))
  | [], _, _, d => by simp [brk, Mem]
  | (a, b) :: x, lo, ⟨h1, h2, h3⟩, d => by
    dsimp only at h1 h2 h3
    have ih := brk_mem h3 d
    have q1 : Mem x d → b + 2 ≤ d := fun z => h3.low z
    have q2 : Mem x (d - 1) → b + 2 ≤ d - 1 := fun z => h3.low z
    have q3 : d ∈ brk x → b + 2 ≤ d := fun z => brk_low h3 d z
    show d ∈ a :: (b + 1) :: brk x ↔ ¬ ((a ≤ d ∧ d ≤ b) ∨ Mem x d ↔ (a ≤ d - 1 ∧ d - 1 ≤ b) ∨ Mem x (d - 1))
    rw [List.mem_cons, List.mem_cons, ih]
    by_cases m1 : Mem x d <;> by_cases m2 : Mem x (d - 1) <;> simp only [m1, m2, or_true, or_false, true_iff, iff_true, false_iff, iff_false, not_true_eq_false, not_false_eq_true, true_implies, iff_self] at ih q1 q2 q3 ⊢ <;> omega
end Yj
set_option Elab.async false
set_option linter.all false
set_option maxRecDepth 100000
set_option maxHeartbeats 4000000
set_option pp.maxSteps 1500
/-! Over tuples: enumerate, sorted; an item of a list as the left side of an augmented store. -/
namespace PySem
open Sem (wp)
open AutoSeq1 (wpAny_loadPart')
theorem meets_enumT (l : Addr) (o : Obj) (items : Array Value) (n : Nat) (hc : o.cls = .type "tuple") (hd : o.data = .seq items n) :
    Meets (Builtin.«enumerate.__new__» ⟨[.type "enumerate", .ref l], []⟩) (fun _ R s => s.heap.get? l = some o ∧
      R (.ok (.ret (.ref (s.heap.push { cls := .type "tuple_iterator", data := .fields #[.ref l, .int 0 0] }).objs.size)))
        { s with heap := (s.heap.push { cls := .type "tuple_iterator", data := .fields #[.ref l, .int 0 0] }).push { cls := .type "enumerate", data := .fields #[.none, .bool false, .ref s.heap.objs.size, rawInt 0, .none, .none] } }) :=
  .of_wp fun prog w A R s h => by
    obtain ⟨hp, g, d, tk, os⟩ := s
    obtain ⟨hl, h⟩ := h
    have sub := sub_enumerate
    have hL : Heap.IsTuple (Shared.heap ⟨hp, g, d, tk, os⟩) l items := ⟨o, hl, hc, n, hd⟩
    wp_walk using wpAny_loadPart' hl
    refine wpAny_stack_any fun st => wpAny_pure ?_
    split
    · rename_i c _ _ _ _ _
      cases (c == Value.type "enumerate") <;> (wp_walk using wpAny_loadPart' hl, wpAny_pyIter_tuple hL; exact ⟨_, rfl, h⟩)
    · (wp_walk using wpAny_loadPart' hl, wpAny_pyIter_tuple hL); exact ⟨_, rfl, h⟩
theorem call_enumT {prog : Program} {w : World} {A : Around} {E : Value → Shared → Prop} {s : Shared} {l : Addr} {items : Array Value} {Q : Value → Shared → Prop} (hL : s.heap.IsTuple l items)
    (h : ∀ h', IsEnum h' (s.heap.objs.size + 1) s.heap.objs.size 0 .none → h'.IsTupleIter s.heap.objs.size l 0 → h'.objs.size = s.heap.objs.size + 2 →
      (∀ b o, s.heap.get? b = some o → h'.get? b = some o) → Q (.ref (s.heap.objs.size + 1)) { s with heap := h' }) :
    wpAny (model prog w) A (call (.type "enumerate") [.ref l]) Q E s := by
  obtain ⟨o, hl, hc, n, hd⟩ := hL
  refine callType_new F.called_enumerate (by decide) (F.typeCall_enumerate_1 _) (F.newCall_enumerate_1 _) (fun obj => F.args_object_init_2 obj _) F.entry_enumerate_new (meets_enumT l o items n hc hd) ⟨hl, ?_⟩
  have hz : (s.heap.push { cls := .type "tuple_iterator", data := .fields #[.ref l, .int 0 0] }).objs.size = s.heap.objs.size + 1 := Heap.size_push ..
  show _ ∧ _
  rw [hz]
  have he : IsEnum ((s.heap.push { cls := .type "tuple_iterator", data := .fields #[.ref l, .int 0 0] }).push
      { cls := .type "enumerate", data := .fields #[.none, .bool false, .ref s.heap.objs.size, rawInt 0, .none, .none] }) (s.heap.objs.size + 1) s.heap.objs.size 0 .none := by
    have q := Heap.get?_push_size (s.heap.push { cls := .type "tuple_iterator", data := .fields #[.ref l, .int 0 0] })
      (o := { cls := .type "enumerate", data := .fields #[.none, .bool false, .ref s.heap.objs.size, rawInt 0, .none, .none] }) rfl
    rw [hz] at q
    exact q
  refine ⟨⟨_, he, rfl⟩, h _ he ⟨_, Heap.get?_push_of_some _ (Heap.get?_push_size _ rfl), rfl, rfl⟩ (by rw [Heap.size_push, hz]) fun b o x => ?_⟩
  exact Heap.get?_push_of_some _ (Heap.get?_push_of_some _ x)
end PySem
namespace SrtO
open PySem PyProof.Rows Srt
section
variable {prog : Program} {w : World} {A : Around} {E : Value → Shared → Prop} {s : Shared}
/-- all of a tuple collected into a new list -/
theorem collect_tup {l : Addr} {o : Obj} {n : Nat} {vs : List Value} {Q : List Value → Shared → Prop} (ho : s.heap.get? l = some o) (hc : o.cls = .type "tuple") (hd : o.data = .seq vs.toArray n) (hz : vs.length ≤ sizeLine)
    (h : Q vs { s with heap := (s.heap.push (seqObj "list" #[] 0)).update s.heap.objs.size (Obj.mapSeq (· ++ vs.toArray)) }) : wpAny (model prog w) A (collect (.ref l)) Q E s := by
  have hS : (s.heap.push (seqObj "list" #[] 0)).get? s.heap.objs.size = some (seqObj "list" #[] 0) := Heap.get?_push_size _ rfl
  have hS2 := Heap.get?_update_self (Obj.mapSeq (· ++ vs.toArray)) hS rfl
  have ho2 : (s.heap.push (seqObj "list" #[] 0)).get? l = some o := Heap.get?_push_of_some _ ho
  have here : ∀ (r : Result) (s' : Shared), (r = Except.ok (Flow.ret (.ref s.heap.objs.size)) ∧ s' = { s with heap := (s.heap.push (seqObj "list" #[] 0)).update s.heap.objs.size (Obj.mapSeq (· ++ vs.toArray)) }) →
      r = Except.ok (.ret (.ref s.heap.objs.size)) ∧ wpAny (model prog w) A (do
        let o ← load s.heap.objs.size
        match o.data with
        | .seq xs _ => pure xs.toList
        | _ => unsupported "internal:collect") Q E s' := by
    rintro r s' ⟨rfl, rfl⟩
    refine ⟨rfl, wpAny_bind (wpAny_load hS2 ?_)⟩
    show wpAny _ _ (pure ((#[] : Array Value) ++ vs.toArray).toList) Q E _
    have e : ((#[] : Array Value) ++ vs.toArray).toList = vs := by simp
    rw [e]
    exact wpAny_pure h
  unfold collect
  refine wpAny_bind (wpAny_runValue (codeAny_builtin F.entry_proto_collect ?_))
  rw [Around.under_plainId F.plain_proto_collect _]
  show wpAny _ A.in1 (newList [] >>= fun k => again (.builtin "list.__iadd__" ⟨[k, .ref l], []⟩)) _ _ s
  refine wpAny_bind (wpAny_newObj_type (wpAny_pure ⟨plainId_quiet F.plain_list_iadd _, codeAny_builtin F.entry_list_iadd ?_⟩))
  rw [Around.under_plainId F.plain_list_iadd _]
  refine wpAny_mono (wpAny_extend_seq (A := A) (s := { s with heap := s.heap.push (seqObj "list" #[] 0) })
    (R := fun r s' => r = .ok (.ret (.ref s.heap.objs.size)) ∧ s' = { s with heap := (s.heap.push (seqObj "list" #[] 0)).update s.heap.objs.size (Obj.mapSeq (· ++ vs.toArray)) })
    s.heap.objs.size l (.ref s.heap.objs.size) 0 (.inr rfl) hS ho2 hc hd ⟨rfl, rfl⟩ (by rw [List.size_toArray]; exact hz)) (fun fin s' hf => ?_) (fun e s' hf => nomatch hf.1)
  cases fin with
  | done f =>
    obtain ⟨e, z⟩ := here _ _ hf
    cases e
    exact z
  | again c' =>
    refine ⟨hf.1, codeAny_mono hf.2 fun r s2 hr => ?_⟩
    obtain ⟨e, z⟩ := here _ _ hr
    subst e
    exact z
/-- sorted(t), t a tuple of pairs of ints -/
theorem sorted_tupO {l : Addr} {o : Obj} {n : Nat} {vs : List Value} {k : Value → Int × Int} {Q : Value → Shared → Prop} (ho : s.heap.get? l = some o) (hc : o.cls = .type "tuple") (hd : o.data = .seq vs.toArray n) (hz : vs.length ≤ sizeLine) (hp : ∀ v ∈ vs, IsPair s.heap v (k v).1 (k v).2)
    (h : ∀ (h' : Heap) (d : Addr) (out : List Value), Srtd (fun v u => lexB (k v) (k u)) out → Stb (fun v u => lexB (k v) (k u)) out vs → (∀ b o, s.heap.get? b = some o → h'.get? b = some o) → s.heap.objs.size ≤ d → (∃ n, h'.get? d = some (seqObj "list" out.toArray n)) → Q (.ref d) { s with heap := h' }) :
    wpAny (model prog w) A (call (.builtin "sorted") [.ref l]) Q E s := by
  refine Calls.call_function_entry kind_sorted plain_sorted entry_sorted (args_sorted1 _) ?_
  unfold Builtin.«sorted»
  refine wpAny_bind (m := checkCount "sorted" 1 1 _) (wpAny_pure ?_)
  refine wpAny_bind (collect_tup ho hc hd hz (wpAny_bind (wpAny_newList ?_ hz)))
  have hsz : ((s.heap.push (seqObj "list" #[] 0)).update s.heap.objs.size (Obj.mapSeq (· ++ vs.toArray))).objs.size = s.heap.objs.size + 1 := by
    rw [Heap.size_update]
    exact size_push' _ _
  have old : ∀ b o, s.heap.get? b = some o → b ≠ s.heap.objs.size + 1 ∧ (((s.heap.push (seqObj "list" #[] 0)).update s.heap.objs.size (Obj.mapSeq (· ++ vs.toArray))).push (seqObj "list" vs.toArray 0)).get? b = some o := fun b o q => by
    have hlt : b < s.heap.objs.size := Heap.lt_size q
    refine ⟨Nat.ne_of_lt (Nat.lt_succ_of_lt hlt), Heap.get?_push_of_some _ ((Heap.get?_update_ne _ _ _ _ (Nat.ne_of_lt hlt)).trans (Heap.get?_push_of_some _ q))⟩
  have hoL : (((s.heap.push (seqObj "list" #[] 0)).update s.heap.objs.size (Obj.mapSeq (· ++ vs.toArray))).push (seqObj "list" vs.toArray 0)).get? (s.heap.objs.size + 1) = some (seqObj "list" vs.toArray 0) := by
    rw [← hsz]
    exact Heap.get?_push_size _ rfl
  have hS : 2 ≤ vs.length → SortableO prog w A.in1.in1 { s with heap := ((s.heap.push (seqObj "list" #[] 0)).update s.heap.objs.size (Obj.mapSeq (· ++ vs.toArray))).push (seqObj "list" vs.toArray 0) } (s.heap.objs.size + 1) vs fun v u => lexB (k v) (k u) := fun h2 => by
    refine pairs_sortableO (s := { s with heap := ((s.heap.push (seqObj "list" #[] 0)).update s.heap.objs.size (Obj.mapSeq (· ++ vs.toArray))).push (seqObj "list" vs.toArray 0) }) (by omega) (fun v hm => (hp v hm).keeps fun b o e _ => (old b o e).2) fun o e c => ?_
    have e' := e.symm.trans hoL
    cases e'
    exact absurd (Value.type.inj c) (by decide)
  show wpAny _ _ _ _ _ { s with heap := ((s.heap.push (seqObj "list" #[] 0)).update s.heap.objs.size (Obj.mapSeq (· ++ vs.toArray))).push (seqObj "list" vs.toArray 0) }
  rw [hsz]
  refine wpAny_bind (wpAny_holding (wpAny_call_entry slot_list_sort ⟨_, hoL, rfl⟩ entry_list_sort (list_sort_ord (swo_lex k) hoL hz hS fun out hs hb => ⟨_, rfl, ?_⟩) (args_list_sort _)))
  have fin := h (sortedAll s.heap vs out.toArray) (s.heap.objs.size + 1) out hs hb (fun b o e => sortedAll_old e) (Nat.le_succ _) (sortedAll_at s.heap vs out.toArray)
  exact wpAny_pure ⟨_, rfl, fin⟩
end
end SrtO
namespace Yj
open PySem PySem.Spec PyProof.Rows L2
/-- a row's spans in either a list or a tuple -/
def RowA (H : Hp) (a : Addr) (us : List V) : Prop := H a = some (.lst us) ∨ H a = some (.tup us)
def rSortedPA : List V → Hp → VK → Prop := fun vs H Q => ∃ (a : Addr) (xs : List V) (k : V → Int × Int), vs = [V.ref a] ∧ RowA H a xs ∧ (∀ x ∈ xs, ∃ t, x = V.ref t ∧ H t = some (.tup [.int (k x).1, .int (k x).2])) ∧
  ∀ ys p, SrtO.Srtd (ltP k) ys → SrtO.Stb (ltP k) ys xs → H p = none → Q (.ref p) (upd H p (.lst ys))
section
variable {X : Cx}
theorem cr_sortedPA : CallR X (.builtin "sorted") rSortedPA := by
  intro pins s σ H vs us Q I r h
  obtain ⟨a, xs, k, rfl, hs, hx, q⟩ := h
  rcases hs with hs | hs
  · exact cr_sortedPO pins s σ H _ us Q I r ⟨a, xs, k, rfl, SqL.of hs, hx, q⟩
  obtain ⟨its, rv, ⟨o, ho, hc, n, hd⟩, hz⟩ := I.tuple (SqT.of (K := X.K) hs)
  obtain ⟨u, rfl, ru⟩ := vals1 r
  obtain rfl : u = Value.ref a := ru
  obtain ⟨e1, e2⟩ := refs_back rv fun x m => (hx x m).imp fun t h => h.1
  have hlen := rv.length
  refine SrtO.sorted_tupO (k := fun u => k (backV u)) ho hc hd (by omega) (fun v hv => ?_) fun h' d out h1 h2 kp hfar hn => ?_
  · obtain ⟨t, rfl⟩ := e2 v hv
    have hm : V.ref t ∈ xs := by
      rw [e1]
      exact List.mem_map.mpr ⟨_, hv, rfl⟩
    obtain ⟨t', e, ht⟩ := hx _ hm
    cases e
    obtain ⟨_, its2, r2, o2, ho2, hc2, n2, hd2⟩ := I.hok _ _ ht
    obtain ⟨u1, u2, rfl, ⟨t1, rfl⟩, ⟨t2, rfl⟩⟩ := vals2 r2
    exact ⟨t, o2, t1, t2, n2, rfl, ho2, hc2, hd2⟩
  · have h3 : ∀ u ∈ out, ∃ a, u = Value.ref a := fun u hu => e2 u (h2.perm.mem_iff.mp hu)
    obtain ⟨n', hn⟩ := hn
    have hb : SrtO.Stb (ltP k) (out.map backV) xs := by
      have z := SrtO.Stb.map (ltP_swo k) backV h2
      rw [e1]
      exact z
    have hz2 : (out.map backV).length ≤ sizeLine := by
      have z := hb.perm.length_eq
      omega
    exact ⟨.ref d, upd H d (.lst (out.map backV)), I.laid (t' := s.toks) kp hfar ⟨hz2, out, n', vals_back h3, hn⟩, rfl, q _ d (SrtO.srtd_map h1) hb (I.hok.fresh hfar)⟩
/-- a list's item at a place from the left, by values -/
theorem pget_list : PGet X (fun o i H Q => ∃ p xs, ∃ k : Nat, ∃ v, o = .ref p ∧ i = .int k ∧ SqL X.K H p xs ∧ xs[k]? = some v ∧ Q v H) := by
  intro pins s σ H o i ov iv Q I ro ri h
  obtain ⟨p, xs, k, v, rfl, rfl, hs, hv, q⟩ := h
  obtain rfl : ov = Value.ref p := ro
  obtain ⟨t, rfl⟩ := ri
  obtain ⟨its, r, pl, hz⟩ := I.list hs
  obtain ⟨u, hu, ru⟩ := r.get hv
  have hk : k < xs.length := (List.getElem?_eq_some_iff.mp hv).1
  have hn := line63
  exact wpAny_getItem_list pl.isList (by omega) (by omega) (by simpa using hu) ⟨v, H, I, ru, q⟩
end
end Yj
set_option Elab.async false
set_option linter.all false
set_option maxRecDepth 100000
set_option maxHeartbeats 4000000
set_option pp.maxSteps 1500
namespace Yj
open PySem PySem.Spec PyProof.Rows L2 RZ
/-! ### rows in the heap -/
/-- a span: a new tuple of two ints -/
def Pr (H : Hp) (v : V) (p : Int × Int) : Prop := ∃ t, v = .ref t ∧ H t = some (.tup [.int p.1, .int p.2])
inductive Prs (H : Hp) : List V → Sps → Prop
  | nil : Prs H [] []
  | cons {v : V} {vs : List V} {p : Int × Int} {l : Sps} : Pr H v p → Prs H vs l → Prs H (v :: vs) (p :: l)
theorem Pr.mono {H H' : Hp} {v : V} {p : Int × Int} (s : Same H H') (h : Pr H v p) : Pr H' v p := by
  obtain ⟨t, e, h⟩ := h
  exact ⟨t, e, s _ _ h⟩
theorem Prs.mono {H H' : Hp} (s : Same H H') : ∀ {vs : List V} {l : Sps}, Prs H vs l → Prs H' vs l
  | _, _, .nil => .nil
  | _, _, .cons h t => .cons (h.mono s) (t.mono s)
theorem Prs.len {H : Hp} : ∀ {vs : List V} {l : Sps}, Prs H vs l → vs.length = l.length
  | _, _, .nil => rfl
  | _, _, .cons h t => congrArg (· + 1) t.len
theorem Prs.get {H : Hp} : ∀ {vs : List V} {l : Sps} {i : Nat} {v : V}, Prs H vs l → vs[i]? = some v → ∃ p, l[i]? = some p ∧ Pr H v p
  | _, _, _, _, .nil, h => by simp at h
  | _, _, 0, _, .cons h t, e => by
    have e' := Option.some.inj e
    rw [← e']
    exact ⟨_, rfl, h⟩
  | _, _, i + 1, _, .cons h t, e => t.get (i := i) e
theorem Prs.at {H : Hp} : ∀ {vs : List V} {l : Sps} {i : Nat} {p : Int × Int}, Prs H vs l → l[i]? = some p → ∃ v, vs[i]? = some v ∧ Pr H v p
  | _, _, _, _, .nil, h => by simp at h
  | _, _, 0, _, .cons h t, e => by
    have e' := Option.some.inj e
    rw [← e']
    exact ⟨_, rfl, h⟩
  | _, _, i + 1, _, .cons h t, e => t.at (i := i) e
theorem Prs.app {H : Hp} : ∀ {vs us : List V} {l m : Sps}, Prs H vs l → Prs H us m → Prs H (vs ++ us) (l ++ m)
  | _, _, _, _, .nil, h => h
  | _, _, _, _, .cons h t, k => .cons h (t.app k)
theorem Prs.snoc {H : Hp} {vs : List V} {l : Sps} {v : V} {p : Int × Int} (h : Prs H vs l) (k : Pr H v p) : Prs H (vs ++ [v]) (l ++ [p]) := h.app (.cons k .nil)
/-- the last one apart -/
theorem Prs.last {H : Hp} : ∀ {l : Sps} {vs : List V} {p : Int × Int}, Prs H vs (l ++ [p]) → ∃ us v, vs = us ++ [v] ∧ Prs H us l ∧ Pr H v p
  | [], _, p, .cons h .nil => ⟨[], _, rfl, .nil, h⟩
  | q :: l, _, p, .cons h t => by
    obtain ⟨us, v, e, k1, k2⟩ := Prs.last t
    exact ⟨_ :: us, v, by rw [e]; rfl, .cons h k1, k2⟩
theorem same_upd {H : Hp} {p : Addr} {o : HO} (h : H p = none) : Same H (upd H p o) := fun b x e => by
  rw [upd_ne (ne_of_none e h)]
  exact e
theorem same_at {H H' : Hp} {p : Addr} {o : HO} (s : Same H H') (h : H p = none) : Same H (upd H' p o) := fun b x e => by
  rw [upd_ne (ne_of_none e h)]
  exact s _ _ e
/-- spans stay when the list at r is changed -/
theorem Pr.off {H : Hp} {r : Addr} {xs : List V} {o : HO} {v : V} {p : Int × Int} (hr : H r = some (.lst xs)) (h : Pr H v p) : Pr (upd H r o) v p := by
  obtain ⟨t, e, h⟩ := h
  refine ⟨t, e, ?_⟩
  rw [upd_ne fun z => ?_]
  · exact h
  · rw [z, hr] at h
    cases h
theorem Prs.off {H : Hp} {r : Addr} {xs : List V} {o : HO} (hr : H r = some (.lst xs)) : ∀ {vs : List V} {l : Sps}, Prs H vs l → Prs (upd H r o) vs l
  | _, _, .nil => .nil
  | _, _, .cons h t => .cons (h.off hr) (t.off hr)
theorem ifT {c : Prop} [Decidable c] {A B : Prop} (hc : c) (h : A) : if decide c = true then A else B := by
  rw [decide_eq_true hc]
  exact iteT h
theorem ifF {c : Prop} [Decidable c] {A B : Prop} (hc : ¬ c) (h : B) : if decide c = true then A else B := by
  rw [decide_eq_false hc]
  exact iteF h
theorem ofNat_lt {n : Nat} (h : n ≤ 1000000) : n < sizeLine := by
  rw [sizeLine_eq]
  omega
theorem ofNat_le {n : Nat} (h : n ≤ 1000000) : n ≤ sizeLine := Nat.le_of_lt (ofNat_lt h)
/-- what a def that changes nothing hands back: a new tuple of spans -/
def BackT (H : Hp) (Q : VK) (l : Sps) : Prop := ∀ H' p us, Same H H' → H p = none → H' p = some (.tup us) → Prs H' us l → Q (.ref p) H'
def RowT (H : Hp) (a : Addr) (l : Sps) : Prop := ∃ us, H a = some (.tup us) ∧ Prs H us l
theorem RowT.mono {H H' : Hp} {a : Addr} {l : Sps} (s : Same H H') (h : RowT H a l) : RowT H' a l := by
  obtain ⟨us, h, k⟩ := h
  exact ⟨us, s _ _ h, k.mono s⟩
theorem drop_get {α : Type} {l : List α} {i : Nat} {p : α} (h : l[i]? = some p) : l.drop i = p :: l.drop (i + 1) := by
  obtain ⟨hi, e⟩ := List.getElem?_eq_some_iff.mp h
  rw [List.drop_eq_getElem_cons hi, e]
theorem drop_end {α : Type} (l : List α) : l.drop l.length = [] := List.drop_eq_nil_of_le (Nat.le_refl _)
end Yj
set_option Elab.async false
set_option linter.all false
set_option maxRecDepth 100000
set_option maxHeartbeats 4000000
set_option pp.maxSteps 1500
namespace Yj
open PySem PySem.Spec PyProof.Rows L2
/-! ### enumerate over a tuple -/
/-- the tuple at a, each item in a new pair with its place -/
def IteT (K : PySem.W.Frag) (a : Addr) : It :=
  ⟨fun i H => ∃ (xs : List V) (x : V), SqT K H a xs ∧ xs[i]? = some x, fun i H v H' => ∃ T x, v = .ref T ∧ H T = none ∧ H' = upd H T (.tup [.int (i : Nat), x]) ∧ ∀ xs, SqT K H a xs → xs[i]? = some x, fun i H => ∃ xs : List V, SqT K H a xs ∧ xs.length = i⟩
theorem kinds_ne {h : Heap} {a b : Addr} {o u : Obj} (ha : h.get? a = some o) (hb : h.get? b = some u) (hc : o.cls ≠ u.cls) : a ≠ b := fun z => by
  subst z
  rw [ha] at hb
  cases hb
  exact hc rfl
theorem turn_enumT {P : Program} {w : World} {K : PySem.W.Frag} {elts : List Expr} {kk : Nat} {tpos : Pos} (a e it : Addr) :
    Turn P w K (.Tuple elts kk tpos) (IteT K a) [e, it] e (fun i h => (∃ old, IsEnum h e it ((i : Nat) : Int) old) ∧ h.IsTupleIter it a i ∧ e ≠ it) where
  mem := by simp
  obj := fun i h st b hb => by
    obtain ⟨⟨old, he⟩, ⟨o, ho, hc, hd⟩, _⟩ := st
    rcases (by simpa using hb : b = e ∨ b = it) with z | z
    · rw [z]
      exact ⟨_, he, fun v q => nomatch q⟩
    · rw [z]
      exact ⟨o, ho, fun v q => by rw [hd] at q; cases q⟩
  keep := fun i h h' st k => by
    obtain ⟨⟨old, he⟩, hi, hne⟩ := st
    exact ⟨⟨old, k e (by simp) _ he⟩, hi.at fun o q => k it (by simp) o q, hne⟩
  item := by
    intro X hP hw hK hc i pins s σ H E I hf st hg
    subst hP hw hK
    obtain ⟨⟨old, he⟩, hit, hne⟩ := st
    obtain ⟨xs, x, hq, hx⟩ := hg
    obtain ⟨its, rv, p, hz⟩ := I.tuple hq
    obtain ⟨u, hu, ru⟩ := rv.get hx
    have hel : e < s.heap.objs.size := Heap.lt_size he
    have hil : it < s.heap.objs.size := by
      obtain ⟨_, q, _⟩ := hit
      exact Heap.lt_size q
    obtain ⟨ot, hot, hct, hdt⟩ := id p
    obtain ⟨oi, hoi, hci, hdi⟩ := id hit
    have nai : a ≠ it := kinds_ne hot hoi (by rw [hct, hci]; intro z; exact absurd (Value.type.inj z) (by decide))
    have nae : a ≠ e := kinds_ne hot he (by rw [hct]; intro z; exact absurd (Value.type.inj z) (by decide))
    have hh : X.A.in1.handled = none := I.ok.hd hc
    refine wpAny_pyNext_enum_itemD (Draws.tuple hh it a nai its.toArray) he ⟨hit, p⟩ (i := i) ?_ hne (by simp [hne, Ne.symm nae]) fun y h' tk hy ho hit' hT hsz hk => ?_
    · have := (List.getElem?_eq_some_iff.mp hu).1
      simpa using this
    have ey : y = u := by
      have : its.toArray[i]? = some y := hy
      rw [List.getElem?_toArray, hu] at this
      exact (Option.some.inj this).symm
    subst ey
    refine ⟨_, rfl, wpAny_letOwnedTupleGo_enum (s := { s with heap := h', toks := tk + 1 }) ho fun h'' he' sb => ?_⟩
    have hT2 : h''.get? s.heap.objs.size = some { cls := .type "tuple", data := .seq #[.int i tk, y] } := (sb.2 _ (Nat.ne_of_gt hel)).trans hT
    have new : ObjOk X.prog X.w (upd H s.heap.objs.size (.tup [.int (i : Nat), x])) h'' s.heap.objs.size (.tup [.int (i : Nat), x]) :=
      ⟨by show 2 ≤ sizeLine; decide, [.int i tk, y], .cons ⟨_, rfl⟩ (.cons ru .nil), ⟨_, hT2, rfl, _, rfl⟩⟩
    have I1 : Inv X pins σ (upd H s.heap.objs.size (.tup [.int (i : Nat), x])) { s with heap := h'', toks := tk + 1 } :=
      I.turnedNew (ch := [e, it]) (fun b ob hb q => (sb.2 b (fun z => hb (by simp [z]))).trans (hk b ob (fun z => hb (by simp [z])) (fun z => hb (by simp [z])) q)) hf (Nat.le_refl _) new
    refine ⟨.ref s.heap.objs.size, _, I1, rfl, ⟨_, x, rfl, I.hok.fresh (Nat.le_refl _), rfl, fun ys hy => by rw [I.tuple_inj hy hq]; exact hx⟩, ⟨⟨y, ?_⟩, hit'.1.at fun o q => (sb.2 it (Ne.symm hne)).trans q, hne⟩, fun b hb => ?_⟩
    · have e1 : ((i + 1 : Nat) : Int) = (i : Int) + 1 := by omega
      rw [e1]
      exact he'
    · have hb' : b < s.heap.objs.size := by
        rcases (by simpa using hb : b = e ∨ b = it) with z | z
        · rw [z]
          exact hel
        · rw [z]
          exact hil
      rw [upd_ne (Nat.ne_of_lt hb')]
      exact (hf b hb).1
  done := by
    intro X hP hw hK hc i pins s σ H E I hf st hg
    subst hP hw hK
    obtain ⟨⟨old, he⟩, hit, hne⟩ := st
    obtain ⟨xs, hq, hx⟩ := hg
    obtain ⟨its, rv, p, hz⟩ := I.tuple hq
    obtain ⟨f0, f1, f2, f3, f4, f5⟩ := hf it (by simp)
    obtain ⟨ot, hot, hct, hdt⟩ := id p
    obtain ⟨oi, hoi, hci, hdi⟩ := id hit
    have nai : a ≠ it := kinds_ne hot hoi (by rw [hct, hci]; intro z; exact absurd (Value.type.inj z) (by decide))
    have hh : X.A.in1.handled = none := I.ok.hd hc
    have hl := rv.length
    have ei : its.toArray.size = i := by
      rw [List.size_toArray]
      omega
    refine wpAny_pyNext_enum_endD (Draws.tuple hh it a nai its.toArray) he ?_ fun h' eb => ⟨rfl, I.turned (t' := s.toks) (fun b o hb q => eb b o hb q) f0 f1 f3 f4 f5⟩
    rw [ei]
    exact ⟨hit, p⟩
  self := fun A i s Q E st h => by
    obtain ⟨⟨_, he⟩, _⟩ := st
    exact wpAny_pyIter_enum he h
/-- a list or a tuple walked with places -/
def iEnumA (K : PySem.W.Frag) (ta : TA) : TI := fun σ H R => ta σ H fun vs H1 => ∃ a xs, vs = [.ref a] ∧ ((SqL K H1 a xs ∧ R (Ite K a) H1) ∨ (SqT K H1 a xs ∧ R (IteT K a) H1))
theorem pi_enumA {X : Cx} {e : Expr} {ta : TA} {p pos tpos : Pos} {elts : List Expr} {kk : Nat} (hg : Gl X "enumerate") (hm : X.mg "enumerate" = none) (ha : PA X [e] ta) (hs : starEach [e] X.env = [(false, eval e X.env)] := by rfl) :
    PI X (.Tuple elts kk tpos) (.Call (.Name "enumerate" p) [e] [] pos) (iEnumA X.K ta) := by
  refine ⟨fun pins s σ H R I h => ?_⟩
  refine Call_ (ld_blt I hg hm boot_enumerate (PyProof.Rows.callWith_type1 (thn (ha.run pos pins s σ H _ I h) fun us s1 ⟨vs, H1, I1, r1, q1⟩ => ?_) hs rfl))
  obtain ⟨a, xs, rfl, q⟩ := q1
  obtain ⟨u, rfl, ru⟩ := vals1 r1
  obtain rfl : u = Value.ref a := ru
  have fp : ∀ b ∈ [s1.heap.objs.size + 1, s1.heap.objs.size], FpOk X pins H1 b := fun b hb => by
    have hle : s1.heap.objs.size ≤ b := by
      rcases (by simpa using hb : b = s1.heap.objs.size + 1 ∨ b = s1.heap.objs.size) with z | z <;> omega
    exact I1.fpOk hle (I1.hok.fresh hle)
  rcases q with ⟨hq, q⟩ | ⟨hq, q⟩
  · obtain ⟨its, rv, p', hz⟩ := I1.list hq
    refine call_enumerate_list p'.isList fun h' he hit hsz hk => wpAny_pyIter_enum he ?_
    exact ⟨s1.heap.objs.size + 1, _, _, _, H1, rfl, I1.kept (t' := s1.toks) hk, turn_enum a (s1.heap.objs.size + 1) s1.heap.objs.size, ⟨⟨.none, he⟩, hit, Nat.succ_ne_self _⟩, fp, q⟩
  · obtain ⟨its, rv, p', hz⟩ := I1.tuple hq
    refine call_enumT p' fun h' he hit hsz hk => wpAny_pyIter_enum he ?_
    exact ⟨s1.heap.objs.size + 1, _, _, _, H1, rfl, I1.kept (t' := s1.toks) hk, turn_enumT a (s1.heap.objs.size + 1) s1.heap.objs.size, ⟨⟨.none, he⟩, hit, Nat.succ_ne_self _⟩, fp, q⟩
/-- the loop over them, by an invariant -/
theorem for_enumA {K : PySem.W.Frag} {xs : List V} {g : TG} {tb : TS} {D : Ends} {σ : L2.St} {H : Hp} {a : Addr} (hA : RowA H a xs) (Pv : Nat → L2.St → Hp → Prop) (h0 : Pv 0 σ H) (hl : ∀ i σ H', i ≤ xs.length → Pv i σ H' → Same H H')
    (hs : ∀ i x T σ H, xs[i]? = some x → Pv i σ H → H T = none → g (.ref T) σ (upd H T (.tup [.int (i : Nat), x])) fun σ2 H2 => tb { D with nx := Pv (i + 1), ct := Pv (i + 1), bk := D.nx } σ2 H2) (hd : ∀ σ H, Pv xs.length σ H → D.nx σ H) :
    ∃ a' xs, ([.ref a] : List V) = [.ref a'] ∧ ((SqL K H a' xs ∧ ∃ W : Nat → Nat → L2.St → Hp → Prop, (∃ m, W 0 m σ H) ∧ ∀ i m σ H, W i m σ H →
        ((Ite K a').stop i H ∧ D.nx σ H) ∨ ((Ite K a').go i H ∧ ∃ N : L2.St → Hp → Prop, (∀ σ' H', N σ' H' → ∃ m', m' < m ∧ W (i + 1) m' σ' H') ∧ ∀ x H', (Ite K a').yld i H x H' → g x σ H' fun σ2 H2 => tb { D with nx := N, ct := N, bk := D.nx } σ2 H2)) ∨
      (SqT K H a' xs ∧ ∃ W : Nat → Nat → L2.St → Hp → Prop, (∃ m, W 0 m σ H) ∧ ∀ i m σ H, W i m σ H →
        ((IteT K a').stop i H ∧ D.nx σ H) ∨ ((IteT K a').go i H ∧ ∃ N : L2.St → Hp → Prop, (∀ σ' H', N σ' H' → ∃ m', m' < m ∧ W (i + 1) m' σ' H') ∧ ∀ x H', (IteT K a').yld i H x H' → g x σ H' fun σ2 H2 => tb { D with nx := N, ct := N, bk := D.nx } σ2 H2))) := by
  refine ⟨a, xs, rfl, ?_⟩
  rcases hA with hA | hA
  · refine .inl ⟨SqL.of hA, fun i m σ H' => m = xs.length - i ∧ i ≤ xs.length ∧ Pv i σ H', ⟨xs.length, by simp, Nat.zero_le _, h0⟩, ?_⟩
    rintro i m σ H' ⟨rfl, hi, p⟩
    have st := hl i σ H' hi p
    have hS := SqL.of (K := K) (st _ _ hA)
    by_cases hlt : i < xs.length
    · refine .inr ⟨⟨xs, xs[i], hS, List.getElem?_eq_getElem hlt⟩, Pv (i + 1), fun σ' H2 p' => ⟨xs.length - (i + 1), by omega, rfl, hlt, p'⟩, fun x H2 y => ?_⟩
      obtain ⟨T, z, rfl, nT, rfl, hz⟩ := y
      exact hs i z T σ H' (hz xs hS) p nT
    · have e : i = xs.length := by omega
      subst e
      exact .inl ⟨⟨xs, hS, Nat.le_refl _⟩, hd σ H' p⟩
  · refine .inr ⟨SqT.of hA, fun i m σ H' => m = xs.length - i ∧ i ≤ xs.length ∧ Pv i σ H', ⟨xs.length, by simp, Nat.zero_le _, h0⟩, ?_⟩
    rintro i m σ H' ⟨rfl, hi, p⟩
    have st := hl i σ H' hi p
    have hS := SqT.of (K := K) (st _ _ hA)
    by_cases hlt : i < xs.length
    · refine .inr ⟨⟨xs, xs[i], hS, List.getElem?_eq_getElem hlt⟩, Pv (i + 1), fun σ' H2 p' => ⟨xs.length - (i + 1), by omega, rfl, hlt, p'⟩, fun x H2 y => ?_⟩
      obtain ⟨T, z, rfl, nT, rfl, hz⟩ := y
      exact hs i z T σ H' (hz xs hS) p nT
    · have e : i = xs.length := by omega
      subst e
      exact .inl ⟨⟨xs, hS, rfl⟩, hd σ H' p⟩
end Yj
set_option Elab.async false
set_option linter.all false
set_option maxRecDepth 100000
set_option maxHeartbeats 4000000
set_option pp.maxSteps 1500
namespace Yj
open PySem PySem.Spec PyProof.Rows L2 RZ
/-! ### rules that name the written part, for a comprehension's block -/
theorem pg_tupK {X : Cx} {K : PySem.W.Frag} {pos : Pos} {es : List Expr} {k : Nat} {t : TGs} {n : Nat} (hc : X.calm = true) (h : PGs X es t) (hK : X.K = K := by rfl)
    (hn : (assignEach es X.env).length = n := by rfl) (hst : (assignEach es X.env).findIdx? (·.1) = none := by rfl) : PG X (.Tuple es k pos) (gTup K n t) := by
  subst hK
  exact pg_tup hc h hn hst
theorem ix_seqK {X : Cx} {K : PySem.W.Frag} (hK : X.K = K := by rfl) : IxR X (rIx K) := by
  subst hK
  exact ix_seq
theorem call_lenK {X : Cx} {K : PySem.W.Frag} (hK : X.K = K := by rfl) : CallR X (.builtin "len") (fun xs H Q => ∃ p ys, xs = [V.ref p] ∧ (SqL K H p ys ∨ SqT K H p ys) ∧ Q (.int ys.length) H) := by
  subst hK
  exact call_len_seq
/-! ### rows as data -/
def datP (p : Int × Int) : PyData := .tuple [.int p.1, .int p.2]
def dat (l : Sps) : PyData := .tuple (l.map datP)
theorem datA_lay : ∀ l : Sps, PyData.canLayAll0 (l.map datP) = true
  | [] => rfl
  | p :: x => by
    show (PyData.canLay0 (datP p) && PyData.canLayAll0 (x.map datP)) = true
    rw [datA_lay x]
    rfl
theorem datA_depth : ∀ l : Sps, PyData.depthAll (l.map datP) ≤ 1
  | [] => Nat.zero_le _
  | p :: x => by
    show max (PyData.depth (datP p)) (PyData.depthAll (x.map datP)) ≤ 1
    have h1 := datA_depth x
    have h2 : PyData.depth (datP p) = 1 := rfl
    omega
theorem shaped_of {ds : List PyData} {n : Nat} (h1 : PyData.canLayAll0 ds = true) (h2 : PyData.depthAll ds ≤ n) (h3 : n ≤ 63) : SeqAt.shaped (.tuple ds) = true ∧ SeqAt.shaped (.list ds) = true := by
  have e : PyData.depthAll ds + 1 ≤ 64 := by omega
  refine ⟨?_, ?_⟩
  · show (PyData.canLayAll0 ds && decide (PyData.depthAll ds + 1 ≤ 64)) = true
    rw [h1, decide_eq_true e]
    rfl
  · show (PyData.canLayAll0 ds && decide (PyData.depthAll ds + 1 ≤ 64)) = true
    rw [h1, decide_eq_true e]
    rfl
theorem dat_shaped (l : Sps) : SeqAt.shaped (dat l) = true := (shaped_of (datA_lay l) (datA_depth l) (by decide)).1
theorem datP_eqv (p q : Int × Int) : PyData.eqv (datP p) (datP q) = decide (p = q) := by
  show (p.1 == q.1 && (p.2 == q.2 && true)) = decide (p = q)
  obtain ⟨a, b⟩ := p
  obtain ⟨c, d⟩ := q
  rw [Bool.eq_iff_iff]
  simp
theorem datA_eqv : ∀ l m : Sps, PyData.eqvAll (l.map datP) (m.map datP) = decide (l = m)
  | [], [] => rfl
  | [], _ :: _ => rfl
  | _ :: _, [] => rfl
  | p :: x, q :: y => by
    show (PyData.eqv (datP p) (datP q) && PyData.eqvAll (x.map datP) (y.map datP)) = _
    rw [datP_eqv, datA_eqv x y, Bool.eq_iff_iff]
    simp
theorem dat_eqv (l m : Sps) : PyData.eqv (dat l) (dat m) = decide (l = m) := datA_eqv l m
theorem Prs.dat {K : PySem.W.Frag} {H : Hp} : ∀ {vs : List V} {l : Sps}, Prs H vs l → DpAll K H vs (l.map datP)
  | _, _, .nil => .nil
  | _, _, .cons ⟨t, e, h⟩ k => .cons (by rw [e]; exact .tup (SqT.of h) (.cons (.int _) (.cons (.int _) .nil))) k.dat
theorem RowT.dat {K : PySem.W.Frag} {H : Hp} {a : Addr} {l : Sps} (h : RowT H a l) : Dp K H (.ref a) (dat l) := by
  obtain ⟨us, h, k⟩ := h
  exact .tup (SqT.of h) k.dat
/-! ### places in a row -/
theorem Nf.lt : ∀ {l : Sps} {lo : Int} {i k : Nat} {p q : Int × Int}, Nf lo l → i < k → l[i]? = some p → l[k]? = some q → p.2 + 2 ≤ q.1
  | [], _, _, _, _, _, _, _, h, _ => by simp at h
  | a :: x, lo, 0, k + 1, p, q, ⟨_, _, h3⟩, _, hp, hq => by
    have e := Option.some.inj hp
    rw [← e]
    have hq' : x[k]? = some q := hq
    have hm : q ∈ x := List.mem_of_getElem? hq'
    have : Mem x q.1 := by
      rw [mem_iff]
      exact ⟨q, hm, Int.le_refl _, by
        have := h3.val q hm
        exact this⟩
    exact h3.low this
  | a :: x, lo, i + 1, k + 1, p, q, ⟨_, _, h3⟩, h, hp, hq => Nf.lt h3 (Nat.lt_of_succ_lt_succ h) (show x[i]? = some p from hp) (show x[k]? = some q from hq)
theorem mem_at {l : Sps} {d : Int} : Mem l d ↔ ∃ (k : Nat) (p : Int × Int), l[k]? = some p ∧ p.1 ≤ d ∧ d ≤ p.2 := by
  rw [mem_iff]
  constructor
  · rintro ⟨p, hp, h⟩
    obtain ⟨k, hk⟩ := List.mem_iff_getElem?.mp hp
    exact ⟨k, p, hk, h⟩
  · rintro ⟨k, p, hk, h⟩
    exact ⟨p, List.mem_of_getElem? hk, h⟩
end Yj
set_option Elab.async false
set_option linter.all false
set_option maxRecDepth 100000
set_option maxHeartbeats 4000000
set_option pp.maxSteps 1500
namespace Yj
open PySem PySem.Spec PyProof.Rows L2 RZ
/-! ### is_name -/
def lowS : Str := "abcdefghijklmnopqrstuvwxyz"
def figS : Str := "0123456789"
def nmc (c : Nat) : Bool := decide (c ∈ lowS.cps.toList) || decide (c ∈ figS.cps.toList)
def isN : V → Bool
  | .str z => decide (1 ≤ (z.length : Int) ∧ (z.length : Int) ≤ 8) && (match z.cps.toList with | c :: _ => decide (c ∈ lowS.cps.toList) | [] => false) && z.cps.toList.all nmc
  | _ => false
def spName : Sp := fun vs H Q _ => ∃ x, vs = [x] ∧ Pl H x ∧ (∀ z, x = .str z → z.length ≤ 1000000) ∧ ∀ H', Same H H' → Q (.bl (isN x)) H'
section
variable {P : Program} {w : World} {K : PySem.W.Frag} {mg : Str → Option Value} {base : Heap} {ad : Nat → Addr} {fds : Nat → FuncData} {cs : Nat → Value}
theorem ok_is_name (T : Txt K mg ad fds cs) : FnOk P w K mg base CX0 1 (ad 13) (fds 13) ["thing"] spName := by
  refine T.F_is_name.ok sc_is_name (fun vs H Q E h => ?_) (fun cdv A outer s H vs Q E hr h => ?_)
  · obtain ⟨x, rfl, _⟩ := h
    rfl
  obtain ⟨x, rfl, hx, hz, q0⟩ := h
  have q := q0 H (Same.refl H)
  refine ⟨_, (pss_cons (ps_if (PW.pt (pw_or (pt_not (pt_val (pe_callB call_isi (by rfl) T.z_isinstance (by decide +kernel) (pa_cons (pv 0) (pa_cons (pe_bltn (v := .ty "str") (u := .type "str") (by rfl) T.z_str (by decide +kernel) rfl) pa_nil))))) (pw_or1 (pt_not (pt_chain op_le op_le pe_int (pe_callB call_len_str (by rfl) T.z_len (by decide +kernel) (pa_cons (pv 0) pa_nil)) (pe_glob rfl T.c_LONGEST_NAME T.r_LONGEST_NAME)))))) (pss_one (ps_ret pe_bl)) pss_nil)
      (pss_cons (ps_if (pt_cmpR op_notIn_sign (pe_ix ix_seq (pv 0) pe_int (fun _ _ => rfl)) (pe_glob rfl T.c_LETTERS T.r_LETTERS) (by rfl)) (pss_one (ps_ret pe_bl)) pss_nil)
      (pss_one (ps_ret (pe_callB (cr_all rfl) (by rfl) T.z_all (by decide +kernel) (pa_cons (pe_lc (own := [("sign", 1)]) rfl sc_is_name.nd (pi_str (pv 0)) (blkOk_by (N := N_is_name) (sc := defScope s_is_name) (own := [("sign", 1)]) (by decide +kernel)) (fun _ _ _ _ _ => by exact (pg_name (i := 1) sc_is_name.nd rfl (.inl rfl))) (fun _ _ _ _ _ => by exact pts_nil) (fun _ _ _ _ _ => by exact (pe_or (pe_cmpR op_in_sign (pv 1) (pe_glob rfl T.c_LETTERS T.r_LETTERS) (by rfl)) (pe_one (pe_cmpR op_in_sign (pv 1) (pe_glob rfl T.c_FIGURES T.r_FIGURES) (by rfl)))))) pa_nil)))))), ?_⟩
  cases hx with
  | non => exact ⟨_, rfl, _, _, _, _, false, rfl, ClsV.ty _, TyX.base .non, kit_ty (by decide +kernel), _, rfl, iteT (iteT q)⟩
  | bl b => exact ⟨_, rfl, _, _, _, _, false, rfl, ClsV.ty _, TyX.base (.bl b), kit_ty (by decide +kernel), _, rfl, iteT (iteT q)⟩
  | int i => exact ⟨_, rfl, _, _, _, _, false, rfl, ClsV.ty _, TyX.base (.int i), kit_ty (by decide +kernel), _, rfl, iteT (iteT q)⟩
  | lst h => exact ⟨_, rfl, _, _, _, _, false, rfl, ClsV.ty _, TyX.base (.lst h), kit_ty (by decide +kernel), _, rfl, iteT (iteT q)⟩
  | tup h => exact ⟨_, rfl, _, _, _, _, false, rfl, ClsV.ty _, TyX.base (.tup h), kit_ty (by decide +kernel), _, rfl, iteT (iteT q)⟩
  | str z =>
    have hlen : z.length ≤ sizeLine := ofNat_le (hz z rfl)
    refine ⟨_, rfl, _, _, _, _, true, rfl, ClsV.ty _, TyX.base (.str z), kit_ty (by decide +kernel), _, rfl, iteF ?_⟩
    refine ⟨_, rfl, z, rfl, hlen, 1, (z.length : Int), rfl, rfl, _, rfl, ?_⟩
    by_cases c1 : 1 ≤ (z.length : Int)
    · refine ifT c1 ⟨_, 8, rfl, rfl, _, rfl, ?_⟩
      by_cases c2 : (z.length : Int) ≤ 8
      · have e1 : decide (1 ≤ (z.length : Int) ∧ (z.length : Int) ≤ 8) = true := decide_eq_true ⟨c1, c2⟩
        rw [decide_eq_true c2]
        refine iteF ?_
        obtain ⟨c, r, ez⟩ : ∃ c r, z.cps.toList = c :: r := by
          cases e : z.cps.toList with
          | nil =>
            have : z.length = 0 := by
              show z.cps.size = 0
              rw [← Array.length_toList, e]
              rfl
            omega
          | cons c r => exact ⟨c, r, rfl⟩
        refine ⟨_, rfl, .inr (.inr ⟨z, 0, c, rfl, rfl, hlen, by rw [ez]; exact atI_nat (j := 0) rfl, c, lowS, rfl, rfl, _, rfl, ?_⟩)⟩
        by_cases c3 : c ∈ lowS.cps.toList
        · rw [decide_eq_true c3]
          refine iteF ?_
          refine ⟨_, rfl, z, rfl, fun D nD => ?_⟩
          have s1 := same_upd (o := .lst []) nD
          refine L2.lc_it walk_str (fun i H1 => Same H H1 ∧ H1 D = some (.lst (((z.cps.toList.take i).map nmc).map V.bl))) ⟨s1, by rw [upd_same]; rfl⟩ (fun _ _ _ _ => True.intro) ?_ ?_
          · rintro i x H1 H2 hi ⟨s2, hD⟩ ⟨rfl, d, hd, rfl⟩
            have hd' : z.cps.toList[i]? = some d := by simpa using hd
            have hacc : (((z.cps.toList.take i).map nmc).map V.bl).length < sizeLine := ofNat_lt (by
              rw [List.length_map, List.length_map, List.length_take]
              have : z.cps.toList.length = z.length := by simp; rfl
              have := hz z rfl
              omega)
            have fin : ∀ b : Bool, b = nmc d → ∃ acc, H2 D = some (.lst acc) ∧ acc.length < sizeLine ∧ Same H (upd H2 D (.lst (acc ++ [.bl b]))) ∧ upd H2 D (.lst (acc ++ [.bl b])) D = some (.lst (((z.cps.toList.take (i + 1)).map nmc).map V.bl)) := fun b eb => by
              refine ⟨_, hD, hacc, same_at s2 nD, ?_⟩
              rw [upd_same, List.take_add_one, hd', List.map_append, List.map_append, eb]
              rfl
            refine ⟨rfl, ?_⟩
            refine ⟨_, rfl, d, lowS, rfl, rfl, _, rfl, ?_⟩
            by_cases c4 : d ∈ lowS.cps.toList
            · rw [decide_eq_true c4]
              refine iteT (fin true ?_)
              unfold nmc
              rw [decide_eq_true c4]
              rfl
            · rw [decide_eq_false c4]
              refine iteF ⟨_, rfl, d, figS, rfl, rfl, ?_⟩
              refine fin _ ?_
              unfold nmc
              rw [decide_eq_false c4]
              rfl
          · rintro H1 ⟨s2, hD⟩
            have e2 : z.cps.toList.take z.cps.size = z.cps.toList := List.take_of_length_le (by simp)
            rw [e2] at hD
            refine ⟨D, _, rfl, SqL.of hD, ?_⟩
            have q2 := q0 H1 s2
            have e3 : isN (.str z) = (z.cps.toList.map nmc).all id := by
              unfold isN
              dsimp only
              rw [e1]
              have e4 : (match z.cps.toList with | c :: _ => decide (c ∈ lowS.cps.toList) | [] => false) = true := by
                rw [ez]
                exact decide_eq_true c3
              rw [e4, List.all_map]
              rfl
            rw [e3] at q2
            exact q2
        · rw [decide_eq_false c3]
          refine iteT ?_
          have e3 : isN (.str z) = false := by
            unfold isN
            dsimp only
            have e4 : (match z.cps.toList with | c :: _ => decide (c ∈ lowS.cps.toList) | [] => false) = false := by
              rw [ez]
              exact decide_eq_false c3
            rw [e4, Bool.and_false, Bool.false_and]
          rw [e3] at q
          exact q
      · rw [decide_eq_false c2]
        have e3 : isN (.str z) = false := by
          unfold isN
          dsimp only
          rw [decide_eq_false (show ¬ (1 ≤ (z.length : Int) ∧ (z.length : Int) ≤ 8) from fun h => c2 h.2)]
          rfl
        rw [e3] at q
        exact iteT q
    · refine ifF c1 ?_
      have e3 : isN (.str z) = false := by
        unfold isN
        dsimp only
        rw [decide_eq_false (show ¬ (1 ≤ (z.length : Int) ∧ (z.length : Int) ≤ 8) from fun h => c1 h.1)]
        rfl
      rw [e3] at q
      exact ⟨_, rfl, iteT q⟩
end
end Yj
set_option Elab.async false
set_option linter.all false
set_option maxRecDepth 100000
set_option maxHeartbeats 4000000
set_option pp.maxSteps 1500
namespace Yj
open PySem PySem.Spec PyProof.Rows L2 RZ
/-! ### the law's draws -/
theorem ints_lay : ∀ ns : List Int, PyData.canLayAll0 (ns.map PyData.int) = true ∧ PyData.depthAll (ns.map PyData.int) = 0
  | [] => ⟨rfl, rfl⟩
  | n :: r => by
    obtain ⟨h1, h2⟩ := ints_lay r
    refine ⟨?_, ?_⟩
    · show (true && PyData.canLayAll0 (r.map PyData.int)) = true
      rw [h1]
      rfl
    · show max 0 (PyData.depthAll (r.map PyData.int)) = 0
      rw [h2]
      rfl
theorem ints_shaped (ns : List Int) : SeqAt.shaped (.list (ns.map PyData.int)) = true := (shaped_of (n := 0) (ints_lay ns).1 (Nat.le_of_eq (ints_lay ns).2) (by decide)).2
theorem ints_dp {K : PySem.W.Frag} {H : Hp} : ∀ ns : List Int, DpAll K H (ns.map V.int) (ns.map PyData.int)
  | [] => .nil
  | n :: r => .cons (.int n) (ints_dp r)
/-- all but what is at d is as it was -/
def Keep (d : Addr) (H H' : Hp) : Prop := ∀ b o, b ≠ d → H b = some o → H' b = some o
theorem Keep.trans {d : Addr} {H H1 H2 : Hp} (a : Keep d H H1) (b : Keep d H1 H2) : Keep d H H2 := fun c o n h => b c o n (a c o n h)
theorem keepOf {d : Addr} {H H' : Hp} (s : Same H H') : Keep d H H' := fun b o _ h => s b o h
theorem Keep.refl (d : Addr) (H : Hp) : Keep d H H := fun _ _ _ h => h
/-- the draw at d over the script at a -/
def Draw (K : PySem.W.Frag) (H : Hp) (d a : Addr) (ns : List Int) : Prop := (∃ c, H d = some (.lst [.ref a, .int c])) ∧ SqL K H a (ns.map V.int) ∧ ns.length ≤ 63
theorem Draw.script {K : PySem.W.Frag} {H H' : Hp} {d a : Addr} {ns : List Int} (h : Draw K H d a ns) (k : Keep d H H') : SqL K H' a (ns.map V.int) := by
  obtain ⟨⟨c, hd⟩, hs, _⟩ := h
  rcases hs with (h | ⟨o, h⟩) | h
  · by_cases e : a = d
    · rw [e, hd] at h
      exfalso
      have z := HO.lst.inj (Option.some.inj h)
      cases ns with
      | nil => cases z
      | cons n r => exact nomatch (List.cons.inj z).1
    · exact .inl (.inl (k _ _ e h))
  · by_cases e : a = d
    · rw [e, hd] at h
      cases h
    · exact .inl (.inr ⟨o, k _ _ e h⟩)
  · exact .inr h
theorem Draw.keep {K : PySem.W.Frag} {H H' : Hp} {d a : Addr} {ns : List Int} {c : Int} (h : Draw K H d a ns) (k : Keep d H H') (e : H' d = some (.lst [.ref a, .int c])) : Draw K H' d a ns := ⟨⟨c, e⟩, h.script k, h.2.2⟩
theorem Draw.same {K : PySem.W.Frag} {H H' : Hp} {d a : Addr} {ns : List Int} (h : Draw K H d a ns) (s : Same H H') : Draw K H' d a ns := by
  obtain ⟨c, e⟩ := h.1
  exact h.keep (keepOf s) (s _ _ e)
theorem Pr.keep {H H' : Hp} {d : Addr} {v : V} {p : Int × Int} {ys : List V} (hd : H d = some (.lst ys)) (k : Keep d H H') (h : Pr H v p) : Pr H' v p := by
  obtain ⟨t, e, h⟩ := h
  refine ⟨t, e, k _ _ (fun z => ?_) h⟩
  rw [z, hd] at h
  cases h
theorem Prs.keep {H H' : Hp} {d : Addr} {ys : List V} (hd : H d = some (.lst ys)) (k : Keep d H H') : ∀ {vs : List V} {l : Sps}, Prs H vs l → Prs H' vs l
  | _, _, .nil => .nil
  | _, _, .cons h t => .cons (h.keep hd k) (t.keep hd k)
/-- behind a draw -/
def Drawn' (K : PySem.W.Frag) (H H' : Hp) (d a : Addr) (ns : List Int) : Prop := Draw K H' d a ns ∧ Keep d H H'
theorem fmod_at {ns : List Int} (c : Int) (h : ns ≠ []) : ∃ n : Int, ∃ k : Nat, c.fmod ((ns.map V.int).length : Nat) = (k : Int) ∧ ns[k]? = some n := by
  have h0 : 0 < ns.length := List.length_pos_iff.mpr h
  have e0 : c.fmod ((ns.length : Nat) : Int) = c % ((ns.length : Nat) : Int) := Int.fmod_eq_emod_of_nonneg _ (by omega)
  have h1 : 0 ≤ c % ((ns.length : Nat) : Int) := Int.emod_nonneg _ (by omega)
  have h2 : c % ((ns.length : Nat) : Int) < (ns.length : Nat) := Int.emod_lt_of_pos _ (by omega)
  refine ⟨ns[(c % ((ns.length : Nat) : Int)).toNat]'(by omega), (c % ((ns.length : Nat) : Int)).toNat, ?_, List.getElem?_eq_getElem _⟩
  rw [List.length_map, e0]
  omega
theorem nzA : (2147483647 : Int) ≠ 0 := by decide
theorem nzB : (2147483629 : Int) ≠ 0 := by decide
theorem nzC : (2147483587 : Int) ≠ 0 := by decide
theorem nzE : (10 : Int) ^ (18 : Int).toNat ≠ 0 := by decide
end Yj
set_option Elab.async false
set_option linter.all false
set_option maxRecDepth 100000
set_option maxHeartbeats 4000000
set_option pp.maxSteps 1500
namespace Yj
open PySem PySem.Spec PyProof.Rows L2 RZ
section
variable {P : Program} {w : World} {K : PySem.W.Frag} {mg : Str → Option Value} {base : Heap} {ad : Nat → Addr} {fds : Nat → FuncData} {cs : Nat → Value}
def spNumber (K : PySem.W.Frag) : Sp := fun vs H Q _ => ∃ (a : Addr) (ns : List Int) (c : Int), vs = [.ref a, .int c] ∧ SqL K H a (ns.map V.int) ∧ ns.length ≤ 63 ∧ ∀ n H', Same H H' → Q (.int n) H'
theorem ok__law_number (T : Txt K mg ad fds cs) : FnOk P w K mg base CX0 1 (ad 48) (fds 48) ["script", "index"] (spNumber K) := by
  refine T.F__law_number.ok sc__law_number (fun vs H Q E h => ?_) (fun cdv A outer s H vs Q E hr h => ?_)
  · obtain ⟨a, ns, c, rfl, _⟩ := h
    rfl
  obtain ⟨a, ns, c, rfl, hS, hz, q⟩ := h
  refine ⟨_, (pss_cons (ps_if (pt_cmpR (op_eqD hr.units) (pv 0) (pe_lst pa_nil) (nomark _)) (pss_one (ps_ret (pe_callTy call_int1 (by rfl) T.z_int (by decide +kernel) (pa_cons (pe_op op_modN (pe_op op_add (pe_op op_mul (pv 1) pe_int) pe_int) pe_int) pa_nil)))) pss_nil)
      (pss_cons (ps_set (i := 2) sc__law_number.nd rfl (by first | exact .inl rfl | exact .inr rfl) (pe_ix ix_seq (pv 0) (pe_op op_modN (pv 1) (pe_callB call_len_seq (by rfl) T.z_len (by decide +kernel) (pa_cons (pv 0) pa_nil))) (fun _ _ => rfl)))
      (pss_cons (ps_if (pt_cmpR op_ge (pe_callB call_abs (by rfl) T.z_abs (by decide +kernel) (pa_cons (pv 2) pa_nil)) (pe_op op_pow pe_int pe_int) (nomark _)) (pss_one (ps_set (i := 2) sc__law_number.nd rfl (by first | exact .inl rfl | exact .inr rfl) (pe_op op_modN (pv 2) (pe_op op_pow pe_int pe_int)))) pss_nil)
      (pss_cons (ps_set (i := 3) sc__law_number.nd rfl (by first | exact .inl rfl | exact .inr rfl) (pe_op op_modN (pe_op op_add (pe_op op_mul (pe_op op_add (pv 2) (pe_op op_mul pe_int (pv 1))) pe_int) (pe_op op_mul pe_int (pe_callB call_len_seq (by rfl) T.z_len (by decide +kernel) (pa_cons (pv 0) pa_nil)))) pe_int))
      (pss_one (ps_ret (pe_callTy call_int1 (by rfl) T.z_int (by decide +kernel) (pa_cons (pe_op op_modN (pe_op op_add (pe_op op_mul (pe_op op_modN (pe_op op_mul (pv 3) pe_int) pe_int) pe_int) (pv 1)) pe_int) pa_nil)))))))), ?_⟩
  refine ⟨_, rfl, Nat.zero_le _, fun u nu => ?_⟩
  have s1 := same_upd (o := .lst []) nu
  have hS1 := s1.seq hS
  refine ⟨.list (ns.map PyData.int), .list [], .lst hS1 (ints_dp ns), .lst (SqL.of upd_same) .nil, ints_shaped ns, ints_shaped [], _, rfl, ?_⟩
  by_cases e : ns = []
  · subst e
    refine iteT ?_
    exact ⟨_, rfl, _, _, rfl, rfl, .inr ⟨by decide, by decide⟩, _, _, rfl, rfl, _, _, rfl, rfl, nzA, .inl ⟨_, rfl, q _ _ s1⟩⟩
  · have e1 : PyData.eqv (.list (ns.map PyData.int)) (.list []) = false := by
      cases ns with
      | nil => exact absurd rfl e
      | cons n r => rfl
    rw [e1]
    refine iteF ?_
    obtain ⟨n, k, ek, hn⟩ := fmod_at c e
    have h0 : 0 < ns.length := List.length_pos_iff.mpr e
    refine ⟨_, rfl, _, rfl, _, rfl, a, _, rfl, .inl hS1, _, _, rfl, rfl, ?_, .inl ⟨a, _, _, .int n, rfl, rfl, hS1, ?_, ?_⟩⟩
    · rw [List.length_map]
      omega
    · show atI (ns.map V.int) (c.fmod ((ns.map V.int).length : Nat)) = _
      rw [ek]
      refine atI_nat ?_
      rw [List.getElem?_map, hn]
      rfl
    · -- what follows the test, whatever the cell is then
      refine ⟨_, rfl, n, rfl, 10, 60, rfl, rfl, ⟨by decide, by decide, by decide⟩, _, _, rfl, rfl, _, rfl, ?_⟩
      by_cases hc : (if n < 0 then -n else n) ≥ (10 : Int) ^ (60 : Int).toNat
      case' pos =>
        refine ifT hc ?_
        refine ⟨_, rfl, 10, 18, rfl, rfl, ⟨by decide, by decide, by decide⟩, _, _, rfl, rfl, nzE, ?_⟩
        generalize n.fmod ((10 : Int) ^ (18 : Int).toNat) = n
      case' neg => refine ifF hc ?_
      all_goals
        refine ⟨_, rfl, _, rfl, _, _, rfl, rfl, .inl ⟨by decide, by decide⟩, _, _, rfl, rfl, _, _, rfl, rfl, .inr ⟨by decide, by decide⟩, _, rfl, a, _, rfl, .inl hS1, _, _, rfl, rfl, .inl ⟨by decide, by decide⟩, _, _, rfl, rfl, _, _, rfl, rfl, nzA, ?_⟩
        exact ⟨_, rfl, _, _, rfl, rfl, .inr ⟨by decide, by decide⟩, _, _, rfl, rfl, nzB, _, _, rfl, rfl, .inr ⟨by decide, by decide⟩, _, rfl, _, _, rfl, rfl, _, _, rfl, rfl, nzC, .inl ⟨_, rfl, q _ _ s1⟩⟩
end
end Yj
set_option Elab.async false
set_option linter.all false
set_option maxRecDepth 100000
set_option maxHeartbeats 4000000
set_option pp.maxSteps 1500
namespace Yj
open PySem PySem.Spec PyProof.Rows L2 RZ
section
variable {P : Program} {w : World} {K : PySem.W.Frag} {mg : Str → Option Value} {base : Heap} {ad : Nat → Addr} {fds : Nat → FuncData} {cs : Nat → Value}
/-! ### _law_take, _law_pick, _law_day -/
def spTake (K : PySem.W.Frag) : Sp := fun vs H Q _ => ∃ (d a : Addr) (ns : List Int) (m : Int), vs = [.ref d, .int m] ∧ Draw K H d a ns ∧ 0 < m ∧ ∀ r H', 0 ≤ r → r < m → Drawn' K H H' d a ns → Q (.int r) H'
theorem ok__law_take (T : Txt K mg ad fds cs) : FnOk P w K mg base CX0 2 (ad 49) (fds 49) ["draw", "many"] (spTake K) := by
  refine T.F__law_take.ok sc__law_take (fun vs H Q E h => ?_) (fun cdv A outer s H vs Q E hr h => ?_)
  · obtain ⟨d, a, ns, m, rfl, _⟩ := h
    rfl
  obtain ⟨d, a, ns, m, rfl, hD, hm, q⟩ := h
  refine ⟨_, (pss_cons (ps_augS (pv 0) pe_int pget_list pe_int ip_add set_list)
      (pss_one (ps_ret (pe_op op_modN (pe_callTy call_int1 (by rfl) T.z_int (by decide +kernel) (pa_cons (pe_call (ok__law_number T) (hr.mono (by decide)) rfl T.g__law_number T.F__law_number.kp (bi__law_number T) .nil pass0 (pa_cons (pe_ix ix_seq (pv 0) pe_int (fun _ _ => rfl)) (pa_cons (pe_callTy call_int1 (by rfl) T.z_int (by decide +kernel) (pa_cons (pe_ix ix_seq (pv 0) pe_int (fun _ _ => rfl)) pa_nil)) pa_nil))) pa_nil)) (pv 1))))), ?_⟩
  obtain ⟨c, hd⟩ := hD.1
  have k1 : Keep d H (upd H d (.lst [.ref a, .int (c + 1)])) := fun b o n e => (upd_ne n).trans e
  have hD1 : Draw K (upd H d (.lst [.ref a, .int (c + 1)])) d a ns := hD.keep k1 upd_same
  refine ⟨_, rfl, d, _, 1, .int c, rfl, rfl, SqL.of hd, rfl, c, 1, rfl, rfl, d, _, 1, 1, rfl, rfl, hd, rfl, ?_⟩
  show _
  refine ⟨_, rfl, .inl ⟨d, _, 0, .ref a, rfl, rfl, SqL.of upd_same, atI_nat (j := 0) rfl, ?_⟩⟩
  refine ⟨_, rfl, .inl ⟨d, _, 1, .int (c + 1), rfl, rfl, SqL.of upd_same, atI_nat (j := 1) rfl, .inl ⟨_, rfl, ?_⟩⟩⟩
  refine ⟨a, ns, c + 1, rfl, hD1.2.1, hD1.2.2, fun n H' s1 => .inl ⟨_, rfl, _, rfl, _, _, rfl, rfl, (by omega : m ≠ 0), ?_⟩⟩
  have e0 : n.fmod m = n % m := Int.fmod_eq_emod_of_nonneg _ (by omega)
  refine q _ H' ?_ ?_ ⟨hD1.same s1, k1.trans (keepOf s1)⟩
  · show 0 ≤ n.fmod m
    rw [e0]
    exact Int.emod_nonneg _ (by omega)
  · show n.fmod m < m
    rw [e0]
    exact Int.emod_lt_of_pos _ hm
end
end Yj
set_option Elab.async false
set_option linter.all false
set_option maxRecDepth 100000
set_option maxHeartbeats 4000000
set_option pp.maxSteps 1500
namespace Yj
open PySem PySem.Spec PyProof.Rows L2 RZ
section
variable {P : Program} {w : World} {K : PySem.W.Frag} {mg : Str → Option Value} {base : Heap} {ad : Nat → Addr} {fds : Nat → FuncData} {cs : Nat → Value}
def spPick (K : PySem.W.Frag) : Sp := fun vs H Q _ => ∃ (d a b : Addr) (ns : List Int) (xs : List V), vs = [.ref d, .ref b] ∧ Draw K H d a ns ∧ b ≠ d ∧ H b = some (.lst xs) ∧ xs ≠ [] ∧ ∀ x H', x ∈ xs → Drawn' K H H' d a ns → Q x H'
theorem ok__law_pick (T : Txt K mg ad fds cs) : FnOk P w K mg base CX0 3 (ad 50) (fds 50) ["draw", "items"] (spPick K) := by
  refine T.F__law_pick.ok sc__law_pick (fun vs H Q E h => ?_) (fun cdv A outer s H vs Q E hr h => ?_)
  · obtain ⟨d, a, b, ns, xs, rfl, _⟩ := h
    rfl
  obtain ⟨d, a, b, ns, xs, rfl, hD, hbd, hb, hx, q⟩ := h
  refine ⟨_, (pss_one (ps_ret (pe_ix ix_seq (pv 1) (pe_call (ok__law_take T) (hr.mono (by decide)) rfl T.g__law_take T.F__law_take.kp (bi__law_take T) .nil pass0 (pa_cons (pv 0) (pa_cons (pe_callB call_len_seq (by rfl) T.z_len (by decide +kernel) (pa_cons (pv 1) pa_nil)) pa_nil))) (fun _ _ => rfl)))), ?_⟩
  have h0 : 0 < xs.length := List.length_pos_iff.mpr hx
  refine ⟨_, rfl, _, rfl, _, rfl, b, xs, rfl, .inl (SqL.of hb), ?_⟩
  refine ⟨d, a, ns, _, rfl, hD, by omega, fun r H' r0 r1 z => ?_⟩
  obtain ⟨k, hk⟩ : ∃ k : Nat, r = (k : Int) := ⟨r.toNat, by omega⟩
  subst hk
  have hkl : k < xs.length := by omega
  exact .inl ⟨b, xs, _, _, rfl, rfl, SqL.of (z.2 _ _ hbd hb), atI_nat (List.getElem?_eq_getElem hkl), q _ _ (List.getElem_mem _) z⟩
end
end Yj
set_option Elab.async false
set_option linter.all false
set_option maxRecDepth 100000
set_option maxHeartbeats 4000000
set_option pp.maxSteps 1500
namespace Yj
open PySem PySem.Spec PyProof.Rows L2 RZ YjD
/-! ### relations -/
abbrev Rel := List (Str × Int)
def relK (rel : Rel) : List (L2.Key × V) := rel.map fun p => (Sum.inr p.1, V.int p.2)
def relAt (rel : Rel) (r : Str) : Option Int := (rel.find? fun p => decide (p.1 = r)).map (·.2)
theorem relK_val (rel : Rel) (r : Str) : valV (relK rel) (Sum.inr r : L2.Key) = (relAt rel r).map V.int := by
  induction rel with
  | nil => rfl
  | cons p x ih =>
    by_cases e : p.1 = r
    · have e1 : valV (relK (p :: x)) (Sum.inr r : L2.Key) = some (V.int p.2) := valV_pos (congrArg Sum.inr e)
      have e2 : relAt (p :: x) r = some p.2 := by simp [relAt, List.find?_cons, e]
      rw [e1, e2]
      rfl
    · have e1 : valV (relK (p :: x)) (Sum.inr r : L2.Key) = valV (relK x) (Sum.inr r : L2.Key) := valV_neg fun z => e (Sum.inr.inj z)
      have e2 : relAt (p :: x) r = relAt x r := by simp [relAt, List.find?_cons, e]
      rw [e1, e2, ih]
def okR (p : Str × Int) : Bool := isN (.str p.1) && decide (1 ≤ p.2 ∧ p.2 ≤ 4)
def ShortR (rel : Rel) : Prop := rel.length ≤ 50 ∧ ∀ p ∈ rel, p.1.length ≤ 1000000
/-- srt is rel, its names ascending -/
def Sorts (rel srt : Rel) : Prop := (∀ ys : List Str, ys.Perm (rel.map (·.1)) → sortedS ys = true → ys = srt.map (·.1)) ∧ (srt.map (·.1)).Nodup ∧ srt.length = rel.length ∧ ∀ p ∈ srt, relAt rel p.1 = some p.2
section
variable {P : Program} {w : World} {K : PySem.W.Frag} {mg : Str → Option Value} {base : Heap} {ad : Nat → Addr} {fds : Nat → FuncData} {cs : Nat → Value}
/-! ### checked_relations -/
theorem dget_frz {H : Hp} {dr : Addr} {od : Obj} {rel : Rel} {r : Str} {m : Int} (e : H dr = some (.frz od (.dK (relK rel)))) (hm : relAt rel r = some m) : DGet H dr (.str r) (some (.int m)) := by
  refine .inl ⟨relK rel, Sum.inr r, .inr ⟨od, e⟩, rfl, ?_⟩
  rw [relK_val, hm]
  rfl
theorem relAt_get {rel : Rel} (n : (rel.map (·.1)).Nodup) : ∀ {i : Nat} {p : Str × Int}, rel[i]? = some p → relAt rel p.1 = some p.2 := by
  induction rel with
  | nil =>
    intro i p h
    cases h
  | cons q x ih =>
    obtain ⟨n1, n2⟩ := List.nodup_cons.mp n
    intro i p h
    cases i with
    | zero =>
      obtain rfl : q = p := Option.some.inj h
      simp [relAt, List.find?_cons]
    | succ i =>
      have h : x[i]? = some p := h
      have ne : q.1 ≠ p.1 := fun z => n1 (List.mem_map.mpr ⟨p, List.mem_of_getElem? h, z.symm⟩)
      have e : relAt (q :: x) p.1 = relAt x p.1 := by simp [relAt, List.find?_cons, ne]
      rw [e]
      exact ih n2 h
theorem relK_get {rel : Rel} {i : Nat} {k : L2.Key} {v : V} (h : (relK rel)[i]? = some (k, v)) : ∃ p, rel[i]? = some p ∧ k = Sum.inr p.1 ∧ v = .int p.2 := by
  unfold relK at h
  rw [List.getElem?_map] at h
  cases e : rel[i]? with
  | none =>
    rw [e] at h
    cases h
  | some p =>
    rw [e] at h
    have h := Option.some.inj h
    exact ⟨p, rfl, (congrArg Prod.fst h).symm, (congrArg Prod.snd h).symm⟩
theorem relK_put {rel : Rel} {p : Str × Int} (n : p.1 ∉ rel.map (·.1)) : putK (relK rel) (Sum.inr p.1 : L2.Key) (.int p.2) = relK (rel ++ [p]) := by
  have z : valV (relK rel) (Sum.inr p.1 : L2.Key) = none := by
    rw [relK_val]
    have e : relAt rel p.1 = none := by
      unfold relAt
      rw [List.find?_eq_none.mpr fun q hq => ?_]
      · rfl
      · intro c
        exact n (List.mem_map.mpr ⟨q, hq, of_decide_eq_true c⟩)
    rw [e]
    rfl
  rw [putK_new _ z]
  unfold relK
  rw [List.map_append]
  rfl
def spChecked0 : Sp := fun vs H Q _ => ∃ dr rel, vs = [.ref dr] ∧ H dr = some (.dK (relK rel)) ∧ ShortR rel ∧ (rel.map (·.1)).Nodup ∧
  rel.all okR = true ∧ ∃ srt, Sorts rel srt ∧ ∀ H' p, Same H H' → H p = none → H' p = some (.dK (relK srt)) → Q (.ref p) H'
theorem ok_checked_relations (T : Txt K mg ad fds cs) : FnOk P w K mg base CX0 2 (ad 16) (fds 16) ["relations"] spChecked0 := by
  refine T.F_checked_relations.ok sc_checked_relations (fun vs H Q E h => ?_) (fun cdv A outer s H vs Q E hr h => ?_)
  · obtain ⟨dr, rel, rfl, _⟩ := h
    rfl
  obtain ⟨dr, rel, rfl, hdr, hs, hnd, h⟩ := h
  have hu := hu_of hr
  refine ⟨_, (pss_cons (ps_lock (ps_for PassesOwn.never rfl (pi_keys (pv 0)) (pg_name (i := 1) sc_checked_relations.nd rfl (by first | exact .inl rfl | exact .inr rfl))
      (pss_cons (ps_set (i := 2) sc_checked_relations.nd rfl (by first | exact .inl rfl | exact .inr rfl) (pe_dget (hu_of hr) (pv 0) (pv 1) (fun _ _ => rfl)))
      (pss_one (ps_if (PW.pt (pw_or (pt_not (pt_val (pe_call (ok_is_name T) (hr.mono (by decide)) rfl T.g_is_name T.F_is_name.kp (bi_is_name T) .nil pass0 (pa_cons (pv 1) pa_nil)))) (pw_or (pt_not (pt_val (pe_call (ok_is_integer T) (hr.mono (by decide)) rfl T.g_is_integer T.F_is_integer.kp (bi_is_integer T) .nil pass0 (pa_cons (pv 2) pa_nil)))) (pw_or1 (pt_not (pt_chain op_le op_le pe_int (pv 2) (pe_glob rfl T.c_MOST_NAMES T.r_MOST_NAMES))))))) (pss_one YjE.ps_skip) pss_nil)))))
      (pss_one (ps_ret (pe_dc (own := [("name", 1)]) rfl sc_checked_relations.nd (pi_list (pe_callB (call_sortedD rfl) (by rfl) T.z_sorted (by decide +kernel) (pa_cons (pv 0) pa_nil))) (blkOk_by (N := N_checked_relations) (sc := defScope s_checked_relations) (own := [("name", 1)]) (by decide +kernel)) (fun _ _ _ _ _ => by exact (pg_name (i := 1) sc_checked_relations.nd rfl (.inl rfl))) (fun _ _ _ _ _ => by exact pts_nil) (fun _ _ _ _ _ => by exact (pv 1)) (fun _ _ _ _ _ => by exact (pe_dget (hu_of hr) (pv 0) (pv 1) (fun _ _ => rfl))))))), ?_⟩
  refine ⟨dr, _, hdr, True.intro, fun od => ?_⟩
  have kl : (relK rel).length = rel.length := List.length_map ..
  refine ⟨_, rfl, dr, od, rfl, .inl ⟨relK rel, upd_same, ?_⟩⟩
  have start : Keep dr H (upd H dr (.frz od (.dK (relK rel)))) := fun b o n e => (upd_ne n).trans e
  obtain ⟨hok, srt, hsrt, q⟩ := h
  · refine for_it walk_keys (fun i σ H1 => ∃ (y1 y2 : Option V), σ = [some (.ref dr), y1, y2] ∧ Keep dr H H1 ∧ H1 dr = some (.frz od (.dK (relK rel)))) ⟨none, none, rfl, start, upd_same⟩ (fun i σ H1 _ ⟨_, _, _, _, e⟩ => e) ?_ ?_
    · rintro i x σ H1 H1' hi ⟨y1, y2, rfl, k1, e1⟩ ⟨rfl, k, v, hk, rfl⟩
      obtain ⟨p, hp, rfl, rfl⟩ := relK_get hk
      obtain ⟨o1, o2⟩ : isN (.str p.1) = true ∧ (1 ≤ p.2 ∧ p.2 ≤ 4) := by
        have z := List.all_eq_true.mp hok p (List.mem_of_getElem? hp)
        unfold okR at z
        rw [Bool.and_eq_true, decide_eq_true_eq] at z
        exact z
      refine ⟨_, rfl, _, rfl, dr, _, rfl, dget_frz e1 (relAt_get hnd hp), ?_⟩
      refine ⟨_, rfl, .str p.1, rfl, .str _, (fun z e => by cases e; exact hs.2 p (List.mem_of_getElem? hp)), fun H2 s2 => ⟨_, rfl, ?_⟩⟩
      rw [o1]
      refine iteF ⟨_, rfl, .int p.2, rfl, .int _, _, rfl, iteF ?_⟩
      refine ⟨_, rfl, 1, p.2, rfl, rfl, _, rfl, ?_⟩
      refine ifT o2.1 ⟨p.2, 4, rfl, rfl, _, rfl, ?_⟩
      rw [decide_eq_true o2.2]
      exact iteF ⟨_, _, rfl, k1.trans (keepOf s2), s2 _ _ e1⟩
    · rintro σ H1 ⟨y1, y2, rfl, k1, e1⟩
      refine ⟨e1, ?_⟩
      have same : Same H (upd H1 dr (.dK (relK rel))) := fun c o e => by
        by_cases z : c = dr
        · rw [z, upd_same, ← hdr, ← e, z]
        · rw [upd_ne z]
          exact k1 c o z e
      have hdr2 : upd H1 dr (.dK (relK rel)) dr = some (.dK (relK rel)) := upd_same
      generalize upd H1 dr (.dK (relK rel)) = H2 at same hdr2
      refine ⟨_, rfl, dr, relK rel, rel.map (·.1), rfl, .inl hdr2, ?_, by rw [List.length_map]; have := hs.1; omega, fun ys t hperm hsort nt => ?_⟩
      · unfold relK
        rw [List.map_map, List.map_map]
        rfl
      obtain ⟨s1, s2, s3, s4⟩ := hsrt
      have eys := s1 ys hperm hsort
      subst eys
      have t1 := same_upd (o := .lst ((srt.map (·.1)).map V.str)) nt
      have ht : upd H2 t (.lst ((srt.map (·.1)).map V.str)) t = some (.lst ((srt.map (·.1)).map V.str)) := upd_same
      have hdr3 := t1 _ _ hdr2
      have same3 := same.trans t1
      generalize upd H2 t (.lst ((srt.map (·.1)).map V.str)) = H3 at ht hdr3 same3
      refine ⟨t, rfl, ⟨_, SqL.of ht⟩, fun D nD => ?_⟩
      have nl : ((srt.map (·.1)).map V.str).length = srt.length := by rw [List.length_map, List.length_map]
      refine dc_it (walk_list (K := K) (a := t) (xs := (srt.map (·.1)).map V.str)) (fun i H4 => Same H3 H4 ∧ H4 D = some (.dK (relK (srt.take i)))) ⟨same_upd nD, upd_same⟩ (fun i H4 _ h => SqL.of (h.1 _ _ ht)) ?_ ?_
      · rintro i x H4 H4' hi ⟨u1, u2⟩ ⟨rfl, hx⟩
        obtain ⟨p, hp, rfl⟩ : ∃ p, srt[i]? = some p ∧ x = .str p.1 := by
          rw [List.getElem?_map, List.getElem?_map] at hx
          cases e : srt[i]? with
          | none =>
            rw [e] at hx
            cases hx
          | some p =>
            rw [e] at hx
            exact ⟨p, rfl, (Option.some.inj hx).symm⟩
        have g : DGet H4' dr (.str p.1) (some (.int p.2)) := by
          have z := DGet.k (k := (Sum.inr p.1 : L2.Key)) (u1 _ _ hdr3)
          rw [relK_val, s4 p (List.mem_of_getElem? hp)] at z
          exact z
        refine ⟨rfl, _, rfl, _, rfl, _, rfl, dr, _, rfl, g, relK (srt.take i), Sum.inr p.1, rfl, u2, ofNat_lt ?_, same_at u1 nD, ?_⟩
        · unfold relK
          rw [List.length_map, List.length_take]
          have := hs.1
          omega
        · rw [upd_same, relK_put, List.take_add_one, hp]
          · rfl
          · intro z
            rw [List.map_take] at z
            obtain ⟨j, hj, ej⟩ := List.mem_take_iff_getElem.mp z
            have lt : i < (srt.map (·.1)).length := by
              rw [List.length_map]
              exact (List.getElem?_eq_some_iff.mp hp).1
            have e1 : (srt.map (·.1))[i]? = some p.1 := by
              rw [List.getElem?_map, hp]
              rfl
            have e2 : (srt.map (·.1))[i]'lt = p.1 := (List.getElem?_eq_some_iff.mp e1).2
            exact List.pairwise_iff_getElem.mp s2 j i (by omega) lt (by omega) (ej.trans e2.symm)
      · rintro H4 ⟨u1, u2⟩
        rw [nl, List.take_length] at u2
        exact q H4 D (same3.trans u1) (same3.free nD) u2
end
def relL : Rel := [("works", 1), ("lives", 2)]
def relS : Rel := [("lives", 2), ("works", 1)]
theorem sorts_two {a b : Str} {x y : Int} {rel : Rel} (hn : (rel.map (·.1)).Perm [a, b]) (ne : a ≠ b) (h1 : sortedS [b, a] = false) (hl : rel.length = 2) (ha : relAt rel a = some x) (hb : relAt rel b = some y) : Sorts rel [(a, x), (b, y)] := by
  refine ⟨fun ys hp hs => ?_, ?_, hl.symm, ?_⟩
  · have p := hp.trans hn
    have l := p.length_eq
    obtain ⟨u, v, rfl⟩ : ∃ u v, ys = [u, v] := by
      match ys, l with
      | [u, v], _ => exact ⟨u, v, rfl⟩
    have mu : u ∈ [a, b] := p.subset (List.mem_cons_self ..)
    have nd : [u, v].Nodup := p.symm.nodup (List.nodup_cons.mpr ⟨fun z => ne (List.mem_singleton.mp z), List.nodup_cons.mpr ⟨List.not_mem_nil, List.nodup_nil⟩⟩)
    have mv : v ∈ [a, b] := p.subset (List.mem_cons_of_mem _ (List.mem_cons_self ..))
    have nuv : u ≠ v := fun z => (List.nodup_cons.mp nd).1 (List.mem_singleton.mpr z)
    rcases List.mem_cons.mp mu with e1 | e1 <;> rcases List.mem_cons.mp mv with e2 | e2
    · exact absurd (e1.trans e2.symm) nuv
    · rw [e1, List.mem_singleton.mp e2]
      rfl
    · rw [List.mem_singleton.mp e1, e2, h1] at hs
      cases hs
    · exact absurd ((List.mem_singleton.mp e1).trans (List.mem_singleton.mp e2).symm) nuv
  · exact List.nodup_cons.mpr ⟨fun z => ne (List.mem_singleton.mp z), List.nodup_cons.mpr ⟨List.not_mem_nil, List.nodup_nil⟩⟩
  · intro p hp
    rcases List.mem_cons.mp hp with e | e
    · rw [e]
      exact ha
    · rw [List.mem_singleton.mp e]
      exact hb
theorem lw_ne : ("lives" : Str) ≠ "works" := by decide +kernel
theorem lw_sorted : sortedS [("works" : Str), "lives"] = false := by decide +kernel
theorem relL_sorts : Sorts relL relS := sorts_two (List.Perm.swap _ _ _) lw_ne lw_sorted rfl (by decide +kernel) (by decide +kernel)
theorem relL_short : ShortR relL := ⟨by decide, by decide +kernel⟩
theorem relL_nodup : (relL.map (·.1)).Nodup := by decide +kernel
theorem relL_ok : relL.all okR = true := by decide +kernel
theorem strs_dp {K : PySem.W.Frag} {H : Hp} : ∀ ns : List Str, DpAll K H (ns.map V.str) (ns.map PyData.str)
  | [] => .nil
  | n :: r => .cons (.str n) (strs_dp r)
def spRels : Sp := fun vs H Q _ => vs = [] ∧ ∀ p H', Same H H' → H p = none → H' p = some (.dK (relK relL)) → Q (.ref p) H'
section
variable {P : Program} {w : World} {K : PySem.W.Frag} {mg : Str → Option Value} {base : Heap} {ad : Nat → Addr} {fds : Nat → FuncData} {cs : Nat → Value}
theorem ok__law_relations (T : Txt K mg ad fds cs) : FnOk P w K mg base CX0 1 (ad 51) (fds 51) [] spRels := by
  refine T.F__law_relations.ok sc__law_relations (fun vs H Q E h => ?_) (fun cdv A outer s H vs Q E hr h => ?_)
  · obtain ⟨rfl, _⟩ := h
    rfl
  obtain ⟨rfl, q⟩ := h
  refine ⟨_, (pss_one (ps_ret (pe_disp (pps_cons pe_str pe_int (pps_cons pe_str pe_int pps_nil)) rfl rfl (by decide) (by decide)))), ?_⟩
  intro p np
  refine ⟨upd_same, relK relL, rfl, (by decide), ?_⟩
  refine q p _ (same_at (same_upd np) np) np ?_
  rw [upd_same]
  have e1 : putK ([] : List (L2.Key × V)) (Sum.inr "works") (.int 1) = relK [("works", 1)] := relK_put (rel := []) (p := ("works", 1)) (by decide +kernel)
  have e2 : putK (relK [("works", 1)]) (Sum.inr "lives" : L2.Key) (.int 2) = relK relL := relK_put (rel := [("works", 1)]) (p := ("lives", 2)) (by decide +kernel)
  have e : mergeK ([] : List (L2.Key × V)) (relK relL) = putK (putK ([] : List (L2.Key × V)) (Sum.inr "works" : L2.Key) (.int 1)) (Sum.inr "lives" : L2.Key) (.int 2) := rfl
  rw [e, e1, e2]
end
end Yj
set_option Elab.async false
set_option linter.all false
set_option maxRecDepth 100000
set_option maxHeartbeats 4000000
set_option pp.maxSteps 1500
namespace Yj
open PySem PySem.Spec PyProof.Rows L2 RZ
/-! ### a def that may raise, where nothing is handled -/
theorem Fun.okN {P : Program} {w : World} {K : PySem.W.Frag} {mg : Str → Option Value} {base : Heap} {x qual : Str} {st : Stmt} {f : Addr} {fd : FuncData} {N ps : List Str} {k : Nat} {sp : Sp} (F : Fun K x qual st f fd) (S : FnScope N ps (defScope st)) (len : ∀ vs H Q E, sp vs H Q E → vs.length = ps.length)
    (hbody : ∀ (cdv : Value) (A : Around) (outer : List Env) (s : Shared) (H : Hp) (vs : List V) (Q : VK) (E : XK), Room k (A.deeper (envOfC qual (defScope st) s.heap.objs.size f cdv)) → sp vs H Q E →
      ∃ t, PSs (cxOf (L2N.CX P w) P w K mg base N qual (defScope st) f cdv A outer s H E) (defBody st) t ∧ t { nx := fun _ H' => Q .non H', rt := Q } (start N vs) H) : FnOk P w K mg base (L2N.CX P w) (k + 1) f fd ps sp := by
  obtain ⟨oc, od, kV, doc, pm, an, cdv, ct, osl, rfl, lk, hcd⟩ := F.ex
  exact fn_of lk hcd S len fun A outer s H vs Q E hr hsp => by
    exact hbody cdv A outer s H vs Q E hr hsp
theorem Pl.mono {H H' : Hp} {x : V} (s : Same H H') (h : Pl H x) : Pl H' x := by
  cases h with
  | non => exact .non
  | bl b => exact .bl b
  | int i => exact .int i
  | str x => exact .str x
  | lst h => exact .lst (s _ _ h)
  | tup h => exact .tup (s _ _ h)
end Yj
set_option Elab.async false
set_option linter.all false
set_option maxRecDepth 100000
set_option maxHeartbeats 4000000
set_option pp.maxSteps 1500
namespace Yj
open PySem PySem.Spec PyProof.Rows L2 RZ TL
/-! ### letters and their lines: the texts -/
abbrev Ltr := Str × Str
def numS (n : Nat) : Str := Str.ofString (toString ((n : Nat) : Int))
def wordsE (n : Nat) (e : Ltr) : List Str := [numS n, "letter", e.1, e.2, numS n]
def lineE (n : Nat) (e : Ltr) : Str := Txt.join " " (wordsE n e)
def lineF (n : Nat) (e : Ltr) : Str := lineE n e ++ ("\n" : Str)
def linesF : Nat → List Ltr → List Str
  | _, [] => []
  | k, e :: r => lineF k e :: linesF (k + 1) r
def linesE : Nat → List Ltr → List Str
  | _, [] => []
  | k, e :: r => lineE k e :: linesE (k + 1) r
def codesF (k : Nat) (es : List Ltr) : List Nat := ((linesF k es).map tl).flatten
def recvL : List Str := ["bob", "cora"]
def nmL : List Str := (["a", "b", "c"] : List Str).flatMap fun c => (List.range 40).map fun t => c ++ numS t
def GoodL (e : Ltr) : Prop := e.1 ∈ recvL ∧ e.2 ∈ nmL
def figN : List Nat := [48, 49, 50, 51, 52, 53, 54, 55, 56, 57]
theorem nm_ok : ∀ z ∈ nmL, z.length ≤ 8 ∧ 1 ≤ z.length ∧ 32 ∉ tl z ∧ 10 ∉ tl z ∧ 44 ∉ tl z := by decide +kernel
theorem recv_ok : ∀ z ∈ recvL, z.length ≤ 8 ∧ 32 ∉ tl z ∧ 10 ∉ tl z := by decide +kernel
theorem num_ok : ∀ n ∈ List.range 41, (numS n).length ≤ 6 ∧ 1 ≤ (numS n).length ∧ (∀ c ∈ tl (numS n), c ∈ figN) ∧ ((tl (numS n)).head? = some 48 → numS n = ("0" : Str)) ∧ 32 ∉ tl (numS n) ∧ 10 ∉ tl (numS n) := by decide +kernel
theorem nm_mem {c : Str} {t : Nat} (hc : c ∈ (["a", "b", "c"] : List Str)) (ht : t < 40) : c ++ numS t ∈ nmL := List.mem_flatMap.mpr ⟨c, hc, List.mem_map.mpr ⟨t, List.mem_range.mpr ht, rfl⟩⟩
theorem word_free {n : Nat} {e : Ltr} (hn : n < 41) (g : GoodL e) : ∀ p ∈ wordsE n e, 32 ∉ tl p ∧ 10 ∉ tl p ∧ p.length ≤ 8 := by
  have a := num_ok n (List.mem_range.mpr hn)
  have b := recv_ok _ g.1
  have c := nm_ok _ g.2
  have d : 32 ∉ tl ("letter" : Str) ∧ 10 ∉ tl ("letter" : Str) ∧ ("letter" : Str).length ≤ 8 := by decide +kernel
  intro p hp
  simp only [wordsE, List.mem_cons, List.mem_nil_iff, or_false] at hp
  rcases hp with rfl | rfl | rfl | rfl | rfl
  · exact ⟨a.2.2.2.2.1, a.2.2.2.2.2, by omega⟩
  · exact d
  · exact ⟨b.2.1, b.2.2, b.1⟩
  · exact ⟨c.2.2.1, c.2.2.2.1, c.1⟩
  · exact ⟨a.2.2.2.2.1, a.2.2.2.2.2, by omega⟩
theorem tl_blank : tl (" " : Str) = [32] := by decide +kernel
theorem tl_feed : tl ("\n" : Str) = [10] := by decide +kernel
theorem tl_line (n : Nat) (e : Ltr) : tl (lineE n e) = joinL [32] ((wordsE n e).map tl) := by
  unfold lineE
  rw [join_eq, tl_join, tl_blank]
theorem line_words {n : Nat} {e : Ltr} (hn : n < 41) (g : GoodL e) : Txt.split (lineE n e) " " = wordsE n e :=
  split_join (s := 32) (S := []) tl_blank (by decide +kernel) (by simp [wordsE]) fun p hp => (word_free hn g p hp).1
theorem joinL_free {s : Nat} {S : List Nat} : ∀ {ps : List (List Nat)}, s ∉ S → (∀ p ∈ ps, s ∉ p) → s ∉ joinL S ps
  | [], _, _ => fun h => nomatch h
  | [p], _, hp => hp p (List.mem_singleton.mpr rfl)
  | p :: q :: r, hS, hp => by
    show s ∉ p ++ (S ++ joinL S (q :: r))
    intro h
    rcases List.mem_append.mp h with h | h
    · exact hp p (List.mem_cons_self ..) h
    · rcases List.mem_append.mp h with h | h
      · exact hS h
      · exact joinL_free hS (fun x hx => hp x (List.mem_cons_of_mem _ hx)) h
theorem joinL_len : ∀ (ps : List (List Nat)), (∀ p ∈ ps, p.length ≤ 8) → (joinL [32] ps).length ≤ 9 * ps.length
  | [], _ => Nat.zero_le _
  | [p], hp => by
    have := hp p (List.mem_singleton.mpr rfl)
    show p.length ≤ 9
    omega
  | p :: q :: r, hp => by
    have a := hp p (List.mem_cons_self ..)
    have b := joinL_len (q :: r) fun x hx => hp x (List.mem_cons_of_mem _ hx)
    show (p ++ ([32] ++ joinL [32] (q :: r))).length ≤ 9 * (p :: q :: r).length
    rw [List.length_append, List.length_append, List.length_cons (a := p)]
    have e : [32].length = 1 := rfl
    omega
theorem line_free {n : Nat} {e : Ltr} (hn : n < 41) (g : GoodL e) : 10 ∉ tl (lineE n e) := by
  rw [tl_line]
  refine joinL_free (by decide) fun p hp => ?_
  obtain ⟨z, hz, rfl⟩ := List.mem_map.mp hp
  exact (word_free hn g z hz).2.1
theorem line_len {n : Nat} {e : Ltr} (hn : n < 41) (g : GoodL e) : (lineE n e).length ≤ 45 := by
  rw [len_tl, tl_line]
  refine joinL_len _ fun p hp => ?_
  obtain ⟨z, hz, rfl⟩ := List.mem_map.mp hp
  rw [← len_tl]
  exact (word_free hn g z hz).2.2
theorem lineF_tl (n : Nat) (e : Ltr) : tl (lineF n e) = tl (lineE n e) ++ [10] := by
  unfold lineF
  rw [tl_append, tl_feed]
theorem codes_nil (k : Nat) : codesF k [] = [] := rfl
theorem codes_cons (k : Nat) (e : Ltr) (r : List Ltr) : codesF k (e :: r) = tl (lineE k e) ++ [10] ++ codesF (k + 1) r := by
  unfold codesF
  show (tl (lineF k e) :: (linesF (k + 1) r).map tl).flatten = _
  rw [List.flatten_cons, lineF_tl]
theorem codes_append : ∀ (a b : List Ltr) (k : Nat), codesF k (a ++ b) = codesF k a ++ codesF (k + a.length) b
  | [], b, k => rfl
  | e :: a, b, k => by
    rw [List.cons_append, codes_cons, codes_cons, codes_append a b (k + 1), List.length_cons, List.append_assoc, List.append_assoc, List.append_assoc, show k + 1 + a.length = k + (a.length + 1) by omega]
theorem codes_len : ∀ (es : List Ltr) (k : Nat), (∀ e ∈ es, GoodL e) → k + es.length ≤ 41 → (codesF k es).length ≤ 46 * es.length
  | [], k, _, _ => Nat.zero_le _
  | e :: r, k, g, h => by
    rw [List.length_cons] at h
    have a := line_len (n := k) (by omega) (g e (List.mem_cons_self ..))
    have b := codes_len r (k + 1) (fun x hx => g x (List.mem_cons_of_mem _ hx)) (by omega)
    rw [len_tl] at a
    simp only [codes_cons, List.length_append, List.length_cons, List.length_nil]
    omega
/-- what a cut leaves: whole lines, and a beginning of one -/
theorem codes_cut : ∀ (es : List Ltr) (k c : Nat), (∀ e ∈ es, GoodL e) → k + es.length ≤ 41 → ∃ m rest, m ≤ es.length ∧ 10 ∉ rest ∧ (codesF k es).take c = codesF k (es.take m) ++ rest
  | [], k, c, _, _ => ⟨0, [], Nat.le_refl _, (fun h => nomatch h), by rw [codes_nil, List.take_nil]; rfl⟩
  | e :: r, k, c, g, h => by
    rw [List.length_cons] at h
    by_cases lt : c ≤ (tl (lineE k e)).length
    · refine ⟨0, (tl (lineE k e)).take c, Nat.zero_le _, fun z => ?_, ?_⟩
      · exact line_free (by omega) (g e (List.mem_cons_self ..)) (List.mem_of_mem_take z)
      · rw [codes_cons, List.append_assoc, List.take_append_of_le_length lt]
        rfl
    · obtain ⟨m, rest, h1, h2, h3⟩ := codes_cut r (k + 1) (c - ((tl (lineE k e)).length + 1)) (fun x hx => g x (List.mem_cons_of_mem _ hx)) (by omega)
      refine ⟨m + 1, rest, by rw [List.length_cons]; omega, h2, ?_⟩
      rw [codes_cons, List.take_succ_cons, codes_cons, List.append_assoc (tl (lineE k e) ++ [10]), ← h3]
      have e1 : (tl (lineE k e) ++ [10]).length = (tl (lineE k e)).length + 1 := by simp
      rw [← e1, List.take_append, List.take_of_length_le (by omega)]
theorem lines_join : ∀ (es : List Ltr) (k : Nat) (rest : List Nat), joinL [10] ((linesE k es).map tl ++ [rest]) = codesF k es ++ rest
  | [], k, rest => rfl
  | e :: r, k, rest => by
    have ih := lines_join r (k + 1) rest
    rw [codes_cons, List.append_assoc, ← ih]
    show joinL [10] (tl (lineE k e) :: ((linesE (k + 1) r).map tl ++ [rest])) = _
    cases e1 : (linesE (k + 1) r).map tl ++ [rest] with
    | nil => exact absurd e1 (by simp)
    | cons p q =>
      show tl (lineE k e) ++ ([10] ++ joinL [10] (p :: q)) = _
      rw [List.append_assoc]
theorem linesE_free : ∀ (es : List Ltr) (k : Nat), (∀ e ∈ es, GoodL e) → k + es.length ≤ 41 → ∀ p ∈ linesE k es, 10 ∉ tl p
  | [], _, _, _ => fun p hp => nomatch hp
  | e :: r, k, g, h => fun p hp => by
    rw [List.length_cons] at h
    rcases List.mem_cons.mp hp with z | z
    · rw [z]
      exact line_free (by omega) (g e (List.mem_cons_self ..))
    · exact linesE_free r (k + 1) (fun x hx => g x (List.mem_cons_of_mem _ hx)) (by omega) p z
theorem text_lines {z : Str} {es : List Ltr} {rest : List Nat} (h : tl z = codesF 0 es ++ rest) (g : ∀ e ∈ es, GoodL e) (hn : es.length ≤ 41) (hr : 10 ∉ rest) : Txt.split z "\n" = linesE 0 es ++ [⟨rest.toArray⟩] := by
  have tr : tl (⟨rest.toArray⟩ : Str) = rest := by simp [tl]
  have e : z = Txt.join "\n" (linesE 0 es ++ [⟨rest.toArray⟩]) := by
    have t : tl z = tl (Txt.join "\n" (linesE 0 es ++ [⟨rest.toArray⟩])) := by
      rw [join_eq, tl_join, tl_feed, List.map_append, h]
      show _ = joinL [10] ((linesE 0 es).map tl ++ [tl ⟨rest.toArray⟩])
      rw [tr, lines_join]
    rw [← mk_tl z, t, mk_tl]
  rw [e]
  refine split_join (s := 10) (S := []) tl_feed (by decide +kernel) (by simp) fun p hp => ?_
  rcases List.mem_append.mp hp with z | z
  · exact linesE_free es 0 g (by omega) p z
  · rw [List.mem_singleton.mp z, tr]
    exact hr
theorem linesE_get : ∀ (es : List Ltr) (k i : Nat), (linesE k es)[i]? = es[i]?.map (lineE (k + i))
  | [], k, i => rfl
  | e :: r, k, 0 => rfl
  | e :: r, k, i + 1 => by
    show (linesE (k + 1) r)[i]? = _
    rw [linesE_get r (k + 1) i, show k + 1 + i = k + (i + 1) by omega]
    rfl
theorem linesE_len : ∀ (es : List Ltr) (k : Nat), (linesE k es).length = es.length
  | [], _ => rfl
  | _ :: r, k => congrArg (· + 1) (linesE_len r (k + 1))
theorem linesF_get : ∀ (es : List Ltr) (k i : Nat), (linesF k es)[i]? = es[i]?.map (lineF (k + i))
  | [], k, i => rfl
  | e :: r, k, 0 => rfl
  | e :: r, k, i + 1 => by
    show (linesF (k + 1) r)[i]? = _
    rw [linesF_get r (k + 1) i, show k + 1 + i = k + (i + 1) by omega]
    rfl
theorem linesF_len : ∀ (es : List Ltr) (k : Nat), (linesF k es).length = es.length
  | [], _ => rfl
  | _ :: r, k => congrArg (· + 1) (linesF_len r (k + 1))
theorem tl_glue : ∀ parts : List Str, tl (Txt.join "" parts) = (parts.map tl).flatten := by
  intro parts
  rw [join_eq, tl_join, show tl ("" : Str) = [] from rfl]
  induction parts with
  | nil => rfl
  | cons x r ih =>
    cases r with
    | nil => simp [joinL]
    | cons y r =>
      show tl x ++ ([] ++ joinL [] ((y :: r).map tl)) = _
      rw [ih]
      rfl
/-- the names of a receiver's letters -/
def ltrsOf (es : List Ltr) (r : Str) : List Str := (es.filter fun e => decide (e.1 = r)).map (·.2)
theorem ltrs_append (a b : List Ltr) (r : Str) : ltrsOf (a ++ b) r = ltrsOf a r ++ ltrsOf b r := by
  unfold ltrsOf
  rw [List.filter_append, List.map_append]
theorem ltrs_len (es : List Ltr) (r : Str) : (ltrsOf es r).length ≤ es.length := by
  unfold ltrsOf
  rw [List.length_map]
  exact List.length_filter_le ..
theorem ltrs_take (es : List Ltr) (r : Str) {i j : Nat} (h : i ≤ j) : ltrsOf (es.take i) r <+: ltrsOf (es.take j) r := by
  have e : es.take j = es.take i ++ (es.take j).drop i := by
    rw [show es.take i = (es.take j).take i by rw [List.take_take, Nat.min_eq_left h], List.take_append_drop]
  rw [e, ltrs_append]
  exact List.prefix_append ..
theorem ltrs_one (e : Ltr) (r : Str) : ltrsOf [e] r = if e.1 = r then [e.2] else [] := by
  unfold ltrsOf
  rw [List.filter_cons]
  by_cases c : e.1 = r
  · rw [if_pos (decide_eq_true c), if_pos c]
    rfl
  · rw [if_neg (by rw [decide_eq_false c]; exact Bool.false_ne_true), if_neg c]
    rfl
theorem ltrs_good {es : List Ltr} (g : ∀ e ∈ es, GoodL e) (r : Str) : ∀ z ∈ ltrsOf es r, z ∈ nmL := fun z hz => by
  obtain ⟨e, he, rfl⟩ := List.mem_map.mp hz
  exact (g e (List.mem_filter.mp he).1).2
theorem ltrs_none {es : List Ltr} (g : ∀ e ∈ es, GoodL e) {r : Str} (h : r ∉ recvL) : ltrsOf es r = [] := by
  unfold ltrsOf
  rw [List.filter_eq_nil_iff.mpr fun e he z => h (by rw [← of_decide_eq_true z]; exact (g e he).1)]
  rfl
end Yj
set_option Elab.async false
set_option linter.all false
set_option maxRecDepth 100000
set_option maxHeartbeats 4000000
set_option pp.maxSteps 1500
namespace Yj
open PySem PySem.Spec PyProof.Rows L2 RZ TL
/-! ### words of lines, entries -/
/-- a row of one name -/
def NmAt (H : Hp) (v : V) (z : Str) : Prop := ∃ a, v = .ref a ∧ H a = some (.tup [.str z])
/-- a letter's entry -/
def LtrAt (H : Hp) (v : V) (e : Ltr) : Prop := ∃ t n, v = .ref t ∧ H t = some (.tup [.str "letter", .str e.1, .ref n]) ∧ H n = some (.tup [.str e.2])
def TupsE (H H' : Hp) : Prop := ∀ b xs, H b = some (.tup xs) → H' b = some (.tup xs)
theorem tupsOf {H H' : Hp} (s : Same H H') : TupsE H H' := fun b xs e => s _ _ e
theorem TupsE.trans {H H1 H2 : Hp} (a : TupsE H H1) (b : TupsE H1 H2) : TupsE H H2 := fun c xs e => b _ _ (a _ _ e)
theorem NmAt.tups {H H' : Hp} (s : TupsE H H') {v : V} {z : Str} (h : NmAt H v z) : NmAt H' v z := by
  obtain ⟨a, e, h⟩ := h
  exact ⟨a, e, s _ _ h⟩
theorem LtrAt.tups {H H' : Hp} (s : TupsE H H') {v : V} {e : Ltr} (h : LtrAt H v e) : LtrAt H' v e := by
  obtain ⟨t, n, q, h1, h2⟩ := h
  exact ⟨t, n, q, s _ _ h1, s _ _ h2⟩
abbrev LtrsAt (H : Hp) : List V → List Ltr → Prop := Paired fun v e => LtrAt H v e
abbrev NmsAt (H : Hp) : List V → List Str → Prop := Paired fun v z => NmAt H v z
theorem LtrsAt.tups {H H' : Hp} (s : TupsE H H') {us : List V} {es : List Ltr} (h : LtrsAt H us es) : LtrsAt H' us es := Paired.mapP h fun _ _ a => a.tups s
theorem NmsAt.tups {H H' : Hp} (s : TupsE H H') {us : List V} {es : List Str} (h : NmsAt H us es) : NmsAt H' us es := Paired.mapP h fun _ _ a => a.tups s
theorem nm_isN : ∀ z ∈ nmL, isN (.str z) = true := by decide +kernel
theorem recv_isN : ∀ z ∈ recvL, isN (.str z) = true := by decide +kernel
theorem nm_short {z : Str} (h : z ∈ nmL) : z.length ≤ 1000000 := by have := (nm_ok z h).1; omega
theorem recv_short {z : Str} (h : z ∈ recvL) : z.length ≤ 1000000 := by have := (recv_ok z h).1; omega
theorem ifNeE {x y : V} (h : x = y) {A B : Prop} (hb : B) : if (!decide (x = y)) = true then A else B := by
  rw [decide_eq_true h]
  exact iteF hb
def spNumBy : Sp := fun vs H Q _ => ∃ n : Nat, vs = [.str (numS n)] ∧ n < 41 ∧ ∀ H', Same H H' → Q (.int (n : Nat)) H'
def spNamesWord : Sp := fun vs H Q _ => ∃ a z, vs = [.ref a] ∧ H a = some (.tup [.str z]) ∧ z.length ≤ 8 ∧ Q (.str z) H
def spNamesBy : Sp := fun vs H Q _ => ∃ z, vs = [.str z] ∧ z ∈ nmL ∧ ∀ H' p, Same H H' → H p = none → H' p = some (.tup [.str z]) → Q (.ref p) H'
def spLtrNames : Sp := fun vs H Q _ => ∃ a z, vs = [.ref a] ∧ H a = some (.tup [.str z]) ∧ z ∈ nmL ∧ ∀ H', Same H H' → Q (.bl true) H'
def spIsEntry : Sp := fun vs H Q _ => ∃ r v e, vs = [r, v] ∧ LtrAt H v e ∧ GoodL e ∧ ∀ H', Same H H' → Q (.bl true) H'
def spEntryLine : Sp := fun vs H Q _ => ∃ n : Nat, ∃ v e, vs = [.int n, v] ∧ n < 41 ∧ LtrAt H v e ∧ GoodL e ∧ ∀ H', Same H H' → Q (.str (lineE n e)) H'
def spEntryOf : Sp := fun vs H Q _ => ∃ L e, vs = [.ref L] ∧ H L = some (.lst [.str "letter", .str e.1, .str e.2]) ∧ GoodL e ∧ ∀ H' v, Same H H' → LtrAt H' v e → Q v H'
def spEntryBy : Sp := fun vs H Q _ => ∃ n : Nat, ∃ r e, vs = [r, .int n, .str (lineE n e)] ∧ n < 41 ∧ GoodL e ∧ ∀ H' v, Same H H' → LtrAt H' v e → Q v H'
section
variable {P : Program} {w : World} {K : PySem.W.Frag} {mg : Str → Option Value} {base : Heap} {ad : Nat → Addr} {fds : Nat → FuncData} {cs : Nat → Value}
theorem ok_number_by (T : Txt K mg ad fds cs) : FnOk P w K mg base CX0 1 (ad 28) (fds 28) ["word"] spNumBy := by
  refine T.F_number_by.ok sc_number_by (fun vs H Q E h => ?_) (fun cdv A outer s H vs Q E hr h => ?_)
  · obtain ⟨n, rfl, _⟩ := h
    rfl
  obtain ⟨n, rfl, hn, q⟩ := h
  obtain ⟨h1, h2, h3, h4, _⟩ := num_ok n (List.mem_range.mpr hn)
  have eint : intText? (numS n) = some (n : Int) := int_num (n := n) (by have := len_tl (numS n); rw [show tl (numS n) = numL n from tl_num n] at this; omega)
  refine ⟨_, (pss_cons (ps_if (PW.pt (pw_or (pt_not (pt_chain op_le op_le pe_int (pe_callB call_len_str (by rfl) T.z_len (by decide +kernel) (pa_cons (pv 0) pa_nil)) (pe_glob rfl T.c_MOST_FIGURES T.r_MOST_FIGURES))) (pw_or1 (pt_not (pt_val (pe_callB (cr_all rfl) (by rfl) T.z_all (by decide +kernel) (pa_cons (pe_lc (own := [("sign", 1)]) rfl sc_number_by.nd (pi_str (pv 0)) (blkOk_by (N := N_number_by) (sc := defScope s_number_by) (own := [("sign", 1)]) (by decide +kernel)) (fun _ _ _ _ _ => by exact (pg_name (i := 1) sc_number_by.nd rfl (.inl rfl))) (fun _ _ _ _ _ => by exact pts_nil) (fun _ _ _ _ _ => by exact (pe_cmpR op_in_sign (pv 1) (pe_glob rfl T.c_FIGURES T.r_FIGURES) (by rfl)))) pa_nil))))))) (pss_one (ps_ret pe_non)) pss_nil)
      (pss_cons (ps_if (PW.pt (pw_and (pt_cmpR op_eq (pe_ix ix_seq (pv 0) pe_int (fun _ _ => rfl)) pe_str (nomark _)) (pw_and1 (pt_cmpR op_ne (pv 0) pe_str (nomark _))))) (pss_one (ps_ret pe_non)) pss_nil)
      (pss_one (ps_ret (pe_callTy call_int_str (by rfl) T.z_int (by decide +kernel) (pa_cons (pv 0) pa_nil)))))), ?_⟩
  generalize numS n = z at h1 h2 h3 h4 eint
  have hlen : z.length ≤ sizeLine := ofNat_le (by omega)
  refine ⟨_, rfl, z, rfl, hlen, 1, (z.length : Int), rfl, rfl, _, rfl, ?_⟩
  refine ifT (by omega) ⟨_, 6, rfl, rfl, _, rfl, ?_⟩
  rw [decide_eq_true (show (z.length : Int) ≤ 6 by omega)]
  refine iteF ⟨_, rfl, z, rfl, fun D nD => ?_⟩
  refine L2.lc_it walk_str (fun i H1 => Same H H1 ∧ H1 D = some (.lst ((List.replicate i true).map V.bl)) ∧ i ≤ 6) ⟨same_upd nD, by rw [upd_same]; rfl, by omega⟩ (fun _ _ _ _ => True.intro) ?_ ?_
  · rintro i x H1 H2 hi ⟨s2, hD, _⟩ ⟨rfl, c, hc, rfl⟩
    have hi6 : i < 6 := Nat.lt_of_lt_of_le hi h1
    have mem : c ∈ figN := h3 c (List.mem_of_getElem? (by simpa [tl] using hc))
    have figs : figS.cps.toList = figN := by decide +kernel
    refine ⟨rfl, _, rfl, c, figS, rfl, rfl, _, hD, ofNat_lt (by rw [List.length_map, List.length_replicate]; omega), same_at s2 nD, ?_, by omega⟩
    rw [upd_same, figs, decide_eq_true mem, List.replicate_succ', List.map_append]
    rfl
  · rintro H1 ⟨s2, hD, _⟩
    refine ⟨D, _, rfl, SqL.of hD, _, rfl, ?_⟩
    have e : ((List.replicate z.cps.size true).all id) = true := by simp
    rw [e]
    refine iteF ?_
    obtain ⟨c, r, ez⟩ : ∃ c r, z.cps.toList = c :: r := by
      cases e : z.cps.toList with
      | nil =>
        have : z.length = 0 := by
          show z.cps.size = 0
          rw [← Array.length_toList, e]
          rfl
        omega
      | cons c r => exact ⟨c, r, rfl⟩
    refine ⟨_, rfl, .inr (.inr ⟨z, 0, c, rfl, rfl, hlen, by rw [ez]; exact atI_nat (j := 0) rfl, rfl, _, rfl, ?_⟩)⟩
    have last : ∃ a m, ([V.str z] : List V) = [.str a] ∧ intText? a = some m ∧ a.length ≤ 640 ∧ Q (.int m) H1 := ⟨z, _, rfl, eint, by omega, q H1 s2⟩
    by_cases k : (V.str ⟨#[c]⟩) = V.str "0"
    · rw [decide_eq_true k]
      have ec : c = 48 := by
        have e1 := V.str.inj k
        have e2 := congrArg (fun z : Str => z.cps.toList) e1
        have e3 : ("0" : Str).cps.toList = [48] := by decide +kernel
        rw [e3] at e2
        exact (List.cons.inj e2).1
      have e0 : z = ("0" : Str) := h4 (by rw [show tl z = z.cps.toList from rfl, ez, ec]; rfl)
      refine iteT ⟨_, rfl, rfl, _, rfl, ?_⟩
      rw [show decide (V.str z = V.str "0") = true from decide_eq_true (by rw [e0])]
      exact iteF ⟨_, rfl, last⟩
    · rw [decide_eq_false k]
      exact iteF (iteF ⟨_, rfl, last⟩)
theorem ok_names_word (T : Txt K mg ad fds cs) : FnOk P w K mg base CX0 1 (ad 29) (fds 29) ["names"] spNamesWord := by
  refine T.F_names_word.ok sc_names_word (fun vs H Q E h => ?_) (fun cdv A outer s H vs Q E hr h => ?_)
  · obtain ⟨a, z, rfl, _⟩ := h
    rfl
  obtain ⟨a, z, rfl, ha, hz, q⟩ := h
  refine ⟨_, (pss_one (ps_ret (pe_join pe_str (pv 0)))), ?_⟩
  refine ⟨⟨_, rfl⟩, _, rfl, _, a, [z], rfl, rfl, .inr (SqT.of ha), ?_, ?_⟩
  · show z.length + 0 + 1 * _ ≤ 16777216
    have e : ("," : Str).length = 1 := by decide +kernel
    rw [e]
    omega
  · have e : Txt.join "," [z] = z := by
      rw [join_eq]
      rfl
    rw [e]
    exact q
theorem ok_names_by (T : Txt K mg ad fds cs) : FnOk P w K mg base CX0 2 (ad 30) (fds 30) ["word"] spNamesBy := by
  refine T.F_names_by.ok sc_names_by (fun vs H Q E h => ?_) (fun cdv A outer s H vs Q E hr h => ?_)
  · obtain ⟨z, rfl, _⟩ := h
    rfl
  obtain ⟨z, rfl, hz, q⟩ := h
  obtain ⟨h1, h2, h3, h4, h5⟩ := nm_ok z hz
  refine ⟨_, (pss_cons (ps_set (i := 1) sc_names_by.nd rfl (by first | exact .inl rfl | exact .inr rfl) (pe_callTy call_tuple_of (by rfl) T.z_tuple (by decide +kernel) (pa_cons (pe_split (pv 0) pe_str) pa_nil)))
      (pss_one (ps_ret (pe_ifExp (pt_val (pe_callB (cr_all rfl) (by rfl) T.z_all (by decide +kernel) (pa_cons (pe_lc (own := [("name", 2)]) rfl sc_names_by.nd (pi_tup (pv 1)) (blkOk_by (N := N_names_by) (sc := defScope s_names_by) (own := [("name", 2)]) (by decide +kernel)) (fun _ _ _ _ _ => by exact (pg_name (i := 2) sc_names_by.nd rfl (.inl rfl))) (fun _ _ _ _ _ => by exact pts_nil) (fun _ _ _ _ _ => by exact (pe_call (ok_is_name (P := P) (w := w) T) (hr.mono (by decide)) rfl T.g_is_name T.F_is_name.kp (bi_is_name T) .nil pass0 (pa_cons (pv 2) pa_nil)))) pa_nil))) (pv 1) pe_non)))), ?_⟩
  have hlen : z.length + 2 ≤ sizeLine := ofNat_le (by omega)
  have e1 : Txt.split z "," = [z] := by
    have e := split_join (y := ",") (s := 44) (S := []) (by decide +kernel) (by decide +kernel) (parts := [z]) (by simp) fun p hp => by
      rw [List.mem_singleton.mp hp]
      exact h5
    rw [join_eq] at e
    exact e
  refine ⟨_, rfl, ⟨_, rfl⟩, z, ",", rfl, rfl, by decide +kernel, hlen, fun p hp => ?_⟩
  rw [e1]
  have s1 := same_upd (o := .lst ([z].map V.str)) hp
  refine ⟨p, _, rfl, .inl ⟨SqL.of upd_same, fun t nt => ?_⟩⟩
  have s2 := s1.trans (same_upd (o := .tup ([z].map V.str)) nt)
  have ht : upd (upd H p (.lst ([z].map V.str))) t (.tup ([z].map V.str)) t = some (.tup [.str z]) := upd_same
  have nt0 : H t = none := s1.free nt
  generalize upd (upd H p (.lst ([z].map V.str))) t (.tup ([z].map V.str)) = H2 at s2 ht
  clear s1 nt
  refine ⟨_, rfl, t, rfl, ⟨_, SqT.of ht⟩, fun D nD => ?_⟩
  refine lc_tup (xs := [V.str z]) (fun i H3 => Same H2 H3 ∧ H3 D = some (.lst ((List.replicate i true).map V.bl))) ⟨same_upd nD, upd_same⟩ (fun i H3 _ h => SqT.of (h.1 _ _ ht)) ?_ ?_
  · rintro i x H3 hx ⟨s3, hD⟩
    have i0 : i = 0 := by
      have := (List.getElem?_eq_some_iff.mp hx).1
      simp at this
      exact this
    subst i0
    obtain rfl : V.str z = x := Option.some.inj hx
    refine ⟨rfl, _, rfl, _, rfl, .str z, (fun y e => by cases e; exact nm_short hz), fun H4 s4 => ⟨_, s4 _ _ hD, by decide +kernel, same_at (s3.trans s4) nD, ?_⟩⟩
    rw [upd_same, nm_isN z hz]
    rfl
  · rintro H3 ⟨s3, hD⟩
    exact ⟨D, [true], rfl, SqL.of hD, _, rfl, iteT ⟨_, rfl, q H3 t (s2.trans s3) nt0 (s3 _ _ ht)⟩⟩
theorem ok__are_letter_names (T : Txt K mg ad fds cs) : FnOk P w K mg base CX0 2 (ad 38) (fds 38) ["thing"] spLtrNames := by
  refine T.F__are_letter_names.ok sc__are_letter_names (fun vs H Q E h => ?_) (fun cdv A outer s H vs Q E hr h => ?_)
  · obtain ⟨a, z, rfl, _⟩ := h
    rfl
  obtain ⟨a, z, rfl, ha, hz, q⟩ := h
  refine ⟨_, (pss_cons (ps_if (PW.pt (pw_or (pt_not (pt_val (pe_callB call_isi (by rfl) T.z_isinstance (by decide +kernel) (pa_cons (pv 0) (pa_cons (pe_bltn (v := .ty "tuple") (u := .type "tuple") (by rfl) T.z_tuple (by decide +kernel) rfl) pa_nil))))) (pw_or1 (pt_not (pt_chain op_le op_le pe_int (pe_callB call_len_seq (by rfl) T.z_len (by decide +kernel) (pa_cons (pv 0) pa_nil)) (pe_glob rfl T.c_MOST_IN_LETTER T.r_MOST_IN_LETTER)))))) (pss_one (ps_ret pe_bl)) pss_nil)
      (pss_one (ps_ret (pe_callB (cr_all rfl) (by rfl) T.z_all (by decide +kernel) (pa_cons (pe_lc (own := [("name", 1)]) rfl sc__are_letter_names.nd (pi_tup (pv 0)) (blkOk_by (N := N__are_letter_names) (sc := defScope s__are_letter_names) (own := [("name", 1)]) (by decide +kernel)) (fun _ _ _ _ _ => by exact (pg_name (i := 1) sc__are_letter_names.nd rfl (.inl rfl))) (fun _ _ _ _ _ => by exact pts_nil) (fun _ _ _ _ _ => by exact (pe_call (ok_is_name (P := P) (w := w) T) (hr.mono (by decide)) rfl T.g_is_name T.F_is_name.kp (bi_is_name T) .nil pass0 (pa_cons (pv 1) pa_nil)))) pa_nil))))), ?_⟩
  refine ⟨_, rfl, _, _, _, _, true, rfl, ClsV.ty _, TyX.base (.tup ha), kit_ty (by decide +kernel), _, rfl, iteF ?_⟩
  refine ⟨_, rfl, a, _, rfl, .inr (SqT.of ha), 1, 1, rfl, rfl, _, rfl, ?_⟩
  refine ifT (by decide) ⟨1, 6, rfl, rfl, _, rfl, iteF ?_⟩
  refine ⟨_, rfl, a, rfl, ⟨_, SqT.of ha⟩, fun D nD => ?_⟩
  refine lc_tup (xs := [V.str z]) (fun i H3 => Same H H3 ∧ H3 D = some (.lst ((List.replicate i true).map V.bl))) ⟨same_upd nD, upd_same⟩ (fun i H3 _ h => SqT.of (h.1 _ _ ha)) ?_ ?_
  · rintro i x H3 hx ⟨s3, hD⟩
    have i0 : i = 0 := by
      have := (List.getElem?_eq_some_iff.mp hx).1
      simp at this
      exact this
    subst i0
    obtain rfl : V.str z = x := Option.some.inj hx
    refine ⟨rfl, _, rfl, _, rfl, .str z, (fun y e => by cases e; exact nm_short hz), fun H4 s4 => ⟨_, s4 _ _ hD, by decide +kernel, same_at (s3.trans s4) nD, ?_⟩⟩
    rw [upd_same, nm_isN z hz]
    rfl
  · rintro H3 ⟨s3, hD⟩
    exact ⟨D, [true], rfl, SqL.of hD, q H3 s3⟩
theorem ok_is_entry (T : Txt K mg ad fds cs) : FnOk P w K mg base CX0 3 (ad 37) (fds 37) ["relations", "thing"] spIsEntry := by
  refine T.F_is_entry.ok sc_is_entry (fun vs H Q E h => ?_) (fun cdv A outer s H vs Q E hr h => ?_)
  · obtain ⟨r, v, e, rfl, _⟩ := h
    rfl
  obtain ⟨r, v, e, rfl, ⟨t, n, rfl, ht, hn⟩, g, q⟩ := h
  refine ⟨_, (pss_cons (ps_if (PW.pt (pw_or (pt_not (pt_val (pe_callB call_isi (by rfl) T.z_isinstance (by decide +kernel) (pa_cons (pv 1) (pa_cons (pe_bltn (v := .ty "tuple") (u := .type "tuple") (by rfl) T.z_tuple (by decide +kernel) rfl) pa_nil))))) (pw_or (pt_not (pt_truth (pv 1) (by intro _; rfl))) (pw_or1 (pt_not (pt_val (pe_callB call_isi (by rfl) T.z_isinstance (by decide +kernel) (pa_cons (pe_ix ix_seq (pv 1) pe_int (fun _ _ => rfl)) (pa_cons (pe_bltn (v := .ty "str") (u := .type "str") (by rfl) T.z_str (by decide +kernel) rfl) pa_nil))))))))) (pss_one (ps_ret pe_bl)) pss_nil)
      (pss_cons (ps_if (pt_cmpR op_eq (pe_ix ix_seq (pv 1) pe_int (fun _ _ => rfl)) (pe_glob rfl T.c_CHANGE T.r_CHANGE) (nomark _)) (pss_one YjE.ps_skip) pss_nil)
      (pss_one (ps_ret (pe_and (pe_cmpR op_eq (pe_ix ix_seq (pv 1) pe_int (fun _ _ => rfl)) (pe_glob rfl T.c_LETTER T.r_LETTER) (nomark _)) (pe_and (pe_cmpR op_eq (pe_callB call_len_seq (by rfl) T.z_len (by decide +kernel) (pa_cons (pv 1) pa_nil)) pe_int (nomark _)) (pe_and (pe_call (ok_is_name T) (hr.mono (by decide)) rfl T.g_is_name T.F_is_name.kp (bi_is_name T) .nil pass0 (pa_cons (pe_ix ix_seq (pv 1) pe_int (fun _ _ => rfl)) pa_nil)) (pe_one (pe_call (ok__are_letter_names T) (hr.mono (by decide)) rfl T.g__are_letter_names T.F__are_letter_names.kp (bi__are_letter_names T) .nil pass0 (pa_cons (pe_ix ix_seq (pv 1) pe_int (fun _ _ => rfl)) pa_nil)))))))))), ?_⟩
  refine ⟨_, rfl, _, _, _, _, true, rfl, ClsV.ty _, TyX.base (.tup ht), kit_ty (by decide +kernel), _, rfl, iteF ?_⟩
  refine ⟨_, rfl, true, .inr (.inl ⟨_, SqT.of ht, rfl⟩), iteF ?_⟩
  refine ⟨_, rfl, .inr (.inl ⟨t, _, 0, _, rfl, rfl, SqT.of ht, atI_nat (j := 0) rfl, ?_⟩)⟩
  refine ⟨_, _, _, _, true, rfl, ClsV.ty _, TyX.base (.str _), kit_ty (by decide +kernel), _, rfl, iteF ?_⟩
  refine ⟨_, rfl, .inr (.inl ⟨t, _, 0, _, rfl, rfl, SqT.of ht, atI_nat (j := 0) rfl, rfl, _, rfl, ?_⟩)⟩
  rw [show decide (V.str "letter" = V.str "change") = false by decide +kernel]
  refine iteF ?_
  refine ⟨_, rfl, .inr (.inl ⟨t, _, 0, _, rfl, rfl, SqT.of ht, atI_nat (j := 0) rfl, rfl, _, rfl, ?_⟩)⟩
  rw [show decide (V.str "letter" = V.str "letter") = true by decide +kernel]
  refine iteT ⟨_, rfl, t, _, rfl, .inr (SqT.of ht), rfl, _, rfl, iteT ?_⟩
  refine ⟨_, rfl, .inr (.inl ⟨t, _, 1, _, rfl, rfl, SqT.of ht, atI_nat (j := 1) rfl, ?_⟩)⟩
  refine ⟨_, rfl, .str _, (fun z h => by cases h; exact recv_short g.1), fun H1 s1 => ⟨_, rfl, ?_⟩⟩
  rw [recv_isN _ g.1]
  refine iteT ⟨_, rfl, .inr (.inl ⟨t, _, 2, _, rfl, rfl, SqT.of (s1 _ _ ht), atI_nat (j := 2) rfl, ?_⟩)⟩
  exact ⟨n, e.2, rfl, s1 _ _ hn, g.2, fun H2 s2 => q H2 (s1.trans s2)⟩
theorem ok_entry_line (T : Txt K mg ad fds cs) : FnOk P w K mg base CX0 2 (ad 39) (fds 39) ["number", "entry"] spEntryLine := by
  refine T.F_entry_line.ok sc_entry_line (fun vs H Q E h => ?_) (fun cdv A outer s H vs Q E hr h => ?_)
  · obtain ⟨m, v, e, rfl, _⟩ := h
    rfl
  obtain ⟨m, v, e, rfl, hm, ⟨t, n, rfl, ht, hn⟩, g, q⟩ := h
  refine ⟨_, (pss_cons (ps_if (pt_cmpR op_eq (pe_ix ix_seq (pv 1) pe_int (fun _ _ => rfl)) (pe_glob rfl T.c_CHANGE T.r_CHANGE) (nomark _)) (pss_one YjE.ps_skip) (pss_one (ps_set (i := 2) sc_entry_line.nd rfl (by first | exact .inl rfl | exact .inr rfl) (pe_lst (pa_cons (pe_glob rfl T.c_LETTER T.r_LETTER) (pa_cons (pe_ix ix_seq (pv 1) pe_int (fun _ _ => rfl)) (pa_cons (pe_call (ok_names_word T) (hr.mono (by decide)) rfl T.g_names_word T.F_names_word.kp (bi_names_word T) .nil pass0 (pa_cons (pe_ix ix_seq (pv 1) pe_int (fun _ _ => rfl)) pa_nil)) pa_nil)))))))
      (pss_one (ps_ret (pe_join pe_str (pe_lst (pa_cons (pe_callTy call_str_int (by rfl) T.z_str (by decide +kernel) (pa_cons (pv 0) pa_nil)) (StX.pa_star (pv 2) (pa_cons (pe_callTy call_str_int (by rfl) T.z_str (by decide +kernel) (pa_cons (pv 0) pa_nil)) pa_nil)))))))), ?_⟩
  refine ⟨_, rfl, .inr (.inl ⟨t, _, 0, _, rfl, rfl, SqT.of ht, atI_nat (j := 0) rfl, rfl, _, rfl, ?_⟩)⟩
  rw [show decide (V.str "letter" = V.str "change") = false by decide +kernel]
  refine iteF ?_
  refine ⟨_, rfl, .inr (.inl ⟨t, _, 1, _, rfl, rfl, SqT.of ht, atI_nat (j := 1) rfl, ?_⟩)⟩
  refine ⟨_, rfl, .inr (.inl ⟨t, _, 2, _, rfl, rfl, SqT.of ht, atI_nat (j := 2) rfl, ?_⟩)⟩
  refine ⟨n, e.2, rfl, hn, (nm_ok _ g.2).1, ?_⟩
  refine ⟨ofNat_le (by simp), fun l nl => ?_⟩
  have s1 := same_upd (o := .lst [V.str "letter", .str e.1, .str e.2]) nl
  have hl : upd H l (.lst [V.str "letter", .str e.1, .str e.2]) l = some (.lst [V.str "letter", .str e.1, .str e.2]) := upd_same
  generalize upd H l (.lst [V.str "letter", .str e.1, .str e.2]) = H1 at s1 hl
  have lg : ((m : Int).natAbs).log2 < 1920 := by
    have : (m : Int).natAbs = m := Int.natAbs_natCast m
    rw [this]
    have z : Nat.log2 m ≤ m := Nat.log2_le_self m
    omega
  refine ⟨⟨_, rfl⟩, _, rfl, _, rfl, lg, ?_⟩
  refine ⟨_, rfl, l, _, rfl, .inr (SqL.of hl), _, rfl, _, rfl, lg, ofNat_le (by simp), fun u nu => ?_⟩
  have e5 : V.str (numS m) :: ([V.str "letter", .str e.1, .str e.2] ++ [V.str (numS m)]) = (wordsE m e).map V.str := rfl
  refine ⟨" ", u, wordsE m e, rfl, rfl, .inl (SqL.of upd_same), ?_, q _ (s1.trans (same_upd nu))⟩
  have a := word_free hm g
  have e1 := (a (numS m) (by simp [wordsE])).2.2
  have e2 := (a "letter" (by simp [wordsE])).2.2
  have e3 := (a e.1 (by simp [wordsE])).2.2
  have e4 := (a e.2 (by simp [wordsE])).2.2
  show (numS m).length + (("letter" : Str).length + (e.1.length + (e.2.length + ((numS m).length + 0)))) + 5 * (" " : Str).length ≤ 16777216
  have b : (" " : Str).length = 1 := by decide +kernel
  omega
theorem ok__entry_of (T : Txt K mg ad fds cs) : FnOk P w K mg base CX0 3 (ad 41) (fds 41) ["words"] spEntryOf := by
  refine T.F__entry_of.ok sc__entry_of (fun vs H Q E h => ?_) (fun cdv A outer s H vs Q E hr h => ?_)
  · obtain ⟨L, e, rfl, _⟩ := h
    rfl
  obtain ⟨L, e, rfl, hL, g, q⟩ := h
  refine ⟨_, (pss_cons (ps_if (pt_cmpR op_eq (pe_ix ix_seq (pv 0) pe_int (fun _ _ => rfl)) (pe_glob rfl T.c_CHANGE T.r_CHANGE) (nomark _)) (pss_one YjE.ps_skip) pss_nil)
      (pss_cons (ps_if (PW.pt (pw_and (pt_cmpR op_eq (pe_ix ix_seq (pv 0) pe_int (fun _ _ => rfl)) (pe_glob rfl T.c_LETTER T.r_LETTER) (nomark _)) (pw_and1 (pt_cmpR op_eq (pe_callB call_len_seq (by rfl) T.z_len (by decide +kernel) (pa_cons (pv 0) pa_nil)) pe_int (nomark _))))) (pss_one (ps_ret (pe_tup (pa_cons (pe_glob rfl T.c_LETTER T.r_LETTER) (pa_cons (pe_ix ix_seq (pv 0) pe_int (fun _ _ => rfl)) (pa_cons (pe_call (ok_names_by T) (hr.mono (by decide)) rfl T.g_names_by T.F_names_by.kp (bi_names_by T) .nil pass0 (pa_cons (pe_ix ix_seq (pv 0) pe_int (fun _ _ => rfl)) pa_nil)) pa_nil)))))) pss_nil)
      (pss_one (ps_ret pe_non)))), ?_⟩
  refine ⟨_, rfl, .inl ⟨L, _, 0, _, rfl, rfl, SqL.of hL, atI_nat (j := 0) rfl, rfl, _, rfl, ?_⟩⟩
  rw [show decide (V.str "letter" = V.str "change") = false by decide +kernel]
  refine iteF ?_
  refine ⟨_, rfl, .inl ⟨L, _, 0, _, rfl, rfl, SqL.of hL, atI_nat (j := 0) rfl, rfl, _, rfl, ?_⟩⟩
  rw [show decide (V.str "letter" = V.str "letter") = true by decide +kernel]
  refine iteT ⟨_, rfl, L, _, rfl, .inl (SqL.of hL), rfl, _, rfl, iteT ?_⟩
  refine ⟨_, rfl, .inl ⟨L, _, 1, _, rfl, rfl, SqL.of hL, atI_nat (j := 1) rfl, ?_⟩⟩
  refine ⟨_, rfl, .inl ⟨L, _, 2, _, rfl, rfl, SqL.of hL, atI_nat (j := 2) rfl, ?_⟩⟩
  refine ⟨e.2, rfl, g.2, fun H1 p s1 np hp => ?_⟩
  refine ⟨by show 3 ≤ sizeLine; exact ofNat_le (by omega), fun t nt => ?_⟩
  have s2 := same_upd (o := .tup [V.str "letter", .str e.1, .ref p]) nt
  exact q _ _ (s1.trans s2) ⟨t, p, rfl, upd_same, s2 _ _ hp⟩
theorem ok_entry_by (T : Txt K mg ad fds cs) : FnOk P w K mg base CX0 4 (ad 40) (fds 40) ["relations", "number", "line"] spEntryBy := by
  refine T.F_entry_by.ok sc_entry_by (fun vs H Q E h => ?_) (fun cdv A outer s H vs Q E hr h => ?_)
  · obtain ⟨m, r, e, rfl, _⟩ := h
    rfl
  obtain ⟨m, r, e, rfl, hm, g, q⟩ := h
  refine ⟨_, (pss_cons (ps_set (i := 3) sc_entry_by.nd rfl (by first | exact .inl rfl | exact .inr rfl) (pe_split (pv 2) pe_str))
      (pss_cons (ps_if (PW.pt (pw_or (pt_cmpR op_lt (pe_callB call_len_seq (by rfl) T.z_len (by decide +kernel) (pa_cons (pv 3) pa_nil)) pe_int (nomark _)) (pw_or (pt_cmpR op_ne (pe_ix ix_seq (pv 3) pe_int (fun _ _ => rfl)) (pe_ix ix_seq (pv 3) (pe_un un_neg pe_int) (fun _ _ => rfl)) (nomark _)) (pw_or1 (pt_cmpR op_ne (pe_call (ok_number_by T) (hr.mono (by decide)) rfl T.g_number_by T.F_number_by.kp (bi_number_by T) .nil pass0 (pa_cons (pe_ix ix_seq (pv 3) pe_int (fun _ _ => rfl)) pa_nil)) (pv 1) (nomark _)))))) (pss_one (ps_ret pe_non)) pss_nil)
      (pss_cons (ps_set (i := 4) sc_entry_by.nd rfl (by first | exact .inl rfl | exact .inr rfl) (pe_call (ok__entry_of T) (hr.mono (by decide)) rfl T.g__entry_of T.F__entry_of.kp (bi__entry_of T) .nil pass0 (pa_cons (pe_slice sl_list (pv 3) (po_some pe_int) (po_some (pe_un un_neg pe_int))) pa_nil)))
      (pss_one (ps_ret (pe_ifExp (pt_val (pe_call (ok_is_entry T) (hr.mono (by decide)) rfl T.g_is_entry T.F_is_entry.kp (bi_is_entry T) .nil pass0 (pa_cons (pv 0) (pa_cons (pv 4) pa_nil)))) (pv 4) pe_non)))))), ?_⟩
  have len := line_len hm g
  refine ⟨_, rfl, ⟨_, rfl⟩, _, " ", rfl, rfl, by decide +kernel, ofNat_le (by omega), fun L nL => ?_⟩
  rw [line_words hm g]
  have s1 := same_upd (o := .lst ((wordsE m e).map V.str)) nL
  have hL : upd H L (.lst ((wordsE m e).map V.str)) L = some (.lst ((wordsE m e).map V.str)) := upd_same
  generalize upd H L (.lst ((wordsE m e).map V.str)) = H1 at s1 hL
  refine ⟨_, rfl, L, _, rfl, .inl (SqL.of hL), _, _, rfl, rfl, _, rfl, iteF ?_⟩
  refine ⟨_, rfl, .inl ⟨L, _, 0, _, rfl, rfl, SqL.of hL, atI_nat (j := 0) rfl, ?_⟩⟩
  refine ⟨_, rfl, _, rfl, .inl ⟨L, _, _, _, rfl, rfl, SqL.of hL, (rfl : _ = some (V.str (numS m))), rfl, _, rfl, ?_⟩⟩
  refine ifNeE rfl ⟨_, rfl, .inl ⟨L, _, 0, _, rfl, rfl, SqL.of hL, atI_nat (j := 0) rfl, ?_⟩⟩
  refine ⟨m, rfl, hm, fun H2 s2 => ⟨_, rfl, rfl, _, rfl, ifNeE rfl ?_⟩⟩
  have hL2 := s2 _ _ hL
  refine ⟨_, rfl, 1, rfl, 1, rfl, -1, rfl, L, _, rfl, SqL.of hL2, fun p np => ?_⟩
  have e3 : cutV ((wordsE m e).map V.str) (some 1) (some (-1)) = [.str "letter", .str e.1, .str e.2] := rfl
  rw [e3]
  have s3 := s2.trans (same_upd (o := .lst [V.str "letter", .str e.1, .str e.2]) np)
  refine ⟨p, e, rfl, upd_same, g, fun H3 v s4 hv => ?_⟩
  refine ⟨_, rfl, _, rfl, _, v, e, rfl, hv, g, fun H4 s5 => ⟨_, rfl, iteT ⟨_, rfl, q H4 v (s1.trans (s3.trans (s4.trans s5))) (hv.tups (tupsOf s5))⟩⟩⟩
end
end Yj
set_option Elab.async false
set_option linter.all false
set_option maxRecDepth 100000
set_option maxHeartbeats 4000000
set_option pp.maxSteps 1500
namespace Yj
open PySem PySem.Spec PyProof.Rows L2 RZ TL
/-! ### journals -/
theorem Keep.tupsL {L : Addr} {H H' : Hp} {ys : List V} (k : Keep L H H') (h : H L = some (.lst ys)) : TupsE H H' := fun b xs e => k _ _ (fun z => by rw [z, h] at e; cases e) e
theorem pr_get {α β : Type} {F : α → β → Prop} {us : List α} {es : List β} (h : Paired F us es) : ∀ {i : Nat} {v : α}, us[i]? = some v → ∃ e, es[i]? = some e ∧ F v e := by
  induction h with
  | nil =>
    intro i v h
    cases h
  | cons a t ih =>
    intro i v h
    cases i with
    | zero => exact ⟨_, rfl, by rw [← Option.some.inj h]; exact a⟩
    | succ i => exact ih (i := i) h
theorem cut_last (xs : List V) (y : V) : cutV (xs ++ [y]) none (some (-1)) = xs := by
  unfold cutV
  have e : HT.sIx (xs ++ [y]).length (xs ++ [y]).length (some (-1)) = xs.length := by
    show (if (-1 : Int) < 0 then ((-1 : Int) + ((xs ++ [y]).length : Int)).toNat else min (-1 : Int).toNat (xs ++ [y]).length) = _
    rw [if_pos (by decide), List.length_append, List.length_singleton]
    omega
  rw [e, HT.sIx_none, List.drop_zero, Nat.sub_zero]
  simp
def spRead : Sp := fun vs H Q _ => ∃ r z es rest, vs = [r, .str z] ∧ tl z = codesF 0 es ++ rest ∧ 10 ∉ rest ∧ (∀ e ∈ es, GoodL e) ∧ es.length ≤ 40 ∧ z.length ≤ 100000 ∧ ∀ H' L us, Same H H' → H L = none → H' L = some (.lst us) → LtrsAt H' us es → Q (.ref L) H'
def spLine : Sp := fun vs H Q _ => ∃ n : Nat, ∃ v e, vs = [.int n, v] ∧ n < 41 ∧ LtrAt H v e ∧ GoodL e ∧ ∀ H', Same H H' → Q (.str (lineF n e)) H'
section
variable {P : Program} {w : World} {K : PySem.W.Frag} {mg : Str → Option Value} {base : Heap} {ad : Nat → Addr} {fds : Nat → FuncData} {cs : Nat → Value}
theorem ok__read (T : Txt K mg ad fds cs) : FnOk P w K mg base CX0 5 (ad 44) (fds 44) ["relations", "text"] spRead := by
  refine T.F__read.ok sc__read (fun vs H Q E h => ?_) (fun cdv A outer s H vs Q E hr h => ?_)
  · obtain ⟨r, z, es, rest, rfl, _⟩ := h
    rfl
  obtain ⟨r, z, es, rest, rfl, hz, hrest, g, hn, hl, q⟩ := h
  refine ⟨_, (pss_cons (ps_set (i := 2) sc__read.nd rfl (by first | exact .inl rfl | exact .inr rfl) (pe_lst pa_nil))
      (pss_cons (ps_for PassesOwn.never rfl (pi_enum (by rfl) T.z_enumerate (pa_cons (pe_slice sl_list (pe_split (pv 1) (pe_glob rfl T.c_END_OF_LINE T.r_END_OF_LINE)) po_none (po_some (pe_un un_neg pe_int))) pa_nil)) (pg_tup rfl (pgs_cons (pg_name (i := 3) sc__read.nd rfl (by first | exact .inl rfl | exact .inr rfl)) (pgs_cons (pg_name (i := 4) sc__read.nd rfl (by first | exact .inl rfl | exact .inr rfl)) pgs_nil)))
      (pss_cons (ps_set (i := 5) sc__read.nd rfl (by first | exact .inl rfl | exact .inr rfl) (pe_call (ok_entry_by T) (hr.mono (by decide)) rfl T.g_entry_by T.F_entry_by.kp (bi_entry_by T) .nil pass0 (pa_cons (pv 0) (pa_cons (pv 3) (pa_cons (pv 4) pa_nil)))))
      (pss_cons (ps_if (pt_cmpR op_isN (pv 5) pe_non (nomark _)) (pss_one ps_break) pss_nil)
      (pss_one (ps_expr (pe_bm PySem.F.plainAttrs_list PySem.F.slot_list_append PySem.F.type_list_append mt_append (pv 2) (pa_cons (pv 5) pa_nil)))))))
      (pss_one (ps_ret (pv 2))))), ?_⟩
  refine ⟨Nat.zero_le _, fun L nL => ?_⟩
  have s1 := same_upd (o := .lst []) nL
  have hL : upd H L (.lst []) L = some (.lst []) := upd_same
  generalize upd H L (.lst []) = H1 at s1 hL
  refine ⟨_, rfl, ⟨_, rfl⟩, z, "\n", rfl, rfl, by decide +kernel, ofNat_le (by omega), fun p np => ?_⟩
  rw [text_lines hz g (by omega) hrest]
  have s2 := s1.trans (same_upd (o := .lst ((linesE 0 es ++ [(⟨rest.toArray⟩ : Str)]).map V.str)) np)
  have hp : upd H1 p (.lst ((linesE 0 es ++ [(⟨rest.toArray⟩ : Str)]).map V.str)) p = some (.lst ((linesE 0 es ++ [(⟨rest.toArray⟩ : Str)]).map V.str)) := upd_same
  have hL2 := same_upd (o := .lst ((linesE 0 es ++ [(⟨rest.toArray⟩ : Str)]).map V.str)) np _ _ hL
  generalize upd H1 p (.lst ((linesE 0 es ++ [(⟨rest.toArray⟩ : Str)]).map V.str)) = H2 at s2 hp hL2
  refine ⟨1, rfl, -1, rfl, p, _, rfl, SqL.of hp, fun c nc => ?_⟩
  rw [List.map_append, List.map_cons, List.map_nil, cut_last]
  have s3 := s2.trans (same_upd (o := .lst ((linesE 0 es).map V.str)) nc)
  have hc : upd H2 c (.lst ((linesE 0 es).map V.str)) c = some (.lst ((linesE 0 es).map V.str)) := upd_same
  have hL3 := same_upd (o := .lst ((linesE 0 es).map V.str)) nc _ _ hL2
  have ne : c ≠ L := fun z => by
    rw [z, hL2] at nc
    cases nc
  generalize upd H2 c (.lst ((linesE 0 es).map V.str)) = H3 at s3 hc hL3
  refine ⟨c, _, rfl, SqL.of hc, for_it walk_enum (fun i σ H4 => ∃ (y1 y2 y3 : Option V) (us : List V), σ = [some r, some (.str z), some (.ref L), y1, y2, y3] ∧ Keep L H3 H4 ∧ H4 L = some (.lst us) ∧ LtrsAt H4 us (es.take i)) ⟨_, _, _, [], rfl, Keep.refl _ _, hL3, .nil⟩
    (fun i σ H4 _ ⟨_, _, _, _, _, k, _⟩ => SqL.of (k _ _ ne hc)) ?_ ?_⟩
  · rintro i x σ H4 H4' hi ⟨y1, y2, y3, us, rfl, k4, hL4, hus⟩ ⟨t, u, v, rfl, nt, rfl, h1, h2⟩
    obtain rfl := Option.some.inj h1
    have h2 : ((linesE 0 es).map V.str)[i]? = some v := h2
    rw [List.getElem?_map, linesE_get] at h2
    cases he : es[i]? with
    | none =>
      rw [he] at h2
      cases h2
    | some e =>
      rw [he] at h2
      obtain rfl := Option.some.inj h2
      rw [Nat.zero_add]
      have lt : i < es.length := (List.getElem?_eq_some_iff.mp he).1
      have ge := g e (List.mem_of_getElem? he)
      have s5 := same_upd (o := .tup [V.int ((i : Nat) : Int), .str (lineE i e)]) nt
      have ht : upd H4 t (.tup [V.int ((i : Nat) : Int), .str (lineE i e)]) t = some (.tup [V.int ((i : Nat) : Int), .str (lineE i e)]) := upd_same
      generalize upd H4 t (.tup [V.int ((i : Nat) : Int), .str (lineE i e)]) = H5 at s5 ht
      refine ⟨t, _, rfl, SqT.of ht, rfl, _, _, rfl, _, _, rfl, rfl, ?_⟩
      refine ⟨_, rfl, _, rfl, _, rfl, i, r, e, rfl, by omega, ge, fun H6 v s6 hv => ?_⟩
      refine ⟨_, rfl, rfl, _, rfl, ?_⟩
      have nv : v ≠ .non := by
        obtain ⟨_, _, rfl, _⟩ := hv
        exact fun z => nomatch z
      rw [decide_eq_false nv]
      have hL6 := s6 _ _ (s5 _ _ hL4)
      refine iteF ⟨_, rfl, .inl ⟨rfl, _, SqL.of hL6⟩, _, rfl, L, us, _, rfl, rfl, hL6, ofNat_lt (by rw [hus.length, List.length_take]; omega), ?_⟩
      refine ⟨_, _, _, us ++ [v], rfl, (k4.trans (keepOf (s5.trans s6))).trans fun b o n q => (upd_ne n).trans q, upd_same, ?_⟩
      have tu : TupsE H6 (upd H6 L (.lst (us ++ [v]))) := fun b xs q => (upd_ne fun z => by rw [z, hL6] at q; cases q).trans q
      rw [List.take_add_one, he]
      exact Paired.snoc ((hus.tups (tupsOf (s5.trans s6))).tups tu) (hv.tups tu)
  · rintro σ H4 ⟨y1, y2, y3, us, rfl, k4, hL4, hus⟩
    have el : ((linesE 0 es).map V.str).length = es.length := by rw [List.length_map, linesE_len]
    rw [el, List.take_length] at hus
    refine ⟨_, rfl, q H4 L us (fun b o e => k4 _ _ (fun z => by rw [z, nL] at e; cases e) (s3 _ _ e)) nL hL4 hus⟩
theorem ok__line (T : Txt K mg ad fds cs) : FnOk P w K mg base CX0 3 (ad 45) (fds 45) ["number", "entry"] spLine := by
  refine T.F__line.ok sc__line (fun vs H Q E h => ?_) (fun cdv A outer s H vs Q E hr h => ?_)
  · obtain ⟨m, v, e, rfl, _⟩ := h
    rfl
  obtain ⟨m, v, e, rfl, hm, hv, g, q⟩ := h
  refine ⟨_, (pss_one (ps_ret (pe_op op_add_str (pe_call (ok_entry_line T) (hr.mono (by decide)) rfl T.g_entry_line T.F_entry_line.kp (bi_entry_line T) .nil pass0 (pa_cons (pv 0) (pa_cons (pv 1) pa_nil))) (pe_glob rfl T.c_END_OF_LINE T.r_END_OF_LINE)))), ?_⟩
  refine ⟨_, rfl, _, rfl, m, v, e, rfl, hm, hv, g, fun H1 s1 => ⟨_, _, rfl, rfl, ?_, q H1 s1⟩⟩
  have a := line_len hm g
  have b : ("\n" : Str).length = 1 := by decide +kernel
  exact ofNat_le (by omega)
end
end Yj
set_option Elab.async false
set_option linter.all false
set_option maxRecDepth 100000
set_option maxHeartbeats 4000000
set_option pp.maxSteps 1500
namespace Yj
open PySem PySem.Spec PyProof.Rows L2 RZ TL YjD
/-! ### the class Journal -/
theorem lk_ne {k f : Str} {v : V} {fs : List (Str × V)} (h : (k == f) = false) : List.lookup k ((f, v) :: fs) = fs.lookup k := by rw [List.lookup, h]
theorem lk_eq {k : Str} {v : V} {fs : List (Str × V)} : List.lookup k ((k, v) :: fs) = some v := by rw [List.lookup, beq_self_eq_true]
theorem putF_ne {g f : Str} {x v : V} {r : List (Str × V)} (h : g ≠ f) : putF f v ((g, x) :: r) = (g, x) :: putF f v r := if_neg h
theorem putF_eq {f : Str} {x v : V} {r : List (Str × V)} : putF f v ((f, x) :: r) = (f, v) :: r := if_pos rfl
def jF (dr E : Addr) (text loose : Str) (s : Nat) : List (Str × V) := [("relations", .ref dr), ("entries", .ref E), ("text", .str text), ("loose", .str loose), ("settled", .int (s : Nat))]
section
variable {dr E : Addr} {text loose : Str} {s : Nat} {v : V}
theorem j_rel : (jF dr E text loose s).lookup ("relations" : Str) = some (.ref dr) := lk_eq
theorem j_ent : (jF dr E text loose s).lookup ("entries" : Str) = some (.ref E) := (lk_ne (by decide +kernel)).trans lk_eq
theorem j_text : (jF dr E text loose s).lookup ("text" : Str) = some (.str text) := (lk_ne (by decide +kernel)).trans ((lk_ne (by decide +kernel)).trans lk_eq)
theorem j_loose : (jF dr E text loose s).lookup ("loose" : Str) = some (.str loose) := (lk_ne (by decide +kernel)).trans ((lk_ne (by decide +kernel)).trans ((lk_ne (by decide +kernel)).trans lk_eq))
theorem j_settled : (jF dr E text loose s).lookup ("settled" : Str) = some (.int (s : Nat)) := (lk_ne (by decide +kernel)).trans ((lk_ne (by decide +kernel)).trans ((lk_ne (by decide +kernel)).trans ((lk_ne (by decide +kernel)).trans lk_eq)))
theorem j_put_text {z : Str} : putF "text" (.str z) (jF dr E text loose s) = jF dr E z loose s := by
  unfold jF
  rw [putF_ne (by decide +kernel), putF_ne (by decide +kernel), putF_eq]
theorem j_put_loose {z : Str} : putF "loose" (.str z) (jF dr E text loose s) = jF dr E text z s := by
  unfold jF
  rw [putF_ne (by decide +kernel), putF_ne (by decide +kernel), putF_ne (by decide +kernel), putF_eq]
theorem j_put_settled {n : Nat} : putF "settled" (.int (n : Nat)) (jF dr E text loose s) = jF dr E text loose n := by
  unfold jF
  rw [putF_ne (by decide +kernel), putF_ne (by decide +kernel), putF_ne (by decide +kernel), putF_ne (by decide +kernel), putF_eq]
abbrev jF1 (dr : Addr) : List (Str × V) := [("relations", .ref dr)]
abbrev jF2 (dr E : Addr) : List (Str × V) := [("relations", .ref dr), ("entries", .ref E)]
abbrev jF3 (dr E : Addr) (text : Str) : List (Str × V) := [("relations", .ref dr), ("entries", .ref E), ("text", .str text)]
abbrev jF4 (dr E : Addr) (text loose : Str) : List (Str × V) := [("relations", .ref dr), ("entries", .ref E), ("text", .str text), ("loose", .str loose)]
theorem j1 : putF "relations" (.ref dr) [] = jF1 dr := rfl
theorem j2 : putF "entries" (.ref E) (jF1 dr) = jF2 dr E := by
  rw [putF_ne (by decide +kernel)]
  rfl
theorem j3 : putF "text" (.str text) (jF2 dr E) = jF3 dr E text := by
  rw [putF_ne (by decide +kernel), putF_ne (by decide +kernel)]
  rfl
theorem j4 : putF "loose" (.str loose) (jF3 dr E text) = jF4 dr E text loose := by
  rw [putF_ne (by decide +kernel), putF_ne (by decide +kernel), putF_ne (by decide +kernel)]
  rfl
theorem j5 : putF "settled" (.int (s : Nat)) (jF4 dr E text loose) = jF dr E text loose s := by
  rw [putF_ne (by decide +kernel), putF_ne (by decide +kernel), putF_ne (by decide +kernel), putF_ne (by decide +kernel)]
  rfl
end
/-- the journal at J: its entries es, s of them settled -/
structure JAt (C : Addr) (H : Hp) (J E : Addr) (us : List V) (es : List Ltr) (s : Nat) (loose : Str) : Prop where
  ins : ∃ dx dr text, H J = some (.ins C dx (jF dr E text loose s)) ∧ tl text = codesF 0 (es.take s)
  ent : H E = some (.lst us)
  ltr : LtrsAt H us es
  good : ∀ e ∈ es, GoodL e
  le : s ≤ es.length
  loo : tl loose = codesF s (es.drop s)
theorem JAt.ne {C : Addr} {H : Hp} {J E : Addr} {us : List V} {es : List Ltr} {s : Nat} {loose : Str} (h : JAt C H J E us es s loose) : E ≠ J := fun z => by
  obtain ⟨_, _, _, e, _⟩ := h.ins
  have e2 := h.ent
  rw [z, e] at e2
  cases e2
theorem JAt.keep {C : Addr} {H H' : Hp} {J E : Addr} {us : List V} {es : List Ltr} {s : Nat} {loose : Str} (h : JAt C H J E us es s loose) (t : TupsE H H') (k1 : H' J = H J) (k2 : H' E = H E) : JAt C H' J E us es s loose := by
  obtain ⟨dx, dr, text, e, e2⟩ := h.ins
  exact ⟨⟨dx, dr, text, k1.trans e, e2⟩, k2.trans h.ent, h.ltr.tups t, h.good, h.le, h.loo⟩
theorem JAt.mono {C : Addr} {H H' : Hp} {J E : Addr} {us : List V} {es : List Ltr} {s : Nat} {loose : Str} (h : JAt C H J E us es s loose) (t : Same H H') : JAt C H' J E us es s loose := by
  obtain ⟨dx, dr, text, e, e2⟩ := h.ins
  exact ⟨⟨dx, dr, text, t _ _ e, e2⟩, t _ _ h.ent, h.ltr.tups (tupsOf t), h.good, h.le, h.loo⟩
/-- all but what is at these is as it was -/
def Off (as : List Addr) (H H' : Hp) : Prop := ∀ b o, b ∉ as → H b = some o → H' b = some o
theorem Off.trans {as : List Addr} {H H1 H2 : Hp} (a : Off as H H1) (b : Off as H1 H2) : Off as H H2 := fun c o n h => b c o n (a c o n h)
theorem offOf {as : List Addr} {H H' : Hp} (s : Same H H') : Off as H H' := fun b o _ h => s b o h
theorem Off.refl (as : List Addr) (H : Hp) : Off as H H := fun _ _ _ h => h
theorem off_upd {as : List Addr} {H : Hp} {a : Addr} {o : HO} (h : a ∈ as) : Off as H (upd H a o) := fun b x n e => (upd_ne fun z => n (by rw [z]; exact h)).trans e
theorem Off.tups {as : List Addr} {H H' : Hp} (k : Off as H H') (h : ∀ a ∈ as, ∀ xs, H a ≠ some (.tup xs)) : TupsE H H' := fun b xs e => k b _ (fun z => h b z xs e) e
theorem Off.free {as : List Addr} {H H' : Hp} (k : Off as H H') {b : Addr} (h : H' b = none) (n : b ∉ as) : H b = none := by
  cases e : H b with
  | none => rfl
  | some o =>
    rw [k b o n e] at h
    cases h
theorem lines_sum (k : Nat) (es : List Ltr) : ((linesF k es).map fun z => z.length).sum = (codesF k es).length := by
  unfold codesF
  rw [List.length_flatten, List.map_map]
  rfl
def spJInit (C : Addr) : Sp := fun vs H Q _ => ∃ Hb p dx dr z es rest, vs = [.ref p, .ref dr, .str z] ∧ Hb p = none ∧ Same Hb H ∧ H p = some (.ins C dx []) ∧ Hb dr = some (.dK (relK relL)) ∧ tl z = codesF 0 es ++ rest ∧ 10 ∉ rest ∧ (∀ e ∈ es, GoodL e) ∧ es.length ≤ 40 ∧ z.length ≤ 100000 ∧
  ∀ H' E us, Same Hb H' → Hb E = none → JAt C H' p E us es es.length "" → Q .non H'
section
variable {P : Program} {w : World} {K : PySem.W.Frag} {mg : Str → Option Value} {base : Heap} {ad : Nat → Addr} {fds : Nat → FuncData} {cs : Nat → Value}
theorem ok_Journal___init__ (T : Txt K mg ad fds cs) : FnOk P w K mg base CX0 6 (ad 47000) (fds 47000) ["self", "relations", "text"] (spJInit (ad 47999)) := by
  refine T.F_Journal___init__.ok sc_Journal___init__ (fun vs H Q E h => ?_) (fun cdv A outer s H vs Q E hr h => ?_)
  · obtain ⟨Hb, p, dx, dr, z, es, rest, rfl, _⟩ := h
    rfl
  obtain ⟨Hb, p, dx, dr, z, es, rest, rfl, nb, sb, hp, hdr, hz, hrest, g, hn, hlen, q⟩ := h
  refine ⟨_, (pss_cons (ps_fld (pv 0) (pe_call (ok_checked_relations T) (hr.mono (by decide)) rfl T.g_checked_relations T.F_checked_relations.kp (bi_checked_relations T) .nil pass0 (pa_cons (pv 1) pa_nil)) rfl)
      (pss_cons (ps_fld (pv 0) (pe_call (ok__read T) (hr.mono (by decide)) rfl T.g__read T.F__read.kp (bi__read T) .nil pass0 (pa_cons (YjD.pe_fldK (K := K) (pv 0) rfl) (pa_cons (pv 2) pa_nil))) rfl)
      (pss_cons (ps_fld (pv 0) (pe_join pe_str (pe_lc (own := [("number", 3), ("entry", 4)]) rfl sc_Journal___init__.nd (pi_enum (by rfl) T.z_enumerate (pa_cons (YjD.pe_fldK (K := K) (pv 0) rfl) pa_nil)) (blkOk_by (N := N_Journal___init__) (sc := defScope s_Journal___init__) (own := [("number", 3), ("entry", 4)]) (by decide +kernel)) (fun _ _ _ _ _ => by exact (pg_tupK (K := K) (n := 2) rfl (pgs_cons (pg_name (i := 3) sc_Journal___init__.nd rfl (.inl rfl)) (pgs_cons (pg_name (i := 4) sc_Journal___init__.nd rfl (.inl rfl)) pgs_nil)))) (fun _ _ _ _ _ => by exact pts_nil) (fun _ _ _ _ _ => by exact (pe_call (ok__line (P := P) (w := w) T) (hr.mono (by decide)) rfl T.g__line T.F__line.kp (bi__line T) .nil pass0 (pa_cons (pv 3) (pa_cons (pv 4) pa_nil)))))) rfl)
      (pss_cons (ps_fld (pv 0) pe_str rfl)
      (pss_one (ps_fld (pv 0) (pe_callB call_len_seq (by rfl) T.z_len (by decide +kernel) (pa_cons (YjD.pe_fldK (K := K) (pv 0) rfl) pa_nil)) rfl)))))), ?_⟩
  refine ⟨_, rfl, dr, relL, rfl, sb _ _ hdr, relL_short, relL_nodup, relL_ok, relS, relL_sorts, fun H1 dr1 s1 nd1 hd1 => ?_⟩
  refine ⟨_, rfl, p, _, dx, _, rfl, s1 _ _ hp, T.cl_Journal, T.na_Journal_relations, by decide, ?_⟩
  rw [j1]
  have sb2 : Same Hb (upd H1 p (.ins (ad 47999) dx (jF1 dr1))) := same_at (sb.trans s1) nb
  have hp2 : upd H1 p (.ins (ad 47999) dx (jF1 dr1)) p = some (.ins (ad 47999) dx (jF1 dr1)) := upd_same
  generalize upd H1 p (.ins (ad 47999) dx (jF1 dr1)) = H2 at sb2 hp2
  clear hd1 nd1 s1 hp
  refine ⟨_, rfl, p, _, dx, _, _, rfl, hp2, T.cl_Journal, T.na_Journal_relations, lk_eq, _, rfl, _, z, es, rest, rfl, hz, hrest, g, hn, hlen, fun H3 L us s3 nL hL hus => ?_⟩
  refine ⟨_, rfl, p, _, dx, _, rfl, s3 _ _ hp2, T.cl_Journal, T.na_Journal_entries, (by show 1 < 1000; decide), ?_⟩
  rw [j2]
  have nLb : Hb L = none := sb2.free nL
  have neL : L ≠ p := fun z => by
    rw [z, s3 _ _ hp2] at hL
    cases hL
  have sb3 : Same Hb (upd H3 p (.ins (ad 47999) dx (jF2 dr1 L))) := same_at (sb2.trans s3) nb
  have hp3 : upd H3 p (.ins (ad 47999) dx (jF2 dr1 L)) p = some (.ins (ad 47999) dx (jF2 dr1 L)) := upd_same
  have hL3 : upd H3 p (.ins (ad 47999) dx (jF2 dr1 L)) L = some (.lst us) := (upd_ne neL).trans hL
  have tu3 : TupsE H3 (upd H3 p (.ins (ad 47999) dx (jF2 dr1 L))) := fun b xs e => (upd_ne fun z => by rw [z, s3 _ _ hp2] at e; cases e).trans e
  have hus3 := hus.tups tu3
  generalize upd H3 p (.ins (ad 47999) dx (jF2 dr1 L)) = H4 at sb3 hp3 hL3 hus3
  clear tu3 hus hL sb2 hp2 s3 nL
  have hul : us.length = es.length := hus3.length
  refine ⟨⟨_, rfl⟩, _, rfl, p, _, dx, _, _, rfl, hp3, T.cl_Journal, T.na_Journal_entries, (lk_ne (by decide +kernel)).trans lk_eq, L, _, rfl, SqL.of hL3, fun D nD => ?_⟩
  refine lc_it walk_enum (fun i H5 => Same H4 H5 ∧ H5 D = some (.lst (((linesF 0 es).take i).map V.str))) ⟨same_upd nD, upd_same⟩ (fun i H5 _ h => SqL.of (h.1 _ _ hL3)) ?_ ?_
  · rintro i x H5 H5' hi ⟨s5, hD⟩ ⟨t, u, v, rfl, nt, rfl, h1, h2⟩
    obtain rfl := Option.some.inj h1
    obtain ⟨e, he, hv⟩ := pr_get hus3 (i := i) (v := v) h2
    have lt : i < es.length := (List.getElem?_eq_some_iff.mp he).1
    have s6 := s5.trans (same_upd (o := .tup [V.int ((i : Nat) : Int), v]) nt)
    have ht : upd H5 t (.tup [V.int ((i : Nat) : Int), v]) t = some (.tup [V.int ((i : Nat) : Int), v]) := upd_same
    have hD6 := same_upd (o := .tup [V.int ((i : Nat) : Int), v]) nt _ _ hD
    generalize upd H5 t (.tup [V.int ((i : Nat) : Int), v]) = H6 at s6 ht hD6
    refine ⟨t, _, rfl, SqT.of ht, rfl, _, _, rfl, _, _, rfl, rfl, rfl, ?_⟩
    refine ⟨_, rfl, _, rfl, i, v, e, rfl, by omega, hv.tups (tupsOf s6), g e (List.mem_of_getElem? he), fun H7 s7 => ⟨_, s7 _ _ hD6, ofNat_lt (by rw [List.length_map, List.length_take]; omega), same_at (s6.trans s7) nD, ?_⟩⟩
    have e2 : (linesF 0 es)[i]? = some (lineF i e) := by rw [linesF_get, he, Nat.zero_add]; rfl
    rw [upd_same, List.take_add_one, e2, List.map_append]
    rfl
  · rintro H5 ⟨s5, hD⟩
    rw [hul, ← linesF_len es 0, List.take_length] at hD
    have sb5 := sb3.trans s5
    have hp5 := s5 _ _ hp3
    have hL5 := s5 _ _ hL3
    have hus5 := hus3.tups (tupsOf s5)
    clear s5 hp3 hL3 hus3 sb3 nD
    have e0 : ("" : Str).length = 0 := rfl
    refine ⟨"", D, linesF 0 es, rfl, rfl, .inl (SqL.of hD), ?_, ?_⟩
    · have a := codes_len es 0 g (by omega)
      rw [lines_sum, e0]
      omega
    refine ⟨_, rfl, p, _, dx, _, rfl, hp5, T.cl_Journal, T.na_Journal_text, (by show 2 < 1000; decide), ?_⟩
    rw [j3]
    generalize ez : Txt.join "" (linesF 0 es) = text
    have et : tl text = codesF 0 es := by rw [← ez, tl_glue]; rfl
    have step : ∀ {H : Hp} {fs : List (Str × V)} (gs : List (Str × V)), Same Hb H → H p = some (.ins (ad 47999) dx fs) → H L = some (.lst us) → LtrsAt H us es →
        Same Hb (upd H p (.ins (ad 47999) dx gs)) ∧ upd H p (.ins (ad 47999) dx gs) p = some (.ins (ad 47999) dx gs) ∧ upd H p (.ins (ad 47999) dx gs) L = some (.lst us) ∧ LtrsAt (upd H p (.ins (ad 47999) dx gs)) us es :=
      fun gs s1 h1 h2 h3 => ⟨same_at s1 nb, upd_same, (upd_ne neL).trans h2, h3.tups fun b xs e => (upd_ne fun z => by rw [z, h1] at e; cases e).trans e⟩
    obtain ⟨a1, a2, a3, a4⟩ := step (jF3 dr1 L text) sb5 hp5 hL5 hus5
    generalize upd H5 p (.ins (ad 47999) dx (jF3 dr1 L text)) = H6 at a1 a2 a3 a4
    refine ⟨_, rfl, p, _, dx, _, rfl, a2, T.cl_Journal, T.na_Journal_loose, (by show 3 < 1000; decide), ?_⟩
    rw [j4]
    obtain ⟨b1, b2, b3, b4⟩ := step (jF4 dr1 L text "") a1 a2 a3 a4
    generalize upd H6 p (.ins (ad 47999) dx (jF4 dr1 L text "")) = H7 at b1 b2 b3 b4
    refine ⟨_, rfl, p, _, dx, _, _, rfl, b2, T.cl_Journal, T.na_Journal_entries, (lk_ne (by decide +kernel)).trans lk_eq, L, us, rfl, .inl (SqL.of b3), ?_⟩
    refine ⟨_, rfl, p, _, dx, _, rfl, b2, T.cl_Journal, T.na_Journal_settled, (by show 4 < 1000; decide), ?_⟩
    rw [hul, j5]
    obtain ⟨c1, c2, c3, c4⟩ := step (jF dr1 L text "" es.length) b1 b2 b3 b4
    exact q _ L us c1 nLb ⟨⟨dx, dr1, text, c2, by rw [List.take_length]; exact et⟩, c3, c4, g, Nat.le_refl _, by rw [List.drop_length]; rfl⟩
end
end Yj
set_option Elab.async false
set_option linter.all false
set_option maxRecDepth 100000
set_option maxHeartbeats 4000000
set_option pp.maxSteps 1500
namespace Yj
open PySem PySem.Spec PyProof.Rows L2 RZ TL YjD
/-! ### journals: write, settle, fallen -/
def spJWrite (C : Addr) : Sp := fun vs H Q _ => ∃ J E us es s loose v e, vs = [.ref J, v] ∧ JAt C H J E us es s loose ∧ LtrAt H v e ∧ GoodL e ∧ es.length < 40 ∧
  ∀ H' loose', Off [J, E] H H' → JAt C H' J E (us ++ [v]) (es ++ [e]) s loose' → Q .non H'
def spJSettle (C : Addr) : Sp := fun vs H Q _ => ∃ J E us es s loose, vs = [.ref J] ∧ JAt C H J E us es s loose ∧ es.length ≤ 40 ∧ ∀ H', Off [J] H H' → JAt C H' J E us es es.length "" → Q .non H'
def spJFallen (C : Addr) : Sp := fun vs H Q _ => ∃ J E us es s loose c, vs = [.ref J, .int c] ∧ JAt C H J E us es s loose ∧ es.length ≤ 40 ∧ 0 ≤ c ∧ c ≤ (loose.length : Int) ∧
  ∀ z m rest, s ≤ m → m ≤ es.length → tl z = codesF 0 (es.take m) ++ rest → 10 ∉ rest → z.length ≤ 100000 → Q (.str z) H
theorem JAt.loose_len {C : Addr} {H : Hp} {J E : Addr} {us : List V} {es : List Ltr} {s : Nat} {loose : Str} (h : JAt C H J E us es s loose) (hn : es.length ≤ 40) : loose.length ≤ 46 * 40 := by
  rw [len_tl, h.loo]
  have z := codes_len (es.drop s) s (fun e he => h.good e (List.mem_of_mem_drop he)) (by rw [List.length_drop]; have := h.le; omega)
  rw [List.length_drop] at z
  omega
theorem JAt.text_len {C : Addr} {H : Hp} {J E : Addr} {us : List V} {es : List Ltr} {s : Nat} {loose text : Str} (h : JAt C H J E us es s loose) (hn : es.length ≤ 40) (ht : tl text = codesF 0 (es.take s)) : text.length ≤ 46 * 40 := by
  rw [len_tl, ht]
  have z := codes_len (es.take s) 0 (fun e he => h.good e (List.mem_of_mem_take he)) (by rw [List.length_take]; omega)
  rw [List.length_take] at z
  omega
section
variable {P : Program} {w : World} {K : PySem.W.Frag} {mg : Str → Option Value} {base : Heap} {ad : Nat → Addr} {fds : Nat → FuncData} {cs : Nat → Value}
theorem ok_Journal_write (T : Txt K mg ad fds cs) : FnOk P w K mg base CX0 4 (ad 47001) (fds 47001) ["self", "entry"] (spJWrite (ad 47999)) := by
  refine T.F_Journal_write.ok sc_Journal_write (fun vs H Q E h => ?_) (fun cdv A outer s H vs Q E hr h => ?_)
  · obtain ⟨J, E, us, es, s, loose, v, e, rfl, _⟩ := h
    rfl
  obtain ⟨J, E, us, es, n, loose, v, e, rfl, hJ, hv, g, hn, q⟩ := h
  refine ⟨_, (pss_cons (ps_if (pt_not (pt_val (pe_call (ok_is_entry T) (hr.mono (by decide)) rfl T.g_is_entry T.F_is_entry.kp (bi_is_entry T) .nil pass0 (pa_cons (YjD.pe_fldK (K := K) (pv 0) rfl) (pa_cons (pv 1) pa_nil))))) (pss_one YjE.ps_skip) pss_nil)
      (pss_cons (ps_fldaug (pv 0) (pe_call (ok__line T) (hr.mono (by decide)) rfl T.g__line T.F__line.kp (bi__line T) .nil pass0 (pa_cons (pe_callB call_len_seq (by rfl) T.z_len (by decide +kernel) (pa_cons (YjD.pe_fldK (K := K) (pv 0) rfl) pa_nil)) (pa_cons (pv 1) pa_nil))) in_addS)
      (pss_one (ps_expr (pe_bm PySem.F.plainAttrs_list PySem.F.slot_list_append PySem.F.type_list_append mt_append (YjD.pe_fldK (K := K) (pv 0) rfl) (pa_cons (pv 1) pa_nil)))))), ?_⟩
  obtain ⟨dx, dr, text, ei, et⟩ := hJ.ins
  have hlen := hJ.loose_len (by omega)
  refine ⟨_, rfl, J, _, dx, _, _, rfl, ei, T.cl_Journal, T.na_Journal_relations, j_rel, _, rfl, _, v, e, rfl, hv, g, fun H1 s1 => ⟨_, rfl, iteF ?_⟩⟩
  have hJ1 := hJ.mono s1
  have hv1 := hv.tups (tupsOf s1)
  have ei1 := s1 _ _ ei
  have hul : us.length = es.length := hJ.ltr.length
  refine ⟨_, rfl, J, _, dx, _, _, rfl, ei1, T.cl_Journal, T.na_Journal_loose, j_loose, ?_⟩
  refine ⟨_, rfl, J, _, dx, _, _, rfl, ei1, T.cl_Journal, T.na_Journal_entries, j_ent, E, us, rfl, .inl (SqL.of hJ1.ent), _, rfl, ?_⟩
  rw [hul]
  refine ⟨es.length, v, e, rfl, by omega, hv1, g, fun H2 s2 => ?_⟩
  have ei2 := s2 _ _ ei1
  have hv2 := hv1.tups (tupsOf s2)
  have hJ2 := hJ1.mono s2
  have ll := line_len (n := es.length) (by omega) g
  have lf : (lineF es.length e).length ≤ 46 := by
    rw [len_tl, lineF_tl, List.length_append, ← len_tl]
    show _ + 1 ≤ 46
    omega
  refine ⟨loose, lineF es.length e, rfl, rfl, ofNat_le (by omega), dx, _, ei2, (by show 5 < 1000; decide), ?_⟩
  rw [j_put_loose]
  have ne := hJ.ne
  have hE3 : upd H2 J (.ins (ad 47999) dx (jF dr E text (loose ++ lineF es.length e) n)) E = some (.lst us) := (upd_ne ne).trans hJ2.ent
  refine ⟨_, rfl, J, _, dx, _, _, rfl, upd_same, T.cl_Journal, T.na_Journal_entries, j_ent, .inl ⟨rfl, _, SqL.of hE3⟩, _, rfl, E, us, _, rfl, rfl, hE3, ofNat_lt (by omega), ?_⟩
  have t1 : TupsE H2 (upd H2 J (.ins (ad 47999) dx (jF dr E text (loose ++ lineF es.length e) n))) := fun b xs h => (upd_ne fun z => by rw [z, ei2] at h; cases h).trans h
  have t2 : TupsE (upd H2 J (.ins (ad 47999) dx (jF dr E text (loose ++ lineF es.length e) n))) (upd (upd H2 J (.ins (ad 47999) dx (jF dr E text (loose ++ lineF es.length e) n))) E (.lst (us ++ [v]))) := fun b xs h => (upd_ne fun z => by rw [z, hE3] at h; cases h).trans h
  have t3 := t1.trans t2
  refine q _ (loose ++ lineF es.length e) ?_ ⟨⟨dx, dr, text, (upd_ne ne.symm).trans upd_same, ?_⟩, upd_same, Paired.snoc (hJ2.ltr.tups t3) (hv2.tups t3), ?_, ?_, ?_⟩
  · exact ((offOf (s1.trans s2)).trans (off_upd (by simp))).trans (off_upd (by simp))
  · rw [et, List.take_append_of_le_length hJ.le]
  · intro x hx
    rcases List.mem_append.mp hx with z | z
    · exact hJ.good x z
    · rw [List.mem_singleton.mp z]
      exact g
  · have := hJ.le
    rw [List.length_append]
    omega
  · have le := hJ.le
    rw [tl_append, hJ.loo, List.drop_append_of_le_length le, codes_append, lineF_tl, List.length_drop, show n + (es.length - n) = es.length by omega, codes_cons, codes_nil, List.append_nil]
theorem ok_Journal_settle (T : Txt K mg ad fds cs) : FnOk P w K mg base CX0 2 (ad 47002) (fds 47002) ["self"] (spJSettle (ad 47999)) := by
  refine T.F_Journal_settle.ok sc_Journal_settle (fun vs H Q E h => ?_) (fun cdv A outer s H vs Q E hr h => ?_)
  · obtain ⟨J, E, us, es, s, loose, rfl, _⟩ := h
    rfl
  obtain ⟨J, E, us, es, n, loose, rfl, hJ, hn, q⟩ := h
  refine ⟨_, (pss_cons (ps_fldaug (pv 0) (YjD.pe_fldK (K := K) (pv 0) rfl) in_addS)
      (pss_cons (ps_fld (pv 0) pe_str rfl)
      (pss_one (ps_fld (pv 0) (pe_callB call_len_seq (by rfl) T.z_len (by decide +kernel) (pa_cons (YjD.pe_fldK (K := K) (pv 0) rfl) pa_nil)) rfl)))), ?_⟩
  obtain ⟨dx, dr, text, ei, et⟩ := hJ.ins
  have hl := hJ.loose_len (by omega)
  have ht := hJ.text_len (by omega) et
  have ne := hJ.ne
  refine ⟨_, rfl, J, _, dx, _, _, rfl, ei, T.cl_Journal, T.na_Journal_text, j_text, ?_⟩
  refine ⟨_, rfl, J, _, dx, _, _, rfl, ei, T.cl_Journal, T.na_Journal_loose, j_loose, text, loose, rfl, rfl, ofNat_le (by omega), dx, _, ei, (by show 5 < 1000; decide), ?_⟩
  rw [j_put_text]
  refine ⟨_, rfl, J, _, dx, _, rfl, upd_same, T.cl_Journal, T.na_Journal_loose, (by show 5 < 1000; decide), ?_⟩
  rw [j_put_loose]
  have up2 : ∀ {o o2 : HO}, upd (upd H J o) J o2 = upd H J o2 := fun {o o2} => by
    funext b
    by_cases c : b = J
    · rw [c, upd_same, upd_same]
    · rw [upd_ne c, upd_ne c, upd_ne c]
  rw [up2]
  have hE : upd H J (.ins (ad 47999) dx (jF dr E (text ++ loose) "" n)) E = some (.lst us) := (upd_ne ne).trans hJ.ent
  refine ⟨_, rfl, J, _, dx, _, _, rfl, upd_same, T.cl_Journal, T.na_Journal_entries, j_ent, E, us, rfl, .inl (SqL.of hE), ?_⟩
  refine ⟨_, rfl, J, _, dx, _, rfl, upd_same, T.cl_Journal, T.na_Journal_settled, (by show 5 < 1000; decide), ?_⟩
  rw [hJ.ltr.length, j_put_settled, up2]
  have t1 : TupsE H (upd H J (.ins (ad 47999) dx (jF dr E (text ++ loose) "" es.length))) := fun b xs h => (upd_ne fun z => by rw [z, ei] at h; cases h).trans h
  refine q _ (off_upd (by simp)) ⟨⟨dx, dr, text ++ loose, upd_same, ?_⟩, (upd_ne ne).trans hJ.ent, hJ.ltr.tups t1, hJ.good, Nat.le_refl _, by rw [List.drop_length]; rfl⟩
  have le := hJ.le
  rw [tl_append, et, hJ.loo, List.take_length]
  have z := codes_append (es.take n) (es.drop n) 0
  rw [List.take_append_drop, List.length_take, Nat.min_eq_left le, Nat.zero_add] at z
  exact z.symm
theorem ok_Journal_fallen (T : Txt K mg ad fds cs) : FnOk P w K mg base CX0 2 (ad 47003) (fds 47003) ["self", "cut"] (spJFallen (ad 47999)) := by
  refine T.F_Journal_fallen.ok sc_Journal_fallen (fun vs H Q E h => ?_) (fun cdv A outer s H vs Q E hr h => ?_)
  · obtain ⟨J, E, us, es, s, loose, c, rfl, _⟩ := h
    rfl
  obtain ⟨J, E, us, es, n, loose, c, rfl, hJ, hn, c0, c1, q⟩ := h
  refine ⟨_, (pss_cons (ps_if (PW.pt (pw_or (pt_not (pt_val (pe_call (ok_is_integer T) (hr.mono (by decide)) rfl T.g_is_integer T.F_is_integer.kp (bi_is_integer T) .nil pass0 (pa_cons (pv 1) pa_nil)))) (pw_or1 (pt_not (pt_chain op_le op_le pe_int (pv 1) (pe_callB call_len_str (by rfl) T.z_len (by decide +kernel) (pa_cons (YjD.pe_fldK (K := K) (pv 0) rfl) pa_nil))))))) (pss_one YjE.ps_skip) pss_nil)
      (pss_one (ps_ret (pe_op op_add_str (YjD.pe_fldK (K := K) (pv 0) rfl) (pe_slice sl_str (YjD.pe_fldK (K := K) (pv 0) rfl) po_none (po_some (pv 1))))))), ?_⟩
  obtain ⟨dx, dr, text, ei, et⟩ := hJ.ins
  have hl := hJ.loose_len (by omega)
  have ht := hJ.text_len (by omega) et
  refine ⟨_, rfl, .int c, rfl, .int c, _, rfl, iteF ?_⟩
  refine ⟨_, rfl, 0, c, rfl, rfl, _, rfl, ifT c0 ?_⟩
  refine ⟨_, rfl, J, _, dx, _, _, rfl, ei, T.cl_Journal, T.na_Journal_loose, j_loose, loose, rfl, ofNat_le (by omega), c, _, rfl, rfl, _, rfl, ?_⟩
  rw [decide_eq_true c1]
  refine iteF ?_
  refine ⟨_, rfl, J, _, dx, _, _, rfl, ei, T.cl_Journal, T.na_Journal_text, j_text, ?_⟩
  refine ⟨_, rfl, J, _, dx, _, _, rfl, ei, T.cl_Journal, T.na_Journal_loose, j_loose, _, rfl, c, rfl, loose, rfl, ofNat_le (by omega), ?_⟩
  have lc := cutS_length loose none (some c)
  refine ⟨_, _, rfl, rfl, ofNat_le (by omega), ?_⟩
  have le := hJ.le
  obtain ⟨m, rest, h1, h2, h3⟩ := codes_cut (es.drop n) n c.toNat (fun e he => hJ.good e (List.mem_of_mem_drop he)) (by rw [List.length_drop]; omega)
  have tc : tl (cutS loose none (some c)) = (tl loose).take c.toNat := by
    unfold cutS
    have a1 : HT.sIx loose.length loose.length (some c) = min c.toNat loose.length := by
      have := HT.sIx_nat loose.length loose.length c.toNat
      rw [Int.toNat_of_nonneg c0] at this
      exact this
    rw [a1, HT.sIx_none, List.drop_zero, Nat.sub_zero]
    show (((loose.cps.toList).take (min c.toNat loose.length)).toArray).toList = loose.cps.toList.take c.toNat
    have a2 : loose.length = loose.cps.toList.length := by simp [Str.length]
    rw [a2, List.toList_toArray]
    by_cases k : c.toNat ≤ loose.cps.toList.length
    · rw [Nat.min_eq_left k]
    · rw [Nat.min_eq_right (by omega), List.take_length, List.take_of_length_le (by omega)]
  rw [List.length_drop] at h1
  refine q _ (n + m) rest (by omega) (by omega) ?_ h2 (by show (text ++ cutS loose none (some c)).length ≤ 100000; rw [len_tl, tl_append, List.length_append, ← len_tl, ← len_tl]; omega)
  rw [tl_append, et, tc, hJ.loo, h3, ← List.append_assoc]
  have z := codes_append (es.take n) ((es.drop n).take m) 0
  rw [List.length_take, Nat.min_eq_left le, Nat.zero_add] at z
  rw [← z, show es.take n ++ (es.drop n).take m = es.take (n + m) from (List.take_add ..).symm]
end
end Yj
set_option Elab.async false
set_option linter.all false
set_option maxRecDepth 100000
set_option maxHeartbeats 4000000
set_option pp.maxSteps 1500
namespace Yj
open PySem PySem.Spec PyProof.Rows L2 RZ TL YjD
/-! ### journals: letters -/
theorem valV_noneK {kvs : List (L2.Key × V)} {k : L2.Key} (h : k ∉ kvs.map (·.1)) : valV kvs k = none := by
  induction kvs with
  | nil => rfl
  | cons p x ih =>
    rw [valV_neg fun z => h (by rw [List.map_cons, z]; exact List.mem_cons_self ..)]
    exact ih fun z => h (by rw [List.map_cons]; exact List.mem_cons_of_mem _ z)
theorem valV_inK {kvs : List (L2.Key × V)} {k : L2.Key} {v : V} (h : valV kvs k = some v) : k ∈ kvs.map (·.1) := by
  refine Classical.byContradiction fun n => ?_
  rw [valV_noneK n] at h
  cases h
theorem cut_upto (xs : List V) (n : Nat) : cutV xs none (some (n : Int)) = xs.take n := by
  unfold cutV
  rw [HT.sIx_none, HT.sIx_nat, Nat.sub_zero, List.drop_zero]
  rcases Nat.le_total n xs.length with h | h
  · rw [Nat.min_eq_left h]
  · rw [Nat.min_eq_right h, List.take_length, List.take_of_length_le h]
theorem recv_sorted : sortedS [("cora" : Str), "bob"] = false := by decide +kernel
theorem recv_two {r : Str} (h : r ∈ recvL) : r = ("bob" : Str) ∨ r = ("cora" : Str) := by
  rcases List.mem_cons.mp h with h | h
  · exact .inl h
  · exact .inr (List.mem_singleton.mp h)
theorem bob_cora : ("bob" : Str) ≠ "cora" := by decide +kernel
/-- the receivers that have letters -/
def lettered (es : List Ltr) : List Str := recvL.filter fun r => decide (ltrsOf es r ≠ [])
theorem nodup_le2 {rs : List Str} (nd : rs.Nodup) (h : ∀ r ∈ rs, r ∈ recvL) : rs.length ≤ 2 := by
  match rs, nd, h with
  | [], _, _ => decide
  | [_], _, _ => exact Nat.le_succ _
  | [_, _], _, _ => exact Nat.le_refl _
  | y :: z :: u :: r, nd, h =>
    exfalso
    have h1 := List.nodup_cons.mp nd
    have h2 := List.nodup_cons.mp h1.2
    have n1 : y ≠ z := fun q => h1.1 (by rw [q]; simp)
    have n2 : y ≠ u := fun q => h1.1 (by rw [q]; simp)
    have n3 : z ≠ u := fun q => h2.1 (by rw [q]; simp)
    rcases recv_two (h y (by simp)) with a | a <;> rcases recv_two (h z (by simp)) with b | b <;> rcases recv_two (h u (by simp)) with c | c
    all_goals first | exact n1 (a.trans b.symm) | exact n2 (a.trans c.symm) | exact n3 (b.trans c.symm)
theorem two_sorted {ys : List Str} (nd : ys.Nodup) (h : ∀ y ∈ ys, y ∈ recvL) (hs : sortedS ys = true) : ys = recvL.filter fun r => decide (r ∈ ys) := by
  have nc : ("cora" : Str) ≠ "bob" := fun z => bob_cora z.symm
  match ys, nd, h, hs with
  | [], _, _, _ => rfl
  | [y], _, h, _ =>
    rcases recv_two (h y (List.mem_singleton.mpr rfl)) with rfl | rfl
    · simp [recvL, nc]
    · simp [recvL, bob_cora]
  | [y, z], nd, h, hs =>
    have ne : y ≠ z := fun q => (List.nodup_cons.mp nd).1 (List.mem_singleton.mpr q)
    rcases recv_two (h y (by simp)) with rfl | rfl <;> rcases recv_two (h z (by simp)) with rfl | rfl
    · exact absurd rfl ne
    · simp [recvL]
    · rw [recv_sorted] at hs
      cases hs
    · exact absurd rfl ne
  | y :: z :: u :: r, nd, h, _ =>
    exfalso
    have h1 := List.nodup_cons.mp nd
    have h2 := List.nodup_cons.mp h1.2
    have n1 : y ≠ z := fun q => h1.1 (by rw [q]; simp)
    have n2 : y ≠ u := fun q => h1.1 (by rw [q]; simp)
    have n3 : z ≠ u := fun q => h2.1 (by rw [q]; simp)
    rcases recv_two (h y (by simp)) with a | a <;> rcases recv_two (h z (by simp)) with b | b <;> rcases recv_two (h u (by simp)) with c | c
    all_goals first | exact n1 (a.trans b.symm) | exact n2 (a.trans c.symm) | exact n3 (b.trans c.symm)
/-- the dict of the letters' names so far -/
structure FdAt (H : Hp) (F : Addr) (kf : List (L2.Key × V)) (rs : List Str) (es : List Ltr) : Prop where
  dict : H F = some (.dK kf)
  keys : kf.map (·.1) = rs.map Sum.inr
  nod : rs.Nodup
  sub : ∀ r ∈ rs, r ∈ recvL
  at_ : ∀ r ∈ rs, ∃ l us, valV kf (Sum.inr r) = some (.ref l) ∧ H l = some (.lst us) ∧ NmsAt H us (ltrsOf es r) ∧ ltrsOf es r ≠ []
  inj : ∀ r q l, valV kf (Sum.inr r) = some (.ref l) → valV kf (Sum.inr q) = some (.ref l) → r = q
  off : ∀ r, r ∉ rs → ltrsOf es r = []
theorem FdAt.mono {H H' : Hp} {F : Addr} {kf : List (L2.Key × V)} {rs : List Str} {es : List Ltr} (f : FdAt H F kf rs es) (s : Same H H') : FdAt H' F kf rs es :=
  ⟨s _ _ f.dict, f.keys, f.nod, f.sub, fun r hr => by
    obtain ⟨l, us, h1, h2, h3, h4⟩ := f.at_ r hr
    exact ⟨l, us, h1, s _ _ h2, h3.tups (tupsOf s), h4⟩, f.inj, f.off⟩
theorem tups_lst {H : Hp} {l : Addr} {xs ys : List V} (h : H l = some (.lst xs)) : TupsE H (upd H l (.lst ys)) := fun b zs e => (upd_ne fun z => by rw [z, h] at e; cases e).trans e
theorem tups_dk {H : Hp} {l : Addr} {xs ys : List (L2.Key × V)} (h : H l = some (.dK xs)) : TupsE H (upd H l (.dK ys)) := fun b zs e => (upd_ne fun z => by rw [z, h] at e; cases e).trans e
theorem FdAt.old {H : Hp} {F l m : Addr} {kf : List (L2.Key × V)} {rs : List Str} {es : List Ltr} {e : Ltr} {us : List V} (f : FdAt H F kf rs es) (hr : e.1 ∈ rs) (hl : valV kf (Sum.inr e.1) = some (.ref l)) (h : H l = some (.lst us)) (nm : NmsAt H us (ltrsOf es e.1)) (hm : H m = some (.tup [.str e.2])) :
    FdAt (upd H l (.lst (us ++ [.ref m]))) F kf rs (es ++ [e]) := by
  have t := tups_lst (ys := us ++ [.ref m]) h
  refine ⟨(upd_ne fun z => by rw [← z, f.dict] at h; cases h).trans f.dict, f.keys, f.nod, f.sub, fun r hr' => ?_, f.inj, fun r hr' => ?_⟩
  · by_cases c : e.1 = r
    · subst c
      refine ⟨l, us ++ [.ref m], hl, upd_same, ?_, ?_⟩
      · rw [ltrs_append, ltrs_one, if_pos rfl]
        exact Paired.snoc (nm.tups t) ⟨m, rfl, t _ _ hm⟩
      · rw [ltrs_append, ltrs_one, if_pos rfl]
        simp
    · obtain ⟨k, vs, h1, h2, h3, h4⟩ := f.at_ r hr'
      have ne : k ≠ l := fun z => c (f.inj _ _ l hl (by rw [h1, z]))
      rw [ltrs_append, ltrs_one, if_neg c, List.append_nil]
      exact ⟨k, vs, h1, (upd_ne ne).trans h2, h3.tups t, h4⟩
  · have c : e.1 ≠ r := fun z => hr' (by rw [← z]; exact hr)
    rw [ltrs_append, ltrs_one, if_neg c, List.append_nil, f.off r hr']
theorem FdAt.new {H : Hp} {F l m : Addr} {kf : List (L2.Key × V)} {rs : List Str} {es : List Ltr} {e : Ltr} (f : FdAt H F kf rs es) (hr : e.1 ∉ rs) (he : e.1 ∈ recvL) (nl : H l = none) (hm : H m = some (.tup [.str e.2])) :
    FdAt (upd (upd (upd H l (.lst [])) F (.dK (putK kf (Sum.inr e.1) (.ref l)))) l (.lst ([] ++ [.ref m]))) F (putK kf (Sum.inr e.1) (.ref l)) (rs ++ [e.1]) (es ++ [e]) := by
  have f1 := f.mono (same_upd (o := .lst []) nl)
  have neF : F ≠ l := fun z => by
    have e := f.dict
    rw [z, nl] at e
    cases e
  have hl1 : upd (upd H l (.lst [])) F (.dK (putK kf (Sum.inr e.1) (.ref l))) l = some (.lst []) := (upd_ne neF.symm).trans upd_same
  have t1 := tups_dk (ys := putK kf (Sum.inr e.1) (.ref l)) f1.dict
  have t2 := tups_lst (ys := [] ++ [V.ref m]) hl1
  have t := (tupsOf (same_upd (o := .lst []) nl)).trans (t1.trans t2)
  have hn : valV kf (Sum.inr e.1 : L2.Key) = none := valV_noneK fun z => hr (by
    rw [f.keys] at z
    obtain ⟨r, h1, h2⟩ := List.mem_map.mp z
    rw [← Sum.inr.inj h2]
    exact h1)
  have lnew : ∀ r, valV kf (Sum.inr r : L2.Key) ≠ some (.ref l) := fun r hv => by
    have m : r ∈ rs := by
      have z := valV_inK hv
      rw [f.keys] at z
      obtain ⟨q, h1, h2⟩ := List.mem_map.mp z
      rw [← Sum.inr.inj h2]
      exact h1
    obtain ⟨k, vs, h1, h2, _⟩ := f.at_ r m
    rw [hv] at h1
    obtain rfl := V.ref.inj (Option.some.inj h1)
    rw [nl] at h2
    cases h2
  refine ⟨(upd_ne neF).trans upd_same, ?_, ?_, fun r hr' => ?_, fun r hr' => ?_, fun r q k h1 h2 => ?_, fun r hr' => ?_⟩
  · rw [putK_new _ hn, List.map_append, f.keys, List.map_append]
    rfl
  · rw [List.nodup_append]
    exact ⟨f.nod, by simp, fun a ha b hb => by
      rw [List.mem_singleton.mp hb]
      exact fun z => hr (by rw [← z]; exact ha)⟩
  · rcases List.mem_append.mp hr' with z | z
    · exact f.sub r z
    · rw [List.mem_singleton.mp z]
      exact he
  · rcases List.mem_append.mp hr' with z | z
    · have c : e.1 ≠ r := fun q => hr (by rw [q]; exact z)
      obtain ⟨k, vs, h1, h2, h3, h4⟩ := f.at_ r z
      have ne : k ≠ l := fun q => by
        rw [q, nl] at h2
        cases h2
      have neK : k ≠ F := fun q => by
        rw [q, f.dict] at h2
        cases h2
      rw [ltrs_append, ltrs_one, if_neg c, List.append_nil]
      refine ⟨k, vs, ?_, (upd_ne ne).trans ((upd_ne neK).trans ((upd_ne ne).trans h2)), h3.tups t, h4⟩
      rw [valV_put, if_neg fun q => c (Sum.inr.inj q).symm]
      exact h1
    · rw [List.mem_singleton.mp z]
      refine ⟨l, [] ++ [.ref m], ?_, upd_same, ?_, ?_⟩
      · rw [valV_put, if_pos rfl]
      · rw [ltrs_append, ltrs_one, if_pos rfl, f.off _ hr]
        exact .cons ⟨m, rfl, t _ _ hm⟩ .nil
      · rw [ltrs_append, ltrs_one, if_pos rfl]
        simp
  · rw [valV_put] at h1 h2
    by_cases c1 : (Sum.inr r : L2.Key) = Sum.inr e.1
    · by_cases c2 : (Sum.inr q : L2.Key) = Sum.inr e.1
      · exact (Sum.inr.inj c1).trans (Sum.inr.inj c2).symm
      · rw [if_pos c1] at h1
        rw [if_neg c2] at h2
        rw [← V.ref.inj (Option.some.inj h1)] at h2
        exact absurd h2 (lnew q)
    · rw [if_neg c1] at h1
      by_cases c2 : (Sum.inr q : L2.Key) = Sum.inr e.1
      · rw [if_pos c2] at h2
        rw [← V.ref.inj (Option.some.inj h2)] at h1
        exact absurd h1 (lnew r)
      · rw [if_neg c2] at h2
        exact f.inj r q k h1 h2
  · have n1 : r ∉ rs := fun z => hr' (List.mem_append_left _ z)
    have c : e.1 ≠ r := fun z => hr' (List.mem_append_right _ (List.mem_singleton.mpr z.symm))
    rw [ltrs_append, ltrs_one, if_neg c, List.append_nil, f.off r n1]
/-- a dict of rows of names, by receivers -/
def LdAt (H : Hp) (kvs : List (L2.Key × V)) (es : List Ltr) (rs : List Str) : Prop := Paired (fun (kv : L2.Key × V) (r : Str) => kv.1 = Sum.inr r ∧ ∃ t us, kv.2 = .ref t ∧ H t = some (.tup us) ∧ NmsAt H us (ltrsOf es r)) kvs rs
theorem LdAt.tups {H H' : Hp} {kvs : List (L2.Key × V)} {es : List Ltr} {rs : List Str} (t : TupsE H H') (h : LdAt H kvs es rs) : LdAt H' kvs es rs := Paired.mapP h fun _ _ ⟨e, a, us, e2, h1, h2⟩ => ⟨e, a, us, e2, t _ _ h1, h2.tups t⟩
theorem LdAt.keysS {H : Hp} {kvs : List (L2.Key × V)} {es : List Ltr} {rs : List Str} (h : LdAt H kvs es rs) : kvs.map (·.1) = rs.map Sum.inr := by
  unfold LdAt at h
  induction h with
  | nil => rfl
  | cons a t ih => rw [List.map_cons, List.map_cons, ih, a.1]
theorem not_takeS {α : Type} {l : List α} (n : l.Nodup) {i : Nat} {x : α} (h : l[i]? = some x) : x ∉ l.take i := by
  intro z
  obtain ⟨j, hj, ej⟩ := List.mem_take_iff_getElem.mp z
  obtain ⟨lt, e2⟩ := List.getElem?_eq_some_iff.mp h
  exact List.pairwise_iff_getElem.mp n j i (by omega) lt (by omega) (ej.trans e2.symm)
theorem keep_new {F k : Addr} {H H' : Hp} {o : HO} (h : Keep F H H') (n : H k = none) : Keep F H (upd H' k o) := fun b x q e => (upd_ne (ne_of_none e n)).trans (h b x q e)
def spJLetters (C : Addr) : Sp := fun vs H Q _ => ∃ J E us es s loose, vs = [.ref J] ∧ JAt C H J E us es s loose ∧ es.length ≤ 40 ∧ ∀ H' D kvs, Same H H' → H D = none → H' D = some (.dK kvs) → LdAt H' kvs (es.take s) (lettered (es.take s)) → Q (.ref D) H'
section
variable {P : Program} {w : World} {K : PySem.W.Frag} {mg : Str → Option Value} {base : Heap} {ad : Nat → Addr} {fds : Nat → FuncData} {cs : Nat → Value}
theorem ok_Journal_letters (T : Txt K mg ad fds cs) : FnOk P w K mg base CX0 2 (ad 47005) (fds 47005) ["self"] (spJLetters (ad 47999)) := by
  refine T.F_Journal_letters.ok sc_Journal_letters (fun vs H Q E h => ?_) (fun cdv A outer s H vs Q E hr h => ?_)
  · obtain ⟨J, E, us, es, s, loose, rfl, _⟩ := h
    rfl
  obtain ⟨J, E, us, es, n, loose, rfl, hJ, hn, q⟩ := h
  have hu := hu_of hr
  refine ⟨_, (pss_cons (ps_set (i := 1) sc_Journal_letters.nd rfl (by first | exact .inl rfl | exact .inr rfl) pe_dnewK)
      (pss_cons (ps_for PassesOwn.never rfl (pi_list (pe_slice sl_list (YjD.pe_fldK (K := K) (pv 0) rfl) po_none (po_some (YjD.pe_fldK (K := K) (pv 0) rfl)))) (pg_name (i := 2) sc_Journal_letters.nd rfl (by first | exact .inl rfl | exact .inr rfl))
      (pss_one (ps_if (pt_cmpR op_eq (pe_ix ix_seq (pv 2) pe_int (fun _ _ => rfl)) (pe_glob rfl T.c_LETTER T.r_LETTER) (nomark _)) (pss_one (ps_expr (pe_bm PySem.F.plainAttrs_list PySem.F.slot_list_append PySem.F.type_list_append mt_append (pe_dsetd (pv 1) (pe_ix ix_seq (pv 2) pe_int (fun _ _ => rfl)) (pe_lst pa_nil) ⟨rfl, rfl, rfl, rfl⟩) (pa_cons (pe_ix ix_seq (pv 2) pe_int (fun _ _ => rfl)) pa_nil)))) pss_nil)))
      (pss_one (ps_ret (pe_dc (own := [("receiver", 3)]) rfl sc_Journal_letters.nd (pi_list (pe_callB (call_sortedD rfl) (by rfl) T.z_sorted (by decide +kernel) (pa_cons (pv 1) pa_nil))) (blkOk_by (N := N_Journal_letters) (sc := defScope s_Journal_letters) (own := [("receiver", 3)]) (by decide +kernel)) (fun _ _ _ _ _ => by exact (pg_name (i := 3) sc_Journal_letters.nd rfl (.inl rfl))) (fun _ _ _ _ _ => by exact pts_nil) (fun _ _ _ _ _ => by exact (pv 3)) (fun _ _ _ _ _ => by exact (pe_callTy (YjE.call_tupleK (K := K)) (by rfl) T.z_tuple (by decide +kernel) (pa_cons (pe_dget (hu_of hr) (pv 1) (pv 3) (fun _ _ => rfl)) pa_nil)))))))), ?_⟩
  obtain ⟨dx, dr, text, ei, et⟩ := hJ.ins
  have hul : us.length = es.length := hJ.ltr.length
  refine fun F nF => ?_
  have s1 := same_upd (o := .dK []) nF
  have hF : upd H F (.dK []) F = some (.dK []) := upd_same
  generalize upd H F (.dK []) = H1 at s1 hF
  have ei1 := s1 _ _ ei
  refine ⟨_, rfl, J, _, dx, _, _, rfl, ei1, T.cl_Journal, T.na_Journal_entries, j_ent, _, rfl, J, _, dx, _, _, rfl, ei1, T.cl_Journal, T.na_Journal_settled, j_settled, (n : Int), rfl, E, us, rfl, SqL.of (s1 _ _ hJ.ent), fun p np => ?_⟩
  rw [cut_upto]
  have s2 := s1.trans (same_upd (o := .lst (us.take n)) np)
  have hp : upd H1 p (.lst (us.take n)) p = some (.lst (us.take n)) := upd_same
  have hF2 := same_upd (o := .lst (us.take n)) np _ _ hF
  generalize upd H1 p (.lst (us.take n)) = H2 at s2 hp hF2
  have hus := hJ.ltr.tups (tupsOf s2)
  have ltl : (us.take n).length = n := by rw [List.length_take, hul, Nat.min_eq_left hJ.le]
  have gd : ∀ e ∈ es.take n, GoodL e := fun e he => hJ.good e (List.mem_of_mem_take he)
  have nFp : p ≠ F := fun z => by
    rw [z, hF] at np
    cases np
  have sameK : ∀ {H3 : Hp}, Keep F H2 H3 → Same H H3 := fun k b o e => k _ _ (fun z => by rw [z, nF] at e; cases e) (s2 _ _ e)
  refine ⟨p, rfl, ⟨_, SqL.of hp⟩, for_it (walk_list (K := K) (a := p) (xs := us.take n)) (fun i σ H3 => ∃ (y1 y2 : Option V) (kf : List (L2.Key × V)) (rs : List Str), σ = [some (.ref J), some (.ref F), y1, y2] ∧ Keep F H2 H3 ∧ FdAt H3 F kf rs (es.take i) ∧ ∀ r l, valV kf (Sum.inr r) = some (.ref l) → H2 l = none) ⟨_, _, [], [], rfl, Keep.refl _ _, ⟨hF2, rfl, List.nodup_nil, (fun r h => nomatch h), (fun r h => nomatch h), (fun r q l h => nomatch h), fun r _ => rfl⟩, (fun r l h => nomatch h)⟩
    (fun i σ H3 _ ⟨_, _, _, _, _, k, _⟩ => SqL.of (k _ _ nFp hp)) ?_ ?_⟩
  · rintro i x σ H3 H3' hi ⟨y1, y2, kf, rs, rfl, k3, hf, hnew⟩ ⟨rfl, hx⟩
    have hi' : i < n := by rw [ltl] at hi; exact hi
    rw [List.getElem?_take_of_lt hi'] at hx
    obtain ⟨e, he, t, m, rfl, ht, hm⟩ := pr_get (hJ.ltr.tups (tupsOf (sameK k3))) hx
    have ge : GoodL e := hJ.good e (List.mem_of_getElem? he)
    have ti : es.take (i + 1) = es.take i ++ [e] := by rw [List.take_add_one, he]; rfl
    refine ⟨_, rfl, .inr (.inl ⟨t, _, 0, _, rfl, rfl, SqT.of ht, atI_nat (j := 0) rfl, rfl, _, rfl, ?_⟩)⟩
    rw [show decide (V.str "letter" = V.str "letter") = true by decide +kernel]
    refine iteT ?_
    have kl : kf.length ≤ 2 := by
      have e1 : kf.length = rs.length := by
        have z := congrArg List.length hf.keys
        rw [List.length_map, List.length_map] at z
        exact z
      rw [e1]
      exact nodup_le2 hf.nod hf.sub
    refine ⟨_, rfl, F, rfl, .inl ⟨kf, .inl hf.dict⟩, _, rfl, .inr (.inl ⟨t, _, 1, _, rfl, rfl, SqT.of ht, atI_nat (j := 1) rfl, ?_⟩)⟩
    refine ⟨Nat.zero_le _, fun l nl => ⟨kf, Sum.inr e.1, same_upd nl _ _ hf.dict, rfl, ofNat_lt (by omega), fun v hv => ?_, fun hv => ?_⟩⟩
    · have hr : e.1 ∈ rs := by
        have z := valV_inK hv
        rw [hf.keys] at z
        obtain ⟨r, h1, h2⟩ := List.mem_map.mp z
        rw [← Sum.inr.inj h2]
        exact h1
      obtain ⟨k, vs, h1, h2, h3, h4⟩ := hf.at_ _ hr
      rw [hv] at h1
      obtain rfl := Option.some.inj h1
      have s4 := same_upd (o := .lst []) nl
      have f4 := hf.mono s4
      have ht4 := s4 _ _ ht
      have hm4 := s4 _ _ hm
      have h24 := s4 _ _ h2
      have h34 := h3.tups (tupsOf s4)
      have k4 := k3.trans (keepOf s4)
      generalize upd H3' l (.lst []) = H4 at f4 ht4 hm4 h24 h34 k4
      have vl : vs.length ≤ 40 := by
        have z := h3.length
        have y := ltrs_len (es.take i) e.1
        rw [List.length_take] at y
        omega
      have kn : H2 k = none := hnew _ _ hv
      refine ⟨.inl ⟨rfl, _, SqL.of h24⟩, _, rfl, .inr (.inl ⟨t, _, 2, _, rfl, rfl, SqT.of ht4, atI_nat (j := 2) rfl, ?_⟩)⟩
      refine ⟨k, vs, _, rfl, rfl, h24, ofNat_lt (by omega), ?_⟩
      refine ⟨_, _, kf, rs, rfl, keep_new k4 kn, ?_, hnew⟩
      rw [ti]
      exact f4.old hr hv h24 h34 hm4
    · have hr : e.1 ∉ rs := fun z => by
        obtain ⟨k, vs, h1, _⟩ := hf.at_ _ z
        rw [hv] at h1
        cases h1
      have nl2 : H2 l = none := by
        cases e1 : H2 l with
        | none => rfl
        | some o =>
          have ne : l ≠ F := fun z => by
            rw [z, hf.dict] at nl
            cases nl
          rw [k3 _ _ ne e1] at nl
          cases nl
      have neF : F ≠ l := fun z => by
        have q := hf.dict
        rw [z, nl] at q
        cases q
      have f5 := hf.new hr ge.1 nl hm
      rw [← ti] at f5
      have t4 := tupsOf (same_upd (o := .lst []) nl)
      have t5 := tups_dk (ys := putK kf (Sum.inr e.1 : L2.Key) (.ref l)) (same_upd (o := .lst []) nl _ _ hf.dict)
      have ht5 := t5 _ _ (t4 _ _ ht)
      have hl5 : upd (upd H3' l (.lst [])) F (.dK (putK kf (Sum.inr e.1 : L2.Key) (.ref l))) l = some (.lst []) := (upd_ne neF.symm).trans upd_same
      refine ⟨.inl ⟨rfl, _, SqL.of hl5⟩, _, rfl, .inr (.inl ⟨t, _, 2, _, rfl, rfl, SqT.of ht5, atI_nat (j := 2) rfl, ?_⟩)⟩
      refine ⟨l, [], _, rfl, rfl, hl5, by decide, ?_⟩
      have k4 : Keep F H2 (upd H3' l (.lst [])) := keep_new k3 nl2
      have k5 : Keep F H2 (upd (upd H3' l (.lst [])) F (.dK (putK kf (Sum.inr e.1 : L2.Key) (.ref l)))) := k4.trans fun b o n e => (upd_ne n).trans e
      refine ⟨_, _, _, _, rfl, keep_new k5 nl2, f5, fun r k hk => ?_⟩
      rw [valV_put] at hk
      by_cases c : (Sum.inr r : L2.Key) = Sum.inr e.1
      · rw [if_pos c] at hk
        rw [← V.ref.inj (Option.some.inj hk)]
        exact nl2
      · rw [if_neg c] at hk
        exact hnew r k hk
  · rintro σ H3 ⟨y1, y2, kf, rs, rfl, k3, hf, hnew⟩
    rw [ltl] at hf
    have s3 := sameK k3
    refine ⟨_, rfl, F, kf, rs, rfl, .inl hf.dict, ?_, by have := nodup_le2 hf.nod hf.sub; omega, fun ys t hperm hsort nt => ?_⟩
    · first | exact hf.keys | exact hf.keys.symm
    have ndy : ys.Nodup := hperm.nodup_iff.mpr hf.nod
    have ey := two_sorted ndy (fun y hy => hf.sub y (hperm.mem_iff.mp hy)) hsort
    have el : ys = lettered (es.take n) := by
      rw [ey]
      refine List.filter_congr fun r _ => ?_
      rw [decide_eq_decide, hperm.mem_iff]
      refine ⟨fun z => ?_, fun z => Classical.byContradiction fun q => z (hf.off r q)⟩
      obtain ⟨_, _, _, _, _, h4⟩ := hf.at_ r z
      exact h4
    have t1 := same_upd (o := .lst (ys.map V.str)) nt
    have ht : upd H3 t (.lst (ys.map V.str)) t = some (.lst (ys.map V.str)) := upd_same
    have f4 := hf.mono t1
    have s4 := s3.trans t1
    generalize upd H3 t (.lst (ys.map V.str)) = H4 at ht f4 s4
    refine ⟨t, rfl, ⟨_, SqL.of ht⟩, fun D nD => ?_⟩
    have yl : ys.length ≤ 2 := nodup_le2 ndy fun y hy => hf.sub y (hperm.mem_iff.mp hy)
    refine dc_it (walk_list (K := K) (a := t) (xs := ys.map V.str)) (fun i H5 => ∃ kd, Same H4 H5 ∧ H5 D = some (.dK kd) ∧ LdAt H5 kd (es.take n) (ys.take i)) ⟨[], same_upd nD, upd_same, .nil⟩ (fun i H5 _ h => by obtain ⟨kd, h, _⟩ := h; exact SqL.of (h _ _ ht)) ?_ ?_
    · rintro i x H5 H5' hi ⟨kd, s5, hD, hd⟩ ⟨rfl, hx⟩
      obtain ⟨r, hr, rfl⟩ : ∃ r, ys[i]? = some r ∧ x = .str r := by
        rw [List.getElem?_map] at hx
        cases e : ys[i]? with
        | none =>
          rw [e] at hx
          cases hx
        | some r =>
          rw [e] at hx
          exact ⟨r, rfl, (Option.some.inj hx).symm⟩
      have rm : r ∈ rs := hperm.mem_iff.mp (List.mem_of_getElem? hr)
      obtain ⟨l, us', h1, h2, h3, h4⟩ := (f4.mono s5).at_ r rm
      have g : DGet H5' F (.str r) (some (.ref l)) := by
        have z := DGet.k (k := (Sum.inr r : L2.Key)) (s5 _ _ f4.dict)
        rw [h1] at z
        exact z
      refine ⟨rfl, _, rfl, _, rfl, _, rfl, F, _, rfl, g, l, us', rfl, .inl ⟨SqL.of h2, fun u nu => ?_⟩⟩
      have s6 := same_upd (o := .tup us') nu
      have lt := (List.getElem?_eq_some_iff.mp hr).1
      have hkd : kd.length = i := by
        have z := hd.length
        rw [List.length_take] at z
        omega
      have vn : valV kd (Sum.inr r : L2.Key) = none := valV_noneK fun z => by
        rw [hd.keysS] at z
        obtain ⟨q, hq, e⟩ := List.mem_map.mp z
        obtain rfl := Sum.inr.inj e
        exact not_takeS ndy hr hq
      refine ⟨kd, Sum.inr r, rfl, s6 _ _ hD, ofNat_lt (by omega), putK kd (Sum.inr r) (.ref u), same_at (s5.trans s6) nD, upd_same, ?_⟩
      have t7 := tups_dk (ys := putK kd (Sum.inr r : L2.Key) (.ref u)) (s6 _ _ hD)
      have e1 : ys.take (i + 1) = ys.take i ++ [r] := by rw [List.take_add_one, hr]; rfl
      rw [e1, putK_new _ vn]
      have t8 := (tupsOf s6).trans t7
      rw [putK_new _ vn] at t7 t8
      exact Paired.snoc (hd.tups t8) ⟨rfl, u, us', rfl, t7 _ _ upd_same, h3.tups t8⟩
    · rintro H5 ⟨kd, s5, hD, hd⟩
      rw [List.length_map, List.take_length, el] at hd
      exact q H5 D kd (s4.trans s5) (s4.free nD) hD hd
end
end Yj
set_option Elab.async false
set_option linter.all false
set_option maxRecDepth 100000
set_option maxHeartbeats 4000000
set_option pp.maxSteps 1500
namespace Yj
open PySem PySem.Spec PyProof.Rows L2 RZ TL YjD
/-! ### receivers -/
theorem valV_dropK (kvs : List (L2.Key × V)) (k j : L2.Key) : valV (dropK kvs k) j = if j = k then none else valV kvs j := by
  unfold dropK
  induction kvs with
  | nil => simp [valV]
  | cons p r ih =>
    rw [List.filter_cons]
    by_cases c : p.1 = k
    · rw [if_neg (by rw [decide_eq_false fun z => z c]; exact Bool.false_ne_true), ih]
      by_cases d : j = k
      · rw [if_pos d, if_pos d]
      · rw [if_neg d, if_neg d, valV_neg fun z => d (z.symm.trans c)]
    · rw [if_pos (decide_eq_true c)]
      by_cases e : p.1 = j
      · rw [valV_pos e, if_neg fun z => c (e.trans z), valV_pos e]
      · rw [valV_neg e, ih, valV_neg e]
abbrev rF (T Y : Addr) : List (Str × V) := [("taken", .ref T), ("early", .ref Y)]
theorem r_tak {T Y : Addr} : (rF T Y).lookup ("taken" : Str) = some (.ref T) := lk_eq
theorem r_ear {T Y : Addr} : (rF T Y).lookup ("early" : Str) = some (.ref Y) := (lk_ne (by decide +kernel)).trans lk_eq
structure RAt (C : Addr) (H : Hp) (R T Y : Addr) (us : List V) (kv : List (L2.Key × V)) (L : List Str) : Prop where
  ins : ∃ dx, H R = some (.ins C dx (rF T Y))
  tak : H T = some (.lst us)
  nms : NmsAt H us (L.take us.length)
  ear : H Y = some (.dK kv)
  key : ∀ n v, valV kv (Sum.inl n) = some v → ∃ j : Nat, n = (j : Int) + 1 ∧ ∃ z, L[j]? = some z ∧ NmAt H v z
theorem RAt.le {C : Addr} {H : Hp} {R T Y : Addr} {us : List V} {kv : List (L2.Key × V)} {L : List Str} (h : RAt C H R T Y us kv L) : us.length ≤ L.length := by
  have z := h.nms.length
  rw [List.length_take] at z
  omega
theorem RAt.keep {C : Addr} {H H' : Hp} {R T Y : Addr} {us : List V} {kv : List (L2.Key × V)} {L : List Str} (h : RAt C H R T Y us kv L) (t : TupsE H H') (k1 : H' R = H R) (k2 : H' T = H T) (k3 : H' Y = H Y) : RAt C H' R T Y us kv L := by
  obtain ⟨dx, e⟩ := h.ins
  exact ⟨⟨dx, k1.trans e⟩, k2.trans h.tak, h.nms.tups t, k3.trans h.ear, fun n v hv => by
    obtain ⟨j, e1, z, e2, e3⟩ := h.key n v hv
    exact ⟨j, e1, z, e2, e3.tups t⟩⟩
theorem RAt.mono {C : Addr} {H H' : Hp} {R T Y : Addr} {us : List V} {kv : List (L2.Key × V)} {L : List Str} (h : RAt C H R T Y us kv L) (s : Same H H') : RAt C H' R T Y us kv L := by
  obtain ⟨dx, e⟩ := h.ins
  exact h.keep (tupsOf s) ((s _ _ e).trans e.symm) ((s _ _ h.tak).trans h.tak.symm) ((s _ _ h.ear).trans h.ear.symm)
/-- more letters are settled -/
theorem RAt.more {C : Addr} {H : Hp} {R T Y : Addr} {us : List V} {kv : List (L2.Key × V)} {L M : List Str} (h : RAt C H R T Y us kv L) (p : L <+: M) : RAt C H R T Y us kv M := by
  have le := h.le
  obtain ⟨q, rfl⟩ := p
  refine ⟨h.ins, h.tak, ?_, h.ear, fun n v hv => ?_⟩
  · rw [List.take_append_of_le_length le]
    exact h.nms
  · obtain ⟨j, e1, z, e2, e3⟩ := h.key n v hv
    have lt := (List.getElem?_eq_some_iff.mp e2).1
    exact ⟨j, e1, z, by rw [List.getElem?_append_left lt]; exact e2, e3⟩
/-- the numbers that are taken, or there early -/
def Has (us : List V) (kv : List (L2.Key × V)) (m : Nat) : Prop := m < us.length ∨ valV kv (Sum.inl ((m : Int) + 1)) ≠ none
def spRGet (C : Addr) : Sp := fun vs H Q _ => ∃ R T Y us kv L, ∃ j : Nat, ∃ v z, vs = [.ref R, .int ((j : Int) + 1), v] ∧ RAt C H R T Y us kv L ∧ L[j]? = some z ∧ NmAt H v z ∧ kv.length ≤ 1000 ∧ L.length ≤ 40 ∧
  ∀ H' us' kv', Off [T, Y] H H' → TupsE H H' → RAt C H' R T Y us' kv' L → us.length ≤ us'.length → valV kv' (Sum.inl ((us'.length : Int) + 1)) = none → kv'.length ≤ kv.length + 1 →
    (∀ m : Nat, Has us kv m ∨ m = j → Has us' kv' m) → Q (.int (us'.length : Nat)) H'
def spRInit (C : Addr) : Sp := fun vs H Q _ => ∃ Hb p dx, vs = [.ref p] ∧ Hb p = none ∧ Same Hb H ∧ H p = some (.ins C dx []) ∧
  ∀ H' T Y, Same Hb H' → Hb T = none → Hb Y = none → T ≠ p → Y ≠ p → RAt C H' p T Y [] [] [] → Q .non H'
section
variable {P : Program} {w : World} {K : PySem.W.Frag} {mg : Str → Option Value} {base : Heap} {ad : Nat → Addr} {fds : Nat → FuncData} {cs : Nat → Value}
theorem ok_Receiver___init__ (T : Txt K mg ad fds cs) : FnOk P w K mg base CX0 1 (ad 20000) (fds 20000) ["self"] (spRInit (ad 20999)) := by
  refine T.F_Receiver___init__.ok sc_Receiver___init__ (fun vs H Q E h => ?_) (fun cdv A outer s H vs Q E hr h => ?_)
  · obtain ⟨Hb, p, dx, rfl, _⟩ := h
    rfl
  obtain ⟨Hb, p, dx, rfl, nb, sb, hp, q⟩ := h
  refine ⟨_, (pss_cons (ps_fld (pv 0) (pe_lst pa_nil) rfl)
      (pss_one (ps_fld (pv 0) pe_dnewK rfl))), ?_⟩
  refine ⟨Nat.zero_le _, fun t nt => ?_⟩
  have nepT : t ≠ p := fun z => by
    rw [z, hp] at nt
    cases nt
  refine ⟨_, rfl, p, _, dx, _, rfl, (upd_ne nepT.symm).trans hp, T.cl_Receiver, T.na_Receiver_taken, (by decide), ?_⟩
  have tb : Hb t = none := sb.free nt
  have e1 : putF "taken" (.ref t) [] = [(("taken" : Str), V.ref t)] := rfl
  rw [e1]
  have sb1 : Same Hb (upd (upd H t (.lst [])) p (.ins (ad 20999) dx [(("taken" : Str), V.ref t)])) := same_at (same_at sb tb) nb
  have hp1 : upd (upd H t (.lst [])) p (.ins (ad 20999) dx [(("taken" : Str), V.ref t)]) p = some (.ins (ad 20999) dx [(("taken" : Str), V.ref t)]) := upd_same
  have ht1 : upd (upd H t (.lst [])) p (.ins (ad 20999) dx [(("taken" : Str), V.ref t)]) t = some (.lst []) := (upd_ne nepT).trans upd_same
  generalize upd (upd H t (.lst [])) p (.ins (ad 20999) dx [(("taken" : Str), V.ref t)]) = H1 at sb1 hp1 ht1
  refine fun y ny => ?_
  have nepY : y ≠ p := fun z => by
    rw [z, hp1] at ny
    cases ny
  have neTY : t ≠ y := fun z => by
    rw [← z, ht1] at ny
    cases ny
  refine ⟨_, rfl, p, _, dx, _, rfl, (upd_ne nepY.symm).trans hp1, T.cl_Receiver, T.na_Receiver_early, (by show 1 < 1000; decide), ?_⟩
  have e2 : putF "early" (.ref y) [(("taken" : Str), V.ref t)] = rF t y := by
    rw [putF_ne (by decide +kernel)]
    rfl
  rw [e2]
  have yb : Hb y = none := sb1.free ny
  exact q _ t y (same_at (same_at sb1 yb) nb) tb yb nepT nepY ⟨⟨dx, upd_same⟩, (upd_ne nepT).trans ((upd_ne neTY).trans ht1), .nil, (upd_ne nepY).trans upd_same, fun n v h => nomatch h⟩
theorem ok_Receiver_get (T : Txt K mg ad fds cs) : FnOk P w K mg base CX0 1 (ad 20001) (fds 20001) ["self", "number", "names"] (spRGet (ad 20999)) := by
  refine T.F_Receiver_get.ok sc_Receiver_get (fun vs H Q E h => ?_) (fun cdv A outer s H vs Q E hr h => ?_)
  · obtain ⟨R, t, y, us, kv, L, j, v, z, rfl, _⟩ := h
    rfl
  obtain ⟨R, t, y, us, kv, L, j, v, z, rfl, hR, hj, hv, hkl, hL, q⟩ := h
  have hu := hu_of hr
  refine ⟨_, (C8.pss_cut (ps_if (pt_cmpR op_gt (pv 1) (pe_callB call_len_seq (by rfl) T.z_len (by decide +kernel) (pa_cons (YjD.pe_fldK (K := K) (pv 0) rfl) pa_nil)) (nomark _)) (pss_one (ps_expr (pe_dsetd (YjD.pe_fldK (K := K) (pv 0) rfl) (pv 1) (pe_callTy call_tuple_of (by rfl) T.z_tuple (by decide +kernel) (pa_cons (pv 2) pa_nil)) ⟨rfl, rfl, rfl, rfl⟩))) pss_nil)
      (pss_cons (ps_while PassesOwn.never (pt_cmp (pc_din (hu_of hr) (pe_op op_add (pe_callB call_len_seq (by rfl) T.z_len (by decide +kernel) (pa_cons (YjD.pe_fldK (K := K) (pv 0) rfl) pa_nil)) pe_int) (YjD.pe_fldK (K := K) (pv 0) rfl)))
      (pss_one (ps_expr (pe_bm PySem.F.plainAttrs_list PySem.F.slot_list_append PySem.F.type_list_append mt_append (YjD.pe_fldK (K := K) (pv 0) rfl) (pa_cons (pe_dpop1 (YjD.pe_fldK (K := K) (pv 0) rfl) (pe_op op_add (pe_callB call_len_seq (by rfl) T.z_len (by decide +kernel) (pa_cons (YjD.pe_fldK (K := K) (pv 0) rfl) pa_nil)) pe_int) ⟨rfl, rfl, rfl, rfl⟩) pa_nil)))))
      (pss_one (ps_ret (pe_callB call_len_seq (by rfl) T.z_len (by decide +kernel) (pa_cons (YjD.pe_fldK (K := K) (pv 0) rfl) pa_nil)))))), ?_⟩
  obtain ⟨dx, ei⟩ := hR.ins
  have neT : t ≠ R := fun c => by
    have e := hR.tak
    rw [c, ei] at e
    cases e
  have neY : y ≠ R := fun c => by
    have e := hR.ear
    rw [c, ei] at e
    cases e
  have neTY : t ≠ y := fun c => by
    have e := hR.ear
    rw [← c, hR.tak] at e
    cases e
  refine ⟨fun σ H1 => ∃ kv1, σ = [some (.ref R), some (.int ((j : Int) + 1)), some v] ∧ Off [t, y] H H1 ∧ TupsE H H1 ∧ RAt (ad 20999) H1 R t y us kv1 L ∧ kv1.length ≤ kv.length + 1 ∧ ∀ m : Nat, Has us kv m ∨ m = j → Has us kv1 m, ?_, ?_⟩
  · obtain ⟨a, rfl, ha⟩ := hv
    refine ⟨_, rfl, _, rfl, R, _, dx, _, _, rfl, ei, T.cl_Receiver, T.na_Receiver_taken, r_tak, t, us, rfl, .inl (SqL.of hR.tak), _, _, rfl, rfl, _, rfl, ?_⟩
    by_cases c : (j : Int) + 1 > (us.length : Nat)
    · refine ifT c ⟨_, rfl, R, _, dx, _, _, rfl, ei, T.cl_Receiver, T.na_Receiver_early, r_ear, y, rfl, .inl ⟨kv, .inl hR.ear⟩, _, rfl, _, rfl, a, _, rfl, .inr ⟨SqT.of ha, kv, Sum.inl ((j : Int) + 1), hR.ear, rfl, ofNat_lt (by omega), fun w hw => ?_, fun hw => ?_⟩⟩
      · refine ⟨kv, rfl, Off.refl _ _, fun b xs e => e, hR, Nat.le_succ _, fun m hm => hm.elim id fun e => ?_⟩
        subst e
        exact .inr fun z => by rw [hw] at z; cases z
      · have tu := tups_dk (ys := putK kv (Sum.inl ((j : Int) + 1) : L2.Key) (.ref a)) hR.ear
        refine ⟨putK kv (Sum.inl ((j : Int) + 1)) (.ref a), rfl, off_upd (by simp), tu, ⟨⟨dx, (upd_ne neY.symm).trans ei⟩, (upd_ne neTY).trans hR.tak, hR.nms.tups tu, upd_same, fun n w h => ?_⟩, by rw [putK_new _ hw, List.length_append]; exact Nat.le_refl _, fun m hm => ?_⟩
        · rw [valV_put] at h
          by_cases e : (Sum.inl n : L2.Key) = Sum.inl ((j : Int) + 1)
          · rw [if_pos e] at h
            obtain rfl := Option.some.inj h
            exact ⟨j, Sum.inl.inj e, z, hj, a, rfl, tu _ _ ha⟩
          · rw [if_neg e] at h
            obtain ⟨i, e1, z1, e2, e3⟩ := hR.key n w h
            exact ⟨i, e1, z1, e2, e3.tups tu⟩
        · rcases hm with (h | h) | h
          · exact .inl h
          · refine .inr ?_
            rw [valV_put]
            by_cases e : (Sum.inl ((m : Int) + 1) : L2.Key) = Sum.inl ((j : Int) + 1)
            · rw [if_pos e]
              exact fun z => nomatch z
            · rw [if_neg e]
              exact h
          · subst h
            refine .inr ?_
            rw [valV_put, if_pos rfl]
            exact fun z => nomatch z
    · refine ifF c ⟨kv, rfl, Off.refl _ _, fun b xs e => e, hR, Nat.le_succ _, fun m hm => hm.elim id fun e => .inl (by omega)⟩
  · rintro σ H1 ⟨kv1, rfl, o1, t1, R1, kl1, p1⟩
    refine ⟨fun m σ H2 => ∃ us2 kv2, m = L.length - us2.length ∧ σ = [some (.ref R), some (.int ((j : Int) + 1)), some v] ∧ Off [t, y] H H2 ∧ TupsE H H2 ∧ RAt (ad 20999) H2 R t y us2 kv2 L ∧ kv2.length ≤ kv.length + 1 ∧ us.length ≤ us2.length ∧ ∀ m : Nat, Has us kv m ∨ m = j → Has us2 kv2 m, ⟨_, us, kv1, rfl, rfl, o1, t1, R1, kl1, Nat.le_refl _, p1⟩, ?_⟩
    rintro m σ H2 ⟨us2, kv2, rfl, rfl, o2, t2, R2, kl2, ul2, p2⟩
    obtain ⟨dx2, ei2⟩ := R2.ins
    have le2 := R2.le
    refine ⟨_, rfl, R, _, dx2, _, _, rfl, ei2, T.cl_Receiver, T.na_Receiver_taken, r_tak, t, us2, rfl, .inl (SqL.of R2.tak), _, _, rfl, rfl, _, rfl, R, _, dx2, _, _, rfl, ei2, T.cl_Receiver, T.na_Receiver_early, r_ear, y, _, rfl, DGet.k (k := Sum.inl ((us2.length : Int) + 1)) R2.ear, _, rfl, ?_⟩
    cases e : valV kv2 (Sum.inl ((us2.length : Int) + 1)) with
    | none =>
      exact iteF ⟨_, rfl, R, _, dx2, _, _, rfl, ei2, T.cl_Receiver, T.na_Receiver_taken, r_tak, t, us2, rfl, .inl (SqL.of R2.tak), q H2 us2 kv2 o2 t2 R2 ul2 e kl2 p2⟩
    | some w' =>
      obtain ⟨i, e1, z1, e2, e3⟩ := R2.key _ _ e
      obtain rfl : i = us2.length := by omega
      have lt := (List.getElem?_eq_some_iff.mp e2).1
      refine iteT ⟨fun σ H3 => ∃ us3 kv3, L.length - us3.length < L.length - us2.length ∧ σ = [some (.ref R), some (.int ((j : Int) + 1)), some v] ∧ Off [t, y] H H3 ∧ TupsE H H3 ∧ RAt (ad 20999) H3 R t y us3 kv3 L ∧ kv3.length ≤ kv.length + 1 ∧ us.length ≤ us3.length ∧ ∀ m : Nat, Has us kv m ∨ m = j → Has us3 kv3 m,
        fun σ H3 ⟨us3, kv3, h1, h2, h3, h4, h5, h6, h7, h8⟩ => ⟨_, h1, us3, kv3, rfl, h2, h3, h4, h5, h6, h7, h8⟩, ?_⟩
      refine ⟨_, rfl, R, _, dx2, _, _, rfl, ei2, T.cl_Receiver, T.na_Receiver_taken, r_tak, .inl ⟨rfl, _, SqL.of R2.tak⟩, ?_⟩
      refine ⟨_, rfl, R, _, dx2, _, _, rfl, ei2, T.cl_Receiver, T.na_Receiver_early, r_ear, y, rfl, .inl ⟨kv2, .inl R2.ear⟩, ?_⟩
      refine ⟨_, rfl, R, _, dx2, _, _, rfl, ei2, T.cl_Receiver, T.na_Receiver_taken, r_tak, t, us2, rfl, .inl (SqL.of R2.tak), _, _, rfl, rfl, kv2, Sum.inl ((us2.length : Int) + 1), w', R2.ear, rfl, e, ?_⟩
      have tak3 : upd H2 y (.dK (dropK kv2 (Sum.inl ((us2.length : Int) + 1)))) t = some (.lst us2) := (upd_ne neTY).trans R2.tak
      refine ⟨t, us2, _, rfl, rfl, tak3, ofNat_lt (by omega), ?_⟩
      have tu := (tups_dk (ys := dropK kv2 (Sum.inl ((us2.length : Int) + 1) : L2.Key)) R2.ear).trans (tups_lst (ys := us2 ++ [w']) tak3)
      have el : (us2 ++ [w']).length = us2.length + 1 := by rw [List.length_append]; rfl
      refine ⟨us2 ++ [w'], dropK kv2 (Sum.inl ((us2.length : Int) + 1)), by rw [el]; omega, rfl, (o2.trans (off_upd (by simp))).trans (off_upd (by simp)), t2.trans tu, ⟨⟨dx2, (upd_ne neT.symm).trans ((upd_ne neY.symm).trans ei2)⟩, upd_same, ?_, (upd_ne neTY.symm).trans upd_same, fun n w h => ?_⟩, Nat.le_trans (dropK_le _ _) kl2, by rw [el]; omega, fun m hm => ?_⟩
      · rw [el, List.take_add_one, e2]
        exact Paired.snoc (R2.nms.tups tu) (e3.tups tu)
      · rw [valV_dropK] at h
        by_cases c : (Sum.inl n : L2.Key) = Sum.inl ((us2.length : Int) + 1)
        · rw [if_pos c] at h
          cases h
        · rw [if_neg c] at h
          obtain ⟨i, f1, f2, f3, f4⟩ := R2.key n w h
          exact ⟨i, f1, f2, f3, f4.tups tu⟩
      · rcases p2 m hm with h | h
        · exact .inl (by rw [el]; omega)
        · by_cases c : m = us2.length
          · exact .inl (by rw [el]; omega)
          · refine .inr ?_
            rw [valV_dropK, if_neg fun z => c (by have := Sum.inl.inj z; omega)]
            exact h
end
end Yj
set_option Elab.async false
set_option linter.all false
set_option maxRecDepth 100000
set_option maxHeartbeats 4000000
set_option pp.maxSteps 1500
namespace Yj
open PySem PySem.Spec PyProof.Rows L2 RZ TL YjD
/-! ### the post -/
abbrev pF (J D : Addr) : List (Str × V) := [("journal", .ref J), ("heard", .ref D)]
theorem p_jour {J D : Addr} : (pF J D).lookup ("journal" : Str) = some (.ref J) := lk_eq
theorem p_heard {J D : Addr} : (pF J D).lookup ("heard" : Str) = some (.ref D) := (lk_ne (by decide +kernel)).trans lk_eq
theorem j_no {dr E : Addr} {text loose : Str} {s : Nat} : (jF dr E text loose s).lookup ("letters" : Str) = none :=
  (lk_ne (by decide +kernel)).trans ((lk_ne (by decide +kernel)).trans ((lk_ne (by decide +kernel)).trans ((lk_ne (by decide +kernel)).trans ((lk_ne (by decide +kernel)).trans rfl))))
structure PAt (C : Addr) (H : Hp) (Po J D : Addr) (hv : Rel) : Prop where
  ins : ∃ dx, H Po = some (.ins C dx (pF J D))
  hea : H D = some (.dK (relK hv))
theorem PAt.mono {C : Addr} {H H' : Hp} {Po J D : Addr} {hv : Rel} (h : PAt C H Po J D hv) (s : Same H H') : PAt C H' Po J D hv := by
  obtain ⟨dx, e⟩ := h.ins
  exact ⟨⟨dx, s _ _ e⟩, s _ _ h.hea⟩
def heardI (hv : Rel) (r : Str) : Int := (relAt hv r).getD 0
theorem heard_get (hv : Rel) (r : Str) : ((relAt hv r).map V.int).getD (.int 0) = .int (heardI hv r) := by
  unfold heardI
  cases relAt hv r <;> rfl
abbrev Wt := Str × Nat × Str
def WtAt1 (H : Hp) (v : V) (x : Wt) : Prop := ∃ t a, v = .ref t ∧ H t = some (.tup [.str x.1, .int (x.2.1 : Nat), .ref a]) ∧ H a = some (.tup [.str x.2.2])
abbrev WtAt (H : Hp) : List V → List Wt → Prop := Paired fun v x => WtAt1 H v x
theorem WtAt1.tups {H H' : Hp} (t : TupsE H H') {v : V} {x : Wt} (h : WtAt1 H v x) : WtAt1 H' v x := by
  obtain ⟨b, a, e, h1, h2⟩ := h
  exact ⟨b, a, e, t _ _ h1, t _ _ h2⟩
theorem WtAt.tups {H H' : Hp} (t : TupsE H H') {us : List V} {l : List Wt} (h : WtAt H us l) : WtAt H' us l := Paired.mapP h fun _ _ a => a.tups t
/-- a receiver's letters with numbers above h, from the k-th on -/
def waitFrom (r : Str) (h : Int) : Nat → List Str → List Wt
  | _, [] => []
  | k, z :: zs => (if h < (k : Int) + 1 then [(r, k + 1, z)] else []) ++ waitFrom r h (k + 1) zs
theorem wait_snoc (r : Str) (h : Int) (z : Str) : ∀ (l : List Str) (k : Nat), waitFrom r h k (l ++ [z]) = waitFrom r h k l ++ (if h < ((k + l.length : Nat) : Int) + 1 then [(r, k + l.length + 1, z)] else [])
  | [], k => by
    show (if h < (k : Int) + 1 then [(r, k + 1, z)] else []) ++ [] = [] ++ _
    rw [List.append_nil]
    rfl
  | y :: l, k => by
    show (if h < (k : Int) + 1 then [(r, k + 1, y)] else []) ++ waitFrom r h (k + 1) (l ++ [z]) = (if h < (k : Int) + 1 then [(r, k + 1, y)] else []) ++ waitFrom r h (k + 1) l ++ _
    rw [wait_snoc r h z l (k + 1), List.append_assoc, List.length_cons, show k + 1 + l.length = k + (l.length + 1) by omega]
theorem wait_len (r : Str) (h : Int) : ∀ (l : List Str) (k : Nat), (waitFrom r h k l).length ≤ l.length
  | [], _ => Nat.le_refl _
  | y :: l, k => by
    have z := wait_len r h l (k + 1)
    show ((if h < (k : Int) + 1 then [(r, k + 1, y)] else []) ++ waitFrom r h (k + 1) l).length ≤ l.length + 1
    rw [List.length_append]
    by_cases c : h < (k : Int) + 1
    · rw [if_pos c]
      show 1 + _ ≤ _
      omega
    · rw [if_neg c]
      show 0 + _ ≤ _
      omega
/-- all letters that wait -/
def waitL (es : List Ltr) (h : Str → Int) (rs : List Str) : List Wt := rs.flatMap fun r => waitFrom r (h r) 0 (ltrsOf es r)
theorem waitL_len (es : List Ltr) (h : Str → Int) : ∀ rs : List Str, (waitL es h rs).length ≤ rs.length * es.length
  | [] => Nat.zero_le _
  | r :: rs => by
    have a := wait_len r (h r) (ltrsOf es r) 0
    have b := ltrs_len es r
    have c := waitL_len es h rs
    show (waitFrom r (h r) 0 (ltrsOf es r) ++ waitL es h rs).length ≤ (rs.length + 1) * es.length
    rw [List.length_append, Nat.add_mul, Nat.one_mul]
    omega
theorem valV_getK {kvs : List (L2.Key × V)} (n : (kvs.map (·.1)).Nodup) : ∀ {i : Nat} {f : L2.Key} {v : V}, kvs[i]? = some (f, v) → valV kvs f = some v := by
  induction kvs with
  | nil =>
    intro i f v h
    cases h
  | cons p r ih =>
    obtain ⟨n1, n2⟩ := List.nodup_cons.mp n
    intro i f v h
    cases i with
    | zero =>
      obtain rfl := Option.some.inj h
      exact valV_pos rfl
    | succ i =>
      have h : r[i]? = some (f, v) := h
      rw [valV_neg fun z => n1 (by show p.1 ∈ r.map (·.1); rw [z]; exact List.mem_map.mpr ⟨(f, v), List.mem_of_getElem? h, rfl⟩)]
      exact ih n2 h
theorem lettered_nodup (es : List Ltr) : (lettered es).Nodup := List.Nodup.sublist List.filter_sublist (by decide +kernel)
theorem LdAt.nodup {H : Hp} {kvs : List (L2.Key × V)} {es : List Ltr} (h : LdAt H kvs es (lettered es)) : (kvs.map (·.1)).Nodup := by
  rw [h.keysS]
  exact List.Pairwise.map _ (fun _ _ n z => n (Sum.inr.inj z)) (lettered_nodup es)
def spPInit (C : Addr) : Sp := fun vs H Q _ => ∃ Hb p dx J, vs = [.ref p, .ref J] ∧ Hb p = none ∧ Same Hb H ∧ H p = some (.ins C dx []) ∧
  ∀ H' D, Same Hb H' → Hb D = none → D ≠ p → PAt C H' p J D [] → Q .non H'
def spWaiting (CJ CP : Addr) : Sp := fun vs H Q _ => ∃ Po J D hv E us es s loose, vs = [.ref Po] ∧ PAt CP H Po J D hv ∧ JAt CJ H J E us es s loose ∧ es.length ≤ 40 ∧
  ∀ H' W ws, Same H H' → H W = none → H' W = some (.lst ws) → WtAt H' ws (waitL (es.take s) (heardI hv) (lettered (es.take s))) → Q (.ref W) H'
section
variable {P : Program} {w : World} {K : PySem.W.Frag} {mg : Str → Option Value} {base : Heap} {ad : Nat → Addr} {fds : Nat → FuncData} {cs : Nat → Value}
theorem ok_Post___init__ (T : Txt K mg ad fds cs) : FnOk P w K mg base CX0 1 (ad 19000) (fds 19000) ["self", "journal"] (spPInit (ad 19999)) := by
  refine T.F_Post___init__.ok sc_Post___init__ (fun vs H Q E h => ?_) (fun cdv A outer s H vs Q E hr h => ?_)
  · obtain ⟨Hb, p, dx, J, rfl, _⟩ := h
    rfl
  obtain ⟨Hb, p, dx, J, rfl, nb, sb, hp, q⟩ := h
  refine ⟨_, (pss_cons (ps_fld (pv 0) (pv 1) rfl)
      (pss_one (ps_fld (pv 0) pe_dnewK rfl))), ?_⟩
  refine ⟨_, rfl, _, rfl, p, _, dx, _, rfl, hp, T.cl_Post, T.na_Post_journal, (by decide), ?_⟩
  have e1 : putF "journal" (.ref J) [] = [(("journal" : Str), V.ref J)] := rfl
  rw [e1]
  have sb1 : Same Hb (upd H p (.ins (ad 19999) dx [(("journal" : Str), V.ref J)])) := same_at sb nb
  have hp1 : upd H p (.ins (ad 19999) dx [(("journal" : Str), V.ref J)]) p = some (.ins (ad 19999) dx [(("journal" : Str), V.ref J)]) := upd_same
  generalize upd H p (.ins (ad 19999) dx [(("journal" : Str), V.ref J)]) = H1 at sb1 hp1
  refine fun y ny => ?_
  have ne : y ≠ p := fun z => by
    rw [z, hp1] at ny
    cases ny
  refine ⟨_, rfl, p, _, dx, _, rfl, (upd_ne ne.symm).trans hp1, T.cl_Post, T.na_Post_heard, (by show 1 < 1000; decide), ?_⟩
  have e2 : putF "heard" (.ref y) [(("journal" : Str), V.ref J)] = pF J y := by
    rw [putF_ne (by decide +kernel)]
    rfl
  rw [e2]
  have yb : Hb y = none := sb1.free ny
  exact q _ y (same_at (same_at sb1 yb) nb) yb ne ⟨⟨dx, upd_same⟩, (upd_ne ne).trans upd_same⟩
theorem ok_Post_waiting (T : Txt K mg ad fds cs) : FnOk P w K mg base CX0 3 (ad 19001) (fds 19001) ["self"] (spWaiting (ad 47999) (ad 19999)) := by
  refine T.F_Post_waiting.ok sc_Post_waiting (fun vs H Q E h => ?_) (fun cdv A outer s H vs Q E hr h => ?_)
  · obtain ⟨Po, J, D, hv, E, us, es, s, loose, rfl, _⟩ := h
    rfl
  obtain ⟨Po, J, D, hv, E, us, es, n, loose, rfl, hP, hJ, hn, q⟩ := h
  have hu := hu_of hr
  refine ⟨_, (pss_cons (ps_set (i := 1) sc_Post_waiting.nd rfl (by first | exact .inl rfl | exact .inr rfl) (pe_lst pa_nil))
      (pss_cons (ps_set (i := 2) sc_Post_waiting.nd rfl (by first | exact .inl rfl | exact .inr rfl) (pe_meth0 (YjD.pe_fldK (K := K) (pv 0) rfl) T.cl_Journal T.m_Journal_letters (ok_Journal_letters T) (hr.mono (by decide)) (bi_Journal_letters T) .nil pass0))
      (pss_cons (ps_lock (ps_for PassesOwn.never rfl (pi_keys (pv 2)) (pg_name (i := 3) sc_Post_waiting.nd rfl (by first | exact .inl rfl | exact .inr rfl))
      (pss_one (ps_for PassesOwn.never rfl (YjE.pi_enumS (by rfl) T.z_enumerate (pa_cons (pe_dget (hu_of hr) (pv 2) (pv 3) (fun _ _ => rfl)) pa_nil)) (pg_tup rfl (pgs_cons (pg_name (i := 4) sc_Post_waiting.nd rfl (by first | exact .inl rfl | exact .inr rfl)) (pgs_cons (pg_name (i := 5) sc_Post_waiting.nd rfl (by first | exact .inl rfl | exact .inr rfl)) pgs_nil)))
      (pss_one (ps_if (pt_cmpR op_gt (pv 4) (pe_dget2 (hu_of hr) (YjD.pe_fldK (K := K) (pv 0) rfl) (pv 3) pe_int ⟨rfl, rfl, rfl, rfl⟩) (nomark _)) (pss_one (ps_expr (pe_bm PySem.F.plainAttrs_list PySem.F.slot_list_append PySem.F.type_list_append mt_append (pv 1) (pa_cons (pe_tup (pa_cons (pv 3) (pa_cons (pv 4) (pa_cons (pv 5) pa_nil)))) pa_nil)))) pss_nil))))))
      (pss_one (ps_ret (pv 1)))))), ?_⟩
  obtain ⟨dx, ei⟩ := hP.ins
  refine ⟨Nat.zero_le _, fun F nF => ?_⟩
  have s1 := same_upd (o := .lst []) nF
  have hF : upd H F (.lst []) F = some (.lst []) := upd_same
  generalize upd H F (.lst []) = H1 at s1 hF
  have hJ1 := hJ.mono s1
  obtain ⟨dxJ, drJ, text, eJ, _⟩ := hJ1.ins
  refine ⟨_, rfl, Po, _, dx, _, _, rfl, s1 _ _ ei, T.cl_Post, T.na_Post_journal, p_jour, J, dxJ, _, rfl, eJ, j_no, J, E, us, es, n, loose, rfl, hJ1, hn, fun H2 G kvs s2 nG hG hL => ?_⟩
  refine ⟨G, _, hG, True.intro, fun od => ?_⟩
  have s12 := s1.trans s2
  have hF2 := s2 _ _ hF
  have neG : G ≠ F := fun z => by
    rw [z, hF] at nG
    cases nG
  have nGH : H G = none := s1.free nG
  have hGz : upd H2 G (.frz od (.dK kvs)) G = some (.frz od (.dK kvs)) := upd_same
  have sz : Same H (upd H2 G (.frz od (.dK kvs))) := same_at s12 nGH
  have hFz : upd H2 G (.frz od (.dK kvs)) F = some (.lst []) := (upd_ne neG.symm).trans hF2
  have tz : TupsE H2 (upd H2 G (.frz od (.dK kvs))) := fun b xs e => (upd_ne fun z => by rw [z, hG] at e; cases e).trans e
  have hLz := hL.tups tz
  generalize upd H2 G (.frz od (.dK kvs)) = HB at hGz sz hFz hLz
  have kl : kvs.length = (lettered (es.take n)).length := hL.length
  have hPz := hP.mono sz
  obtain ⟨dxz, eiz⟩ := hPz.ins
  refine ⟨_, rfl, G, od, rfl, .inl ⟨kvs, hGz, ?_⟩⟩
  refine for_it walk_keys (fun i σ H3 => ∃ (y1 y2 y3 : Option V) (ws : List V), σ = [some (.ref Po), some (.ref F), some (.ref G), y1, y2, y3] ∧ Keep F HB H3 ∧ H3 F = some (.lst ws) ∧ WtAt H3 ws (waitL (es.take n) (heardI hv) ((lettered (es.take n)).take i))) ⟨none, none, none, [], rfl, Keep.refl _ _, hFz, .nil⟩ (fun i σ H3 _ ⟨_, _, _, _, _, k, _⟩ => k _ _ neG hGz) ?_ ?_
  · rintro i x σ H3 H3' hi ⟨y1, y2, y3, ws, rfl, k3, hF3, hw⟩ ⟨rfl, k, v, hk, rfl⟩
    obtain ⟨r, hr, e1, t, us2, e2, ht, hus⟩ := pr_get hLz hk
    subst e1 e2
    have vk : valV kvs (Sum.inr r : L2.Key) = some (.ref t) := valV_getK hL.nodup hk
    have neTF : t ≠ F := fun z => by
      rw [z, hFz] at ht
      cases ht
    have g : DGet H3' G (.str r) (some (.ref t)) := .inl ⟨kvs, Sum.inr r, .inr ⟨od, k3 _ _ neG hGz⟩, rfl, vk.symm⟩
    have ul : us2.length = (ltrsOf (es.take n) r).length := hus.length
    have ll := ltrs_len (es.take n) r
    have l40 : (es.take n).length ≤ 40 := by rw [List.length_take]; omega
    refine ⟨_, rfl, _, rfl, G, _, rfl, g, t, us2, rfl, .inr ⟨SqT.of (k3 _ _ neTF ht), ?_⟩⟩
    refine for_it (YjE.walk_enumS (R := fun H xs => SqT K H t xs)) (fun m σ H4 => ∃ (y2 y3 : Option V) (ws : List V), σ = [some (.ref Po), some (.ref F), some (.ref G), some (.str r), y2, y3] ∧ Keep F HB H4 ∧ H4 F = some (.lst ws) ∧ WtAt H4 ws (waitL (es.take n) (heardI hv) ((lettered (es.take n)).take i) ++ waitFrom r (heardI hv r) 0 ((ltrsOf (es.take n) r).take m))) ⟨_, _, ws, rfl, k3, hF3, by rw [List.take_zero]; show WtAt _ _ (_ ++ []); rw [List.append_nil]; exact hw⟩ (fun m σ H4 _ ⟨_, _, _, _, k, _⟩ => SqT.of (k _ _ neTF ht)) ?_ ?_
    · rintro m x σ H4 H4' hm ⟨y2, y3, ws4, rfl, k4, hF4, hw4⟩ ⟨T', u, v', rfl, nT, rfl, h1, h2⟩
      obtain rfl := Option.some.inj h1
      obtain ⟨z, hz, a, rfl, ha⟩ := pr_get hus (i := m) (v := v') h2
      have s5 := same_upd (o := .tup [V.int ((m : Nat) + 1 : Int), .ref a]) nT
      have hT : upd H4 T' (.tup [V.int ((m : Nat) + 1 : Int), .ref a]) T' = some (.tup [V.int ((m : Nat) + 1 : Int), .ref a]) := upd_same
      have hF5 := s5 _ _ hF4
      have k5 := k4.trans (keepOf s5)
      have hw5 := hw4.tups (tupsOf s5)
      generalize upd H4 T' (.tup [V.int ((m : Nat) + 1 : Int), .ref a]) = H5 at s5 hT hF5 k5 hw5
      refine ⟨T', _, rfl, SqT.of hT, rfl, _, _, rfl, _, _, rfl, rfl, ?_⟩
      have neP : Po ≠ F := fun z => by
        rw [z, nF] at ei
        cases ei
      have neD : D ≠ F := fun z => by
        have e := hP.hea
        rw [z, nF] at e
        cases e
      have hD5 := k5 _ _ neD hPz.hea
      refine ⟨_, rfl, _, rfl, Po, _, dxz, _, _, rfl, k5 _ _ neP eiz, T.cl_Post, T.na_Post_heard, p_heard, D, rfl, .inl ⟨_, .inl hD5⟩, _, rfl, (relAt hv r).map V.int, ?_, ?_⟩
      · have z := DGet.k (k := (Sum.inr r : L2.Key)) hD5
        rw [relK_val] at z
        exact z
      rw [heard_get]
      have lw : ws4.length ≤ 200 := by
        have z := hw4.length
        have q1 := wait_len r (heardI hv r) ((ltrsOf (es.take n) r).take m) 0
        have q2 := waitL_len (es.take n) (heardI hv) ((lettered (es.take n)).take i)
        have q3 : ((lettered (es.take n)).take i).length ≤ 2 := by
          have z2 := nodup_le2 (lettered_nodup (es.take n)) fun r h => (List.mem_filter.mp h).1
          rw [List.length_take]
          omega
        rw [List.length_append] at z
        rw [List.length_take] at q1
        have q4 : ((lettered (es.take n)).take i).length * (es.take n).length ≤ 2 * 40 := Nat.mul_le_mul q3 l40
        omega
      have tk : (ltrsOf (es.take n) r).take (m + 1) = (ltrsOf (es.take n) r).take m ++ [z] := by rw [List.take_add_one, hz]; rfl
      have lm : ((ltrsOf (es.take n) r).take m).length = m := by
        have := (List.getElem?_eq_some_iff.mp hz).1
        rw [List.length_take]
        omega
      refine ⟨_, _, rfl, rfl, _, rfl, ?_⟩
      by_cases c : (m : Int) + 1 > heardI hv r
      · refine ifT c ⟨_, rfl, .inl ⟨rfl, _, SqL.of hF5⟩, _, rfl, _, rfl, _, rfl, (by show 3 ≤ sizeLine; exact ofNat_le (by omega)), fun t6 n6 => ?_⟩
        have s6 := same_upd (o := .tup [V.str r, .int ((m : Nat) + 1 : Int), .ref a]) n6
        refine ⟨F, ws4, _, rfl, rfl, s6 _ _ hF5, ofNat_lt (by omega), ?_⟩
        have t7 := tups_lst (ys := ws4 ++ [.ref t6]) (s6 _ _ hF5)
        refine ⟨_, _, ws4 ++ [.ref t6], rfl, (k5.trans (keepOf s6)).trans fun b o q e => (upd_ne q).trans e, upd_same, ?_⟩
        rw [tk, wait_snoc, lm, Nat.zero_add, if_pos c, ← List.append_assoc]
        have ea := k5 _ _ (fun z => by rw [z, hFz] at ha; cases ha) ha
        exact Paired.snoc (hw5.tups ((tupsOf s6).trans t7)) ⟨t6, a, rfl, t7 _ _ upd_same, t7 _ _ (s6 _ _ ea)⟩
      · refine ifF c ⟨_, _, ws4, rfl, k5, hF5, ?_⟩
        rw [tk, wait_snoc, lm, Nat.zero_add, if_neg c, List.append_nil]
        exact hw5
    · rintro σ H4 ⟨y2, y3, ws4, rfl, k4, hF4, hw4⟩
      rw [ul, List.take_length] at hw4
      refine ⟨_, _, _, ws4, rfl, k4, hF4, ?_⟩
      have hr2 : (lettered (es.take n))[i]? = some r := hr
      rw [List.take_add_one, hr2]
      unfold waitL
      rw [List.flatMap_append]
      show WtAt H4 ws4 (_ ++ (waitFrom r (heardI hv r) 0 (ltrsOf (es.take n) r) ++ []))
      rw [List.append_nil]
      exact hw4
  · rintro σ H3 ⟨y1, y2, y3, ws, rfl, k3, hF3, hw⟩
    rw [kl, List.take_length] at hw
    refine ⟨k3 _ _ neG hGz, ⟨_, rfl, ?_⟩⟩
    have sH3 : Same H H3 := fun b o e => k3 _ _ (fun z => by rw [z, nF] at e; cases e) (sz _ _ e)
    have sfin : Same H (upd H3 G (.dK kvs)) := same_at sH3 nGH
    have tf : TupsE H3 (upd H3 G (.dK kvs)) := fun b xs e => (upd_ne fun z => by rw [z, k3 _ _ neG hGz] at e; cases e).trans e
    exact q _ F ws sfin nF ((upd_ne neG.symm).trans hF3) (hw.tups tf)
end
end Yj
set_option Elab.async false
set_option linter.all false
set_option maxRecDepth 100000
set_option maxHeartbeats 4000000
set_option pp.maxSteps 1500
namespace Yj
open PySem PySem.Spec PyProof.Rows L2 RZ TL YjD
/-! ### the post hears -/
def putR (hv : Rel) (r : Str) (m : Int) : Rel := if (hv.any fun p => decide (p.1 = r)) = true then hv.map (fun p => if p.1 = r then (p.1, m) else p) else hv ++ [(r, m)]
theorem relK_any (hv : Rel) (r : Str) : ((relK hv).any fun kv => decide (kv.1 = (Sum.inr r : L2.Key))) = hv.any fun p => decide (p.1 = r) := by
  unfold relK
  rw [List.any_map]
  refine congrArg (List.any hv) (funext fun p => ?_)
  show decide ((Sum.inr p.1 : L2.Key) = Sum.inr r) = decide (p.1 = r)
  rw [decide_eq_decide]
  exact ⟨Sum.inr.inj, congrArg Sum.inr⟩
theorem relK_putR (hv : Rel) (r : Str) (m : Int) : putK (relK hv) (Sum.inr r : L2.Key) (.int m) = relK (putR hv r m) := by
  unfold putK putR
  rw [relK_any]
  by_cases c : (hv.any fun p => decide (p.1 = r)) = true
  · rw [if_pos c, if_pos c]
    unfold relK
    rw [List.map_map, List.map_map]
    refine List.map_congr_left fun p _ => ?_
    show (if (Sum.inr p.1 : L2.Key) = Sum.inr r then ((Sum.inr p.1 : L2.Key), V.int m) else (Sum.inr p.1, V.int p.2)) = _
    show _ = ((Sum.inr (if p.1 = r then (p.1, m) else p).1 : L2.Key), V.int (if p.1 = r then (p.1, m) else p).2)
    by_cases d : p.1 = r
    · rw [if_pos (congrArg Sum.inr d), if_pos d]
    · rw [if_neg fun z => d (Sum.inr.inj z), if_neg d]
  · rw [if_neg c, if_neg c]
    unfold relK
    rw [List.map_append]
    rfl
theorem relAt_putR (hv : Rel) (r q : Str) (m : Int) : relAt (putR hv r m) q = if q = r then some m else relAt hv q := by
  have z := valV_put (relK hv) (Sum.inr r : L2.Key) (Sum.inr q) (.int m)
  rw [relK_putR, relK_val, relK_val] at z
  by_cases c : q = r
  · rw [if_pos (congrArg Sum.inr c)] at z
    rw [if_pos c]
    cases e : relAt (putR hv r m) q with
    | none =>
      rw [e] at z
      cases z
    | some y =>
      rw [e] at z
      exact congrArg some (V.int.inj (Option.some.inj z))
  · rw [if_neg fun y => c (Sum.inr.inj y)] at z
    rw [if_neg c]
    cases e : relAt (putR hv r m) q <;> cases f : relAt hv q <;> rw [e, f] at z
    · cases z
    · cases z
    · exact congrArg some (V.int.inj (Option.some.inj z))
theorem heard_put (hv : Rel) (r q : Str) (m : Int) : heardI (putR hv r m) q = if q = r then m else heardI hv q := by
  unfold heardI
  rw [relAt_putR]
  by_cases c : q = r
  · rw [if_pos c, if_pos c]
    rfl
  · rw [if_neg c, if_neg c]
theorem putR_len (hv : Rel) (r : Str) (m : Int) : (putR hv r m).length ≤ hv.length + 1 := by
  unfold putR
  by_cases c : (hv.any fun p => decide (p.1 = r)) = true
  · rw [if_pos c, List.length_map]
    exact Nat.le_succ _
  · rw [if_neg c, List.length_append]
    exact Nat.le_refl _
theorem LdAt.get {H : Hp} {kvs : List (L2.Key × V)} {es : List Ltr} (h : LdAt H kvs es (lettered es)) {r : Str} (hr : r ∈ lettered es) : ∃ t us, valV kvs (Sum.inr r) = some (.ref t) ∧ H t = some (.tup us) ∧ NmsAt H us (ltrsOf es r) := by
  have m : (Sum.inr r : L2.Key) ∈ kvs.map (·.1) := by
    rw [h.keysS]
    exact List.mem_map.mpr ⟨r, hr, rfl⟩
  obtain ⟨p, hp, e⟩ := List.mem_map.mp m
  obtain ⟨i, lt, e2⟩ := List.getElem_of_mem hp
  have hk : kvs[i]? = some p := by rw [List.getElem?_eq_getElem lt, e2]
  obtain ⟨q, hq, e3, t, us, e4, h1, h2⟩ := pr_get h hk
  have e5 : q = r := Sum.inr.inj (e3.symm.trans e)
  subst e5
  refine ⟨t, us, ?_, h1, h2⟩
  have z := valV_getK h.nodup (i := i) (f := p.1) (v := p.2) hk
  rw [e3, e4] at z
  exact z
theorem LdAt.no {H : Hp} {kvs : List (L2.Key × V)} {es : List Ltr} (h : LdAt H kvs es (lettered es)) {r : Str} (hr : r ∉ lettered es) : valV kvs (Sum.inr r) = none := valV_noneK fun z => hr (by
  rw [h.keysS] at z
  obtain ⟨q, h1, h2⟩ := List.mem_map.mp z
  rw [← Sum.inr.inj h2]
  exact h1)
theorem not_lettered {es : List Ltr} (g : ∀ e ∈ es, GoodL e) {r : Str} (hr : r ∉ lettered es) : ltrsOf es r = [] := by
  by_cases m : r ∈ recvL
  · refine Classical.byContradiction fun z => hr (List.mem_filter.mpr ⟨m, decide_eq_true z⟩)
  · exact ltrs_none g m
/-- what the dict of letters answers of a receiver -/
theorem LdAt.row {H : Hp} {kvs : List (L2.Key × V)} {es : List Ltr} (h : LdAt H kvs es (lettered es)) (g : ∀ e ∈ es, GoodL e) {d : Addr} (hd : H d = some (.tup [])) (r : Str) :
    ∃ t us, (valV kvs (Sum.inr r : L2.Key)).getD (.ref d) = .ref t ∧ H t = some (.tup us) ∧ NmsAt H us (ltrsOf es r) := by
  by_cases hr : r ∈ lettered es
  · obtain ⟨t, us, e, h1, h2⟩ := h.get hr
    exact ⟨t, us, by rw [e]; rfl, h1, h2⟩
  · refine ⟨d, [], by rw [h.no hr]; rfl, hd, ?_⟩
    rw [not_lettered g hr]
    exact .nil
def spHear (CJ CP CB : Addr) : Sp := fun vs H Q E => ∃ Po J D hv F us es s loose r x, vs = [.ref Po, .str r, x] ∧ PAt CP H Po J D hv ∧ JAt CJ H J F us es s loose ∧ es.length ≤ 40 ∧ hv.length ≤ 1000 ∧
  ((∃ n : Nat, x = .int n ∧ n ≤ (ltrsOf (es.take s) r).length ∧ ∀ H', Off [D] H H' → TupsE H H' → PAt CP H' Po J D (putR hv r (if heardI hv r > (n : Int) then heardI hv r else n)) → Q .non H') ∨
   (((isI x = false ∧ Pl H x) ∨ ∃ i, x = .int i ∧ ¬ (0 ≤ i ∧ i ≤ ((ltrsOf (es.take s) r).length : Int))) ∧ ∀ H' d t, Same H H' → H d = none → H' d = some (.xd [(("entry" : Str), .ref t)]) → H' t = some (.tup [.str r, x]) → E (.ref CB) (some d) H'))
section
variable {P : Program} {w : World} {K : PySem.W.Frag} {mg : Str → Option Value} {base : Heap} {ad : Nat → Addr} {fds : Nat → FuncData} {cs : Nat → Value}
theorem ok_Post_hear (T : Txt K mg ad fds cs) : FnOk P w K mg base (L2N.CX P w) 3 (ad 19002) (fds 19002) ["self", "receiver", "number"] (spHear (ad 47999) (ad 19999) (ad 5999)) := by
  refine Fun.okN T.F_Post_hear sc_Post_hear (fun vs H Q E h => ?_) (fun cdv A outer s H vs Q E hr h => ?_)
  · obtain ⟨Po, J, D, hv, F, us, es, s, loose, r, x, rfl, _⟩ := h
    rfl
  obtain ⟨Po, J, D, hv, F, us, es, n, loose, r, x, rfl, hP, hJ, hn, hvl, h⟩ := h
  have hu := hu_of hr
  refine ⟨_, (pss_cons (ps_set (i := 3) sc_Post_hear.nd rfl (by first | exact .inl rfl | exact .inr rfl) (pe_callB call_len_seq (by rfl) T.z_len (by decide +kernel) (pa_cons (pe_dget2 (hu_of hr) (pe_meth0 (YjD.pe_fldK (K := K) (pv 0) rfl) T.cl_Journal T.m_Journal_letters (ok_Journal_letters T) (hr.mono (by decide)) (bi_Journal_letters T) .nil pass0) (pv 1) (pe_tup pa_nil) ⟨rfl, rfl, rfl, rfl⟩) pa_nil)))
      (pss_cons (ps_if (PW.pt (pw_or (pt_not (pt_val (pe_call (ok_is_integer T) (hr.mono (by decide)) rfl T.g_is_integer T.F_is_integer.kp (bi_is_integer T) .nil pass0 (pa_cons (pv 2) pa_nil)))) (pw_or1 (pt_not (pt_chain op_le op_le pe_int (pv 2) (pv 3)))))) (pss_one (ps_raise_BadEntry rfl T.x_BadEntry (hr.mono (Nat.zero_le _)) (L2N.takes_of rfl rfl rfl rfl) (by exact (pa_cons (pe_tup (pa_cons (pv 1) (pa_cons (pv 2) pa_nil))) pa_nil)))) pss_nil)
      (pss_one (ps_dput (hu_of hr) (YjD.pe_fldK (K := K) (pv 0) rfl) (pv 1) (pe_callB (call_max2 rfl) (by rfl) T.z_max (by decide +kernel) (pa_cons (pv 2) (pa_cons (pe_dget2 (hu_of hr) (YjD.pe_fldK (K := K) (pv 0) rfl) (pv 1) pe_int ⟨rfl, rfl, rfl, rfl⟩) pa_nil))) rfl)))), ?_⟩
  obtain ⟨dx, ei⟩ := hP.ins
  obtain ⟨dxJ, drJ, text, eJ, _⟩ := hJ.ins
  refine ⟨_, rfl, Po, _, dx, _, _, rfl, ei, T.cl_Post, T.na_Post_journal, p_jour, J, dxJ, _, rfl, eJ, j_no, J, F, us, es, n, loose, rfl, hJ, hn, fun H1 G kvs s1 nG hG hL => ?_⟩
  refine ⟨G, rfl, .inl ⟨_, .inl hG⟩, _, rfl, Nat.zero_le _, fun d nd => ⟨_, DGet.k (k := Sum.inr r) (same_upd nd _ _ hG), ?_⟩⟩
  have s2 := same_upd (o := .tup []) nd
  have gd : ∀ e ∈ es.take n, GoodL e := fun e he => hJ.good e (List.mem_of_mem_take he)
  obtain ⟨t, us2, e1, ht, hus⟩ := (hL.tups (tupsOf s2)).row gd upd_same r
  have ul : us2.length = (ltrsOf (es.take n) r).length := hus.length
  have sH := s1.trans s2
  generalize upd H1 d (.tup []) = H2 at sH ht
  clear hL hG nG nd s2 hus
  refine ⟨t, us2, by rw [e1], .inr (SqT.of ht), ?_⟩
  rw [ul]
  have hP2 := hP.mono sH
  obtain ⟨dx2, ei2⟩ := hP2.ins
  rcases h with ⟨m, rfl, hm, q⟩ | ⟨hx, q⟩
  · refine ⟨_, rfl, .int m, rfl, .int m, _, rfl, iteF ?_⟩
    refine ⟨_, rfl, 0, m, rfl, rfl, _, rfl, ifT (by omega) ⟨_, rfl, m, _, rfl, rfl, _, rfl, ?_⟩⟩
    rw [decide_eq_true (show (m : Int) ≤ ((ltrsOf (es.take n) r).length : Nat) by omega)]
    refine iteF ?_
    refine ⟨_, rfl, _, rfl, Po, _, dx2, _, _, rfl, ei2, T.cl_Post, T.na_Post_heard, p_heard, D, rfl, .inl ⟨_, .inl hP2.hea⟩, _, rfl, (relAt hv r).map V.int, ?_, ?_⟩
    · have z := DGet.k (k := (Sum.inr r : L2.Key)) hP2.hea
      rw [relK_val] at z
      exact z
    rw [heard_get]
    refine ⟨m, heardI hv r, rfl, ?_⟩
    have kl : (relK hv).length < sizeLine := ofNat_lt (by unfold relK; rw [List.length_map]; omega)
    refine ⟨_, rfl, Po, _, dx2, _, _, rfl, ei2, T.cl_Post, T.na_Post_heard, p_heard, _, rfl, D, _, rfl, DPut.k (k := Sum.inr r) hP2.hea kl, ?_⟩
    have neP : Po ≠ D := fun z => by
      have e := hP2.hea
      rw [← z, ei2] at e
      cases e
    rw [relK_putR]
    exact q _ ((offOf sH).trans (off_upd (by simp))) ((tupsOf sH).trans (tups_dk hP2.hea)) ⟨⟨dx2, (upd_ne neP).trans ei2⟩, upd_same⟩
  · have raised : ∀ t d, H2 t = none → upd H2 t (.tup [.str r, x]) d = none → E (.ref (ad 5999)) (some d) (upd (upd H2 t (.tup [.str r, x])) d (.xd [(("entry" : Str), .ref t)])) := fun t d nt nd => by
      have s3 := same_upd (o := .tup [.str r, x]) nt
      have s4 := same_upd (o := .xd [(("entry" : Str), V.ref t)]) nd
      exact q _ d t (sH.trans (s3.trans s4)) (sH.free (s3.free nd)) upd_same (s4 _ _ upd_same)
    rcases hx with ⟨h1, h2⟩ | ⟨i, rfl, h1⟩
    · refine ⟨_, rfl, x, rfl, h2.mono sH, ?_⟩
      rw [h1]
      exact ⟨_, rfl, iteT ⟨_, rfl, _, rfl, (by show 2 ≤ sizeLine; decide), fun t nt => ⟨_, rfl, fun d nd => raised t d nt nd⟩⟩⟩
    · refine ⟨_, rfl, .int i, rfl, .int i, _, rfl, iteF ?_⟩
      refine ⟨_, rfl, 0, i, rfl, rfl, _, rfl, ?_⟩
      by_cases c : 0 ≤ i
      · refine ifT c ⟨_, rfl, i, _, rfl, rfl, _, rfl, ?_⟩
        rw [decide_eq_false fun z => h1 ⟨c, z⟩]
        exact iteT ⟨_, rfl, _, rfl, (by show 2 ≤ sizeLine; decide), fun t nt => ⟨_, rfl, fun d nd => raised t d nt nd⟩⟩
      · exact ifF c ⟨_, rfl, iteT ⟨_, rfl, _, rfl, (by show 2 ≤ sizeLine; decide), fun t nt => ⟨_, rfl, fun d nd => raised t d nt nd⟩⟩⟩
end
end Yj
set_option Elab.async false
set_option linter.all false
set_option maxRecDepth 100000
set_option maxHeartbeats 4000000
set_option pp.maxSteps 1500
namespace Yj
open PySem PySem.Spec PyProof.Rows L2 RZ TL YjD
/-! ### _law_right -/
def nmD (z : Str) : PyData := .tuple [.str z]
theorem nms_dp {K : PySem.W.Frag} {H : Hp} {us : List V} {zs : List Str} (h : NmsAt H us zs) : DpAll K H us (zs.map nmD) := by
  induction h with
  | nil => exact .nil
  | cons a t ih =>
    obtain ⟨b, rfl, hb⟩ := a
    exact .cons (.tup (SqT.of hb) (.cons (.str _) .nil)) ih
theorem nm_lay : ∀ z ∈ nmL, PyData.canLay0 (nmD z) = true ∧ PyData.depth (nmD z) ≤ 1 := by decide +kernel
theorem nms_lay : ∀ zs : List Str, (∀ z ∈ zs, z ∈ nmL) → PyData.canLayAll0 (zs.map nmD) = true ∧ PyData.depthAll (zs.map nmD) ≤ 1
  | [], _ => ⟨rfl, Nat.zero_le _⟩
  | z :: r, h => by
    obtain ⟨h1, h2⟩ := nms_lay r fun x hx => h x (List.mem_cons_of_mem _ hx)
    obtain ⟨g1, g2⟩ := nm_lay z (h z (List.mem_cons_self ..))
    refine ⟨?_, ?_⟩
    · show (PyData.canLay0 (nmD z) && PyData.canLayAll0 (r.map nmD)) = true
      rw [g1, h1]
      rfl
    · show max (PyData.depth (nmD z)) (PyData.depthAll (r.map nmD)) ≤ 1
      omega
theorem nms_tup {zs : List Str} (h : ∀ z ∈ zs, z ∈ nmL) : PyData.canLay0 (.tuple (zs.map nmD)) = true := (nms_lay zs h).1
theorem nms_shaped {zs : List Str} (h : ∀ z ∈ zs, z ∈ nmL) : SeqAt.shaped (.tuple (zs.map nmD)) = true := (shaped_of (nms_lay zs h).1 (nms_lay zs h).2 (by decide)).1
theorem nms_eqv {zs : List Str} (h : ∀ z ∈ zs, z ∈ nmL) : PyData.eqv (.tuple (zs.map nmD)) (.tuple (zs.map nmD)) = true := SeqAt.eqv_refl _ (nms_tup h)
theorem nms_take {H : Hp} {us : List V} {zs : List Str} (h : NmsAt H us zs) : ∀ n : Nat, NmsAt H (us.take n) (zs.take n) := by
  induction h with
  | nil =>
    intro n
    rw [List.take_nil, List.take_nil]
    exact .nil
  | cons a t ih =>
    intro n
    cases n with
    | zero => exact .nil
    | succ n => exact .cons a (ih n)
/-- the receivers, by their names -/
structure RcAt (C : Addr) (H : Hp) (Rv : Addr) (R T Y : Str → Addr) (us : Str → List V) (kv : Str → List (L2.Key × V)) (L : Str → List Str) : Prop where
  dict : H Rv = some (.dK (recvL.map fun r => ((Sum.inr r : L2.Key), V.ref (R r))))
  rat : ∀ r ∈ recvL, RAt C H (R r) (T r) (Y r) (us r) (kv r) (L r)
  inj : ∀ r ∈ recvL, ∀ q ∈ recvL, r ≠ q → T r ≠ T q ∧ Y r ≠ Y q
theorem RcAt.mono {C : Addr} {H H' : Hp} {Rv : Addr} {R T Y : Str → Addr} {us : Str → List V} {kv : Str → List (L2.Key × V)} {L : Str → List Str} (h : RcAt C H Rv R T Y us kv L) (s : Same H H') : RcAt C H' Rv R T Y us kv L :=
  ⟨s _ _ h.dict, fun r hr => (h.rat r hr).mono s, h.inj⟩
theorem rc_val {R : Str → Addr} {r : Str} (hr : r ∈ recvL) : valV (recvL.map fun r => ((Sum.inr r : L2.Key), V.ref (R r))) (Sum.inr r) = some (.ref (R r)) := by
  rcases recv_two hr with rfl | rfl
  · exact valV_pos rfl
  · exact (valV_neg fun z => bob_cora (Sum.inr.inj z)).trans (valV_pos rfl)
theorem rc_get {R : Str → Addr} {i : Nat} {k : L2.Key} {v : V} (h : (recvL.map fun r => ((Sum.inr r : L2.Key), V.ref (R r)))[i]? = some (k, v)) : ∃ r ∈ recvL, k = Sum.inr r ∧ v = .ref (R r) := by
  rw [List.getElem?_map] at h
  cases e : recvL[i]? with
  | none =>
    rw [e] at h
    cases h
  | some r =>
    rw [e] at h
    have z := Option.some.inj h
    exact ⟨r, List.mem_of_getElem? e, (congrArg Prod.fst z).symm, (congrArg Prod.snd z).symm⟩
abbrev rcK (A B : Addr) : List (L2.Key × V) := [(Sum.inr ("bob" : Str), V.ref A), (Sum.inr ("cora" : Str), V.ref B)]
theorem rc_merge (A B : Addr) : mergeK ([] : List (L2.Key × V)) (rcK A B) = rcK A B := by
  have e1 : mergeK ([] : List (L2.Key × V)) (rcK A B) = putK (putK ([] : List (L2.Key × V)) (Sum.inr ("bob" : Str)) (.ref A)) (Sum.inr ("cora" : Str)) (.ref B) := rfl
  rw [e1, putK_new _ (show valV ([] : List (L2.Key × V)) (Sum.inr "bob" : L2.Key) = none from rfl), List.nil_append, putK_new]
  · rfl
  · exact valV_noneK fun z => bob_cora (Sum.inr.inj (List.mem_singleton.mp z)).symm
def spRight (CJ CR : Addr) : Sp := fun vs H Q _ => ∃ J Rv E us es s loose R T Y ru kv, vs = [.ref J, .ref Rv] ∧ JAt CJ H J E us es s loose ∧ es.length ≤ 40 ∧ RcAt CR H Rv R T Y ru kv (ltrsOf (es.take s)) ∧ ∀ H', Same H H' → Q (.bl true) H'
section
variable {P : Program} {w : World} {K : PySem.W.Frag} {mg : Str → Option Value} {base : Heap} {ad : Nat → Addr} {fds : Nat → FuncData} {cs : Nat → Value}
theorem ok__law_right (T : Txt K mg ad fds cs) : FnOk P w K mg base CX0 4 (ad 58) (fds 58) ["journal", "receivers"] (spRight (ad 47999) (ad 20999)) := by
  refine T.F__law_right.ok sc__law_right (fun vs H Q E h => ?_) (fun cdv A outer s H vs Q E hr h => ?_)
  · obtain ⟨J, Rv, E, us, es, s, loose, R, T', Y, ru, kv, rfl, _⟩ := h
    rfl
  obtain ⟨J, Rv, E, us, es, n, loose, R, T', Y, ru, kv, rfl, hJ, hn, hR, q⟩ := h
  have hu := hu_of hr
  refine ⟨_, (pss_cons (ps_set (i := 2) sc__law_right.nd rfl (by first | exact .inl rfl | exact .inr rfl) (pe_meth0 (pv 0) T.cl_Journal T.m_Journal_letters (ok_Journal_letters T) (hr.mono (by decide)) (bi_Journal_letters T) .nil pass0))
      (pss_one (ps_ret (pe_callB (cr_all rfl) (by rfl) T.z_all (by decide +kernel) (pa_cons (pe_lock (pe_lc (own := [("name", 3)]) rfl sc__law_right.nd (pi_keys (pv 1)) (blkOk_by (N := N__law_right) (sc := defScope s__law_right) (own := [("name", 3)]) (by decide +kernel)) (fun _ _ _ _ _ => by exact (pg_name (i := 3) sc__law_right.nd rfl (.inl rfl))) (fun _ _ _ _ _ => by exact pts_nil) (fun _ _ _ _ _ => by exact (pe_cmpR (YjD.op_eqDK (K := K) hr.units) (pe_callTy (YjE.call_tupleK (K := K)) (by rfl) T.z_tuple (by decide +kernel) (pa_cons (YjD.pe_fldK (K := K) (pe_dget (hu_of hr) (pv 1) (pv 3) (fun _ _ => rfl)) rfl) pa_nil)) (pe_slice (YjE.sl_tupK (K := K)) (pe_dget2 (hu_of hr) (pv 2) (pv 3) (pe_tup pa_nil) ⟨rfl, rfl, rfl, rfl⟩) po_none (po_some (pe_callB (call_lenK (K := K)) (by rfl) T.z_len (by decide +kernel) (pa_cons (YjD.pe_fldK (K := K) (pe_dget (hu_of hr) (pv 1) (pv 3) (fun _ _ => rfl)) rfl) pa_nil)))) (nomark _))))) pa_nil))))), ?_⟩
  obtain ⟨dxJ, drJ, text, eJ, _⟩ := hJ.ins
  refine ⟨_, rfl, J, dxJ, _, rfl, eJ, j_no, J, E, us, es, n, loose, rfl, hJ, hn, fun H1 G kvs s1 nG hG hL => ?_⟩
  have hR1 := hR.mono s1
  have gd : ∀ e ∈ es.take n, GoodL e := fun e he => hJ.good e (List.mem_of_mem_take he)
  refine ⟨Rv, _, hR1.dict, True.intro, fun od => ?_⟩
  have hRz : upd H1 Rv (.frz od (.dK (recvL.map fun r => ((Sum.inr r : L2.Key), V.ref (R r))))) Rv = some (.frz od (.dK (recvL.map fun r => ((Sum.inr r : L2.Key), V.ref (R r))))) := upd_same
  have kz : Keep Rv H1 (upd H1 Rv (.frz od (.dK (recvL.map fun r => ((Sum.inr r : L2.Key), V.ref (R r)))))) := fun b o ne e => (upd_ne ne).trans e
  generalize upd H1 Rv (.frz od (.dK (recvL.map fun r => ((Sum.inr r : L2.Key), V.ref (R r))))) = HB at hRz kz
  refine ⟨_, rfl, Rv, od, rfl, .inl ⟨_, hRz, fun D nD => ?_⟩⟩
  refine lc_it walk_keys (fun i H3 => Same HB H3 ∧ H3 D = some (.lst ((List.replicate i true).map V.bl))) ⟨same_upd nD, upd_same⟩ (fun i H3 _ h => h.1 _ _ hRz) ?_ ?_
  · rintro i x H3 H3' hi ⟨s3, hD⟩ ⟨rfl, k, v, hk, rfl⟩
    obtain ⟨r, hr', rfl, rfl⟩ := rc_get hk
    have hi2 : i < 2 := hi
    have k3 := kz.trans (keepOf s3)
    have hRr := hR1.rat r hr'
    obtain ⟨dx, ei⟩ := hRr.ins
    have ne1 : R r ≠ Rv := fun z => by
      rw [z, hR1.dict] at ei
      cases ei
    have ne2 : T' r ≠ Rv := fun z => by
      have e := hRr.tak
      rw [z, hR1.dict] at e
      cases e
    have neG : G ≠ Rv := fun z => by
      rw [z] at nG
      have e := hR.dict
      rw [nG] at e
      cases e
    have t3 : TupsE H1 H3' := fun b xs e => k3 _ _ (fun z => by rw [z, hR1.dict] at e; cases e) e
    have g : DGet H3' Rv (.str r) (some (.ref (R r))) := .inl ⟨_, Sum.inr r, .inr ⟨od, s3 _ _ hRz⟩, rfl, (rc_val hr').symm⟩
    refine ⟨rfl, _, rfl, _, rfl, Rv, _, rfl, g, R r, _, dx, _, _, rfl, k3 _ _ ne1 ei, T.cl_Receiver, T.na_Receiver_taken, r_tak, T' r, _, rfl, .inl ⟨SqL.of (k3 _ _ ne2 hRr.tak), fun l nl => ?_⟩⟩
    have s4 := same_upd (o := .tup (ru r)) nl
    have hl : upd H3' l (.tup (ru r)) l = some (.tup (ru r)) := upd_same
    generalize upd H3' l (.tup (ru r)) = H4 at s4 hl
    have k4 := k3.trans (keepOf s4)
    have hG4 := k4 _ _ neG hG
    refine ⟨_, rfl, G, rfl, .inl ⟨_, .inl hG4⟩, _, rfl, Nat.zero_le _, fun d nd => ⟨_, DGet.k (k := Sum.inr r) (same_upd nd _ _ hG4), ?_⟩⟩
    have s5 := s4.trans (same_upd (o := .tup []) nd)
    have hL5 := hL.tups (t3.trans (tupsOf s5))
    obtain ⟨t, us2, e1, ht, hus⟩ := hL5.row gd upd_same r
    have hl5 := same_upd (o := .tup []) nd _ _ hl
    have g5 : DGet (upd H4 d (.tup [])) Rv (.str r) (some (.ref (R r))) := .inl ⟨_, Sum.inr r, .inr ⟨od, s5 _ _ (s3 _ _ hRz)⟩, rfl, (rc_val hr').symm⟩
    have k5 := k3.trans (keepOf s5)
    generalize upd H4 d (.tup []) = H5 at s5 ht hus hl5 g5 k5
    refine ⟨_, rfl, _, rfl, Rv, _, rfl, g5, R r, _, dx, _, _, rfl, k5 _ _ ne1 ei, T.cl_Receiver, T.na_Receiver_taken, r_tak, T' r, _, rfl, .inl (SqL.of (k5 _ _ ne2 hRr.tak)), _, rfl, ?_⟩
    rw [e1]
    have dp1 : Dp K H5 (.ref l) (.tuple (((ltrsOf (es.take n) r).take (ru r).length).map nmD)) := .tup (SqT.of hl5) (nms_dp (hRr.nms.tups (t3.trans (tupsOf s5))))
    have good : ∀ z ∈ (ltrsOf (es.take n) r).take (ru r).length, z ∈ nmL := fun z hz => ltrs_good gd r z (List.mem_of_mem_take hz)
    have ul := hRr.le
    have hul : us2.length = (ltrsOf (es.take n) r).length := hus.length
    have fin : ∀ {H6 : Hp} {u : V}, Same H5 H6 → Dp K H6 u (.tuple (((ltrsOf (es.take n) r).take (ru r).length).map nmD)) →
        ∃ d e, Dp K H6 (.ref l) d ∧ Dp K H6 u e ∧ SeqAt.shaped d = true ∧ SeqAt.shaped e = true ∧ ∃ acc, H6 D = some (.lst acc) ∧ acc.length < sizeLine ∧ Same HB (upd H6 D (.lst (acc ++ [.bl (PyData.eqv d e)]))) ∧ upd H6 D (.lst (acc ++ [.bl (PyData.eqv d e)])) D = some (.lst ((List.replicate (i + 1) true).map V.bl)) := fun {H6 u} s6 hu6 => by
      refine ⟨_, _, .tup (SqT.of (s6 _ _ hl5)) (nms_dp (hRr.nms.tups (t3.trans (tupsOf (s5.trans s6))))), hu6, nms_shaped good, nms_shaped good, _, s6 _ _ (s5 _ _ hD), ofNat_lt (by rw [List.length_map, List.length_replicate]; omega), same_at (s3.trans (s5.trans s6)) nD, ?_⟩
      rw [upd_same, nms_eqv good, List.replicate_succ', List.map_append]
      rfl
    refine ⟨t, us2, rfl, SqT.of ht, fun hw => ?_, fun hw p np => ?_⟩
    · have e2 : (ru r).length = us2.length := by
        have z := hw.2
        rw [HT.sIx_nat] at z
        omega
      have e3 : (ltrsOf (es.take n) r).take (ru r).length = ltrsOf (es.take n) r := by rw [e2, hul, List.take_length]
      have z := fin (Same.refl _) (u := .ref t) (by rw [e3]; exact .tup (SqT.of ht) (nms_dp hus))
      exact z
    · rw [cut_upto]
      have s6 := same_upd (o := .tup (us2.take (ru r).length)) np
      exact fin s6 (.tup (SqT.of upd_same) (nms_dp (nms_take (hus.tups (tupsOf s6)) _)))
  · rintro H3 ⟨s3, hD⟩
    refine ⟨s3 _ _ hRz, ?_⟩
    have neD : D ≠ Rv := fun z => by
      rw [z, hRz] at nD
      cases nD
    have sfin : Same H (upd H3 Rv (.dK (recvL.map fun r => ((Sum.inr r : L2.Key), V.ref (R r))))) := fun b o e => by
      by_cases c : b = Rv
      · rw [c] at e ⊢
        rw [upd_same, ← e, ← hR.dict]
      · rw [upd_ne c]
        exact s3 _ _ (kz _ _ c (s1 _ _ e))
    exact ⟨D, List.replicate 2 true, rfl, SqL.of ((upd_ne neD).trans hD), q _ sfin⟩
end
end Yj
set_option Elab.async false
set_option linter.all false
set_option maxRecDepth 100000
set_option maxHeartbeats 4000000
set_option pp.maxSteps 1500
namespace Yj
open PySem PySem.Spec PyProof.Rows L2 RZ TL YjD
/-! ### what the law's loop keeps -/
/-- a letter on its way, or an answer -/
abbrev Un := Str × Nat × Option Str
def UAt1 (H : Hp) (v : V) (x : Un) : Prop := ∃ t u, v = .ref t ∧ H t = some (.tup [.str x.1, .int (x.2.1 : Nat), u]) ∧ (match x.2.2 with | none => u = .non | some z => NmAt H u z)
abbrev UsAt (H : Hp) : List V → List Un → Prop := Paired fun v x => UAt1 H v x
theorem UAt1.tups {H H' : Hp} (t : TupsE H H') {v : V} {x : Un} (h : UAt1 H v x) : UAt1 H' v x := by
  obtain ⟨b, u, e, h1, h2⟩ := h
  refine ⟨b, u, e, t _ _ h1, ?_⟩
  obtain ⟨x1, x2, x3⟩ := x
  cases x3 with
  | none => exact h2
  | some z => exact NmAt.tups t h2
theorem UsAt.tups {H H' : Hp} (t : TupsE H H') {us : List V} {l : List Un} (h : UsAt H us l) : UsAt H' us l := Paired.mapP h fun _ _ a => a.tups t
def OkU (L : Str → List Str) (ru : Str → List V) (x : Un) : Prop := x.1 ∈ recvL ∧ (match x.2.2 with | none => x.2.1 ≤ (ru x.1).length | some z => ∃ j, x.2.1 = j + 1 ∧ (L x.1)[j]? = some z)
theorem OkU.more {L M : Str → List Str} {ru ru' : Str → List V} {x : Un} (h : OkU L ru x) (p : ∀ r, L r <+: M r) (q : ∀ r ∈ recvL, (ru r).length ≤ (ru' r).length) : OkU M ru' x := by
  obtain ⟨x1, x2, x3⟩ := x
  refine ⟨h.1, ?_⟩
  cases x3 with
  | none => exact Nat.le_trans h.2 (q _ h.1)
  | some z =>
    obtain ⟨j, e1, e2⟩ := h.2
    refine ⟨j, e1, ?_⟩
    obtain ⟨s, hs⟩ := p x1
    have lt := (List.getElem?_eq_some_iff.mp e2).1
    show (M x1)[j]? = some z
    rw [← hs, List.getElem?_append_left lt]
    exact e2
structure Sep (E U PD Hh Rv : Addr) (T Y : Str → Addr) : Prop where
  eu : E ≠ U
  te : ∀ r ∈ recvL, T r ≠ E
  tu : ∀ r ∈ recvL, T r ≠ U
  ph : PD ≠ Hh
  pr : PD ≠ Rv
  hr : Hh ≠ Rv
  yp : ∀ r ∈ recvL, Y r ≠ PD
  yh : ∀ r ∈ recvL, Y r ≠ Hh
  yr : ∀ r ∈ recvL, Y r ≠ Rv
structure LI (K : PySem.W.Frag) (Hb : Hp) (a d dr J E Po PD Rv U Hh : Addr) (R T Y : Str → Addr) (ns : List Int) (es : List Ltr) (n : Nat) (hv : Rel) (ru : Str → List V) (kv : Str → List (L2.Key × V)) (ul : List Un) (i : Nat) : Prop where
  drw : Draw K Hb d a ns
  rel : Hb dr = some (.dK (relK relL))
  okh : ∀ r ∈ recvL, 0 ≤ heardI hv r ∧ heardI hv r ≤ ((ru r).length : Int)
  hvs : ∀ p ∈ hv, p.1 ∈ recvL
  oku : ∀ x ∈ ul, OkU (ltrsOf (es.take n)) ru x
  new : ∀ x ∈ [J, E, Po, PD, Rv, U, Hh], Hb x = none
  newR : ∀ r ∈ recvL, Hb (R r) = none ∧ Hb (T r) = none ∧ Hb (Y r) = none
  sep : Sep E U PD Hh Rv T Y
  se : es.length ≤ i
  sk : ∀ r ∈ recvL, (kv r).length ≤ i
  sh : hv.length ≤ i
  su : ul.length ≤ 100 * i
structure LH (CJ CP CR : Addr) (Hb H : Hp) (a d J E Po PD Rv U Hh : Addr) (R T Y : Str → Addr) (us : List V) (es : List Ltr) (n : Nat) (loose : Str) (hv : Rel) (ru : Str → List V) (kv : Str → List (L2.Key × V)) (uu : List V) (ul : List Un) : Prop where
  kb : Keep d Hb H
  cnt : ∃ c, H d = some (.lst [.ref a, .int c])
  jou : JAt CJ H J E us es n loose
  pst : PAt CP H Po J PD hv
  rcv : RcAt CR H Rv R T Y ru kv (ltrsOf (es.take n))
  und : H U = some (.lst uu)
  unl : UsAt H uu ul
  hea : H Hh = some (.dK (relK hv))
theorem Draw.d_some {K : PySem.W.Frag} {H : Hp} {d a : Addr} {ns : List Int} (h : Draw K H d a ns) {x : Addr} (n : H x = none) : x ≠ d := fun z => by
  obtain ⟨⟨c, e⟩, _⟩ := h
  rw [← z, n] at e
  cases e
theorem keep_off {d : Addr} {Hb H H' : Hp} {as : List Addr} (k : Keep d Hb H) (o : Off as H H') (n : ∀ x ∈ as, Hb x = none) : Keep d Hb H' := fun b x q e => o b x (fun m => by rw [n b m] at e; cases e) (k b x q e)
theorem Off.at_ {as : List Addr} {H H' : Hp} (o : Off as H H') {x : Addr} {u : HO} (n : x ∉ as) (e : H x = some u) : H' x = H x := (o x u n e).trans e.symm
theorem JAt.off {C : Addr} {H H' : Hp} {J E : Addr} {us : List V} {es : List Ltr} {s : Nat} {loose : Str} (h : JAt C H J E us es s loose) {as : List Addr} (o : Off as H H') (t : TupsE H H') (n1 : J ∉ as) (n2 : E ∉ as) : JAt C H' J E us es s loose := by
  obtain ⟨dx, dr, text, e, _⟩ := h.ins
  exact h.keep t (o.at_ n1 e) (o.at_ n2 h.ent)
theorem PAt.off {C : Addr} {H H' : Hp} {Po J D : Addr} {hv : Rel} (h : PAt C H Po J D hv) {as : List Addr} (o : Off as H H') (n1 : Po ∉ as) (n2 : D ∉ as) : PAt C H' Po J D hv := by
  obtain ⟨dx, e⟩ := h.ins
  exact ⟨⟨dx, o _ _ n1 e⟩, o _ _ n2 h.hea⟩
theorem RAt.off {C : Addr} {H H' : Hp} {R T Y : Addr} {us : List V} {kv : List (L2.Key × V)} {L : List Str} (h : RAt C H R T Y us kv L) {as : List Addr} (o : Off as H H') (t : TupsE H H') (n1 : R ∉ as) (n2 : T ∉ as) (n3 : Y ∉ as) : RAt C H' R T Y us kv L := by
  obtain ⟨dx, e⟩ := h.ins
  exact h.keep t (o.at_ n1 e) (o.at_ n2 h.tak) (o.at_ n3 h.ear)
theorem RcAt.off {C : Addr} {H H' : Hp} {Rv : Addr} {R T Y : Str → Addr} {us : Str → List V} {kv : Str → List (L2.Key × V)} {L : Str → List Str} (h : RcAt C H Rv R T Y us kv L) {as : List Addr} (o : Off as H H') (t : TupsE H H') (n0 : Rv ∉ as) (n : ∀ r ∈ recvL, R r ∉ as ∧ T r ∉ as ∧ Y r ∉ as) : RcAt C H' Rv R T Y us kv L :=
  ⟨o _ _ n0 h.dict, fun r hr => (h.rat r hr).off o t (n r hr).1 (n r hr).2.1 (n r hr).2.2, h.inj⟩
theorem RcAt.more {C : Addr} {H : Hp} {Rv : Addr} {R T Y : Str → Addr} {us : Str → List V} {kv : Str → List (L2.Key × V)} {L M : Str → List Str} (h : RcAt C H Rv R T Y us kv L) (p : ∀ r, L r <+: M r) : RcAt C H Rv R T Y us kv M :=
  ⟨h.dict, fun r hr => (h.rat r hr).more (p r), h.inj⟩
section
variable {K : PySem.W.Frag} {CJ CP CR : Addr} {Hb H H' : Hp} {a d dr J E Po PD Rv U Hh : Addr} {R T Y : Str → Addr} {ns : List Int} {us : List V} {es : List Ltr} {n : Nat} {loose : Str} {hv : Rel} {ru : Str → List V} {kv : Str → List (L2.Key × V)} {uu : List V} {ul : List Un} {i : Nat}
theorem LH.mono (h : LH CJ CP CR Hb H a d J E Po PD Rv U Hh R T Y us es n loose hv ru kv uu ul) (s : Same H H') : LH CJ CP CR Hb H' a d J E Po PD Rv U Hh R T Y us es n loose hv ru kv uu ul := by
  obtain ⟨c, e⟩ := h.cnt
  exact ⟨h.kb.trans (keepOf s), ⟨c, s _ _ e⟩, h.jou.mono s, h.pst.mono s, h.rcv.mono s, s _ _ h.und, h.unl.tups (tupsOf s), s _ _ h.hea⟩
/-- what is at J, by its kind, is at no other of these -/
theorem LH.kinds (h : LH CJ CP CR Hb H a d J E Po PD Rv U Hh R T Y us es n loose hv ru kv uu ul) :
    J ≠ Po ∧ (∀ r ∈ recvL, J ≠ R r) ∧ (∀ x ∈ [E, U], x ≠ J ∧ x ≠ Po ∧ x ≠ PD ∧ x ≠ Rv ∧ x ≠ Hh ∧ ∀ r ∈ recvL, x ≠ R r ∧ x ≠ Y r) ∧ (∀ x ∈ [PD, Rv, Hh], x ≠ J ∧ x ≠ Po ∧ ∀ r ∈ recvL, x ≠ R r ∧ x ≠ T r) ∧
      ∀ r ∈ recvL, (T r ≠ J ∧ T r ≠ Po ∧ ∀ q ∈ recvL, T r ≠ R q ∧ T r ≠ Y q) ∧ (Y r ≠ J ∧ Y r ≠ Po ∧ ∀ q ∈ recvL, Y r ≠ R q) := by
  obtain ⟨dx, drJ, text, eJ, _⟩ := h.jou.ins
  obtain ⟨dxp, eP⟩ := h.pst.ins
  have lst_ins : ∀ {x y : Addr} {l : List V} {C dx : Addr} {fs : List (Str × V)}, H x = some (.lst l) → H y = some (.ins C dx fs) → x ≠ y := fun h1 h2 => ne_of h1 h2 (by intro z; cases z)
  have lst_dk : ∀ {x y : Addr} {l : List V} {ks : List (L2.Key × V)}, H x = some (.lst l) → H y = some (.dK ks) → x ≠ y := fun h1 h2 => ne_of h1 h2 (by intro z; cases z)
  have dk_ins : ∀ {x y : Addr} {ks : List (L2.Key × V)} {C dx : Addr} {fs : List (Str × V)}, H x = some (.dK ks) → H y = some (.ins C dx fs) → x ≠ y := fun h1 h2 => ne_of h1 h2 (by intro z; cases z)
  refine ⟨ne_of eJ eP (by intro z; injection z with z1 z2 z3; have := congrArg List.length z3; simp [jF] at this), fun r hr => ?_, ?_, ?_, ?_⟩
  · obtain ⟨dxr, eR⟩ := (h.rcv.rat r hr).ins
    exact ne_of eJ eR (by intro z; injection z with z1 z2 z3; have := congrArg List.length z3; simp [jF] at this)
  · intro x hx
    obtain ⟨l, hl⟩ : ∃ l, H x = some (.lst l) := by
      rcases (by simpa using hx : x = E ∨ x = U) with rfl | rfl
      · exact ⟨_, h.jou.ent⟩
      · exact ⟨_, h.und⟩
    refine ⟨lst_ins hl eJ, lst_ins hl eP, lst_dk hl h.pst.hea, lst_dk hl h.rcv.dict, lst_dk hl h.hea, fun r hr => ?_⟩
    obtain ⟨dxr, eR⟩ := (h.rcv.rat r hr).ins
    exact ⟨lst_ins hl eR, lst_dk hl (h.rcv.rat r hr).ear⟩
  · intro x hx
    obtain ⟨l, hl⟩ : ∃ l, H x = some (.dK l) := by
      rcases (by simpa using hx : x = PD ∨ x = Rv ∨ x = Hh) with rfl | rfl | rfl
      · exact ⟨_, h.pst.hea⟩
      · exact ⟨_, h.rcv.dict⟩
      · exact ⟨_, h.hea⟩
    refine ⟨dk_ins hl eJ, dk_ins hl eP, fun r hr => ?_⟩
    obtain ⟨dxr, eR⟩ := (h.rcv.rat r hr).ins
    exact ⟨dk_ins hl eR, (lst_dk (h.rcv.rat r hr).tak hl).symm⟩
  · intro r hr
    refine ⟨⟨lst_ins (h.rcv.rat r hr).tak eJ, lst_ins (h.rcv.rat r hr).tak eP, fun q hq => ?_⟩, dk_ins (h.rcv.rat r hr).ear eJ, dk_ins (h.rcv.rat r hr).ear eP, fun q hq => ?_⟩
    · obtain ⟨dxr, eR⟩ := (h.rcv.rat q hq).ins
      exact ⟨lst_ins (h.rcv.rat r hr).tak eR, lst_dk (h.rcv.rat r hr).tak (h.rcv.rat q hq).ear⟩
    · obtain ⟨dxr, eR⟩ := (h.rcv.rat q hq).ins
      exact dk_ins (h.rcv.rat r hr).ear eR
end
end Yj
set_option Elab.async false
set_option linter.all false
set_option maxRecDepth 100000
set_option maxHeartbeats 4000000
set_option pp.maxSteps 1500
namespace Yj
open PySem PySem.Spec PyProof.Rows L2 RZ TL YjD
/-! ### the law's turns -/
theorem pr_append {α β : Type} {F : α → β → Prop} {us : List α} {es : List β} (h : Paired F us es) {vs : List α} {fs : List β} (g : Paired F vs fs) : Paired F (us ++ vs) (es ++ fs) := by
  induction h with
  | nil => exact g
  | cons a t ih => exact .cons a ih
section
variable {K : PySem.W.Frag} {CJ CP CR : Addr} {Hb H H' : Hp} {a d dr J E Po PD Rv U Hh : Addr} {R T Y : Str → Addr} {ns : List Int} {us : List V} {es : List Ltr} {n : Nat} {loose : Str} {hv : Rel} {ru : Str → List V} {kv : Str → List (L2.Key × V)} {uu : List V} {ul : List Un} {i : Nat}
theorem LI.next (h : LI K Hb a d dr J E Po PD Rv U Hh R T Y ns es n hv ru kv ul i) : LI K Hb a d dr J E Po PD Rv U Hh R T Y ns es n hv ru kv ul (i + 1) :=
  ⟨h.drw, h.rel, h.okh, h.hvs, h.oku, h.new, h.newR, h.sep, Nat.le_succ_of_le h.se, fun r hr => Nat.le_succ_of_le (h.sk r hr), Nat.le_succ_of_le h.sh, by have := h.su; omega⟩
theorem LI.ned (h : LI K Hb a d dr J E Po PD Rv U Hh R T Y ns es n hv ru kv ul i) {x : Addr} (hx : x ∈ [J, E, Po, PD, Rv, U, Hh]) : x ≠ d := h.drw.d_some (h.new x hx)
theorem ev_draw (h : LI K Hb a d dr J E Po PD Rv U Hh R T Y ns es n hv ru kv ul i) (g : LH CJ CP CR Hb H a d J E Po PD Rv U Hh R T Y us es n loose hv ru kv uu ul) (k : Drawn' K H H' d a ns) :
    LH CJ CP CR Hb H' a d J E Po PD Rv U Hh R T Y us es n loose hv ru kv uu ul := by
  obtain ⟨c, hc⟩ := g.cnt
  have o : Off [d] H H' := fun b x m e => k.2 b x (fun z => m (by rw [z]; exact List.mem_singleton.mpr rfl)) e
  have t : TupsE H H' := Keep.tupsL k.2 hc
  have nd : ∀ {x : Addr}, x ∈ [J, E, Po, PD, Rv, U, Hh] → x ∉ [d] := fun m z => h.ned m (List.mem_singleton.mp z)
  have nr : ∀ r ∈ recvL, R r ∉ [d] ∧ T r ∉ [d] ∧ Y r ∉ [d] := fun r hr => ⟨fun z => h.drw.d_some (h.newR r hr).1 (List.mem_singleton.mp z), fun z => h.drw.d_some (h.newR r hr).2.1 (List.mem_singleton.mp z), fun z => h.drw.d_some (h.newR r hr).2.2 (List.mem_singleton.mp z)⟩
  exact ⟨g.kb.trans k.2, k.1.1, g.jou.off o t (nd (by simp)) (nd (by simp)), g.pst.off o (nd (by simp)) (nd (by simp)), g.rcv.off o t (nd (by simp)) nr, o _ _ (nd (by simp)) g.und, g.unl.tups t, o _ _ (nd (by simp)) g.hea⟩
theorem LI.dNot (h : LI K Hb a d dr J E Po PD Rv U Hh R T Y ns es n hv ru kv ul i) {as : List Addr} (n : ∀ x ∈ as, Hb x = none) : d ∉ as := fun z => h.drw.d_some (n d z) rfl
theorem ev_write (h : LI K Hb a d dr J E Po PD Rv U Hh R T Y ns es n hv ru kv ul i) (g : LH CJ CP CR Hb H a d J E Po PD Rv U Hh R T Y us es n loose hv ru kv uu ul) {us' : List V} {e : Ltr} {loose' : Str} (o : Off [J, E] H H') (j : JAt CJ H' J E us' (es ++ [e]) n loose') :
    LI K Hb a d dr J E Po PD Rv U Hh R T Y ns (es ++ [e]) n hv ru kv ul (i + 1) ∧ LH CJ CP CR Hb H' a d J E Po PD Rv U Hh R T Y us' (es ++ [e]) n loose' hv ru kv uu ul := by
  obtain ⟨k1, k2, k3, k4, k5⟩ := g.kinds
  obtain ⟨dx, drJ, text, eJ, _⟩ := g.jou.ins
  have nb : ∀ x ∈ [J, E], Hb x = none := fun x hx => h.new x (by rcases (by simpa using hx : x = J ∨ x = E) with rfl | rfl <;> simp)
  have t : TupsE H H' := o.tups fun x hx xs => by
    rcases (by simpa using hx : x = J ∨ x = E) with rfl | rfl
    · rw [eJ]
      exact fun z => nomatch z
    · rw [g.jou.ent]
      exact fun z => nomatch z
  have et : (es ++ [e]).take n = es.take n := List.take_append_of_le_length g.jou.le
  obtain ⟨c, hc⟩ := g.cnt
  obtain ⟨e1, e2, e3, e4, e5, e6⟩ := k3 E (by simp)
  obtain ⟨u1, u2, u3, u4, u5, u6⟩ := k3 U (by simp)
  have kPD := k4 PD (by simp)
  have kRv := k4 Rv (by simp)
  have kHh := k4 Hh (by simp)
  refine ⟨?_, ?_⟩
  · have h1 := h.next
    exact ⟨h1.drw, h1.rel, h1.okh, h1.hvs, by rw [et]; exact h1.oku, h1.new, h1.newR, h1.sep, by rw [List.length_append]; exact Nat.succ_le_succ h.se, h1.sk, h1.sh, h1.su⟩
  · refine ⟨keep_off g.kb o nb, ⟨c, o _ _ (h.dNot nb) hc⟩, j, g.pst.off o (by simp [k1.symm, e2.symm]) (by simp [kPD.1, e3.symm]), ?_, o _ _ (by simp [u1, h.sep.eu.symm]) g.und, g.unl.tups t, o _ _ (by simp [kHh.1, e5.symm]) g.hea⟩
    rw [et]
    exact g.rcv.off o t (by simp [kRv.1, e4.symm]) fun r hr => ⟨by simp [(k2 r hr).symm, (e6 r hr).1.symm], by simp [(k5 r hr).1.1, h.sep.te r hr], by simp [(k5 r hr).2.1, (e6 r hr).2.symm]⟩
theorem ev_settle (h : LI K Hb a d dr J E Po PD Rv U Hh R T Y ns es n hv ru kv ul i) (g : LH CJ CP CR Hb H a d J E Po PD Rv U Hh R T Y us es n loose hv ru kv uu ul) {loose' : Str} (o : Off [J] H H') (j : JAt CJ H' J E us es es.length loose') :
    LI K Hb a d dr J E Po PD Rv U Hh R T Y ns es es.length hv ru kv ul (i + 1) ∧ LH CJ CP CR Hb H' a d J E Po PD Rv U Hh R T Y us es es.length loose' hv ru kv uu ul := by
  obtain ⟨k1, k2, k3, k4, k5⟩ := g.kinds
  obtain ⟨dx, drJ, text, eJ, _⟩ := g.jou.ins
  have nb : ∀ x ∈ [J], Hb x = none := fun x hx => h.new x (by rw [List.mem_singleton.mp hx]; simp)
  have t : TupsE H H' := o.tups fun x hx xs => by
    rw [List.mem_singleton.mp hx, eJ]
    exact fun z => nomatch z
  have pr : ∀ r, ltrsOf (es.take n) r <+: ltrsOf (es.take es.length) r := fun r => ltrs_take es r g.jou.le
  obtain ⟨c, hc⟩ := g.cnt
  obtain ⟨u1, u2, u3, u4, u5, u6⟩ := k3 U (by simp)
  have kPD := k4 PD (by simp)
  have kRv := k4 Rv (by simp)
  have kHh := k4 Hh (by simp)
  refine ⟨?_, ?_⟩
  · have h1 := h.next
    exact ⟨h1.drw, h1.rel, h1.okh, h1.hvs, fun x hx => (h1.oku x hx).more pr fun r _ => Nat.le_refl _, h1.new, h1.newR, h1.sep, h1.se, h1.sk, h1.sh, h1.su⟩
  · exact ⟨keep_off g.kb o nb, ⟨c, o _ _ (h.dNot nb) hc⟩, j, g.pst.off o (by simp [k1.symm]) (by simp [kPD.1]), (g.rcv.off o t (by simp [kRv.1]) fun r hr => ⟨by simp [(k2 r hr).symm], by simp [(k5 r hr).1.1], by simp [(k5 r hr).2.1]⟩).more pr, o _ _ (by simp [u1]) g.und, g.unl.tups t, o _ _ (by simp [kHh.1]) g.hea⟩
/-- things put to the list of what is under way -/
theorem ev_under (h : LI K Hb a d dr J E Po PD Rv U Hh R T Y ns es n hv ru kv ul i) (g : LH CJ CP CR Hb H a d J E Po PD Rv U Hh R T Y us es n loose hv ru kv uu ul) {ws : List V} {wl : List Un} (hw : UsAt H ws wl) (hok : ∀ x ∈ wl, OkU (ltrsOf (es.take n)) ru x) (hl : (ul ++ wl).length ≤ 100 * i) :
    LI K Hb a d dr J E Po PD Rv U Hh R T Y ns es n hv ru kv (ul ++ wl) i ∧ LH CJ CP CR Hb (upd H U (.lst (uu ++ ws))) a d J E Po PD Rv U Hh R T Y us es n loose hv ru kv (uu ++ ws) (ul ++ wl) := by
  obtain ⟨k1, k2, k3, k4, k5⟩ := g.kinds
  have nb : ∀ x ∈ [U], Hb x = none := fun x hx => h.new x (by rw [List.mem_singleton.mp hx]; simp)
  have t := tups_lst (ys := uu ++ ws) g.und
  have o : Off [U] H (upd H U (.lst (uu ++ ws))) := off_upd (by simp)
  obtain ⟨c, hc⟩ := g.cnt
  obtain ⟨u1, u2, u3, u4, u5, u6⟩ := k3 U (by simp)
  refine ⟨?_, ?_⟩
  · exact ⟨h.drw, h.rel, h.okh, h.hvs, fun x hx => (List.mem_append.mp hx).elim (h.oku x) (hok x), h.new, h.newR, h.sep, h.se, h.sk, h.sh, hl⟩
  · exact ⟨keep_off g.kb o nb, ⟨c, o _ _ (h.dNot nb) hc⟩, g.jou.off o t (by simp [u1.symm]) (by simp [h.sep.eu]), g.pst.off o (by simp [u2.symm]) (by simp [u3.symm]), g.rcv.off o t (by simp [u4.symm]) fun r hr => ⟨by simp [(u6 r hr).1.symm], by simp [h.sep.tu r hr], by simp [(u6 r hr).2.symm]⟩, upd_same, pr_append (g.unl.tups t) (hw.tups t), o _ _ (by simp [u5.symm]) g.hea⟩
/-- another list of what is under way -/
theorem ev_slice (h : LI K Hb a d dr J E Po PD Rv U Hh R T Y ns es n hv ru kv ul i) (g : LH CJ CP CR Hb H a d J E Po PD Rv U Hh R T Y us es n loose hv ru kv uu ul) {U' : Addr} {uu' : List V} {ul' : List Un} (s : Same H H') (nU : H U' = none) (hU : H' U' = some (.lst uu')) (hu : UsAt H' uu' ul') (sub : ∀ x ∈ ul', x ∈ ul) (hl : ul'.length ≤ ul.length) :
    LI K Hb a d dr J E Po PD Rv U' Hh R T Y ns es n hv ru kv ul' i ∧ LH CJ CP CR Hb H' a d J E Po PD Rv U' Hh R T Y us es n loose hv ru kv uu' ul' := by
  have nd : U' ≠ d := fun z => by
    obtain ⟨c, hc⟩ := g.cnt
    rw [z, hc] at nU
    cases nU
  have nb : Hb U' = none := by
    cases e : Hb U' with
    | none => rfl
    | some o =>
      rw [g.kb _ _ nd e] at nU
      cases nU
  have g1 := g.mono s
  refine ⟨⟨h.drw, h.rel, h.okh, h.hvs, fun x hx => h.oku x (sub x hx), fun x hx => ?_, h.newR, ⟨fun z => ?_, h.sep.te, fun r hr z => ?_, h.sep.ph, h.sep.pr, h.sep.hr, h.sep.yp, h.sep.yh, h.sep.yr⟩, h.se, h.sk, h.sh, Nat.le_trans hl h.su⟩, ⟨g1.kb, g1.cnt, g1.jou, g1.pst, g1.rcv, hU, hu, g1.hea⟩⟩
  · by_cases c : x = U'
    · rw [c]
      exact nb
    · refine h.new x ?_
      simp only [List.mem_cons, List.mem_nil_iff, or_false] at hx ⊢
      rcases hx with e | e | e | e | e | e | e <;> simp_all
  · have e := g.jou.ent
    rw [z, nU] at e
    cases e
  · have e := (g.rcv.rat r hr).tak
    rw [z, nU] at e
    cases e
/-- a fall: another journal, and another post -/
theorem ev_fall (h : LI K Hb a d dr J E Po PD Rv U Hh R T Y ns es n hv ru kv ul i) (g : LH CJ CP CR Hb H a d J E Po PD Rv U Hh R T Y us es n loose hv ru kv uu ul) {J' E' Po' PD' Hh' : Addr} {us' : List V} {m : Nat} {loose' : Str} (s : Same H H') (nJ : H J' = none) (nE : H E' = none) (nP : H Po' = none) (nD : H PD' = none) (nH : H Hh' = none) (nDH : PD' ≠ Hh')
    (hm : n ≤ m) (hm2 : m ≤ es.length) (j : JAt CJ H' J' E' us' (es.take m) (es.take m).length loose') (p : PAt CP H' Po' J' PD' []) (hh : H' Hh' = some (.dK (relK []))) :
    LI K Hb a d dr J' E' Po' PD' Rv U Hh' R T Y ns (es.take m) (es.take m).length [] ru kv ul (i + 1) ∧ LH CJ CP CR Hb H' a d J' E' Po' PD' Rv U Hh' R T Y us' (es.take m) (es.take m).length loose' [] ru kv uu ul := by
  obtain ⟨c, hc⟩ := g.cnt
  have nb : ∀ {x : Addr}, H x = none → Hb x = none := fun {x} nx => by
    have nd : x ≠ d := fun z => by
      rw [z, hc] at nx
      cases nx
    cases e : Hb x with
    | none => rfl
    | some o =>
      rw [g.kb _ _ nd e] at nx
      cases nx
  have no : ∀ {x y : Addr} {o : HO}, H x = none → H y = some o → x ≠ y := fun nx e z => by
    rw [z, e] at nx
    cases nx
  have g1 := g.mono s
  have tt : (es.take m).take (es.take m).length = es.take m := List.take_length
  have pr : ∀ r, ltrsOf (es.take n) r <+: ltrsOf ((es.take m).take (es.take m).length) r := fun r => by
    rw [tt]
    exact ltrs_take es r hm
  refine ⟨⟨h.drw, h.rel, fun r hr => ⟨Int.le_refl 0, Int.natCast_nonneg _⟩, (fun p hp => nomatch hp), fun x hx => (h.oku x hx).more pr fun r _ => Nat.le_refl _, fun x hx => ?_, h.newR, ⟨no nE g.und, fun r hr => (no nE (g.rcv.rat r hr).tak).symm, h.sep.tu, nDH, no nD g.rcv.dict, no nH g.rcv.dict, fun r hr => (no nD (g.rcv.rat r hr).ear).symm, fun r hr => (no nH (g.rcv.rat r hr).ear).symm, h.sep.yr⟩, ?_, fun r hr => Nat.le_succ_of_le (h.sk r hr), Nat.zero_le _, by have := h.su; omega⟩,
    ⟨g1.kb, g1.cnt, j, p, g1.rcv.more pr, g1.und, g1.unl, hh⟩⟩
  · simp only [List.mem_cons, List.mem_nil_iff, or_false] at hx
    rcases hx with rfl | rfl | rfl | rfl | rfl | rfl | rfl
    · exact nb nJ
    · exact nb nE
    · exact nb nP
    · exact nb nD
    · exact h.new _ (by simp)
    · exact h.new _ (by simp)
    · exact nb nH
  · have := h.se
    rw [List.length_take]
    omega
/-- an answer is heard -/
theorem ev_hear (h : LI K Hb a d dr J E Po PD Rv U Hh R T Y ns es n hv ru kv ul i) (g : LH CJ CP CR Hb H a d J E Po PD Rv U Hh R T Y us es n loose hv ru kv uu ul) {r : Str} {m : Nat} (hr : r ∈ recvL) (hm : m ≤ (ru r).length) {hv' : Rel} (ehv : hv' = putR hv r (if heardI hv r > (m : Int) then heardI hv r else m)) (o1 : Off [PD] H H') (t1 : TupsE H H') (p : PAt CP H' Po J PD hv') :
    H' Hh = some (.dK (relK hv)) ∧ LI K Hb a d dr J E Po PD Rv U Hh R T Y ns es n hv' ru kv ul (i + 1) ∧ LH CJ CP CR Hb (upd H' Hh (.dK (relK hv'))) a d J E Po PD Rv U Hh R T Y us es n loose hv' ru kv uu ul := by
  obtain ⟨k1, k2, k3, k4, k5⟩ := g.kinds
  have hh : H' Hh = some (.dK (relK hv)) := o1 _ _ (by simp [h.sep.ph.symm]) g.hea
  have t2 := tups_dk (ys := relK hv') hh
  have o2 : Off [PD, Hh] H (upd H' Hh (.dK (relK hv'))) := fun b x m e => (upd_ne fun z => m (by simp [z])).trans (o1 b x (fun z => m (by simp [List.mem_singleton.mp z])) e)
  have t := t1.trans t2
  have nb : ∀ x ∈ [PD, Hh], Hb x = none := fun x hx => h.new x (by rcases (by simpa using hx : x = PD ∨ x = Hh) with rfl | rfl <;> simp)
  obtain ⟨c, hc⟩ := g.cnt
  have e := k3 E (by simp)
  have u := k3 U (by simp)
  have kPD := k4 PD (by simp)
  have kHh := k4 Hh (by simp)
  have o0 := h.okh r hr
  obtain ⟨dxp, eP⟩ := p.ins
  refine ⟨hh, ?_, ?_⟩
  · have h1 := h.next
    refine ⟨h1.drw, h1.rel, fun q hq => ?_, fun x hx => ?_, h1.oku, h1.new, h1.newR, h1.sep, h1.se, h1.sk, by rw [ehv]; exact Nat.le_trans (putR_len _ _ _) (Nat.succ_le_succ h.sh), h1.su⟩
    · rw [ehv, heard_put]
      by_cases c : q = r
      · subst c
        rw [if_pos rfl]
        by_cases c2 : heardI hv q > (m : Int)
        · rw [if_pos c2]
          exact o0
        · rw [if_neg c2]
          exact ⟨Int.natCast_nonneg _, by omega⟩
      · rw [if_neg c]
        exact h.okh q hq
    · rw [ehv] at hx
      unfold putR at hx
      by_cases c : (hv.any fun p => decide (p.1 = r)) = true
      · rw [if_pos c] at hx
        obtain ⟨y, hy, rfl⟩ := List.mem_map.mp hx
        by_cases c2 : y.1 = r
        · rw [if_pos c2]
          exact h.hvs y hy
        · rw [if_neg c2]
          exact h.hvs y hy
      · rw [if_neg c] at hx
        rcases List.mem_append.mp hx with z | z
        · exact h.hvs x z
        · rw [List.mem_singleton.mp z]
          exact hr
  · refine ⟨keep_off g.kb o2 nb, ⟨c, o2 _ _ (h.dNot nb) hc⟩, g.jou.off o2 t (by simp [kPD.1.symm, kHh.1.symm]) (by simp [e.2.2.1, e.2.2.2.2.1]), ⟨⟨dxp, (upd_ne kHh.2.1.symm).trans eP⟩, (upd_ne h.sep.ph).trans p.hea⟩, g.rcv.off o2 t (by simp [h.sep.pr.symm, h.sep.hr.symm]) fun q hq => ⟨by simp [(kPD.2.2 q hq).1.symm, (kHh.2.2 q hq).1.symm], by simp [(kPD.2.2 q hq).2.symm, (kHh.2.2 q hq).2.symm], by simp [h.sep.yp q hq, h.sep.yh q hq]⟩, o2 _ _ (by simp [u.2.2.1, u.2.2.2.2.1]) g.und, g.unl.tups t, upd_same⟩
/-- a receiver gets a letter -/
theorem ev_get (h : LI K Hb a d dr J E Po PD Rv U Hh R T Y ns es n hv ru kv ul i) (g : LH CJ CP CR Hb H a d J E Po PD Rv U Hh R T Y us es n loose hv ru kv uu ul) {r : Str} (hr : r ∈ recvL) {us2 : List V} {kv2 : List (L2.Key × V)} (o : Off [T r, Y r] H H') (t : TupsE H H') (p : RAt CR H' (R r) (T r) (Y r) us2 kv2 (ltrsOf (es.take n) r)) (hl : (ru r).length ≤ us2.length) (hk : kv2.length ≤ (kv r).length + 1) :
    LI K Hb a d dr J E Po PD Rv U Hh R T Y ns es n hv (fun q => if q = r then us2 else ru q) (fun q => if q = r then kv2 else kv q) ul (i + 1) ∧ LH CJ CP CR Hb H' a d J E Po PD Rv U Hh R T Y us es n loose hv (fun q => if q = r then us2 else ru q) (fun q => if q = r then kv2 else kv q) uu ul := by
  obtain ⟨k1, k2, k3, k4, k5⟩ := g.kinds
  have nb : ∀ x ∈ [T r, Y r], Hb x = none := fun x hx => by
    rcases (by simpa using hx : x = T r ∨ x = Y r) with rfl | rfl
    · exact (h.newR r hr).2.1
    · exact (h.newR r hr).2.2
  obtain ⟨c, hc⟩ := g.cnt
  have e := k3 E (by simp)
  have u := k3 U (by simp)
  have kPD := k4 PD (by simp)
  have kRv := k4 Rv (by simp)
  have kHh := k4 Hh (by simp)
  have kr := k5 r hr
  have lq : ∀ q, (ru q).length ≤ (if q = r then us2 else ru q).length := fun q => by
    by_cases c : q = r
    · rw [if_pos c, c]
      exact hl
    · rw [if_neg c]
      exact Nat.le_refl _
  refine ⟨?_, ?_⟩
  · have h1 := h.next
    refine ⟨h1.drw, h1.rel, fun q hq => ?_, h1.hvs, fun x hx => (h1.oku x hx).more (fun _ => List.prefix_refl _) fun q _ => lq q, h1.new, h1.newR, h1.sep, h1.se, fun q hq => ?_, h1.sh, h1.su⟩
    · have z := h.okh q hq
      have y := lq q
      exact ⟨z.1, by omega⟩
    · show (if q = r then kv2 else kv q).length ≤ i + 1
      by_cases c : q = r
      · rw [if_pos c]
        have := h.sk r hr
        omega
      · rw [if_neg c]
        exact h1.sk q hq
  · refine ⟨keep_off g.kb o nb, ⟨c, o _ _ (h.dNot nb) hc⟩, g.jou.off o t (by simp [kr.1.1.symm, kr.2.1.symm]) (by simp [(h.sep.te r hr).symm, (e.2.2.2.2.2 r hr).2]), g.pst.off o (by simp [kr.1.2.1.symm, kr.2.2.1.symm]) (by simp [(kPD.2.2 r hr).2, (h.sep.yp r hr).symm]), ⟨o _ _ (by simp [(kRv.2.2 r hr).2, (h.sep.yr r hr).symm]) g.rcv.dict, fun q hq => ?_, g.rcv.inj⟩, o _ _ (by simp [(h.sep.tu r hr).symm, (u.2.2.2.2.2 r hr).2]) g.und, g.unl.tups t, o _ _ (by simp [(kHh.2.2 r hr).2, (h.sep.yh r hr).symm]) g.hea⟩
    by_cases c : q = r
    · subst c
      rw [if_pos rfl, if_pos rfl]
      exact p
    · rw [if_neg c, if_neg c]
      have nT := (g.rcv.inj q hq r hr c)
      exact (g.rcv.rat q hq).off o t (by simp [(kr.1.2.2 q hq).1.symm, (kr.2.2.2 q hq).symm]) (by simp [nT.1, ((k5 q hq).1.2.2 r hr).2]) (by simp [nT.2, (kr.1.2.2 q hq).2.symm])
theorem drawOf (h : LI K Hb a d dr J E Po PD Rv U Hh R T Y ns es n hv ru kv ul i) (g : LH CJ CP CR Hb H a d J E Po PD Rv U Hh R T Y us es n loose hv ru kv uu ul) : Draw K H d a ns := by
  obtain ⟨c, hc⟩ := g.cnt
  exact h.drw.keep g.kb hc
theorem LI.at (h : LI K Hb a d dr J E Po PD Rv U Hh R T Y ns es n hv ru kv ul i) (g : LH CJ CP CR Hb H a d J E Po PD Rv U Hh R T Y us es n loose hv ru kv uu ul) : H dr = some (.dK (relK relL)) := g.kb _ _ (fun z => by
  obtain ⟨⟨c, e⟩, _⟩ := h.drw
  have r := h.rel
  rw [z, e] at r
  cases r) h.rel
end
theorem lk_none {k : Str} {fs : List (Str × V)} (h : k ∉ fs.map (·.1)) : fs.lookup k = none := by
  induction fs with
  | nil => rfl
  | cons p r ih =>
    obtain ⟨f, v⟩ := p
    rw [lk_ne (beq_false_of_ne fun z => h (by rw [z]; exact List.mem_cons_self ..))]
    exact ih fun z => h (List.mem_cons_of_mem _ z)
theorem j_nox {k : Str} {dr E : Addr} {text loose : Str} {s : Nat} (h : k ∉ (["relations", "entries", "text", "loose", "settled"] : List Str)) : (jF dr E text loose s).lookup k = none := lk_none h
theorem p_nox {k : Str} {J D : Addr} (h : k ∉ (["journal", "heard"] : List Str)) : (pF J D).lookup k = none := lk_none h
theorem r_nox {k : Str} {J D : Addr} (h : k ∉ (["taken", "early"] : List Str)) : (rF J D).lookup k = none := lk_none h
def unD (x : Un) : PyData := .tuple [.str x.1, .int (x.2.1 : Nat), (match x.2.2 with | none => .none | some z => nmD z)]
theorem us_dp {K : PySem.W.Frag} {H : Hp} {us : List V} {l : List Un} (h : UsAt H us l) : DpAll K H us (l.map unD) := by
  induction h with
  | nil => exact .nil
  | @cons v x vs l a t ih =>
    obtain ⟨b, u, rfl, hb, hu⟩ := a
    refine .cons (.tup (SqT.of hb) (.cons (.str _) (.cons (.int _) (.cons ?_ .nil)))) ih
    obtain ⟨x1, x2, x3⟩ := x
    cases x3 with
    | none =>
      have e : u = .non := hu
      rw [e]
      exact .non
    | some z =>
      obtain ⟨c, rfl, hc⟩ := hu
      exact .tup (SqT.of hc) (.cons (.str _) .nil)
theorem recv_lay : ∀ r ∈ recvL, PyData.canLay0 (.str r) = true := by decide +kernel
def OkN (x : Un) : Prop := x.1 ∈ recvL ∧ ∀ z, x.2.2 = some z → z ∈ nmL
theorem un_lay {x : Un} (h : OkN x) : PyData.canLay0 (unD x) = true ∧ PyData.depth (unD x) ≤ 2 := by
  obtain ⟨x1, x2, x3⟩ := x
  have a := recv_lay x1 h.1
  cases x3 with
  | none =>
    refine ⟨?_, by show max 0 (max 0 (max 0 0)) + 1 ≤ 2; decide⟩
    show (PyData.canLay0 (.str x1) && (true && (true && true))) = true
    rw [a]
    rfl
  | some z =>
    obtain ⟨b1, b2⟩ := nm_lay z (h.2 z rfl)
    refine ⟨?_, ?_⟩
    · show (PyData.canLay0 (.str x1) && (true && (PyData.canLay0 (nmD z) && true))) = true
      rw [a, b1]
      rfl
    · show max 0 (max 0 (max (PyData.depth (nmD z)) 0)) + 1 ≤ 2
      omega
theorem uns_lay : ∀ l : List Un, (∀ x ∈ l, OkN x) → PyData.canLayAll0 (l.map unD) = true ∧ PyData.depthAll (l.map unD) ≤ 2
  | [], _ => ⟨rfl, Nat.zero_le _⟩
  | x :: r, h => by
    obtain ⟨h1, h2⟩ := uns_lay r fun y hy => h y (List.mem_cons_of_mem _ hy)
    obtain ⟨g1, g2⟩ := un_lay (h x (List.mem_cons_self ..))
    refine ⟨?_, ?_⟩
    · show (PyData.canLay0 (unD x) && PyData.canLayAll0 (r.map unD)) = true
      rw [g1, h1]
      rfl
    · show max (PyData.depth (unD x)) (PyData.depthAll (r.map unD)) ≤ 2
      omega
theorem uns_shaped {l : List Un} (h : ∀ x ∈ l, OkN x) : SeqAt.shaped (.list (l.map unD)) = true := (shaped_of (uns_lay l h).1 (uns_lay l h).2 (by decide)).2
theorem uns_eqv {l : List Un} (h : ∀ x ∈ l, OkN x) : PyData.eqv (.list (l.map unD)) (.list (l.map unD)) = true := SeqAt.eqv_refl _ (uns_lay l h).1
theorem okN_of {es : List Ltr} (g : ∀ e ∈ es, GoodL e) {ru : Str → List V} {x : Un} (h : OkU (ltrsOf es) ru x) : OkN x := by
  obtain ⟨x1, x2, x3⟩ := x
  refine ⟨h.1, fun z hz => ?_⟩
  have e : x3 = some z := hz
  subst e
  obtain ⟨j, _, e2⟩ := h.2
  exact ltrs_good g x1 z (List.mem_of_getElem? e2)
theorem un_ne {l : List Un} (h : l ≠ []) : PyData.eqv (.list (l.map unD)) (.list []) = false := by
  cases l with
  | nil => exact absurd rfl h
  | cons x r => rfl
theorem pr_take {α β : Type} {F : α → β → Prop} {us : List α} {es : List β} (h : Paired F us es) : ∀ n : Nat, Paired F (us.take n) (es.take n) := by
  induction h with
  | nil =>
    intro n
    rw [List.take_nil, List.take_nil]
    exact .nil
  | cons a t ih =>
    intro n
    cases n with
    | zero => exact .nil
    | succ n => exact .cons a (ih n)
theorem pr_drop {α β : Type} {F : α → β → Prop} {us : List α} {es : List β} (h : Paired F us es) : ∀ n : Nat, Paired F (us.drop n) (es.drop n) := by
  induction h with
  | nil =>
    intro n
    rw [List.drop_nil, List.drop_nil]
    exact .nil
  | cons a t ih =>
    intro n
    cases n with
    | zero => exact .cons a t
    | succ n => exact ih n
theorem cut_from (xs : List V) (n : Nat) : cutV xs (some (n : Int)) none = xs.drop n := by
  unfold cutV
  rw [HT.sIx_none, HT.sIx_nat]
  rcases Nat.le_total n xs.length with h | h
  · rw [Nat.min_eq_left h, List.take_of_length_le (by rw [List.length_drop]; omega)]
  · rw [Nat.min_eq_right h, List.drop_eq_nil_of_le (Nat.le_refl _), List.drop_eq_nil_of_le h, List.take_nil]
/-- what waits, as what is under way -/
def unW (x : Wt) : Un := (x.1, x.2.1, some x.2.2)
theorem ws_un {H : Hp} {ws : List V} {l : List Wt} (h : WtAt H ws l) : UsAt H ws (l.map unW) := by
  induction h with
  | nil => exact .nil
  | cons a t ih =>
    obtain ⟨b, c, rfl, h1, h2⟩ := a
    exact .cons ⟨b, .ref c, rfl, h1, c, rfl, h2⟩ ih
theorem mem_waitFrom {r : Str} {h : Int} {x : Wt} : ∀ {l : List Str} {k : Nat}, x ∈ waitFrom r h k l → x.1 = r ∧ ∃ j, x.2.1 = k + j + 1 ∧ h < ((k + j : Nat) : Int) + 1 ∧ l[j]? = some x.2.2
  | [], k, m => nomatch m
  | z :: zs, k, m => by
    rcases List.mem_append.mp m with m | m
    · by_cases c : h < (k : Int) + 1
      · rw [if_pos c] at m
        rw [List.mem_singleton.mp m]
        exact ⟨rfl, 0, rfl, c, rfl⟩
      · rw [if_neg c] at m
        cases m
    · obtain ⟨e, j, e2, e3, e4⟩ := mem_waitFrom m
      exact ⟨e, j + 1, by omega, by rw [show k + (j + 1) = k + 1 + j by omega]; exact e3, e4⟩
theorem mem_wait {es : List Ltr} {h : Str → Int} {rs : List Str} {x : Wt} (m : x ∈ waitL es h rs) : x.1 ∈ rs ∧ ∃ j, x.2.1 = j + 1 ∧ h x.1 < (j : Int) + 1 ∧ (ltrsOf es x.1)[j]? = some x.2.2 := by
  obtain ⟨r, hr, m⟩ := List.mem_flatMap.mp m
  obtain ⟨e, j, e2, e3, e4⟩ := mem_waitFrom m
  subst e
  exact ⟨hr, j, by omega, by rw [Nat.zero_add] at e3; exact e3, e4⟩
theorem wait_ok {es : List Ltr} {h : Str → Int} {ru : Str → List V} : ∀ x ∈ (waitL es h (lettered es)).map unW, OkU (ltrsOf es) ru x := by
  intro x hx
  obtain ⟨y, hy, rfl⟩ := List.mem_map.mp hx
  obtain ⟨h1, j, e1, _, e2⟩ := mem_wait hy
  exact ⟨(List.mem_filter.mp h1).1, j, e1, e2⟩
theorem wait_len2 (es : List Ltr) (h : Str → Int) (l : es.length ≤ 40) : (waitL es h (lettered es)).length ≤ 80 := by
  have a := waitL_len es h (lettered es)
  have b := nodup_le2 (lettered_nodup es) fun r h => (List.mem_filter.mp h).1
  have c : (lettered es).length * es.length ≤ 2 * 40 := Nat.mul_le_mul b l
  omega
theorem walk_enumT {K : PySem.W.Frag} {a : Addr} {xs : List V} : Walk (IteT K a) xs.length (fun H => SqT K H a xs) (YPair (fun i => some (.int (i : Nat))) (fun i => xs[i]?)) := by
  refine ⟨fun i H hi q => ⟨xs, xs[i], q, by simp [hi]⟩, fun H q => ⟨xs, q, rfl⟩, fun i H v H' hi q y => ?_⟩
  obtain ⟨T, x, h1, h2, h3, h4⟩ := y
  exact ⟨T, .int (i : Nat), x, h1, h2, h3, rfl, h4 xs q⟩
theorem relAt_some {hv : Rel} {p : Str × Int} (h : p ∈ hv) : ∃ m, relAt hv p.1 = some m := by
  unfold relAt
  cases e : hv.find? fun q => decide (q.1 = p.1) with
  | none => exact absurd (decide_eq_true rfl) (List.find?_eq_none.mp e p h)
  | some q => exact ⟨q.2, rfl⟩
end Yj
set_option Elab.async false
set_option linter.all false
set_option maxRecDepth 100000
set_option maxHeartbeats 4000000
set_option pp.maxSteps 1500
namespace Yj
open PySem PySem.Spec PyProof.Rows L2 RZ TL YjD
/-! ### the last round -/
theorem pr_reverse {α β : Type} {F : α → β → Prop} {us : List α} {es : List β} (h : Paired F us es) : Paired F us.reverse es.reverse := by
  induction h with
  | nil => exact .nil
  | cons a t ih =>
    rw [List.reverse_cons, List.reverse_cons]
    exact pr_append ih (.cons a .nil)
structure LF (CJ CP CR : Addr) (H : Hp) (J E Po PD Rv : Addr) (R T Y : Str → Addr) (us : List V) (es : List Ltr) (loose : Str) (hv : Rel) (ru : Str → List V) (kv : Str → List (L2.Key × V)) : Prop where
  jou : JAt CJ H J E us es es.length loose
  pst : PAt CP H Po J PD hv
  rcv : RcAt CR H Rv R T Y ru kv (ltrsOf (es.take es.length))
  te : ∀ r ∈ recvL, T r ≠ E
  yp : ∀ r ∈ recvL, Y r ≠ PD
  yr : ∀ r ∈ recvL, Y r ≠ Rv
  pr : PD ≠ Rv
section
variable {K : PySem.W.Frag} {CJ CP CR : Addr} {H H' : Hp} {J E Po PD Rv : Addr} {R T Y : Str → Addr} {us : List V} {es : List Ltr} {loose : Str} {hv : Rel} {ru : Str → List V} {kv : Str → List (L2.Key × V)}
theorem LF.mono (h : LF CJ CP CR H J E Po PD Rv R T Y us es loose hv ru kv) (s : Same H H') : LF CJ CP CR H' J E Po PD Rv R T Y us es loose hv ru kv :=
  ⟨h.jou.mono s, h.pst.mono s, h.rcv.mono s, h.te, h.yp, h.yr, h.pr⟩
theorem LF.get (h : LF CJ CP CR H J E Po PD Rv R T Y us es loose hv ru kv) {r : Str} (hr : r ∈ recvL) {us2 : List V} {kv2 : List (L2.Key × V)} (o : Off [T r, Y r] H H') (t : TupsE H H') (p : RAt CR H' (R r) (T r) (Y r) us2 kv2 (ltrsOf (es.take es.length) r)) :
    LF CJ CP CR H' J E Po PD Rv R T Y us es loose hv (fun q => if q = r then us2 else ru q) (fun q => if q = r then kv2 else kv q) := by
  have rr := h.rcv.rat r hr
  obtain ⟨dxJ, drJ, text, eJ, _⟩ := h.jou.ins
  obtain ⟨dxp, eP⟩ := h.pst.ins
  obtain ⟨dxr, eR⟩ := rr.ins
  have n1 : J ≠ T r := ne_of eJ rr.tak (by intro z; cases z)
  have n2 : J ≠ Y r := ne_of eJ rr.ear (by intro z; cases z)
  have n3 : E ≠ Y r := ne_of h.jou.ent rr.ear (by intro z; cases z)
  have n4 : Po ≠ T r := ne_of eP rr.tak (by intro z; cases z)
  have n5 : Po ≠ Y r := ne_of eP rr.ear (by intro z; cases z)
  have n6 : PD ≠ T r := ne_of h.pst.hea rr.tak (by intro z; cases z)
  have n7 : Rv ≠ T r := ne_of h.rcv.dict rr.tak (by intro z; cases z)
  refine ⟨h.jou.off o t (by simp [n1, n2]) (by simp [(h.te r hr).symm, n3]), h.pst.off o (by simp [n4, n5]) (by simp [n6, (h.yp r hr).symm]), ⟨o _ _ (by simp [n7, (h.yr r hr).symm]) h.rcv.dict, fun q hq => ?_, h.rcv.inj⟩, h.te, h.yp, h.yr, h.pr⟩
  by_cases c : q = r
  · subst c
    rw [if_pos rfl, if_pos rfl]
    exact p
  · rw [if_neg c, if_neg c]
    have qq := h.rcv.rat q hq
    obtain ⟨dxq, eQ⟩ := qq.ins
    have nT := h.rcv.inj q hq r hr c
    have m1 : R q ≠ T r := ne_of eQ rr.tak (by intro z; cases z)
    have m2 : R q ≠ Y r := ne_of eQ rr.ear (by intro z; cases z)
    have m3 : T q ≠ Y r := ne_of qq.tak rr.ear (by intro z; cases z)
    have m4 : Y q ≠ T r := ne_of qq.ear rr.tak (by intro z; cases z)
    exact qq.off o t (by simp [m1, m2]) (by simp [nT.1, m3]) (by simp [nT.2, m4])
theorem LF.hear (h : LF CJ CP CR H J E Po PD Rv R T Y us es loose hv ru kv) {hv' : Rel} (o : Off [PD] H H') (t : TupsE H H') (p : PAt CP H' Po J PD hv') : LF CJ CP CR H' J E Po PD Rv R T Y us es loose hv' ru kv := by
  obtain ⟨dxJ, drJ, text, eJ, _⟩ := h.jou.ins
  have n1 : J ≠ PD := ne_of eJ h.pst.hea (by intro z; cases z)
  have n2 : E ≠ PD := ne_of h.jou.ent h.pst.hea (by intro z; cases z)
  refine ⟨h.jou.off o t (by simp [n1]) (by simp [n2]), p, h.rcv.off o t (by simp [h.pr.symm]) fun r hr => ?_, h.te, h.yp, h.yr, h.pr⟩
  have rr := h.rcv.rat r hr
  obtain ⟨dxr, eR⟩ := rr.ins
  exact ⟨by simp [ne_of eR h.pst.hea (by intro z; cases z)], by simp [ne_of rr.tak h.pst.hea (by intro z; cases z)], by simp [h.yp r hr]⟩
end
/-- what the last round has done so far -/
structure Rnd (L : Str → List Str) (hv0 hv : Rel) (ru : Str → List V) (kv : Str → List (L2.Key × V)) (proc : List Wt) : Prop where
  a1 : ∀ r ∈ recvL, heardI hv0 r ≤ ((ru r).length : Int)
  a2 : ∀ x ∈ proc, Has (ru x.1) (kv x.1) (x.2.1 - 1)
  a3 : ∀ r ∈ recvL, (∃ x ∈ proc, x.1 = r) → heardI hv r = ((ru r).length : Int) ∧ valV (kv r) (Sum.inl (((ru r).length : Int) + 1)) = none
  a4 : ∀ r ∈ recvL, (¬ ∃ x ∈ proc, x.1 = r) → heardI hv r = heardI hv0 r
theorem Rnd.start {L : Str → List Str} {hv : Rel} {ru : Str → List V} {kv : Str → List (L2.Key × V)} (h : ∀ r ∈ recvL, heardI hv r ≤ ((ru r).length : Int)) : Rnd L hv hv ru kv [] :=
  ⟨h, (fun x hx => nomatch hx), (fun r _ ⟨x, hx, _⟩ => nomatch hx), fun r _ _ => rfl⟩
theorem Rnd.le {L : Str → List Str} {hv0 hv : Rel} {ru : Str → List V} {kv : Str → List (L2.Key × V)} {proc : List Wt} (h : Rnd L hv0 hv ru kv proc) : ∀ r ∈ recvL, heardI hv r ≤ ((ru r).length : Int) := fun r hr => by
  by_cases c : ∃ x ∈ proc, x.1 = r
  · rw [(h.a3 r hr c).1]
    exact Int.le_refl _
  · rw [h.a4 r hr c]
    exact h.a1 r hr
theorem Rnd.step {L : Str → List Str} {hv0 hv : Rel} {ru : Str → List V} {kv : Str → List (L2.Key × V)} {proc : List Wt} (h : Rnd L hv0 hv ru kv proc) {r : Str} {j : Nat} {z : Str} (hr : r ∈ recvL) {us2 : List V} {kv2 : List (L2.Key × V)} (hl : (ru r).length ≤ us2.length) (hn : valV kv2 (Sum.inl ((us2.length : Int) + 1)) = none) (hp : ∀ m : Nat, Has (ru r) (kv r) m ∨ m = j → Has us2 kv2 m) :
    Rnd L hv0 (putR hv r (if heardI hv r > (us2.length : Int) then heardI hv r else us2.length)) (fun q => if q = r then us2 else ru q) (fun q => if q = r then kv2 else kv q) (proc ++ [(r, j + 1, z)]) := by
  have le := h.le r hr
  have eput : (if heardI hv r > (us2.length : Int) then heardI hv r else (us2.length : Int)) = (us2.length : Int) := if_neg (by omega)
  rw [eput]
  refine ⟨fun q hq => ?_, fun x hx => ?_, fun q hq hx => ?_, fun q hq hx => ?_⟩
  · show _ ≤ (((if q = r then us2 else ru q).length : Nat) : Int)
    have a := h.a1 q hq
    by_cases c : q = r
    · rw [if_pos c]
      rw [c] at a ⊢
      omega
    · rw [if_neg c]
      exact a
  · show Has (if x.1 = r then us2 else ru x.1) (if x.1 = r then kv2 else kv x.1) (x.2.1 - 1)
    rcases List.mem_append.mp hx with m | m
    · by_cases c : x.1 = r
      · rw [if_pos c, if_pos c]
        have a := h.a2 x m
        rw [c] at a
        exact hp _ (.inl a)
      · rw [if_neg c, if_neg c]
        exact h.a2 x m
    · rw [List.mem_singleton.mp m]
      show Has (if r = r then us2 else ru r) (if r = r then kv2 else kv r) (j + 1 - 1)
      rw [if_pos rfl, if_pos rfl]
      exact hp _ (.inr (by omega))
  · show heardI _ q = (((if q = r then us2 else ru q).length : Nat) : Int) ∧ valV (if q = r then kv2 else kv q) (Sum.inl ((((if q = r then us2 else ru q).length : Nat) : Int) + 1)) = none
    rw [heard_put]
    by_cases c : q = r
    · rw [if_pos c, if_pos c, if_pos c]
      exact ⟨rfl, hn⟩
    · rw [if_neg c, if_neg c, if_neg c]
      refine h.a3 q hq ?_
      obtain ⟨x, hx, e⟩ := hx
      rcases List.mem_append.mp hx with m | m
      · exact ⟨x, m, e⟩
      · rw [List.mem_singleton.mp m] at e
        exact absurd e.symm c
  · have c : q ≠ r := fun e => hx ⟨(r, j + 1, z), by simp, e.symm⟩
    rw [heard_put, if_neg c]
    exact h.a4 q hq fun ⟨x, m, e⟩ => hx ⟨x, List.mem_append_left _ m, e⟩
/-- all letters are taken and heard of -/
theorem mem_waitBack {r : Str} {h : Int} {j : Nat} {z : Str} : ∀ {l : List Str} {k : Nat}, l[j]? = some z → h < ((k + j : Nat) : Int) + 1 → (r, k + j + 1, z) ∈ waitFrom r h k l := by
  induction j with
  | zero =>
    intro l k hl hh
    cases l with
    | nil => cases hl
    | cons y l =>
      obtain rfl := Option.some.inj hl
      refine List.mem_append_left _ ?_
      have hh : h < (k : Int) + 1 := hh
      rw [if_pos hh]
      exact List.mem_singleton.mpr rfl
  | succ j ih =>
    intro l k hl hh
    cases l with
    | nil => cases hl
    | cons y l =>
      refine List.mem_append_right _ ?_
      have e := ih (l := l) (k := k + 1) hl (by rw [show k + 1 + j = k + (j + 1) by omega]; exact hh)
      rw [show k + 1 + j = k + (j + 1) by omega] at e
      exact e
theorem Rnd.done {es : List Ltr} {hv0 hv : Rel} {ru : Str → List V} {kv : Str → List (L2.Key × V)} {proc : List Wt} (h : Rnd (ltrsOf es) hv0 hv ru kv proc) (hall : ∀ x ∈ waitL es (heardI hv0) (lettered es), x ∈ proc) (h0 : ∀ r ∈ recvL, 0 ≤ heardI hv0 r) (hl : ∀ r ∈ recvL, (ru r).length ≤ (ltrsOf es r).length) :
    ∀ r ∈ recvL, (ru r).length = (ltrsOf es r).length ∧ heardI hv r = ((ltrsOf es r).length : Int) := by
  intro r hr
  have l := hl r hr
  have full : (ru r).length = (ltrsOf es r).length := by
    refine Nat.le_antisymm l (Nat.le_of_not_lt fun lt => ?_)
    obtain ⟨z, hz⟩ : ∃ z, (ltrsOf es r)[(ru r).length]? = some z := ⟨_, List.getElem?_eq_getElem lt⟩
    have a1 := h.a1 r hr
    have ml : r ∈ lettered es := List.mem_filter.mpr ⟨hr, decide_eq_true fun e => by rw [e] at lt; cases lt⟩
    have m : (r, 0 + (ru r).length + 1, z) ∈ proc := hall _ (List.mem_flatMap.mpr ⟨r, ml, mem_waitBack hz (by omega)⟩)
    have a2 := h.a2 _ m
    have a3 := h.a3 r hr ⟨_, m, rfl⟩
    rcases a2 with q | q
    · have q : 0 + (ru r).length + 1 - 1 < (ru r).length := q
      omega
    · refine q ?_
      show valV (kv r) (Sum.inl (((0 + (ru r).length + 1 - 1 : Nat) : Int) + 1)) = none
      rw [show 0 + (ru r).length + 1 - 1 = (ru r).length by omega]
      exact a3.2
  refine ⟨full, ?_⟩
  rw [← full]
  by_cases c : ∃ x ∈ proc, x.1 = r
  · exact (h.a3 r hr c).1
  · rw [h.a4 r hr c]
    refine Int.le_antisymm (h.a1 r hr) (Int.not_lt.mp fun lt => c ?_)
    obtain ⟨j, hj⟩ : ∃ j : Nat, heardI hv0 r = (j : Int) := ⟨(heardI hv0 r).toNat, by have := h0 r hr; omega⟩
    have jl : j < (ltrsOf es r).length := by omega
    have ml : r ∈ lettered es := List.mem_filter.mpr ⟨hr, decide_eq_true fun e => by rw [e] at jl; cases jl⟩
    exact ⟨_, hall _ (List.mem_flatMap.mpr ⟨r, ml, mem_waitBack (List.getElem?_eq_getElem jl) (by omega)⟩), rfl⟩
theorem wait_none {es : List Ltr} {h : Str → Int} (e : ∀ r ∈ recvL, h r = ((ltrsOf es r).length : Int)) : waitL es h (lettered es) = [] := by
  refine List.eq_nil_iff_forall_not_mem.mpr fun x hx => ?_
  obtain ⟨hr, j, e1, e2, e3⟩ := mem_wait hx
  have hr := (List.mem_filter.mp hr).1
  have lt := (List.getElem?_eq_some_iff.mp e3).1
  have := e x.1 hr
  omega
/-- the turns of a loop over a walk, whatever its body is read as -/
theorem for_itB {J : It} {n : Nat} {Gd : Hp → Prop} {Y : Nat → Hp → V → Hp → Prop} (wk : Walk J n Gd Y) {g : TG} {B : (L2.St → Hp → Prop) → L2.St → Hp → Prop} {nx : L2.St → Hp → Prop} {σ : L2.St} {H : Hp} (Pv : Nat → L2.St → Hp → Prop) (h0 : Pv 0 σ H) (hG : ∀ i σ H, i ≤ n → Pv i σ H → Gd H)
    (hs : ∀ i x σ H H', i < n → Pv i σ H → Y i H x H' → g x σ H' fun σ2 H2 => B (Pv (i + 1)) σ2 H2) (hd : ∀ σ H, Pv n σ H → nx σ H) :
    ∃ W : Nat → Nat → L2.St → Hp → Prop, (∃ m, W 0 m σ H) ∧ ∀ i m σ H, W i m σ H → (J.stop i H ∧ nx σ H) ∨ (J.go i H ∧ ∃ N : L2.St → Hp → Prop, (∀ σ' H', N σ' H' → ∃ m', m' < m ∧ W (i + 1) m' σ' H') ∧ ∀ x H', J.yld i H x H' → g x σ H' fun σ2 H2 => B N σ2 H2) := by
  refine ⟨fun i m σ H => m = n - i ∧ i ≤ n ∧ Pv i σ H, ⟨n, rfl, Nat.zero_le _, h0⟩, ?_⟩
  rintro i m σ H ⟨rfl, hi, p⟩
  have gd := hG i σ H hi p
  by_cases lt : i < n
  · exact .inr ⟨wk.goes i H lt gd, Pv (i + 1), fun σ' H' p' => ⟨n - (i + 1), by omega, rfl, lt, p'⟩, fun x H' y => hs i x σ H H' lt p (wk.yields i H x H' lt gd y)⟩
  · have e : i = n := by omega
    subst e
    exact .inl ⟨wk.stops H gd, hd σ H p⟩
/-! rows of names, by receivers; wrong numbers -/
abbrev RowsN (H : Hp) (es : List Ltr) : List V → List Str → Prop := Paired fun v r => ∃ l us, v = .ref l ∧ H l = some (.tup us) ∧ NmsAt H us (ltrsOf es r)
theorem RowsN.tups {H H' : Hp} {es : List Ltr} {vs : List V} {rs : List Str} (t : TupsE H H') (h : RowsN H es vs rs) : RowsN H' es vs rs := Paired.mapP h fun _ _ ⟨l, us, e, h1, h2⟩ => ⟨l, us, e, t _ _ h1, h2.tups t⟩
def rowD (es : List Ltr) (r : Str) : PyData := .tuple ((ltrsOf es r).map nmD)
theorem rows_dp {K : PySem.W.Frag} {H : Hp} {es : List Ltr} {vs : List V} {rs : List Str} (h : RowsN H es vs rs) : DpAll K H vs (rs.map (rowD es)) := by
  induction h with
  | nil => exact .nil
  | cons a t ih =>
    obtain ⟨l, us, rfl, h1, h2⟩ := a
    exact .cons (.tup (SqT.of h1) (nms_dp h2)) ih
theorem rows_lay {es : List Ltr} (g : ∀ e ∈ es, GoodL e) : ∀ rs : List Str, PyData.canLayAll0 (rs.map (rowD es)) = true ∧ PyData.depthAll (rs.map (rowD es)) ≤ 2
  | [] => ⟨rfl, Nat.zero_le _⟩
  | r :: rs => by
    obtain ⟨h1, h2⟩ := rows_lay g rs
    obtain ⟨g1, g2⟩ := nms_lay (ltrsOf es r) (ltrs_good g r)
    refine ⟨?_, ?_⟩
    · show (PyData.canLayAll0 ((ltrsOf es r).map nmD) && PyData.canLayAll0 (rs.map (rowD es))) = true
      rw [g1, h1]
      rfl
    · show max (PyData.depthAll ((ltrsOf es r).map nmD) + 1) (PyData.depthAll (rs.map (rowD es))) ≤ 2
      omega
theorem rows_shaped {es : List Ltr} (g : ∀ e ∈ es, GoodL e) (rs : List Str) : SeqAt.shaped (.list (rs.map (rowD es))) = true := (shaped_of (rows_lay g rs).1 (rows_lay g rs).2 (by decide)).2
theorem rows_eqv {es : List Ltr} (g : ∀ e ∈ es, GoodL e) (rs : List Str) : PyData.eqv (.list (rs.map (rowD es))) (.list (rs.map (rowD es))) = true := SeqAt.eqv_refl _ (rows_lay g rs).1
def badL : List (Str × V) := [("bob", .int (-1)), ("bob", .int 999), ("zed", .int 1), ("bob", .bl true)]
def vD : V → PyData
  | .int i => .int i
  | .bl b => .bool b
  | _ => .none
theorem bad_eqv : ∀ p ∈ badL, SeqAt.shaped (.tuple [.str p.1, vD p.2]) = true ∧ PyData.eqv (.tuple [.str p.1, vD p.2]) (.tuple [.str p.1, vD p.2]) = true := by
  intro p hp
  have z : PyData.canLay0 (.tuple [.str p.1, vD p.2]) = true ∧ SeqAt.shaped (.tuple [.str p.1, vD p.2]) = true := by
    simp only [badL, List.mem_cons, List.mem_nil_iff, or_false] at hp
    rcases hp with rfl | rfl | rfl | rfl <;> exact ⟨by decide +kernel, by decide +kernel⟩
  exact ⟨z.2, SeqAt.eqv_refl _ z.1⟩
theorem bad_dp {K : PySem.W.Frag} {H : Hp} : ∀ p ∈ badL, Dp K H p.2 (vD p.2) := by
  intro p hp
  simp only [badL, List.mem_cons, List.mem_nil_iff, or_false] at hp
  rcases hp with rfl | rfl | rfl | rfl
  · exact .int _
  · exact .int _
  · exact .int _
  · exact .bl _
theorem bad_no {H : Hp} {es : List Ltr} (g : ∀ e ∈ es, GoodL e) (l : es.length ≤ 40) : ∀ p ∈ badL, (isI p.2 = false ∧ Pl H p.2) ∨ ∃ i, p.2 = .int i ∧ ¬ (0 ≤ i ∧ i ≤ ((ltrsOf es p.1).length : Int)) := by
  intro p hp
  have ll := fun r => ltrs_len es r
  simp only [badL, List.mem_cons, List.mem_nil_iff, or_false] at hp
  rcases hp with rfl | rfl | rfl | rfl
  · exact .inr ⟨_, rfl, fun z => absurd z.1 (by decide)⟩
  · exact .inr ⟨_, rfl, fun z => by
      have := ll "bob"
      have := z.2
      dsimp only at this
      omega⟩
  · refine .inr ⟨_, rfl, fun z => ?_⟩
    have e : ltrsOf es "zed" = [] := ltrs_none g (by decide +kernel)
    have y := z.2
    dsimp only at y
    rw [e] at y
    exact absurd y (by decide)
  · exact .inl ⟨rfl, .bl _⟩
end Yj
set_option Elab.async false
set_option linter.all false
set_option maxRecDepth 100000
set_option maxHeartbeats 8000000
set_option pp.maxSteps 1500
namespace Yj
open PySem PySem.Spec PyProof.Rows L2 RZ TL YjD
/-! ### the law -/
def spLaw (K : PySem.W.Frag) : Sp := fun vs H Q _ => ∃ (a : Addr) (ns : List Int), vs = [.ref a] ∧ SqL K H a (ns.map V.int) ∧ ns.length ≤ 63 ∧ ∀ H', Q (.bl true) H'
def rsel (A B : Addr) (r : Str) : Addr := if r = ("bob" : Str) then A else B
section
variable {P : Program} {w : World} {K : PySem.W.Frag} {mg : Str → Option Value} {base : Heap} {ad : Nat → Addr} {fds : Nat → FuncData} {cs : Nat → Value}
theorem ok_law (T : Txt K mg ad fds cs) : FnOk P w K mg base (L2N.CX P w) 12 (ad 59) (fds 59) ["script"] (spLaw K) := by
  refine Fun.okN T.F_law sc_law (fun vs H Q E h => ?_) (fun cdv A outer s H vs Q E hr h => ?_)
  · obtain ⟨a, ns, rfl, _⟩ := h
    rfl
  obtain ⟨a, ns, rfl, hS, hz, q⟩ := h
  have hu := hu_of hr
  refine ⟨_, (pss_cons (ps_set (i := 1) sc_law.nd rfl (by first | exact .inl rfl | exact .inr rfl) (pe_lst (pa_cons (pv 0) (pa_cons pe_int pa_nil))))
      (pss_cons (ps_set (i := 2) sc_law.nd rfl (by first | exact .inl rfl | exact .inr rfl) (pe_call0 (ok__law_relations T) (hr.mono (by decide)) rfl T.g__law_relations T.F__law_relations.kp (bi__law_relations T) .nil pass0))
      (pss_cons (ps_set (i := 3) sc_law.nd rfl (by first | exact .inl rfl | exact .inr rfl) (pe_make T.mk_Journal (ok_Journal___init__ T) (hr.mono (by decide)) rfl T.g_Journal (bi_Journal___init__ T) .nil pass0 (pa_cons (pv 2) (pa_cons pe_str pa_nil))))
      (pss_cons (ps_asg (pe_tup (pa_cons (pe_make T.mk_Post (ok_Post___init__ T) (hr.mono (by decide)) rfl T.g_Post (bi_Post___init__ T) .nil pass0 (pa_cons (pv 3) pa_nil)) (pa_cons (pe_disp (pps_cons pe_str (pe_make0 T.mk_Receiver (ok_Receiver___init__ T) (hr.mono (by decide)) rfl T.g_Receiver (bi_Receiver___init__ T) .nil pass0) (pps_cons pe_str (pe_make0 T.mk_Receiver (ok_Receiver___init__ T) (hr.mono (by decide)) rfl T.g_Receiver (bi_Receiver___init__ T) .nil pass0) pps_nil)) rfl rfl (by decide) (by decide)) (pa_cons (pe_lst pa_nil) (pa_cons pe_dnewK pa_nil))))) (pg_tup rfl (pgs_cons (pg_name (i := 4) sc_law.nd rfl (by first | exact .inl rfl | exact .inr rfl)) (pgs_cons (pg_name (i := 5) sc_law.nd rfl (by first | exact .inl rfl | exact .inr rfl)) (pgs_cons (pg_name (i := 6) sc_law.nd rfl (by first | exact .inl rfl | exact .inr rfl)) (pgs_cons (pg_name (i := 7) sc_law.nd rfl (by first | exact .inl rfl | exact .inr rfl)) pgs_nil))))))
      (pss_cons (ps_for PassesOwn.leaving rfl (pi_range1 (by rfl) T.z_range (pa_cons pe_int pa_nil)) (pg_name (i := 8) sc_law.nd rfl (by first | exact .inl rfl | exact .inr rfl))
      (pss_cons (ps_set (i := 9) sc_law.nd rfl (by first | exact .inl rfl | exact .inr rfl) (pe_call (ok__law_take T) (hr.mono (by decide)) rfl T.g__law_take T.F__law_take.kp (bi__law_take T) .nil pass0 (pa_cons (pv 1) (pa_cons pe_int pa_nil))))
      (C8.pss_cut (ps_if (pt_cmpR op_lt (pv 9) pe_int (nomark _)) (pss_one (ps_expr (pe_meth (pv 3) T.cl_Journal T.m_Journal_write (ok_Journal_write T) (hr.mono (by decide)) (bi_Journal_write T) .nil pass0 (pa_cons (pe_tup (pa_cons pe_str (pa_cons (pe_call (ok__law_pick T) (hr.mono (by decide)) rfl T.g__law_pick T.F__law_pick.kp (bi__law_pick T) .nil pass0 (pa_cons (pv 1) (pa_cons (pe_lst (pa_cons pe_str (pa_cons pe_str pa_nil))) pa_nil))) (pa_cons (pe_tup (pa_cons (pe_op op_add_str (pe_call (ok__law_pick T) (hr.mono (by decide)) rfl T.g__law_pick T.F__law_pick.kp (bi__law_pick T) .nil pass0 (pa_cons (pv 1) (pa_cons (pe_lst (pa_cons pe_str (pa_cons pe_str (pa_cons pe_str pa_nil)))) pa_nil))) (pe_callTy call_str_int (by rfl) T.z_str (by decide +kernel) (pa_cons (pv 8) pa_nil))) pa_nil)) pa_nil)))) pa_nil)))) (pss_one (ps_if (pt_cmpR op_eq (pv 9) pe_int (nomark _)) (pss_one (ps_expr (pe_meth0 (pv 3) T.cl_Journal T.m_Journal_settle (ok_Journal_settle T) (hr.mono (by decide)) (bi_Journal_settle T) .nil pass0))) (pss_one (ps_if (pt_cmpR op_eq (pv 9) pe_int (nomark _)) (pss_one (ps_aug (i := 6) sc_law.nd rfl (by first | exact .inl rfl | exact .inr rfl) (pe_meth0 (pv 4) T.cl_Post T.m_Post_waiting (ok_Post_waiting T) (hr.mono (by decide)) (bi_Post_waiting T) .nil pass0) iop_ext)) (pss_one (ps_if (PW.pt (pw_and (pt_cmpR op_eq (pv 9) pe_int (nomark _)) (pw_and1 (pt_cmpR op_eq (pe_call (ok__law_take T) (hr.mono (by decide)) rfl T.g__law_take T.F__law_take.kp (bi__law_take T) .nil pass0 (pa_cons (pv 1) (pa_cons pe_int pa_nil))) pe_int (nomark _))))) (pss_cons (ps_set (i := 3) sc_law.nd rfl (by first | exact .inl rfl | exact .inr rfl) (pe_make T.mk_Journal (ok_Journal___init__ T) (hr.mono (by decide)) rfl T.g_Journal (bi_Journal___init__ T) .nil pass0 (pa_cons (pv 2) (pa_cons (pe_meth (pv 3) T.cl_Journal T.m_Journal_fallen (ok_Journal_fallen T) (hr.mono (by decide)) (bi_Journal_fallen T) .nil pass0 (pa_cons (pe_call (ok__law_take T) (hr.mono (by decide)) rfl T.g__law_take T.F__law_take.kp (bi__law_take T) .nil pass0 (pa_cons (pv 1) (pa_cons (pe_op op_add (pe_callB call_len_str (by rfl) T.z_len (by decide +kernel) (pa_cons (YjD.pe_fldK (K := K) (pv 3) rfl) pa_nil)) pe_int) pa_nil))) pa_nil)) pa_nil))))
      (pss_one (ps_asg (pe_tup (pa_cons (pe_make T.mk_Post (ok_Post___init__ T) (hr.mono (by decide)) rfl T.g_Post (bi_Post___init__ T) .nil pass0 (pa_cons (pv 3) pa_nil)) (pa_cons pe_dnewK pa_nil))) (pg_tup rfl (pgs_cons (pg_name (i := 4) sc_law.nd rfl (by first | exact .inl rfl | exact .inr rfl)) (pgs_cons (pg_name (i := 7) sc_law.nd rfl (by first | exact .inl rfl | exact .inr rfl)) pgs_nil)))))) (pss_one (ps_if (pt_cmpR (op_neD hr.units) (pv 6) (pe_lst pa_nil) (nomark _)) (pss_cons (ps_set (i := 10) sc_law.nd rfl (by first | exact .inl rfl | exact .inr rfl) (pe_call (ok__law_take T) (hr.mono (by decide)) rfl T.g__law_take T.F__law_take.kp (bi__law_take T) .nil pass0 (pa_cons (pv 1) (pa_cons (pe_callB call_len_seq (by rfl) T.z_len (by decide +kernel) (pa_cons (pv 6) pa_nil)) pa_nil))))
      (pss_cons (ps_asg (pe_ix ix_seq (pv 6) (pv 10) (fun _ _ => rfl)) (pg_tup rfl (pgs_cons (pg_name (i := 11) sc_law.nd rfl (by first | exact .inl rfl | exact .inr rfl)) (pgs_cons (pg_name (i := 12) sc_law.nd rfl (by first | exact .inl rfl | exact .inr rfl)) (pgs_cons (pg_name (i := 13) sc_law.nd rfl (by first | exact .inl rfl | exact .inr rfl)) pgs_nil)))))
      (C8.pss_cut (ps_if (pt_cmpR op_gt (pe_call (ok__law_take T) (hr.mono (by decide)) rfl T.g__law_take T.F__law_take.kp (bi__law_take T) .nil pass0 (pa_cons (pv 1) (pa_cons pe_int pa_nil))) pe_int (nomark _)) (pss_one (ps_set (i := 6) sc_law.nd rfl (by first | exact .inl rfl | exact .inr rfl) (pe_op op_cat (pe_slice sl_list (pv 6) po_none (po_some (pv 10))) (pe_slice sl_list (pv 6) (po_some (pe_op op_add (pv 10) pe_int)) po_none)))) pss_nil)
      (pss_one (ps_if (pt_cmpR op_isN (pv 13) pe_non (nomark _)) (pss_cons (ps_expr (pe_meth (pv 4) T.cl_Post T.m_Post_hear (ok_Post_hear T) (hr.mono (by decide)) (bi_Post_hear T) .nil passN (pa_cons (pv 11) (pa_cons (pv 12) pa_nil))))
      (pss_one (ps_dput (hu_of hr) (pv 7) (pv 11) (pe_callB (call_max2 rfl) (by rfl) T.z_max (by decide +kernel) (pa_cons (pv 12) (pa_cons (pe_dget2 (hu_of hr) (pv 7) (pv 11) pe_int ⟨rfl, rfl, rfl, rfl⟩) pa_nil))) rfl))) (pss_one (ps_if (pt_cmpR op_gt (pv 9) pe_int (nomark _)) (pss_one (ps_expr (pe_bm PySem.F.plainAttrs_list PySem.F.slot_list_append PySem.F.type_list_append mt_append (pv 6) (pa_cons (pe_tup (pa_cons (pv 11) (pa_cons (pe_meth (pe_dget (hu_of hr) (pv 5) (pv 11) (fun _ _ => rfl)) T.cl_Receiver T.m_Receiver_get (ok_Receiver_get T) (hr.mono (by decide)) (bi_Receiver_get T) .nil pass0 (pa_cons (pv 12) (pa_cons (pv 13) pa_nil))) (pa_cons pe_non pa_nil)))) pa_nil)))) pss_nil))))))) pss_nil)))))))))
      (pss_cons (ps_if (pt_not (pt_val (pe_call (ok__law_right T) (hr.mono (by decide)) rfl T.g__law_right T.F__law_right.kp (bi__law_right T) .nil pass0 (pa_cons (pv 3) (pa_cons (pv 5) pa_nil))))) (pss_one (ps_ret pe_bl)) pss_nil)
      (pss_cons (ps_set (i := 14) sc_law.nd rfl (by first | exact .inl rfl | exact .inr rfl) (pe_lst pa_nil))
      (pss_cons (ps_for PassesOwn.leaving rfl (pi_items (YjE.pe_frz (pe_meth0 (pv 3) T.cl_Journal T.m_Journal_letters (ok_Journal_letters T) (hr.mono (by decide)) (bi_Journal_letters T) .nil pass0))) (pg_tup rfl (pgs_cons (pg_name (i := 15) sc_law.nd rfl (by first | exact .inl rfl | exact .inr rfl)) (pgs_cons (pg_name (i := 16) sc_law.nd rfl (by first | exact .inl rfl | exact .inr rfl)) pgs_nil)))
      (pss_one (ps_for PassesOwn.leaving rfl (pi_enumA (by rfl) T.z_enumerate (pa_cons (pv 16) pa_nil)) (pg_tup rfl (pgs_cons (pg_name (i := 10) sc_law.nd rfl (by first | exact .inl rfl | exact .inr rfl)) (pgs_cons (pg_name (i := 13) sc_law.nd rfl (by first | exact .inl rfl | exact .inr rfl)) pgs_nil)))
      (pss_one (ps_if (pt_cmpR op_ge (pv 10) (pe_dget2 (hu_of hr) (pv 7) (pv 15) pe_int ⟨rfl, rfl, rfl, rfl⟩) (nomark _)) (pss_one (ps_expr (pe_bm PySem.F.plainAttrs_list PySem.F.slot_list_append PySem.F.type_list_append mt_append (pv 14) (pa_cons (pe_tup (pa_cons (pv 15) (pa_cons (pe_op op_add (pv 10) pe_int) (pa_cons (pv 13) pa_nil)))) pa_nil)))) pss_nil)))))
      (pss_one (ps_if (PW.pt (pw_or (pt_cmpR (op_neD hr.units) (pe_meth0 (pv 4) T.cl_Post T.m_Post_waiting (ok_Post_waiting T) (hr.mono (by decide)) (bi_Post_waiting T) .nil pass0) (pv 14) (nomark _)) (pw_or1 (pt_val (pe_callB (cr_any rfl) (by rfl) T.z_any (by decide +kernel) (pa_cons (pe_lock (pe_lc (own := [("name", 15)]) rfl sc_law.nd (pi_keys (YjD.pe_fldK (K := K) (pv 4) rfl)) (blkOk_by (N := N_law) (sc := defScope s_law) (own := [("name", 15)]) (by decide +kernel)) (fun _ _ _ _ _ => by exact (pg_name (i := 15) sc_law.nd rfl (.inl rfl))) (fun _ _ _ _ _ => by exact pts_nil) (fun _ _ _ _ _ => by exact (pe_cmpR op_gt (pe_dget (hu_of hr) (YjD.pe_fldK (K := K) (pv 4) rfl) (pv 15) (fun _ _ => rfl)) (pe_callB (call_lenK (K := K)) (by rfl) T.z_len (by decide +kernel) (pa_cons (YjD.pe_fldK (K := K) (pe_dget (hu_of hr) (pv 5) (pv 15) (fun _ _ => rfl)) rfl) pa_nil)) (nomark _))))) pa_nil)))))) (pss_one (ps_ret pe_bl)) pss_nil))))))))
      (pss_cons (ps_expr (pe_meth0 (pv 3) T.cl_Journal T.m_Journal_settle (ok_Journal_settle T) (hr.mono (by decide)) (bi_Journal_settle T) .nil pass0))
      (pss_cons (ps_for PassesOwn.leaving rfl (pi_list (pe_revL (pe_meth0 (pv 4) T.cl_Post T.m_Post_waiting (ok_Post_waiting T) (hr.mono (by decide)) (bi_Post_waiting T) .nil pass0))) (pg_tup rfl (pgs_cons (pg_name (i := 11) sc_law.nd rfl (by first | exact .inl rfl | exact .inr rfl)) (pgs_cons (pg_name (i := 12) sc_law.nd rfl (by first | exact .inl rfl | exact .inr rfl)) (pgs_cons (pg_name (i := 13) sc_law.nd rfl (by first | exact .inl rfl | exact .inr rfl)) pgs_nil))))
      (pss_one (ps_expr (pe_meth (pv 4) T.cl_Post T.m_Post_hear (ok_Post_hear T) (hr.mono (by decide)) (bi_Post_hear T) .nil passN (pa_cons (pv 11) (pa_cons (pe_meth (pe_dget (hu_of hr) (pv 5) (pv 11) (fun _ _ => rfl)) T.cl_Receiver T.m_Receiver_get (ok_Receiver_get T) (hr.mono (by decide)) (bi_Receiver_get T) .nil pass0 (pa_cons (pv 12) (pa_cons (pv 13) pa_nil))) pa_nil))))))
      (pss_cons (ps_if (pt_cmpR (op_neD hr.units) (pe_meth0 (pv 4) T.cl_Post T.m_Post_waiting (ok_Post_waiting T) (hr.mono (by decide)) (bi_Post_waiting T) .nil pass0) (pe_lst pa_nil) (nomark _)) (pss_one (ps_for PassesOwn.leaving rfl (pi_list (pe_meth0 (pv 4) T.cl_Post T.m_Post_waiting (ok_Post_waiting T) (hr.mono (by decide)) (bi_Post_waiting T) .nil pass0)) (pg_tup rfl (pgs_cons (pg_name (i := 11) sc_law.nd rfl (by first | exact .inl rfl | exact .inr rfl)) (pgs_cons (pg_name (i := 12) sc_law.nd rfl (by first | exact .inl rfl | exact .inr rfl)) (pgs_cons (pg_name (i := 13) sc_law.nd rfl (by first | exact .inl rfl | exact .inr rfl)) pgs_nil))))
      (pss_one (ps_expr (pe_meth (pv 4) T.cl_Post T.m_Post_hear (ok_Post_hear T) (hr.mono (by decide)) (bi_Post_hear T) .nil passN (pa_cons (pv 11) (pa_cons (pe_meth (pe_dget (hu_of hr) (pv 5) (pv 11) (fun _ _ => rfl)) T.cl_Receiver T.m_Receiver_get (ok_Receiver_get T) (hr.mono (by decide)) (bi_Receiver_get T) .nil pass0 (pa_cons (pv 12) (pa_cons (pv 13) pa_nil))) pa_nil))))))) pss_nil)
      (pss_cons (ps_if (PW.pt (pw_or (pt_cmpR (op_neD hr.units) (pe_meth0 (pv 4) T.cl_Post T.m_Post_waiting (ok_Post_waiting T) (hr.mono (by decide)) (bi_Post_waiting T) .nil pass0) (pe_lst pa_nil) (nomark _)) (pw_or1 (pt_cmpR (op_neD hr.units) (pe_lc (own := [("name", 15)]) rfl sc_law.nd (pi_tup (pe_tup (pa_cons pe_str (pa_cons pe_str pa_nil)))) (blkOk_by (N := N_law) (sc := defScope s_law) (own := [("name", 15)]) (by decide +kernel)) (fun _ _ _ _ _ => by exact (pg_name (i := 15) sc_law.nd rfl (.inl rfl))) (fun _ _ _ _ _ => by exact pts_nil) (fun _ _ _ _ _ => by exact (pe_callTy (YjE.call_tupleK (K := K)) (by rfl) T.z_tuple (by decide +kernel) (pa_cons (YjD.pe_fldK (K := K) (pe_dget (hu_of hr) (pv 5) (pv 15) (fun _ _ => rfl)) rfl) pa_nil)))) (pe_lc (own := [("name", 15)]) rfl sc_law.nd (pi_tup (pe_tup (pa_cons pe_str (pa_cons pe_str pa_nil)))) (blkOk_by (N := N_law) (sc := defScope s_law) (own := [("name", 15)]) (by decide +kernel)) (fun _ _ _ _ _ => by exact (pg_name (i := 15) sc_law.nd rfl (.inl rfl))) (fun _ _ _ _ _ => by exact pts_nil) (fun _ _ _ _ _ => by exact (pe_dget2 (hu_of hr) (pe_meth0 (pv 3) T.cl_Journal T.m_Journal_letters (ok_Journal_letters (P := P) (w := w) T) (hr.mono (by decide)) (bi_Journal_letters T) .nil pass0) (pv 15) (pe_tup pa_nil) ⟨rfl, rfl, rfl, rfl⟩))) (nomark _))))) (pss_one (ps_ret pe_bl)) pss_nil)
      (pss_cons (ps_for PassesOwn.leaving rfl (pi_tup (pe_tup (pa_cons (pe_tup (pa_cons pe_str (pa_cons (pe_un un_neg pe_int) pa_nil))) (pa_cons (pe_tup (pa_cons pe_str (pa_cons pe_int pa_nil))) (pa_cons (pe_tup (pa_cons pe_str (pa_cons pe_int pa_nil))) (pa_cons (pe_tup (pa_cons pe_str (pa_cons pe_bl pa_nil))) pa_nil)))))) (pg_tup rfl (pgs_cons (pg_name (i := 15) sc_law.nd rfl (by first | exact .inl rfl | exact .inr rfl)) (pgs_cons (pg_name (i := 12) sc_law.nd rfl (by first | exact .inl rfl | exact .inr rfl)) pgs_nil)))
      (pss_one (L2N.ps_try_as (i := 17) (Wout := fun _ _ _ _ => False) rfl rfl sc_law.nd rfl rfl ⟨rfl, by decide, .inl T.x_BadEntry.cla⟩ takesN0
        (fun W pn xe tk _ => by exact (pss_cons (ps_expr (YjD.pe_methE (pv 4) T.cl_Post T.m_Post_hear (ok_Post_hear (P := P) (w := w) T) (hr.mono (show 3 ≤ _ by decide)) (bi_Post_hear T) (fun σ => L2N.passAt tk σ) (pa_cons (pv 15) (pa_cons (pv 12) pa_nil))))
      (pss_one (ps_ret pe_bl))))
        (fun a oe cls d pn hz hf => by exact (pss_one (ps_if (pt_cmpR (YjD.op_neDK (K := K) hr.units) (pe_by_BadEntry T.x_BadEntry hz hf (pv 17)) (pe_tup (pa_cons (pv 15) (pa_cons (pv 12) pa_nil))) (nomark _)) (pss_one (ps_ret pe_bl)) pss_nil))))))
      (pss_one (ps_ret pe_bl)))))))))))), ?_⟩
  refine ⟨_, rfl, (by show 2 ≤ sizeLine; decide), fun d nd => ?_⟩
  have hD : Draw K (upd H d (.lst [.ref a, .int 0])) d a ns := ⟨⟨0, upd_same⟩, (same_upd nd).seq hS, hz⟩
  generalize upd H d (.lst [.ref a, .int 0]) = H1 at hD
  refine ⟨rfl, fun dr H2 s2 ndr hdr => ?_⟩
  have hD2 := hD.same s2
  clear nd hS
  refine ⟨_, rfl, fun J dxJ nJ ndx neJ => ?_⟩
  refine ⟨H2, J, dxJ, dr, "", [], [], rfl, nJ, same_at (same_upd ndx) nJ, upd_same, hdr, rfl, (fun h => nomatch h), (fun e he => nomatch he), by decide, by decide, fun H3 E us s3 nE j => ⟨rfl, ?_⟩⟩
  refine ⟨_, rfl, fun Po dxP nPo ndP neP => ⟨H3, Po, dxP, J, rfl, nPo, same_at (same_upd ndP) nPo, upd_same, fun H4 PD s4 nPD nePD p => ⟨rfl, ?_⟩⟩⟩
  refine fun Rv nRv => ?_
  have hRv5 : upd H4 Rv (.dK []) Rv = some (.dK []) := upd_same
  have s5 := same_upd (o := .dK []) nRv
  generalize upd H4 Rv (.dK []) = H5 at hRv5 s5
  refine fun R1 dx1 nR1 nd1 ne1 => ⟨H5, R1, dx1, rfl, nR1, same_at (same_upd nd1) nR1, upd_same, fun H6 T1 Y1 s6 nT1 nY1 neT1 neY1 r1 => ⟨rfl, ?_⟩⟩
  refine fun R2 dx2 nR2 nd2 ne2 => ⟨H6, R2, dx2, rfl, nR2, same_at (same_upd nd2) nR2, upd_same, fun H7 T2 Y2 s7 nT2 nY2 neT2 neY2 r2 => ⟨rfl, ?_⟩⟩
  have hRv7 := s7 _ _ (s6 _ _ hRv5)
  refine ⟨hRv7, rcK R1 R2, rfl, (by show 2 ≤ 15; decide), ?_⟩
  rw [rc_merge]
  have hRv8 : upd H7 Rv (.dK (rcK R1 R2)) Rv = some (.dK (rcK R1 R2)) := upd_same
  have s27 : Same H2 H4 := s3.trans s4
  have s47 : Same H4 (upd H7 Rv (.dK (rcK R1 R2))) := same_at (s5.trans (s6.trans s7)) nRv
  have s58 : Off [Rv] H5 (upd H7 Rv (.dK (rcK R1 R2))) := (offOf (s6.trans s7)).trans (off_upd (by simp))
  have t58 : TupsE H7 (upd H7 Rv (.dK (rcK R1 R2))) := tups_dk hRv7
  have o78 : Off [Rv] H7 (upd H7 Rv (.dK (rcK R1 R2))) := off_upd (by simp)
  have rv_ne : ∀ {x : Addr}, H5 x = none → x ≠ Rv := fun nx z => by
    rw [z, hRv5] at nx
    cases nx
  have n6R2 := s6.free nR2
  have n6T2 := s6.free nT2
  have n6Y2 := s6.free nY2
  have r1' := ((r1.mono s7).off o78 t58 (by simp [rv_ne nR1]) (by simp [rv_ne nT1]) (by simp [rv_ne nY1]))
  have r2' := (r2.off o78 t58 (by simp [rv_ne n6R2]) (by simp [rv_ne n6T2]) (by simp [rv_ne n6Y2]))
  have old : ∀ {x y : Addr} {o : HO}, H6 x = none → H6 y = some o → y ≠ x := fun nx e z => by
    rw [z, nx] at e
    cases e
  have eT1 := r1.tak
  have eY1 := r1.ear
  have neTT : T1 ≠ T2 := old nT2 eT1
  have neYY : Y1 ≠ Y2 := old nY2 eY1
  generalize upd H7 Rv (.dK (rcK R1 R2)) = H8 at hRv8 s47 r1' r2'
  refine ⟨Nat.zero_le _, fun U nU => fun Hh nHh => ⟨(by show 4 ≤ sizeLine; exact ofNat_le (by omega)), fun t nt => ?_⟩⟩
  have hU : upd (upd (upd H8 U (.lst [])) Hh (.dK [])) t (.tup [.ref Po, .ref Rv, .ref U, .ref Hh]) U = some (.lst []) := same_upd nt _ _ (same_upd nHh _ _ upd_same)
  have hH : upd (upd (upd H8 U (.lst [])) Hh (.dK [])) t (.tup [.ref Po, .ref Rv, .ref U, .ref Hh]) Hh = some (.dK []) := same_upd nt _ _ upd_same
  have ht : upd (upd (upd H8 U (.lst [])) Hh (.dK [])) t (.tup [.ref Po, .ref Rv, .ref U, .ref Hh]) t = some (.tup [.ref Po, .ref Rv, .ref U, .ref Hh]) := upd_same
  have s8 : Same H8 (upd (upd (upd H8 U (.lst [])) Hh (.dK [])) t (.tup [.ref Po, .ref Rv, .ref U, .ref Hh])) := ((same_upd nU).trans (same_upd nHh)).trans (same_upd nt)
  have nH8 : H8 Hh = none := (same_upd nU).free nHh
  generalize upd (upd (upd H8 U (.lst [])) Hh (.dK [])) t (.tup [.ref Po, .ref Rv, .ref U, .ref Hh]) = H9 at hU hH ht s8
  refine ⟨t, _, rfl, SqT.of ht, rfl, _, _, rfl, _, _, rfl, _, _, rfl, _, _, rfl, rfl, ?_⟩
  have p8 := p.mono s47
  have j8 := j.mono (s4.trans s47)
  have lh0 : LH (ad 47999) (ad 19999) (ad 20999) H2 H9 a d J E Po PD Rv U Hh (rsel R1 R2) (rsel T1 T2) (rsel Y1 Y2) us [] 0 "" [] (fun _ => []) (fun _ => []) [] [] := by
    obtain ⟨c, hc⟩ := hD2.1
    refine ⟨keepOf ((s27.trans s47).trans s8), ⟨c, s8 _ _ (s47 _ _ (s27 _ _ hc))⟩, j8.mono s8, p8.mono s8, ⟨s8 _ _ hRv8, fun r hr => ?_, fun r hr q hq n => ?_⟩, hU, .nil, hH⟩
    · rcases recv_two hr with rfl | rfl
      · exact r1'.mono s8
      · exact r2'.mono s8
    · rcases recv_two hr with rfl | rfl <;> rcases recv_two hq with rfl | rfl
      · exact absurd rfl n
      · exact ⟨neTT, neYY⟩
      · exact ⟨neTT.symm, neYY.symm⟩
      · exact absurd rfl n
  have li0 : LI K H2 a d dr J E Po PD Rv U Hh (rsel R1 R2) (rsel T1 T2) (rsel Y1 Y2) ns [] 0 [] (fun _ => []) (fun _ => []) [] 0 := by
    have f4 : ∀ {x : Addr}, H4 x = none → H2 x = none := fun n => s3.free (s4.free n)
    have f5 : ∀ {x : Addr}, H5 x = none → H2 x = none := fun n => f4 (s5.free n)
    have f6 : ∀ {x : Addr}, H6 x = none → H2 x = none := fun n => f5 (s6.free n)
    have f8 : ∀ {x : Addr}, H8 x = none → H2 x = none := fun n => f4 (s47.free n)
    have j5 := j.mono (s4.trans s5)
    have p5 := p.mono s5
    have hE5 := j5.ent
    have hP5 := p5.hea
    refine ⟨hD2, hdr, fun r _ => ⟨Int.le_refl 0, Int.le_refl 0⟩, (fun p hp => nomatch hp), (fun x hx => nomatch hx), fun x hx => ?_, fun r hr => ?_, ⟨?_, fun r hr => ?_, fun r hr => ?_, ?_, ?_, ?_, fun r hr => ?_, fun r hr => ?_, fun r hr => ?_⟩, Nat.le_refl _, fun r _ => Nat.le_refl _, Nat.le_refl _, Nat.le_refl _⟩
    · simp only [List.mem_cons, List.mem_nil_iff, or_false] at hx
      rcases hx with rfl | rfl | rfl | rfl | rfl | rfl | rfl
      · exact nJ
      · exact nE
      · exact s3.free nPo
      · exact s3.free nPD
      · exact f4 nRv
      · exact f8 nU
      · exact f8 nH8
    · rcases recv_two hr with rfl | rfl
      · exact ⟨f5 nR1, f5 nT1, f5 nY1⟩
      · exact ⟨f6 nR2, f6 nT2, f6 nY2⟩
    · exact ne_of_none j8.ent nU
    · rcases recv_two hr with rfl | rfl
      · exact (ne_of_none hE5 nT1).symm
      · exact (ne_of_none (s6 _ _ hE5) nT2).symm
    · rcases recv_two hr with rfl | rfl
      · exact ne_of_none r1'.tak nU
      · exact ne_of_none r2'.tak nU
    · exact ne_of_none p8.hea nH8
    · exact ne_of_none p.hea nRv
    · exact (ne_of_none hRv8 nH8).symm
    · rcases recv_two hr with rfl | rfl
      · exact (ne_of_none hP5 nY1).symm
      · exact (ne_of_none (s6 _ _ hP5) nY2).symm
    · rcases recv_two hr with rfl | rfl
      · exact ne_of_none r1'.ear nH8
      · exact ne_of_none r2'.ear nH8
    · rcases recv_two hr with rfl | rfl
      · exact rv_ne nY1
      · exact rv_ne n6Y2
  generalize rsel R1 R2 = R at lh0 li0
  generalize rsel T1 T2 = T' at lh0 li0
  generalize rsel Y1 Y2 = Y at lh0 li0
  clear p8 j8 s8 nH8 ht hH hU nHh nt nU r1' r2' neYY neTT eY1 eT1 old n6Y2 n6T2 n6R2 rv_ne o78 t58 s58 s47 s27 hRv8 hRv7 r1 r2 p j s3 s4 s5 s6 s7 hRv5 nRv hdr hD2 hD s2 ndr
  refine ⟨40, rfl, by decide, by decide, for_range (n := 40) (fun i σ H => ∃ J E Po PD U Hh us es n loose hv ru kv uu ul, ∃ y8 y9 y10 y11 y12 y13 y14 y15 y16 : Option V, σ = [some (.ref a), some (.ref d), some (.ref dr), some (.ref J), some (.ref Po), some (.ref Rv), some (.ref U), some (.ref Hh), y8, y9, y10, y11, y12, y13, y14, y15, y16, none] ∧
    LI K H2 a d dr J E Po PD Rv U Hh R T' Y ns es n hv ru kv ul i ∧ LH (ad 47999) (ad 19999) (ad 20999) H2 H a d J E Po PD Rv U Hh R T' Y us es n loose hv ru kv uu ul) ⟨J, E, Po, PD, U, Hh, us, [], 0, "", [], _, _, [], [], _, _, _, _, _, _, _, _, _, rfl, li0, lh0⟩ ?_ ?_⟩
  · rintro i σ H hi ⟨J, E, Po, PD, U, Hh, us, es, n, loose, hv, ru, kv, uu, ul, y8, y9, y10, y11, y12, y13, y14, y15, y16, rfl, li, lh⟩
    rw [Int.zero_add]
    refine ⟨_, rfl, d, a, ns, 8, rfl, drawOf li lh, by decide, fun k H3 k0 k1 z => ?_⟩
    have lh := ev_draw li lh z
    clear z
    refine ⟨fun σ H => ∃ J E Po PD U Hh us es n loose hv ru kv uu ul, ∃ y10 y11 y12 y13 y14 y15 y16 : Option V, σ = [some (.ref a), some (.ref d), some (.ref dr), some (.ref J), some (.ref Po), some (.ref Rv), some (.ref U), some (.ref Hh), some (.int (i : Nat)), some (.int k), y10, y11, y12, y13, y14, y15, y16, none] ∧
      LI K H2 a d dr J E Po PD Rv U Hh R T' Y ns es n hv ru kv ul (i + 1) ∧ LH (ad 47999) (ad 19999) (ad 20999) H2 H a d J E Po PD Rv U Hh R T' Y us es n loose hv ru kv uu ul, ?_, ?_⟩
    · have se := li.se
      obtain ⟨dxJ, drJ, text, eJ, _⟩ := lh.jou.ins
      refine ⟨_, rfl, k, 2, rfl, rfl, _, rfl, ?_⟩
      by_cases c2 : k < 2
      · refine ifT c2 ?_
        refine ⟨_, rfl, J, dxJ, _, rfl, eJ, j_nox (by decide +kernel), ?_⟩
        refine ⟨_, rfl, (by show 2 ≤ sizeLine; decide), fun b nb => ?_⟩
        have s4 := same_upd (o := .lst [V.str "bob", .str "cora"]) nb
        refine ⟨d, a, b, ns, _, rfl, (drawOf li lh).same s4, (fun z => by obtain ⟨c, hc⟩ := lh.cnt; rw [z, hc] at nb; cases nb), upd_same, by simp, fun x H5 hx z5 => ?_⟩
        have lh := ev_draw li (lh.mono s4) z5
        clear s4 z5 nb eJ
        obtain ⟨r, hr, rfl⟩ : ∃ r ∈ recvL, x = .str r := by
          rcases (by simpa using hx : x = .str "bob" ∨ x = .str "cora") with rfl | rfl
          · exact ⟨"bob", by simp [recvL], rfl⟩
          · exact ⟨"cora", by simp [recvL], rfl⟩
        refine ⟨_, rfl, (by show 3 ≤ sizeLine; decide), fun b nb => ?_⟩
        have s6 := same_upd (o := .lst [V.str "a", .str "b", .str "c"]) nb
        refine ⟨d, a, b, ns, _, rfl, (drawOf li lh).same s6, (fun z => by obtain ⟨c, hc⟩ := lh.cnt; rw [z, hc] at nb; cases nb), upd_same, by simp, fun x H7 hx z7 => ?_⟩
        have lh := ev_draw li (lh.mono s6) z7
        clear s6 z7 nb
        obtain ⟨y, hy, rfl⟩ : ∃ y ∈ (["a", "b", "c"] : List Str), x = .str y := by
          rcases (by simpa using hx : x = .str "a" ∨ x = .str "b" ∨ x = .str "c") with rfl | rfl | rfl
          · exact ⟨"a", by simp, rfl⟩
          · exact ⟨"b", by simp, rfl⟩
          · exact ⟨"c", by simp, rfl⟩
        have hnm := nm_mem hy hi
        have hnl := (nm_ok _ hnm).1
        have lg : ((i : Int).natAbs).log2 < 1920 := by
          rw [Int.natAbs_natCast]
          have z : Nat.log2 i ≤ i := Nat.log2_le_self i
          omega
        have ap : (y ++ numS i).length = y.length + (numS i).length := by rw [len_tl, tl_append, List.length_append, ← len_tl, ← len_tl]
        refine ⟨_, rfl, _, rfl, lg, y, numS i, rfl, rfl, ofNat_le (by omega), (by show 1 ≤ sizeLine; decide), fun m nm => ⟨(by show 3 ≤ sizeLine; exact ofNat_le (by omega)), fun t nt => ?_⟩⟩
        have s8 := (same_upd (o := .tup [V.str (y ++ numS i)]) nm).trans (same_upd (o := .tup [V.str "letter", .str r, .ref m]) nt)
        have hm := same_upd (o := .tup [V.str "letter", .str r, .ref m]) nt _ _ (upd_same (H := H7) (a := m) (o := .tup [V.str (y ++ numS i)]))
        have lh := lh.mono s8
        refine ⟨J, E, us, es, n, loose, .ref t, (r, y ++ numS i), rfl, lh.jou, ⟨t, m, rfl, upd_same, hm⟩, ⟨hr, hnm⟩, by omega, fun H9 loose' o9 j9 => ?_⟩
        obtain ⟨l1, l2⟩ := ev_write li lh o9 j9
        exact ⟨J, E, Po, PD, U, Hh, _, _, n, _, hv, ru, kv, uu, ul, _, _, _, _, _, _, _, rfl, l1, l2⟩
      · refine ifF c2 ?_
        refine ⟨_, rfl, rfl, _, rfl, ?_⟩
        by_cases k2 : V.int k = V.int 2
        · rw [decide_eq_true k2]
          refine iteT ?_
          refine ⟨_, rfl, J, dxJ, _, rfl, eJ, j_nox (by decide +kernel), J, E, us, es, n, loose, rfl, lh.jou, by omega, fun H9 o9 j9 => ?_⟩
          obtain ⟨l1, l2⟩ := ev_settle li lh o9 j9
          exact ⟨J, E, Po, PD, U, Hh, _, _, _, _, hv, ru, kv, uu, ul, _, _, _, _, _, _, _, rfl, l1, l2⟩
        · rw [decide_eq_false k2]
          refine iteF ?_
          refine ⟨_, rfl, rfl, _, rfl, ?_⟩
          obtain ⟨dxP, eP⟩ := lh.pst.ins
          by_cases k3 : V.int k = V.int 3
          · rw [decide_eq_true k3]
            refine iteT ?_
            refine ⟨_, rfl, _, rfl, Po, dxP, _, rfl, eP, p_nox (by decide +kernel), Po, J, PD, hv, E, us, es, n, loose, rfl, lh.pst, lh.jou, by omega, fun H9 W ws s9 nW hW hws => ?_⟩
            have lh := lh.mono s9
            have wl := hws.length
            have w80 := wait_len2 (es.take n) (heardI hv) (by rw [List.length_take]; omega)
            have ul2 := lh.unl.length
            have su := li.su
            refine ⟨U, W, uu, ws, rfl, rfl, lh.und, hW, ofNat_le (by omega), ?_⟩
            obtain ⟨l1, l2⟩ := ev_under li.next lh (ws_un hws) (wait_ok (ru := ru)) (by rw [List.length_append, List.length_map]; omega)
            exact ⟨J, E, Po, PD, U, Hh, _, _, _, _, hv, ru, kv, _, _, _, _, _, _, _, _, _, rfl, l1, l2⟩
          · rw [decide_eq_false k3]
            refine iteF ?_
            refine ⟨_, rfl, rfl, _, rfl, ?_⟩
            have hull : ul.length ≤ 4000 := by have := li.su; omega
            have hkv : ∀ r ∈ recvL, (kv r).length ≤ 40 := fun r hr => by have := li.sk r hr; omega
            have hvl : hv.length ≤ 40 := by have := li.sh; omega
            clear eJ eP
            by_cases k4 : V.int k = V.int 4
            case' neg =>
              rw [decide_eq_false k4]
              refine iteF ?_
            case' pos =>
              rw [decide_eq_true k4]
              refine iteT ⟨_, rfl, d, a, ns, 3, rfl, drawOf li lh, by decide, fun m H4 m0 m1 z => ⟨rfl, _, rfl, ?_⟩⟩
              have lh := ev_draw li lh z
              clear z
              by_cases k5 : V.int m = V.int 0
              case' neg =>
                rw [decide_eq_false k5]
                refine iteF ?_
              case' pos =>
                rw [decide_eq_true k5]
                refine iteT ?_
                obtain ⟨dxJ, drJ, text, eJ, _⟩ := lh.jou.ins
                have ll := lh.jou.loose_len (by omega)
                refine ⟨_, rfl, _, rfl, J, dxJ, _, rfl, eJ, j_nox (by decide +kernel), ?_⟩
                refine ⟨_, rfl, _, rfl, J, _, dxJ, _, _, rfl, eJ, T.cl_Journal, T.na_Journal_loose, j_loose, loose, rfl, ofNat_le (by omega), _, 1, rfl, rfl, ?_⟩
                refine ⟨d, a, ns, _, rfl, drawOf li lh, by omega, fun c H5 c0 c1 z => ?_⟩
                have lh := ev_draw li lh z
                clear z eJ
                refine ⟨J, E, us, es, n, loose, c, rfl, lh.jou, by omega, c0, by omega, fun tx m2 rest h1 h2 h3 h4 h5 => ?_⟩
                have gd : ∀ e ∈ es.take m2, GoodL e := fun e he => lh.jou.good e (List.mem_of_mem_take he)
                have l40 : (es.take m2).length ≤ 40 := by
                  rw [List.length_take]
                  omega
                have hdr := li.at lh
                refine fun J' dxJ' nJ' ndx' neJ' => ⟨H5, J', dxJ', dr, tx, es.take m2, rest, rfl, nJ', same_at (same_upd ndx') nJ', upd_same, hdr, h3, h4, gd, l40, h5, fun H6 E' us' s6 nE' j6 => ⟨rfl, ?_⟩⟩
                refine ⟨_, rfl, fun Po' dxP' nPo' ndP' neP' => ⟨H6, Po', dxP', J', rfl, nPo', same_at (same_upd ndP') nPo', upd_same, fun H7 PD' s7 nPD' nePD' p7 => ⟨rfl, ?_⟩⟩⟩
                refine fun Hh' nHh' => ⟨(by show 2 ≤ sizeLine; decide), fun t nt => ?_⟩
                have hH' : upd (upd H7 Hh' (.dK [])) t (.tup [.ref Po', .ref Hh']) Hh' = some (.dK []) := same_upd nt _ _ upd_same
                have ht : upd (upd H7 Hh' (.dK [])) t (.tup [.ref Po', .ref Hh']) t = some (.tup [.ref Po', .ref Hh']) := upd_same
                have s8 : Same H7 (upd (upd H7 Hh' (.dK [])) t (.tup [.ref Po', .ref Hh'])) := (same_upd nHh').trans (same_upd nt)
                generalize upd (upd H7 Hh' (.dK [])) t (.tup [.ref Po', .ref Hh']) = H8 at hH' ht s8
                have s58 := s6.trans (s7.trans s8)
                obtain ⟨l1, l2⟩ := ev_fall li lh s58 nJ' nE' (s6.free nPo') (s6.free nPD') (s6.free (s7.free nHh')) (ne_of_none p7.hea nHh') h1 h2 ((j6.mono s7).mono s8) (p7.mono s8) hH'
                refine ⟨t, _, rfl, SqT.of ht, rfl, _, _, rfl, _, _, rfl, rfl, ?_⟩
                exact ⟨J', E', Po', PD', U, Hh', _, _, _, _, _, ru, kv, _, _, _, _, _, _, _, _, _, rfl, l1, l2⟩
            all_goals
              refine ⟨_, rfl, Nat.zero_le _, fun b nb => ?_⟩
              have s6 := same_upd (o := .lst []) nb
              have lh := lh.mono s6
              have gd : ∀ e ∈ es.take n, GoodL e := fun e he => lh.jou.good e (List.mem_of_mem_take he)
              have okn : ∀ x ∈ ul, OkN x := fun x hx => okN_of gd (li.oku x hx)
              refine ⟨.list (ul.map unD), .list [], .lst (SqL.of lh.und) (us_dp lh.unl), .lst (SqL.of upd_same) .nil, uns_shaped okn, rfl, _, rfl, ?_⟩
              clear s6 nb
              by_cases hne : ul = []
              · have eq : PyData.eqv (.list (ul.map unD)) (.list []) = true := by
                  rw [hne]
                  rfl
                rw [eq]
                exact iteF ⟨J, E, Po, PD, U, Hh, _, _, _, _, hv, ru, kv, _, _, _, _, _, _, _, _, _, rfl, li.next, lh⟩
              rw [un_ne hne]
              refine iteT ?_
              have eul := lh.unl.length
              have lpos : 0 < ul.length := List.length_pos_iff.mpr hne
              refine ⟨_, rfl, _, rfl, U, uu, rfl, .inl (SqL.of lh.und), ?_⟩
              refine ⟨d, a, ns, _, rfl, drawOf li lh, by omega, fun tj H5 t0 t1 z => ?_⟩
              have lh := ev_draw li lh z
              clear z
              obtain ⟨j, ej⟩ : ∃ j : Nat, tj = (j : Int) := ⟨tj.toNat, by omega⟩
              subst ej
              have jl : j < uu.length := by omega
              obtain ⟨x, hx, b, u, eb, hb, hu⟩ := pr_get lh.unl (List.getElem?_eq_getElem jl)
              obtain ⟨r, m, o⟩ := x
              have okx := li.oku _ (List.mem_of_getElem? hx)
              refine ⟨_, rfl, _, rfl, .inl ⟨U, uu, _, _, rfl, rfl, SqL.of lh.und, atI_nat (List.getElem?_eq_getElem jl), ?_⟩⟩
              rw [eb]
              refine ⟨b, _, rfl, SqT.of hb, rfl, _, _, rfl, _, _, rfl, _, _, rfl, rfl, ?_⟩
              refine ⟨fun σ H => ∃ U uu ul, ∃ y14 y15 y16 : Option V, σ = [some (.ref a), some (.ref d), some (.ref dr), some (.ref J), some (.ref Po), some (.ref Rv), some (.ref U), some (.ref Hh), some (.int (i : Nat)), some (.int k), some (.int (j : Nat)), some (.str r), some (.int (m : Nat)), some u, y14, y15, y16, none] ∧
                LI K H2 a d dr J E Po PD Rv U Hh R T' Y ns es n hv ru kv ul i ∧ LH (ad 47999) (ad 19999) (ad 20999) H2 H a d J E Po PD Rv U Hh R T' Y us es n loose hv ru kv uu ul ∧ (match o with | none => u = .non | some z => NmAt H u z), ?_, ?_⟩
              · refine ⟨_, rfl, d, a, ns, 3, rfl, drawOf li lh, by decide, fun c H6 c0 c1 z => ⟨c, 0, rfl, rfl, _, rfl, ?_⟩⟩
                have lh := ev_draw li lh z
                have hu : (match o with | none => u = .non | some z => NmAt H6 u z) := by
                  cases o with
                  | none => exact hu
                  | some y =>
                    obtain ⟨cc, hcc⟩ := (drawOf li ‹LH _ _ _ _ H5 _ _ _ _ _ _ _ _ _ _ _ _ _ _ _ _ _ _ _ _ _›).1
                    exact NmAt.tups (Keep.tupsL z.2 hcc) hu
                clear z
                by_cases cp : c > 0
                · refine ifT cp ?_
                  refine ⟨_, rfl, _, rfl, j, rfl, U, uu, rfl, SqL.of lh.und, fun p np => ?_⟩
                  rw [cut_upto]
                  have s7 := same_upd (o := .lst (uu.take j)) np
                  have hp7 : upd H6 p (.lst (uu.take j)) p = some (.lst (uu.take j)) := upd_same
                  have lh := lh.mono s7
                  have hu := (show (match o with | none => u = .non | some z => NmAt (upd H6 p (.lst (uu.take j))) u z) from by
                    cases o with
                    | none => exact hu
                    | some y => exact NmAt.tups (tupsOf s7) hu)
                  clear s7 np
                  generalize upd H6 p (.lst (uu.take j)) = H7 at hp7 lh hu
                  refine ⟨_, rfl, _, rfl, j, 1, rfl, rfl, (j : Int) + 1, rfl, U, uu, rfl, SqL.of lh.und, fun p2 np2 => ?_⟩
                  rw [show (j : Int) + 1 = ((j + 1 : Nat) : Int) by omega, cut_from]
                  have s8 := same_upd (o := .lst (uu.drop (j + 1))) np2
                  have hp8 : upd H7 p2 (.lst (uu.drop (j + 1))) p2 = some (.lst (uu.drop (j + 1))) := upd_same
                  have hp7 := s8 _ _ hp7
                  have lh := lh.mono s8
                  have hu := (show (match o with | none => u = .non | some z => NmAt (upd H7 p2 (.lst (uu.drop (j + 1)))) u z) from by
                    cases o with
                    | none => exact hu
                    | some y => exact NmAt.tups (tupsOf s8) hu)
                  clear s8 np2
                  generalize upd H7 p2 (.lst (uu.drop (j + 1))) = H8 at hp7 hp8 lh hu
                  refine ⟨p, p2, _, _, rfl, rfl, hp7, hp8, ofNat_le (by rw [List.length_take, List.length_drop]; omega), fun U' nU' => ?_⟩
                  have s9 := same_upd (o := .lst (uu.take j ++ uu.drop (j + 1))) nU'
                  have hsub : ∀ x ∈ ul.take j ++ ul.drop (j + 1), x ∈ ul := fun x hx => (List.mem_append.mp hx).elim List.mem_of_mem_take List.mem_of_mem_drop
                  obtain ⟨l1, l2⟩ := ev_slice li lh s9 nU' upd_same (pr_append (pr_take (lh.unl.tups (tupsOf s9)) j) (pr_drop (lh.unl.tups (tupsOf s9)) (j + 1))) hsub (by rw [List.length_append, List.length_take, List.length_drop]; omega)
                  refine ⟨U', _, _, _, _, _, rfl, l1, l2, ?_⟩
                  cases o with
                  | none => exact hu
                  | some y => exact NmAt.tups (tupsOf s9) hu
                · exact ifF cp ⟨U, uu, ul, _, _, _, rfl, li, lh, hu⟩
              · rintro σ H ⟨U, uu, ul, y14, y15, y16, rfl, li, lh, hu⟩
                have su := li.su
                have eul := lh.unl.length
                refine ⟨_, rfl, rfl, _, rfl, ?_⟩
                cases o with
                | none =>
                  have eu : u = .non := hu
                  subst eu
                  refine iteT ?_
                  obtain ⟨dxP, eP⟩ := lh.pst.ins
                  have hrr := lh.rcv.rat r okx.1
                  have ml : m ≤ (ru r).length := okx.2
                  have le := hrr.le
                  refine ⟨_, rfl, Po, dxP, _, rfl, eP, p_nox (by decide +kernel), _, rfl, _, rfl, Po, J, PD, hv, E, us, es, n, loose, r, .int m, rfl, lh.pst, lh.jou, by omega, by omega, .inl ⟨m, rfl, by omega, fun H6 o6 t6 p6 => ?_⟩⟩
                  obtain ⟨hh, l1, l2⟩ := ev_hear li lh okx.1 ml rfl o6 t6 p6
                  have kl : (relK hv).length < sizeLine := ofNat_lt (by unfold relK; rw [List.length_map]; omega)
                  refine ⟨_, rfl, _, rfl, Hh, rfl, .inl ⟨_, .inl hh⟩, _, rfl, (relAt hv r).map V.int, ?_, ?_⟩
                  · have z := DGet.k (k := (Sum.inr r : L2.Key)) hh
                    rw [relK_val] at z
                    exact z
                  rw [heard_get]
                  refine ⟨m, heardI hv r, rfl, _, rfl, _, rfl, Hh, _, rfl, DPut.k (k := Sum.inr r) hh kl, ?_⟩
                  rw [relK_putR]
                  exact ⟨J, E, Po, PD, U, Hh, _, _, _, _, _, ru, kv, _, _, _, _, _, _, _, _, _, rfl, l1, l2⟩
                | some z =>
                  have nu : u ≠ .non := by
                    obtain ⟨_, rfl, _⟩ := hu
                    exact fun z => nomatch z
                  rw [decide_eq_false nu]
                  refine iteF ⟨_, rfl, k, 4, rfl, rfl, _, rfl, ?_⟩
                  by_cases k6 : k > 4
                  · refine ifT k6 ?_
                    obtain ⟨j2, ej2, hj2⟩ := okx.2
                    have rat := lh.rcv.rat r okx.1
                    obtain ⟨dxR, eR⟩ := rat.ins
                    have gv : DGet H Rv (.str r) (some (.ref (R r))) := by
                      have z := DGet.k (k := (Sum.inr r : L2.Key)) lh.rcv.dict
                      rw [rc_val okx.1] at z
                      exact z
                    have lL : (ltrsOf (es.take n) r).length ≤ 40 := by
                      have z := ltrs_len (es.take n) r
                      rw [List.length_take] at z
                      omega
                    have hk40 := hkv r okx.1
                    refine ⟨_, rfl, .inl ⟨rfl, _, SqL.of lh.und⟩, _, rfl, _, rfl, _, rfl, Rv, _, rfl, gv, R r, dxR, _, rfl, eR, r_nox (by decide +kernel), _, rfl, _, rfl, R r, T' r, Y r, ru r, kv r, ltrsOf (es.take n) r, j2, u, z, ?_, rat, hj2, hu, by omega, lL, fun H6 us6 kv6 o6 t6 r6 hl6 hn6 hk6 hp6 => ?_⟩
                    · have em : m = j2 + 1 := ej2
                      rw [em]
                      rfl
                    obtain ⟨l1, l2⟩ := ev_get li lh okx.1 o6 t6 r6 hl6 hk6
                    refine ⟨(by show 3 ≤ sizeLine; exact ofNat_le (by omega)), fun t nt => ?_⟩
                    have s7 := same_upd (o := .tup [V.str r, .int (us6.length : Nat), .non]) nt
                    have l2 := l2.mono s7
                    refine ⟨U, uu, _, rfl, rfl, l2.und, ofNat_lt (by omega), ?_⟩
                    have wl : UsAt (upd H6 t (.tup [V.str r, .int (us6.length : Nat), .non])) [V.ref t] [((r, us6.length, none) : Un)] := .cons ⟨t, .non, rfl, upd_same, rfl⟩ .nil
                    obtain ⟨m1, m2⟩ := ev_under l1 l2 wl (fun x hx => by
                      rw [List.mem_singleton.mp hx]
                      refine ⟨okx.1, ?_⟩
                      show us6.length ≤ (if r = r then us6 else ru r).length
                      rw [if_pos rfl]
                      exact Nat.le_refl _) (by rw [List.length_append]; show ul.length + 1 ≤ _; omega)
                    exact ⟨J, E, Po, PD, U, Hh, _, _, _, _, hv, _, _, _, _, _, _, _, _, _, _, _, rfl, m1, m2⟩
                  · exact ifF k6 ⟨J, E, Po, PD, U, Hh, _, _, _, _, hv, ru, kv, _, _, _, _, _, _, _, _, _, rfl, li.next, lh⟩
    · rintro σ H ⟨J, E, Po, PD, U, Hh, us, es, n, loose, hv, ru, kv, uu, ul, y10, y11, y12, y13, y14, y15, y16, rfl, li, lh⟩
      have se := li.se
      refine ⟨_, rfl, _, rfl, J, Rv, E, us, es, n, loose, R, T', Y, ru, kv, rfl, lh.jou, by omega, lh.rcv, fun H4 s4 => ⟨_, rfl, iteF ?_⟩⟩
      have lh := lh.mono s4
      clear s4
      refine ⟨Nat.zero_le _, fun D nD => ?_⟩
      have s5 := same_upd (o := .lst []) nD
      have hD5 : upd H4 D (.lst []) D = some (.lst []) := upd_same
      generalize upd H4 D (.lst []) = H5 at s5 hD5
      have j5 := lh.jou.mono s5
      obtain ⟨dxJ, drJ, text, eJ, _⟩ := j5.ins
      refine ⟨_, rfl, J, dxJ, _, rfl, eJ, j_no, J, E, us, es, n, loose, rfl, j5, by omega, fun H6 G kvs s6 nG hG hL => ⟨G, _, rfl, hG, True.intro, fun od => ?_⟩⟩
      have s56 := s5.trans s6
      have nGH : H4 G = none := s5.free nG
      have hD6 := s6 _ _ hD5
      have neG : G ≠ D := fun z => by
        rw [z, hD5] at nG
        cases nG
      have hGz : upd H6 G (.frz od (.dK kvs)) G = some (.frz od (.dK kvs)) := upd_same
      have sz : Same H4 (upd H6 G (.frz od (.dK kvs))) := same_at s56 nGH
      have hDz : upd H6 G (.frz od (.dK kvs)) D = some (.lst []) := (upd_ne neG.symm).trans hD6
      have tz : TupsE H6 (upd H6 G (.frz od (.dK kvs))) := fun b xs e => (upd_ne fun z => by rw [z, hG] at e; cases e).trans e
      have hLz := hL.tups tz
      generalize upd H6 G (.frz od (.dK kvs)) = HB at hGz sz hDz hLz
      have kl : kvs.length = (lettered (es.take n)).length := hL.length
      have lhz := lh.mono sz
      have gd : ∀ e ∈ es.take n, GoodL e := fun e he => lh.jou.good e (List.mem_of_mem_take he)
      have l40 : (es.take n).length ≤ 40 := by rw [List.length_take]; omega
      clear eJ j5 s5 s6 hD5 hD6 tz s56
      refine ⟨G, od, kvs, rfl, hGz, ?_⟩
      refine for_it walk_items (fun i2 σ H7 => ∃ (y10 y13 y15 y16 : Option V) (ws : List V), σ = [some (.ref a), some (.ref d), some (.ref dr), some (.ref J), some (.ref Po), some (.ref Rv), some (.ref U), some (.ref Hh), some (.int (i : Nat)), some (.int k), y10, y11, y12, y13, some (.ref D), y15, y16, none] ∧ Keep D HB H7 ∧ H7 D = some (.lst ws) ∧ WtAt H7 ws (waitL (es.take n) (heardI hv) ((lettered (es.take n)).take i2))) ⟨_, _, _, _, [], rfl, Keep.refl _ _, hDz, .nil⟩ (fun i2 σ H7 _ ⟨_, _, _, _, _, _, k, _⟩ => k _ _ neG hGz) ?_ ?_
      · rintro i2 x σ H7 H7' hi2 ⟨y10, y13, y15, y16, ws, rfl, k7, hD7, hw7⟩ ⟨T1, kx, vx, rfl, nT1, rfl, h1, h2⟩
        obtain ⟨k', v', hk⟩ : ∃ k' v', kvs[i2]? = some (k', v') := ⟨_, _, List.getElem?_eq_getElem hi2⟩
        have h1 : (kvs[i2]?).map (fun kv => kV kv.1) = some kx := h1
        have h2 : (kvs[i2]?).map Prod.snd = some vx := h2
        rw [hk] at h1 h2
        obtain rfl := Option.some.inj h1
        obtain rfl := Option.some.inj h2
        obtain ⟨r, hr', e1, t, us2, e2, ht, hus⟩ := pr_get hLz hk
        have e1 : k' = Sum.inr r := e1
        have e2 : v' = .ref t := e2
        subst e1 e2
        have s8 := same_upd (o := .tup [kV (Sum.inr r : L2.Key), .ref t]) nT1
        have hT8 : upd H7 T1 (.tup [kV (Sum.inr r : L2.Key), .ref t]) T1 = some (.tup [V.str r, .ref t]) := upd_same
        have hD8 := s8 _ _ hD7
        have k8 := k7.trans (keepOf s8)
        have hw8 := hw7.tups (tupsOf s8)
        refine ⟨T1, _, rfl, SqT.of hT8, rfl, _, _, rfl, _, _, rfl, rfl, ?_⟩
        generalize upd H7 T1 (.tup [kV (Sum.inr r : L2.Key), V.ref t]) = H8 at s8 hT8 hD8 k8 hw8
        have neTD : t ≠ D := fun z => by
          rw [z, hDz] at ht
          cases ht
        have ul : us2.length = (ltrsOf (es.take n) r).length := hus.length
        have ll := ltrs_len (es.take n) r
        refine ⟨_, rfl, t, us2, rfl, .inr ⟨SqT.of (k8 _ _ neTD ht), ?_⟩⟩
        refine for_it walk_enumT (fun m σ H9 => ∃ (y10 y13 : Option V) (ws : List V), σ = [some (.ref a), some (.ref d), some (.ref dr), some (.ref J), some (.ref Po), some (.ref Rv), some (.ref U), some (.ref Hh), some (.int (i : Nat)), some (.int k), y10, y11, y12, y13, some (.ref D), some (.str r), some (.ref t), none] ∧ Keep D HB H9 ∧ H9 D = some (.lst ws) ∧ WtAt H9 ws (waitL (es.take n) (heardI hv) ((lettered (es.take n)).take i2) ++ waitFrom r (heardI hv r) 0 ((ltrsOf (es.take n) r).take m))) ⟨_, _, ws, rfl, k8, hD8, by rw [List.take_zero]; show WtAt _ _ (_ ++ []); rw [List.append_nil]; exact hw8⟩ (fun m σ H9 _ ⟨_, _, _, _, k, _⟩ => SqT.of (k _ _ neTD ht)) ?_ ?_
        · rintro m x σ H9 H9' hm ⟨y10, y13, ws9, rfl, k9, hD9, hw9⟩ ⟨T2, ux, vx, rfl, nT2, rfl, h1, h2⟩
          obtain rfl := Option.some.inj h1
          obtain ⟨z, hz, b, rfl, hb⟩ := pr_get hus (i := m) (v := vx) h2
          have s10 := same_upd (o := .tup [V.int (m : Nat), .ref b]) nT2
          have hT10 : upd H9 T2 (.tup [V.int (m : Nat), .ref b]) T2 = some (.tup [V.int (m : Nat), .ref b]) := upd_same
          have hD10 := s10 _ _ hD9
          have k10 := k9.trans (keepOf s10)
          have hw10 := hw9.tups (tupsOf s10)
          generalize upd H9 T2 (.tup [V.int (m : Nat), .ref b]) = H10 at s10 hT10 hD10 k10 hw10
          refine ⟨T2, _, rfl, SqT.of hT10, rfl, _, _, rfl, _, _, rfl, rfl, ?_⟩
          have neH : Hh ≠ D := ne_of_none lh.hea nD
          have hH10 := k10 _ _ neH lhz.hea
          refine ⟨_, rfl, _, rfl, Hh, rfl, .inl ⟨_, .inl hH10⟩, _, rfl, (relAt hv r).map V.int, ?_, ?_⟩
          · have z := DGet.k (k := (Sum.inr r : L2.Key)) hH10
            rw [relK_val] at z
            exact z
          rw [heard_get]
          have lw : ws9.length ≤ 200 := by
            have z := hw9.length
            have q1 := wait_len r (heardI hv r) ((ltrsOf (es.take n) r).take m) 0
            have q2 := waitL_len (es.take n) (heardI hv) ((lettered (es.take n)).take i2)
            have q3 : ((lettered (es.take n)).take i2).length ≤ 2 := by
              have z2 := nodup_le2 (lettered_nodup (es.take n)) fun r h => (List.mem_filter.mp h).1
              rw [List.length_take]
              omega
            rw [List.length_append] at z
            rw [List.length_take] at q1
            have q4 : ((lettered (es.take n)).take i2).length * (es.take n).length ≤ 2 * 40 := Nat.mul_le_mul q3 l40
            omega
          have tk : (ltrsOf (es.take n) r).take (m + 1) = (ltrsOf (es.take n) r).take m ++ [z] := by rw [List.take_add_one, hz]; rfl
          have lm : ((ltrsOf (es.take n) r).take m).length = m := by
            have := (List.getElem?_eq_some_iff.mp hz).1
            rw [List.length_take]
            omega
          refine ⟨_, _, rfl, rfl, _, rfl, ?_⟩
          by_cases c : (m : Int) ≥ heardI hv r
          · refine ifT c ⟨_, rfl, .inl ⟨rfl, _, SqL.of hD10⟩, _, rfl, _, rfl, _, 1, rfl, rfl, _, rfl, (by show 3 ≤ sizeLine; exact ofNat_le (by omega)), fun t6 n6 => ?_⟩
            have s11 := same_upd (o := .tup [V.str r, .int ((m : Nat) + 1 : Int), .ref b]) n6
            refine ⟨D, ws9, _, rfl, rfl, s11 _ _ hD10, ofNat_lt (by omega), ?_⟩
            have t7 := tups_lst (ys := ws9 ++ [.ref t6]) (s11 _ _ hD10)
            refine ⟨_, _, ws9 ++ [.ref t6], rfl, (k10.trans (keepOf s11)).trans fun b o q e => (upd_ne q).trans e, upd_same, ?_⟩
            rw [tk, wait_snoc, lm, Nat.zero_add, if_pos (by omega), ← List.append_assoc]
            have eb := k10 _ _ (fun z => by rw [z, hDz] at hb; cases hb) hb
            exact Paired.snoc (hw10.tups ((tupsOf s11).trans t7)) ⟨t6, b, rfl, t7 _ _ upd_same, t7 _ _ (s11 _ _ eb)⟩
          · refine ifF c ⟨_, _, ws9, rfl, k10, hD10, ?_⟩
            rw [tk, wait_snoc, lm, Nat.zero_add, if_neg (by omega), List.append_nil]
            exact hw10
        · rintro σ H9 ⟨y10, y13, ws9, rfl, k9, hD9, hw9⟩
          rw [ul, List.take_length] at hw9
          refine ⟨_, _, _, _, ws9, rfl, k9, hD9, ?_⟩
          rw [List.take_add_one, hr']
          unfold waitL
          rw [List.flatMap_append]
          show WtAt H9 ws9 (_ ++ (waitFrom r (heardI hv r) 0 (ltrsOf (es.take n) r) ++ []))
          rw [List.append_nil]
          exact hw9
      · rintro σ H7 ⟨y10, y13, y15, y16, ws, rfl, k7, hD7, hw7⟩
        rw [kl, List.take_length] at hw7
        have s7 : Same H4 H7 := fun b o e => k7 _ _ (fun z => by rw [z, nD] at e; cases e) (sz _ _ e)
        have lh := lh.mono s7
        clear s7 k7 lhz hLz hDz sz hGz neG nGH nD kl
        obtain ⟨dxP, eP⟩ := lh.pst.ins
        have okn : ∀ x ∈ (waitL (es.take n) (heardI hv) (lettered (es.take n))).map unW, OkN x := fun x hx => okN_of gd (wait_ok (ru := ru) x hx)
        refine ⟨_, rfl, Po, dxP, _, rfl, eP, p_nox (by decide +kernel), Po, J, PD, hv, E, us, es, n, loose, rfl, lh.pst, lh.jou, by omega, fun H8 W ws8 s8 nW hW hws8 => ?_⟩
        have lh := lh.mono s8
        refine ⟨_, rfl, _, _, .lst (SqL.of hW) (us_dp (ws_un hws8)), .lst (SqL.of (s8 _ _ hD7)) (us_dp (ws_un (hw7.tups (tupsOf s8)))), uns_shaped okn, uns_shaped okn, _, rfl, ?_⟩
        rw [uns_eqv okn]
        refine iteF ?_
        have eP := s8 _ _ eP
        clear hD7 hw7 hws8 hW nW s8
        refine ⟨PD, _, lh.pst.hea, True.intro, fun od => ?_⟩
        have neP : Po ≠ PD := fun z => by
          have e := lh.pst.hea
          rw [← z, eP] at e
          cases e
        have hPz : upd H8 PD (.frz od (.dK (relK hv))) PD = some (.frz od (.dK (relK hv))) := upd_same
        have kz : Keep PD H8 (upd H8 PD (.frz od (.dK (relK hv)))) := fun b o ne e => (upd_ne ne).trans e
        generalize upd H8 PD (.frz od (.dK (relK hv))) = H9 at hPz kz
        refine ⟨_, rfl, Po, _, dxP, _, _, rfl, kz _ _ neP eP, T.cl_Post, T.na_Post_heard, p_heard, PD, od, rfl, .inl ⟨_, hPz, fun D2 nD2 => ?_⟩⟩
        refine lc_it walk_keys (fun i2 H10 => Same H9 H10 ∧ H10 D2 = some (.lst ((List.replicate i2 false).map V.bl))) ⟨same_upd nD2, upd_same⟩ (fun i2 H10 _ h => h.1 _ _ hPz) ?_ ?_
        · rintro i2 x H10 H10' hi2 ⟨s10, hD2⟩ ⟨rfl, kk, vv, hk, rfl⟩
          obtain ⟨p, hp, rfl, rfl⟩ := relK_get hk
          have hpm := List.mem_of_getElem? hp
          have pr := li.hvs p hpm
          obtain ⟨m', hm'⟩ := relAt_some hpm
          have hI : heardI hv p.1 = m' := by
            unfold heardI
            rw [hm']
            rfl
          have k10 := kz.trans (keepOf s10)
          have rat := lh.rcv.rat p.1 pr
          obtain ⟨dxR, eR⟩ := rat.ins
          have neR : R p.1 ≠ PD := fun z => by
            have e := lh.pst.hea
            rw [← z, eR] at e
            cases e
          have neT : T' p.1 ≠ PD := fun z => by
            have e := lh.pst.hea
            rw [← z, rat.tak] at e
            cases e
          have g1 : DGet H10' PD (.str p.1) (some (.int m')) := by
            refine .inl ⟨relK hv, Sum.inr p.1, .inr ⟨od, s10 _ _ hPz⟩, rfl, ?_⟩
            rw [relK_val, hm']
            rfl
          have g2 : DGet H10' Rv (.str p.1) (some (.ref (R p.1))) := by
            have z := DGet.k (k := (Sum.inr p.1 : L2.Key)) (k10 _ _ li.sep.pr.symm lh.rcv.dict)
            rw [rc_val pr] at z
            exact z
          refine ⟨rfl, _, rfl, Po, _, dxP, _, _, rfl, k10 _ _ neP eP, T.cl_Post, T.na_Post_heard, p_heard, _, rfl, PD, _, rfl, g1, ?_⟩
          refine ⟨_, rfl, _, rfl, Rv, _, rfl, g2, R p.1, _, dxR, _, _, rfl, k10 _ _ neR eR, T.cl_Receiver, T.na_Receiver_taken, r_tak, T' p.1, ru p.1, rfl, .inl (SqL.of (k10 _ _ neT rat.tak)), m', _, rfl, rfl, ?_⟩
          have oh := (li.okh p.1 pr).2
          have il : i2 < hv.length := by
            have z := (List.getElem?_eq_some_iff.mp hp).1
            exact z
          have sh := li.sh
          refine ⟨_, hD2, ofNat_lt (by rw [List.length_map, List.length_replicate]; omega), same_at s10 nD2, ?_⟩
          rw [upd_same, List.replicate_succ', List.map_append]
          show some (HO.lst ((List.replicate i2 false).map V.bl ++ [V.bl (decide (((ru p.1).length : Int) < m'))])) = _
          rw [decide_eq_false (show ¬ (((ru p.1).length : Int) < m') by omega)]
          rfl
        · rintro H10 ⟨s10, hD2⟩
          refine ⟨s10 _ _ hPz, ?_⟩
          have neD : D2 ≠ PD := fun z => by
            rw [z, hPz] at nD2
            cases nD2
          have sfin : Same H8 (upd H10 PD (.dK (relK hv))) := fun b o e => by
            by_cases c : b = PD
            · rw [c] at e ⊢
              rw [upd_same, ← e, ← lh.pst.hea]
            · rw [upd_ne c]
              exact s10 _ _ (kz _ _ c e)
          refine ⟨D2, List.replicate (relK hv).length false, rfl, SqL.of ((upd_ne neD).trans hD2), _, rfl, ?_⟩
          have ea : ((List.replicate (relK hv).length false).any id) = false := by
            rw [List.any_eq_false]
            intro x hx
            rw [(List.mem_replicate.mp hx).2]
            exact Bool.false_ne_true
          rw [ea]
          exact iteF ⟨J, E, Po, PD, U, Hh, us, es, n, loose, hv, ru, kv, uu, ul, _, _, _, _, _, _, _, _, _, rfl, li, lh.mono sfin⟩
  · rintro σ H ⟨J, E, Po, PD, U, Hh, us, es, n, loose, hv, ru, kv, uu, ul, y8, y9, y10, y11, y12, y13, y14, y15, y16, rfl, li, lh⟩
    have se := li.se
    obtain ⟨dxJ, drJ, text, eJ, _⟩ := lh.jou.ins
    refine ⟨_, rfl, J, dxJ, _, rfl, eJ, j_nox (by decide +kernel), J, E, us, es, n, loose, rfl, lh.jou, by omega, fun H3 o3 j3 => ?_⟩
    obtain ⟨li, lh⟩ := ev_settle li lh o3 j3
    clear eJ o3 j3
    have lf : LF (ad 47999) (ad 19999) (ad 20999) H3 J E Po PD Rv R T' Y us es "" hv ru kv := ⟨lh.jou, lh.pst, lh.rcv, li.sep.te, li.sep.yp, li.sep.yr, li.sep.pr⟩
    have okh := li.okh
    have sk := li.sk
    have sh := li.sh
    have etk : es.take es.length = es := List.take_length
    clear li lh
    have gd : ∀ e ∈ es, GoodL e := lf.jou.good
    obtain ⟨dxP, eP⟩ := lf.pst.ins
    refine ⟨_, rfl, Po, dxP, _, rfl, eP, p_nox (by decide +kernel), Po, J, PD, hv, E, us, es, es.length, "", rfl, lf.pst, lf.jou, by omega, fun H4 W ws s4 nW hW hws => ?_⟩
    rw [etk] at hws
    have w80 := wait_len2 es (heardI hv) (by omega)
    have wl : ws.length = (waitL es (heardI hv) (lettered es)).length := hws.length
    refine ⟨W, ws, rfl, SqL.of hW, fun p np => ?_⟩
    have s5 := s4.trans (same_upd (o := .lst ws.reverse) np)
    have hp5 : upd H4 p (.lst ws.reverse) p = some (.lst ws.reverse) := upd_same
    have hws5 := pr_reverse (hws.tups (tupsOf (same_upd (o := .lst ws.reverse) np)))
    have lf4 := lf.mono s4
    have neT : ∀ r ∈ recvL, T' r ≠ p := fun r hr => ne_of_none (lf4.rcv.rat r hr).tak np
    have neY : ∀ r ∈ recvL, Y r ≠ p := fun r hr => ne_of_none (lf4.rcv.rat r hr).ear np
    have neD : PD ≠ p := ne_of_none lf4.pst.hea np
    have lf5 := lf.mono s5
    generalize upd H4 p (.lst ws.reverse) = H5 at hp5 hws5 s5 lf5
    clear lf lf4 hws hW nW np s4 s5 eP
    refine ⟨p, rfl, ⟨_, SqL.of hp5⟩, for_it (walk_list (K := K) (a := p) (xs := ws.reverse)) (fun i σ H => ∃ hv2 ru2 kv2, ∃ y11 y12 y13 : Option V, σ = [some (.ref a), some (.ref d), some (.ref dr), some (.ref J), some (.ref Po), some (.ref Rv), some (.ref U), some (.ref Hh), y8, y9, y10, y11, y12, y13, y14, y15, y16, none] ∧
      LF (ad 47999) (ad 19999) (ad 20999) H J E Po PD Rv R T' Y us es "" hv2 ru2 kv2 ∧ Rnd (ltrsOf es) hv hv2 ru2 kv2 ((waitL es (heardI hv) (lettered es)).reverse.take i) ∧ H p = some (.lst ws.reverse) ∧ WtAt H ws.reverse (waitL es (heardI hv) (lettered es)).reverse ∧ hv2.length ≤ 41 + i ∧ ∀ r ∈ recvL, (kv2 r).length ≤ 41 + i) ⟨hv, ru, kv, _, _, _, rfl, lf5, Rnd.start fun r hr => (okh r hr).2, hp5, hws5, sh, sk⟩
      (fun i σ H _ ⟨_, _, _, _, _, _, _, _, _, h, _⟩ => SqL.of h) ?_ ?_⟩
    · rintro i x σ H H' hi ⟨hv2, ru2, kv2, y11, y12, y13, rfl, lf, rn, hp, hw, shv, skv⟩ ⟨rfl, hx⟩
      have hi : i < ws.reverse.length := hi
      rw [List.length_reverse] at hi
      obtain ⟨⟨r, k, z⟩, hxl, t, b, rfl, ht, hb⟩ := pr_get hw hx
      have hm : (r, k, z) ∈ waitL es (heardI hv) (lettered es) := List.mem_reverse.mp (List.mem_of_getElem? hxl)
      obtain ⟨hr1, j, ej, _, hj⟩ := mem_wait hm
      have hr : r ∈ recvL := (List.mem_filter.mp hr1).1
      have ej : k = j + 1 := ej
      subst ej
      have hj : (ltrsOf es r)[j]? = some z := hj
      obtain ⟨dxP, eP⟩ := lf.pst.ins
      have rat := lf.rcv.rat r hr
      obtain ⟨dxR, eR⟩ := rat.ins
      rw [etk] at rat
      have gv : DGet H' Rv (.str r) (some (.ref (R r))) := by
        have z := DGet.k (k := (Sum.inr r : L2.Key)) lf.rcv.dict
        rw [rc_val hr] at z
        exact z
      have lL : (ltrsOf es r).length ≤ 40 := by
        have z := ltrs_len es r
        omega
      have kr := skv r hr
      refine ⟨t, _, rfl, SqT.of ht, rfl, _, _, rfl, _, _, rfl, _, _, rfl, rfl, ?_⟩
      refine ⟨_, rfl, Po, dxP, _, rfl, eP, p_nox (by decide +kernel), _, rfl, _, rfl, _, rfl, Rv, _, rfl, gv, R r, dxR, _, rfl, eR, r_nox (by decide +kernel), _, rfl, _, rfl, R r, T' r, Y r, ru2 r, kv2 r, ltrsOf es r, j, .ref b, z, rfl, rat, hj, ⟨b, rfl, hb⟩, by omega, lL, fun H6 us6 kv6 o6 t6 r6 hl6 hn6 hk6 hp6 => ?_⟩
      have lf6 := lf.get hr o6 t6 (by rw [etk]; exact r6)
      refine ⟨Po, J, PD, hv2, E, us, es, es.length, "", r, .int (us6.length : Nat), rfl, lf6.pst, lf6.jou, by omega, by omega, .inl ⟨us6.length, rfl, by rw [etk]; exact r6.le, fun H7 o7 t7 p7 => ?_⟩⟩
      have lf7 := lf6.hear o7 t7 p7
      refine ⟨_, _, _, _, _, _, rfl, lf7, ?_, ?_, (hw.tups t6).tups t7, ?_, fun q hq => ?_⟩
      · rw [List.take_add_one, hxl]
        exact rn.step hr hl6 hn6 hp6
      · exact o7 _ _ (by simp [neD.symm]) (o6 _ _ (by simp [(neT r hr).symm, (neY r hr).symm]) hp)
      · exact Nat.le_trans (putR_len _ _ _) (by omega)
      · show (if q = r then kv6 else kv2 q).length ≤ _
        by_cases c : q = r
        · rw [if_pos c]
          omega
        · rw [if_neg c]
          have := skv q hq
          omega
    · rintro σ H ⟨hv2, ru2, kv2, y11, y12, y13, rfl, lf, rn, hp, hw, shv, skv⟩
      have el : ws.reverse.length = (waitL es (heardI hv) (lettered es)).reverse.length := by rw [List.length_reverse, List.length_reverse, wl]
      rw [el, List.take_length] at rn
      have dn := rn.done (fun x hx => List.mem_reverse.mpr hx) (fun r hr => (okh r hr).1) (fun r hr => by have z := (lf.rcv.rat r hr).le; rw [etk] at z; exact z)
      rw [List.length_reverse, wl] at shv
      clear rn hp hw el skv hp5 hws5 lf5 neT neY neD wl okh sk sh
      have wn : waitL es (heardI hv2) (lettered es) = [] := wait_none fun r hr => (dn r hr).2
      obtain ⟨dxP, eP⟩ := lf.pst.ins
      refine ⟨_, rfl, Po, dxP, _, rfl, eP, p_nox (by decide +kernel), Po, J, PD, hv2, E, us, es, es.length, "", rfl, lf.pst, lf.jou, by omega, fun H6 W6 ws6 s6 nW6 hW6 hws6 => ⟨Nat.zero_le _, fun b6 nb6 => ?_⟩⟩
      rw [etk, wn] at hws6
      have e6 : ws6 = [] := List.eq_nil_of_length_eq_zero hws6.length
      subst e6
      have s7 := s6.trans (same_upd (o := .lst []) nb6)
      refine ⟨.list [], .list [], .lst (SqL.of (same_upd nb6 _ _ hW6)) .nil, .lst (SqL.of upd_same) .nil, rfl, rfl, _, rfl, ?_⟩
      have ee : PyData.eqv (.list []) (.list []) = true := rfl
      rw [ee]
      refine iteF ?_
      have lf7 := lf.mono s7
      generalize upd H6 b6 (.lst []) = H7 at s7 lf7
      clear hW6 hws6 nW6 nb6 s6 eP
      obtain ⟨dxP, eP⟩ := lf7.pst.ins
      refine ⟨_, rfl, Po, dxP, _, rfl, eP, p_nox (by decide +kernel), Po, J, PD, hv2, E, us, es, es.length, "", rfl, lf7.pst, lf7.jou, by omega, fun H8 W8 ws8 s8 nW8 hW8 hws8 => ⟨Nat.zero_le _, fun b8 nb8 => ?_⟩⟩
      rw [etk, wn] at hws8
      have e8 : ws8 = [] := List.eq_nil_of_length_eq_zero hws8.length
      subst e8
      have s9 := s8.trans (same_upd (o := .lst []) nb8)
      refine ⟨.list [], .list [], .lst (SqL.of (same_upd nb8 _ _ hW8)) .nil, .lst (SqL.of upd_same) .nil, rfl, rfl, _, rfl, ?_⟩
      rw [ee]
      refine iteF ?_
      have lf9 := lf7.mono s9
      generalize upd H8 b8 (.lst []) = H9 at s9 lf9
      clear hW8 hws8 nW8 nb8 s8 eP lf7 s7 lf
      -- the rows that are taken, and those that are due
      refine ⟨(by show 2 ≤ sizeLine; decide), fun q1 nq1 => ?_⟩
      have s10 := same_upd (o := .tup [V.str "bob", .str "cora"]) nq1
      have hq1 : upd H9 q1 (.tup [V.str "bob", .str "cora"]) q1 = some (.tup [V.str "bob", .str "cora"]) := upd_same
      have lf10 := lf9.mono s10
      generalize upd H9 q1 (.tup [V.str "bob", .str "cora"]) = H10 at s10 hq1 lf10
      have rget : ∀ {i : Nat} {x : V}, [V.str "bob", V.str "cora"][i]? = some x → ∃ r, recvL[i]? = some r ∧ x = .str r := fun {i x} h => by
        have h : (recvL.map V.str)[i]? = some x := h
        rw [List.getElem?_map] at h
        cases e : recvL[i]? with
        | none =>
          rw [e] at h
          cases h
        | some r =>
          rw [e] at h
          exact ⟨r, rfl, (Option.some.inj h).symm⟩
      refine ⟨q1, rfl, ⟨_, SqT.of hq1⟩, fun D1 nD1 => ?_⟩
      refine lc_it (walk_tup (K := K) (a := q1) (xs := [V.str "bob", .str "cora"])) (fun i H => Same H10 H ∧ ∃ vs, H D1 = some (.lst vs) ∧ RowsN H es vs (recvL.take i)) ⟨same_upd nD1, [], upd_same, .nil⟩ (fun i H _ h => SqT.of (h.1 _ _ hq1)) ?_ ?_
      · rintro i x H H' hi ⟨sH, vs, hD1, hvs⟩ ⟨rfl, hx⟩
        obtain ⟨r, hr, rfl⟩ := rget hx
        have hr' : r ∈ recvL := List.mem_of_getElem? hr
        have lfH := lf10.mono sH
        have rat := lfH.rcv.rat r hr'
        obtain ⟨dxR, eR⟩ := rat.ins
        have gv : DGet H' Rv (.str r) (some (.ref (R r))) := by
          have z := DGet.k (k := (Sum.inr r : L2.Key)) lfH.rcv.dict
          rw [rc_val hr'] at z
          exact z
        have il : i < recvL.length := (List.getElem?_eq_some_iff.mp hr).1
        have i2 : i < 2 := il
        have vl : vs.length = (recvL.take i).length := hvs.length
        rw [List.length_take] at vl
        refine ⟨rfl, _, rfl, _, rfl, Rv, _, rfl, gv, R r, _, dxR, _, _, rfl, eR, T.cl_Receiver, T.na_Receiver_taken, r_tak, T' r, _, rfl, .inl ⟨SqL.of rat.tak, fun l nl => ?_⟩⟩
        have sl := same_upd (o := .tup (ru2 r)) nl
        have nms := rat.nms
        rw [etk, (dn r hr').1, List.take_length] at nms
        refine ⟨vs, sl _ _ hD1, ofNat_lt (by omega), same_at (sH.trans sl) nD1, vs ++ [.ref l], upd_same, ?_⟩
        have tl' := tups_lst (ys := vs ++ [.ref l]) (sl _ _ hD1)
        rw [List.take_add_one, hr]
        exact Paired.snoc ((RowsN.tups (tupsOf sl) hvs).tups tl') ⟨l, ru2 r, rfl, tl' _ _ upd_same, (nms.tups (tupsOf sl)).tups tl'⟩
      · rintro H11 ⟨s11, vs1, hD1, hvs1⟩
        have hvs1 : RowsN H11 es vs1 recvL := hvs1
        have lf11 := lf10.mono s11
        refine ⟨(by show 2 ≤ sizeLine; decide), fun q2 nq2 => ?_⟩
        have s12 := same_upd (o := .tup [V.str "bob", .str "cora"]) nq2
        have hq2 : upd H11 q2 (.tup [V.str "bob", .str "cora"]) q2 = some (.tup [V.str "bob", .str "cora"]) := upd_same
        have lf12 := lf11.mono s12
        have hD12 := s12 _ _ hD1
        have hvs12 := RowsN.tups (tupsOf s12) hvs1
        generalize upd H11 q2 (.tup [V.str "bob", .str "cora"]) = H12 at s12 hq2 lf12 hD12 hvs12
        refine ⟨q2, rfl, ⟨_, SqT.of hq2⟩, fun D2 nD2 => ?_⟩
        refine lc_it (walk_tup (K := K) (a := q2) (xs := [V.str "bob", .str "cora"])) (fun i H => Same H12 H ∧ ∃ vs, H D2 = some (.lst vs) ∧ RowsN H es vs (recvL.take i)) ⟨same_upd nD2, [], upd_same, .nil⟩ (fun i H _ h => SqT.of (h.1 _ _ hq2)) ?_ ?_
        · rintro i x H H' hi ⟨sH, vs, hD2, hvs⟩ ⟨rfl, hx⟩
          obtain ⟨r, hr, rfl⟩ := rget hx
          have hr' : r ∈ recvL := List.mem_of_getElem? hr
          have lfH := lf12.mono sH
          obtain ⟨dxJ, drJ, text, eJ, _⟩ := lfH.jou.ins
          have il : i < recvL.length := (List.getElem?_eq_some_iff.mp hr).1
          have i2 : i < 2 := il
          have vl : vs.length = (recvL.take i).length := hvs.length
          rw [List.length_take] at vl
          refine ⟨rfl, _, rfl, J, dxJ, _, rfl, eJ, j_no, J, E, us, es, es.length, "", rfl, lfH.jou, by omega, fun H13 G kvs s13 nG hG hL => ?_⟩
          rw [etk] at hL
          refine ⟨G, rfl, .inl ⟨_, .inl hG⟩, _, rfl, Nat.zero_le _, fun d0 nd0 => ⟨_, DGet.k (k := Sum.inr r) (same_upd nd0 _ _ hG), ?_⟩⟩
          have s14 := s13.trans (same_upd (o := .tup []) nd0)
          obtain ⟨t, us2, e1, ht, hus⟩ := (hL.tups (tupsOf (same_upd (o := .tup []) nd0))).row gd upd_same r
          rw [e1]
          refine ⟨vs, s14 _ _ hD2, ofNat_lt (by omega), same_at (sH.trans s14) nD2, vs ++ [.ref t], upd_same, ?_⟩
          have tl' := tups_lst (ys := vs ++ [.ref t]) (s14 _ _ hD2)
          rw [List.take_add_one, hr]
          exact Paired.snoc ((RowsN.tups (tupsOf s14) hvs).tups tl') ⟨t, us2, rfl, tl' _ _ ht, hus.tups tl'⟩
        · rintro H15 ⟨s15, vs2, hD2, hvs2⟩
          have hvs2 : RowsN H15 es vs2 recvL := hvs2
          refine ⟨_, _, .lst (SqL.of (s15 _ _ hD12)) (rows_dp (RowsN.tups (tupsOf s15) hvs12)), .lst (SqL.of hD2) (rows_dp hvs2), rows_shaped gd _, rows_shaped gd _, _, rfl, ?_⟩
          rw [rows_eqv gd]
          refine iteF ?_
          have lf15 := lf12.mono s15
          clear hD2 hvs2 hvs12 hD12 s15 nD2 s12 hq2 nq2 lf12 lf11 s11 hD1 hvs1 nD1 s10 hq1 nq1 lf10 lf9 s9
          obtain ⟨dxP, eP⟩ := lf15.pst.ins
          refine ⟨1, rfl, (by show 2 ≤ sizeLine; decide), fun t1 n1 => ⟨(by show 2 ≤ sizeLine; decide), fun t2 n2 => ⟨(by show 2 ≤ sizeLine; decide), fun t3 n3 => ⟨(by show 2 ≤ sizeLine; decide), fun t4 n4 => ⟨(by show 4 ≤ sizeLine; exact ofNat_le (by omega)), fun t5 n5 => ?_⟩⟩⟩⟩⟩
          have hb : ∃ HB, Same H15 HB ∧ HB t5 = some (.tup [V.ref t1, .ref t2, .ref t3, .ref t4]) ∧ Paired (fun v (p : Str × V) => ∃ t, v = .ref t ∧ HB t = some (.tup [.str p.1, p.2])) [V.ref t1, .ref t2, .ref t3, .ref t4] badL ∧
              upd (upd (upd (upd (upd H15 t1 (.tup [.str "bob", .int (-1)])) t2 (.tup [.str "bob", .int 999])) t3 (.tup [.str "zed", .int 1])) t4 (.tup [.str "bob", .bl true])) t5 (.tup [V.ref t1, .ref t2, .ref t3, .ref t4]) = HB :=
            ⟨_, (same_upd n1).trans ((same_upd n2).trans ((same_upd n3).trans ((same_upd n4).trans (same_upd n5)))), upd_same,
              .cons ⟨t1, rfl, same_upd n5 _ _ (same_upd n4 _ _ (same_upd n3 _ _ (same_upd n2 _ _ upd_same)))⟩ (.cons ⟨t2, rfl, same_upd n5 _ _ (same_upd n4 _ _ (same_upd n3 _ _ upd_same))⟩ (.cons ⟨t3, rfl, same_upd n5 _ _ (same_upd n4 _ _ upd_same)⟩ (.cons ⟨t4, rfl, same_upd n5 _ _ upd_same⟩ .nil))), rfl⟩
          obtain ⟨HB, sB, h5, hbad, eB⟩ := hb
          refine ⟨t5, rfl, ⟨_, SqT.of upd_same⟩, ?_⟩
          rw [show (upd (upd (upd (upd (upd H15 t1 (.tup [.str "bob", .int (-1)])) t2 (.tup [.str "bob", .int 999])) t3 (.tup [.str "zed", .int 1])) t4 (.tup [.str "bob", .bl true])) t5 (.tup [V.ref t1, .ref t2, .ref t3, .ref t4])) = HB from eB]
          have lfB := lf15.mono sB
          clear eB sB n1 n2 n3 n4 n5 lf15
          refine for_itB (walk_tup (K := K) (a := t5) (xs := [V.ref t1, .ref t2, .ref t3, .ref t4])) (fun i σ H => ∃ y12 y15 : Option V, σ = [some (.ref a), some (.ref d), some (.ref dr), some (.ref J), some (.ref Po), some (.ref Rv), some (.ref U), some (.ref Hh), y8, y9, y10, y11, y12, y13, y14, y15, y16, none] ∧ Same HB H) ⟨_, _, rfl, Same.refl _⟩ (fun i σ H _ ⟨_, _, _, s⟩ => SqT.of (s _ _ h5)) ?_ ?_
          · rintro i x σ H H' hi ⟨y12, y15, rfl, sH⟩ ⟨rfl, hx⟩
            obtain ⟨p, hp, t, rfl, ht⟩ := pr_get hbad hx
            have hpm := List.mem_of_getElem? hp
            have ht := sH _ _ ht
            have lfH := lfB.mono sH
            obtain ⟨dxP, eP⟩ := lfH.pst.ins
            refine ⟨t, _, rfl, SqT.of ht, rfl, _, _, rfl, _, _, rfl, rfl, ?_⟩
            refine ⟨_, rfl, Po, dxP, _, rfl, eP, p_nox (by decide +kernel), _, rfl, _, rfl, Po, J, PD, hv2, E, us, es, es.length, "", p.1, p.2, rfl, lfH.pst, lfH.jou, by omega, by omega, .inr ⟨by rw [etk]; exact bad_no gd (by omega) p hpm, fun H16 d16 t16 s16 nd hd16 ht16 => ?_⟩⟩
            refine ⟨true, T.x_BadEntry.exm, fun _ a' na' => ?_, fun z => nomatch z⟩
            refine ⟨_, rfl, rfl, rfl, d16, _, rfl, hd16, _, rfl, _, rfl, (by show 2 ≤ sizeLine; decide), fun u nu => ?_⟩
            have s17 := same_upd (o := .tup [.str p.1, p.2]) nu
            obtain ⟨b1, b2⟩ := bad_eqv p hpm
            refine ⟨.tuple [.str p.1, vD p.2], .tuple [.str p.1, vD p.2], .tup (SqT.of (s17 _ _ ht16)) (.cons (.str _) (.cons (bad_dp p hpm) .nil)), .tup (SqT.of upd_same) (.cons (.str _) (.cons (bad_dp p hpm) .nil)), b1, b1, _, rfl, ?_⟩
            rw [b2]
            exact iteF ⟨_, _, rfl, (sH.trans s16).trans s17⟩
          · rintro σ H ⟨y12, y15, rfl, sH⟩
            exact q H
end
end Yj
set_option Elab.async false
set_option linter.all false
set_option maxRecDepth 100000
set_option maxHeartbeats 4000000
set_option pp.maxSteps 1500
namespace Yj
open PySem PySem.Spec PyProof.Rows L2
theorem no_exc {P : Program} {w : World} {outer : List Env} {H : Hp} {s s' : Shared} {e : Value} (h : L2N.CX P w outer H s (fun _ _ _ => False) e s') : False := by
  obtain ⟨_, _, _, _, _, _, _, _, _, _, _, _, z⟩ := h
  exact z
theorem dict_of {K : PySem.W.Frag} {C : Addr} (h : PySem.W.hasDictIn K C = true) : ∃ cd, PySem.W.clsIn K C = some cd ∧ cd.hasDict = true := by
  unfold PySem.W.hasDictIn at h
  cases e : PySem.W.clsIn K C with
  | none =>
    rw [e] at h
    cases h
  | some cd =>
    rw [e] at h
    exact ⟨cd, rfl, h⟩
/-- an error of the class at S is what «except S» names -/
theorem exm_own {K : PySem.W.Frag} {S : Addr} (h1 : PySem.W.subIn K (.ref S) (.type "BaseException") = some true) (h2 : PySem.W.isClsIn K S = true) (h3 : PySem.W.typeIn K (.ref S) = some (.type "type")) (h4 : PySem.W.subIn K (.ref S) (.ref S) = some true) : PySem.W.exmOne K (.ref S) (.ref S) = some true := by
  have e1 : (PySem.W.subIn K (.ref S) (.type "BaseException") == some true) = true := by rw [h1]; rfl
  have h2' : (PySem.W.clsIn K S).isSome = true := h2
  have e2 : ((PySem.W.clsIn K S).isSome && PySem.W.typeIn K (.ref S) == some (.type "type")) = true := by rw [h2', h3]; rfl
  unfold PySem.W.exmOne
  rw [if_pos e1]
  unfold PySem.W.kitCls
  dsimp only
  rw [if_pos e2]
  exact h4
theorem kit_self {K : PySem.W.Frag} {C : Addr} : PySem.W.kitOne K (.ref C) (.ref C) = some true := by
  unfold PySem.W.kitOne
  rw [if_pos (by simp)]
theorem kit_not {K : PySem.W.Frag} {C : Addr} (h2 : PySem.W.isClsIn K C = true) (h3 : PySem.W.typeIn K (.ref C) = some (.type "type")) (h4 : PySem.W.subIn K (.type "dict") (.ref C) = some false) : PySem.W.kitOne K (.type "dict") (.ref C) = some false := by
  have h2' : (PySem.W.clsIn K C).isSome = true := h2
  have e2 : ((PySem.W.clsIn K C).isSome && PySem.W.typeIn K (.ref C) == some (.type "type")) = true := by rw [h2', h3]; rfl
  unfold PySem.W.kitOne
  rw [if_neg (by simp)]
  unfold PySem.W.kitCls
  dsimp only
  rw [if_pos e2]
  exact h4
set_option maxHeartbeats 16000000 in
theorem all_mk {l : PySem.W.OpenLaw} {w : World} {K : PySem.W.Frag} {h : Heap} {mg : Str → Option Value} {fa : Addr} (X : K.In h) (G : h.Ns mainGlobals mg) (hfa : mg "law" = some (.ref fa))
    {f12 f13 f16 f28 f29 f30 f37 f38 f39 f40 f41 f44 f45 f48 f49 f50 f51 f58 f59 f19999 f19000 f19001 f19002 f20999 f20000 f20001 f47999 f47000 f47001 f47002 f47003 f47005 f5999 f5000 : Addr} {od12 an12 od13 an13 od16 an16 od28 an28 od29 an29 od30 an30 od37 an37 od38 an38 od39 an39 od40 an40 od41 an41 od44 an44 od45 an45 od48 an48 od49 an49 od50 an50 od51 an51 od58 an58 od59 an59 od19000 an19000 od19001 an19001 od19002 an19002 od20000 an20000 od20001 an20001 od47000 an47000 od47001 an47001 od47002 an47002 od47003 an47003 od47005 an47005 od5000 an5000 : Option Addr} {sl12 sl13 sl16 sl28 sl29 sl30 sl37 sl38 sl39 sl40 sl41 sl44 sl45 sl48 sl49 sl50 sl51 sl58 sl59 sl19000 sl19001 sl19002 sl20000 sl20001 sl47000 sl47001 sl47002 sl47003 sl47005 sl5000 : Array (Option Value)} {oc12 kV12 dc12 pm12 cd12 ct12 oc13 kV13 dc13 pm13 cd13 ct13 oc16 kV16 dc16 pm16 cd16 ct16 oc28 kV28 dc28 pm28 cd28 ct28 oc29 kV29 dc29 pm29 cd29 ct29 oc30 kV30 dc30 pm30 cd30 ct30 oc37 kV37 dc37 pm37 cd37 ct37 oc38 kV38 dc38 pm38 cd38 ct38 oc39 kV39 dc39 pm39 cd39 ct39 oc40 kV40 dc40 pm40 cd40 ct40 oc41 kV41 dc41 pm41 cd41 ct41 oc44 kV44 dc44 pm44 cd44 ct44 oc45 kV45 dc45 pm45 cd45 ct45 oc48 kV48 dc48 pm48 cd48 ct48 oc49 kV49 dc49 pm49 cd49 ct49 oc50 kV50 dc50 pm50 cd50 ct50 oc51 kV51 dc51 pm51 cd51 ct51 oc58 kV58 dc58 pm58 cd58 ct58 oc59 kV59 dc59 pm59 cd59 ct59 oc19000 kV19000 dc19000 pm19000 cd19000 ct19000 oc19001 kV19001 dc19001 pm19001 cd19001 ct19001 oc19002 kV19002 dc19002 pm19002 cd19002 ct19002 oc20000 kV20000 dc20000 pm20000 cd20000 ct20000 oc20001 kV20001 dc20001 pm20001 cd20001 ct20001 oc47000 kV47000 dc47000 pm47000 cd47000 ct47000 oc47001 kV47001 dc47001 pm47001 cd47001 ct47001 oc47002 kV47002 dc47002 pm47002 cd47002 ct47002 oc47003 kV47003 dc47003 pm47003 cd47003 ct47003 oc47005 kV47005 dc47005 pm47005 cd47005 ct47005 oc5000 kV5000 dc5000 pm5000 cd5000 ct5000 : Value} {tk7 tk8 tk9 tk11 tk27 tk34 tk35 tk36 tk42 : Tok}
    (a12 : PySem.W.nsIn K mainGlobals "is_integer" = some (some (.ref f12)))
    (l12 : K.lookup f12 = some ⟨oc12, od12, .func (PySem.W.fnOf "is_integer" "is_integer" (defArgs s_is_integer) (defBody s_is_integer) (defScope s_is_integer) .none kV12 dc12 pm12 an12 cd12 ct12), sl12⟩)
    (c12 : PySem.W.codeIn K cd12 "is_integer" = true)
    (k12 : PySem.W.keepIn K (.ref f12) = true)
    (a13 : PySem.W.nsIn K mainGlobals "is_name" = some (some (.ref f13)))
    (l13 : K.lookup f13 = some ⟨oc13, od13, .func (PySem.W.fnOf "is_name" "is_name" (defArgs s_is_name) (defBody s_is_name) (defScope s_is_name) .none kV13 dc13 pm13 an13 cd13 ct13), sl13⟩)
    (c13 : PySem.W.codeIn K cd13 "is_name" = true)
    (k13 : PySem.W.keepIn K (.ref f13) = true)
    (a16 : PySem.W.nsIn K mainGlobals "checked_relations" = some (some (.ref f16)))
    (l16 : K.lookup f16 = some ⟨oc16, od16, .func (PySem.W.fnOf "checked_relations" "checked_relations" (defArgs s_checked_relations) (defBody s_checked_relations) (defScope s_checked_relations) .none kV16 dc16 pm16 an16 cd16 ct16), sl16⟩)
    (c16 : PySem.W.codeIn K cd16 "checked_relations" = true)
    (k16 : PySem.W.keepIn K (.ref f16) = true)
    (a28 : PySem.W.nsIn K mainGlobals "number_by" = some (some (.ref f28)))
    (l28 : K.lookup f28 = some ⟨oc28, od28, .func (PySem.W.fnOf "number_by" "number_by" (defArgs s_number_by) (defBody s_number_by) (defScope s_number_by) .none kV28 dc28 pm28 an28 cd28 ct28), sl28⟩)
    (c28 : PySem.W.codeIn K cd28 "number_by" = true)
    (k28 : PySem.W.keepIn K (.ref f28) = true)
    (a29 : PySem.W.nsIn K mainGlobals "names_word" = some (some (.ref f29)))
    (l29 : K.lookup f29 = some ⟨oc29, od29, .func (PySem.W.fnOf "names_word" "names_word" (defArgs s_names_word) (defBody s_names_word) (defScope s_names_word) .none kV29 dc29 pm29 an29 cd29 ct29), sl29⟩)
    (c29 : PySem.W.codeIn K cd29 "names_word" = true)
    (k29 : PySem.W.keepIn K (.ref f29) = true)
    (a30 : PySem.W.nsIn K mainGlobals "names_by" = some (some (.ref f30)))
    (l30 : K.lookup f30 = some ⟨oc30, od30, .func (PySem.W.fnOf "names_by" "names_by" (defArgs s_names_by) (defBody s_names_by) (defScope s_names_by) .none kV30 dc30 pm30 an30 cd30 ct30), sl30⟩)
    (c30 : PySem.W.codeIn K cd30 "names_by" = true)
    (k30 : PySem.W.keepIn K (.ref f30) = true)
    (a37 : PySem.W.nsIn K mainGlobals "is_entry" = some (some (.ref f37)))
    (l37 : K.lookup f37 = some ⟨oc37, od37, .func (PySem.W.fnOf "is_entry" "is_entry" (defArgs s_is_entry) (defBody s_is_entry) (defScope s_is_entry) .none kV37 dc37 pm37 an37 cd37 ct37), sl37⟩)
    (c37 : PySem.W.codeIn K cd37 "is_entry" = true)
    (k37 : PySem.W.keepIn K (.ref f37) = true)
    (a38 : PySem.W.nsIn K mainGlobals "_are_letter_names" = some (some (.ref f38)))
    (l38 : K.lookup f38 = some ⟨oc38, od38, .func (PySem.W.fnOf "_are_letter_names" "_are_letter_names" (defArgs s__are_letter_names) (defBody s__are_letter_names) (defScope s__are_letter_names) .none kV38 dc38 pm38 an38 cd38 ct38), sl38⟩)
    (c38 : PySem.W.codeIn K cd38 "_are_letter_names" = true)
    (k38 : PySem.W.keepIn K (.ref f38) = true)
    (a39 : PySem.W.nsIn K mainGlobals "entry_line" = some (some (.ref f39)))
    (l39 : K.lookup f39 = some ⟨oc39, od39, .func (PySem.W.fnOf "entry_line" "entry_line" (defArgs s_entry_line) (defBody s_entry_line) (defScope s_entry_line) .none kV39 dc39 pm39 an39 cd39 ct39), sl39⟩)
    (c39 : PySem.W.codeIn K cd39 "entry_line" = true)
    (k39 : PySem.W.keepIn K (.ref f39) = true)
    (a40 : PySem.W.nsIn K mainGlobals "entry_by" = some (some (.ref f40)))
    (l40 : K.lookup f40 = some ⟨oc40, od40, .func (PySem.W.fnOf "entry_by" "entry_by" (defArgs s_entry_by) (defBody s_entry_by) (defScope s_entry_by) .none kV40 dc40 pm40 an40 cd40 ct40), sl40⟩)
    (c40 : PySem.W.codeIn K cd40 "entry_by" = true)
    (k40 : PySem.W.keepIn K (.ref f40) = true)
    (a41 : PySem.W.nsIn K mainGlobals "_entry_of" = some (some (.ref f41)))
    (l41 : K.lookup f41 = some ⟨oc41, od41, .func (PySem.W.fnOf "_entry_of" "_entry_of" (defArgs s__entry_of) (defBody s__entry_of) (defScope s__entry_of) .none kV41 dc41 pm41 an41 cd41 ct41), sl41⟩)
    (c41 : PySem.W.codeIn K cd41 "_entry_of" = true)
    (k41 : PySem.W.keepIn K (.ref f41) = true)
    (a44 : PySem.W.nsIn K mainGlobals "_read" = some (some (.ref f44)))
    (l44 : K.lookup f44 = some ⟨oc44, od44, .func (PySem.W.fnOf "_read" "_read" (defArgs s__read) (defBody s__read) (defScope s__read) .none kV44 dc44 pm44 an44 cd44 ct44), sl44⟩)
    (c44 : PySem.W.codeIn K cd44 "_read" = true)
    (k44 : PySem.W.keepIn K (.ref f44) = true)
    (a45 : PySem.W.nsIn K mainGlobals "_line" = some (some (.ref f45)))
    (l45 : K.lookup f45 = some ⟨oc45, od45, .func (PySem.W.fnOf "_line" "_line" (defArgs s__line) (defBody s__line) (defScope s__line) .none kV45 dc45 pm45 an45 cd45 ct45), sl45⟩)
    (c45 : PySem.W.codeIn K cd45 "_line" = true)
    (k45 : PySem.W.keepIn K (.ref f45) = true)
    (a48 : PySem.W.nsIn K mainGlobals "_law_number" = some (some (.ref f48)))
    (l48 : K.lookup f48 = some ⟨oc48, od48, .func (PySem.W.fnOf "_law_number" "_law_number" (defArgs s__law_number) (defBody s__law_number) (defScope s__law_number) .none kV48 dc48 pm48 an48 cd48 ct48), sl48⟩)
    (c48 : PySem.W.codeIn K cd48 "_law_number" = true)
    (k48 : PySem.W.keepIn K (.ref f48) = true)
    (a49 : PySem.W.nsIn K mainGlobals "_law_take" = some (some (.ref f49)))
    (l49 : K.lookup f49 = some ⟨oc49, od49, .func (PySem.W.fnOf "_law_take" "_law_take" (defArgs s__law_take) (defBody s__law_take) (defScope s__law_take) .none kV49 dc49 pm49 an49 cd49 ct49), sl49⟩)
    (c49 : PySem.W.codeIn K cd49 "_law_take" = true)
    (k49 : PySem.W.keepIn K (.ref f49) = true)
    (a50 : PySem.W.nsIn K mainGlobals "_law_pick" = some (some (.ref f50)))
    (l50 : K.lookup f50 = some ⟨oc50, od50, .func (PySem.W.fnOf "_law_pick" "_law_pick" (defArgs s__law_pick) (defBody s__law_pick) (defScope s__law_pick) .none kV50 dc50 pm50 an50 cd50 ct50), sl50⟩)
    (c50 : PySem.W.codeIn K cd50 "_law_pick" = true)
    (k50 : PySem.W.keepIn K (.ref f50) = true)
    (a51 : PySem.W.nsIn K mainGlobals "_law_relations" = some (some (.ref f51)))
    (l51 : K.lookup f51 = some ⟨oc51, od51, .func (PySem.W.fnOf "_law_relations" "_law_relations" (defArgs s__law_relations) (defBody s__law_relations) (defScope s__law_relations) .none kV51 dc51 pm51 an51 cd51 ct51), sl51⟩)
    (c51 : PySem.W.codeIn K cd51 "_law_relations" = true)
    (k51 : PySem.W.keepIn K (.ref f51) = true)
    (a58 : PySem.W.nsIn K mainGlobals "_law_right" = some (some (.ref f58)))
    (l58 : K.lookup f58 = some ⟨oc58, od58, .func (PySem.W.fnOf "_law_right" "_law_right" (defArgs s__law_right) (defBody s__law_right) (defScope s__law_right) .none kV58 dc58 pm58 an58 cd58 ct58), sl58⟩)
    (c58 : PySem.W.codeIn K cd58 "_law_right" = true)
    (k58 : PySem.W.keepIn K (.ref f58) = true)
    (a59 : PySem.W.nsIn K mainGlobals "law" = some (some (.ref f59)))
    (l59 : K.lookup f59 = some ⟨oc59, od59, .func (PySem.W.fnOf "law" "law" (defArgs s_law) (defBody s_law) (defScope s_law) .none kV59 dc59 pm59 an59 cd59 ct59), sl59⟩)
    (c59 : PySem.W.codeIn K cd59 "law" = true)
    (k59 : PySem.W.keepIn K (.ref f59) = true)
    (C19999 : PySem.W.nsIn K mainGlobals "Post" = some (some (.ref f19999)))
    (Cpg19999 : PySem.W.plainGet K f19999 Str.empty = true)
    (Chd19999 : PySem.W.hasDictIn K f19999 = true)
    (Cpo19999 : PySem.W.plainOver K f19999 = true)
    (Csa19999 : PySem.W.findIn K (.ref f19999) "__setattr__" = some (some (.builtin "object.__setattr__")))
    (Cmk19999 : PySem.W.makesIn K f19999 = true)
    (Ckp19999 : PySem.W.keepIn K (.ref f19999) = true)
    (m19000 : PySem.W.findIn K (.ref f19999) "__init__" = some (some (.ref f19000)))
    (n19000 : PySem.W.isFn K (.ref f19000) = true)
    (l19000 : K.lookup f19000 = some ⟨oc19000, od19000, .func (PySem.W.fnOf "__init__" "Post.__init__" (defArgs s_Post___init__) (defBody s_Post___init__) (defScope s_Post___init__) .none kV19000 dc19000 pm19000 an19000 cd19000 ct19000), sl19000⟩)
    (c19000 : PySem.W.codeIn K cd19000 "Post.__init__" = true)
    (k19000 : PySem.W.keepIn K (.ref f19000) = true)
    (m19001 : PySem.W.findIn K (.ref f19999) "waiting" = some (some (.ref f19001)))
    (n19001 : PySem.W.isFn K (.ref f19001) = true)
    (l19001 : K.lookup f19001 = some ⟨oc19001, od19001, .func (PySem.W.fnOf "waiting" "Post.waiting" (defArgs s_Post_waiting) (defBody s_Post_waiting) (defScope s_Post_waiting) .none kV19001 dc19001 pm19001 an19001 cd19001 ct19001), sl19001⟩)
    (c19001 : PySem.W.codeIn K cd19001 "Post.waiting" = true)
    (k19001 : PySem.W.keepIn K (.ref f19001) = true)
    (m19002 : PySem.W.findIn K (.ref f19999) "hear" = some (some (.ref f19002)))
    (n19002 : PySem.W.isFn K (.ref f19002) = true)
    (l19002 : K.lookup f19002 = some ⟨oc19002, od19002, .func (PySem.W.fnOf "hear" "Post.hear" (defArgs s_Post_hear) (defBody s_Post_hear) (defScope s_Post_hear) .none kV19002 dc19002 pm19002 an19002 cd19002 ct19002), sl19002⟩)
    (c19002 : PySem.W.codeIn K cd19002 "Post.hear" = true)
    (k19002 : PySem.W.keepIn K (.ref f19002) = true)
    (na19999_journal : PySem.W.findIn K (.ref f19999) "journal" = some none)
    (na19999_heard : PySem.W.findIn K (.ref f19999) "heard" = some none)
    (Ica19999 : PySem.W.findIn K (.ref f19999) "__class__" = some (some (.builtin "object.__class__")))
    (Icn19999 : PySem.W.specialIn K (.builtin "object.__class__") "__get__" = some (some (.builtin "getset_descriptor.__get__")))
    (Ict19999 : PySem.W.takesIn K (.builtin "object.__class__") = some true)
    (Icm19999 : PySem.W.mroIn K f19999 (.type "object") = some true)
    (Iic19999 : PySem.W.isClsIn K f19999 = true)
    (Itc19999 : PySem.W.typeIn K (.ref f19999) = some (.type "type"))
    (Isd19999 : PySem.W.subIn K (.type "dict") (.ref f19999) = some false)
    (C20999 : PySem.W.nsIn K mainGlobals "Receiver" = some (some (.ref f20999)))
    (Cpg20999 : PySem.W.plainGet K f20999 Str.empty = true)
    (Chd20999 : PySem.W.hasDictIn K f20999 = true)
    (Cpo20999 : PySem.W.plainOver K f20999 = true)
    (Csa20999 : PySem.W.findIn K (.ref f20999) "__setattr__" = some (some (.builtin "object.__setattr__")))
    (Cmk20999 : PySem.W.makesIn K f20999 = true)
    (Ckp20999 : PySem.W.keepIn K (.ref f20999) = true)
    (m20000 : PySem.W.findIn K (.ref f20999) "__init__" = some (some (.ref f20000)))
    (n20000 : PySem.W.isFn K (.ref f20000) = true)
    (l20000 : K.lookup f20000 = some ⟨oc20000, od20000, .func (PySem.W.fnOf "__init__" "Receiver.__init__" (defArgs s_Receiver___init__) (defBody s_Receiver___init__) (defScope s_Receiver___init__) .none kV20000 dc20000 pm20000 an20000 cd20000 ct20000), sl20000⟩)
    (c20000 : PySem.W.codeIn K cd20000 "Receiver.__init__" = true)
    (k20000 : PySem.W.keepIn K (.ref f20000) = true)
    (m20001 : PySem.W.findIn K (.ref f20999) "get" = some (some (.ref f20001)))
    (n20001 : PySem.W.isFn K (.ref f20001) = true)
    (l20001 : K.lookup f20001 = some ⟨oc20001, od20001, .func (PySem.W.fnOf "get" "Receiver.get" (defArgs s_Receiver_get) (defBody s_Receiver_get) (defScope s_Receiver_get) .none kV20001 dc20001 pm20001 an20001 cd20001 ct20001), sl20001⟩)
    (c20001 : PySem.W.codeIn K cd20001 "Receiver.get" = true)
    (k20001 : PySem.W.keepIn K (.ref f20001) = true)
    (na20999_taken : PySem.W.findIn K (.ref f20999) "taken" = some none)
    (na20999_early : PySem.W.findIn K (.ref f20999) "early" = some none)
    (Ica20999 : PySem.W.findIn K (.ref f20999) "__class__" = some (some (.builtin "object.__class__")))
    (Icn20999 : PySem.W.specialIn K (.builtin "object.__class__") "__get__" = some (some (.builtin "getset_descriptor.__get__")))
    (Ict20999 : PySem.W.takesIn K (.builtin "object.__class__") = some true)
    (Icm20999 : PySem.W.mroIn K f20999 (.type "object") = some true)
    (Iic20999 : PySem.W.isClsIn K f20999 = true)
    (Itc20999 : PySem.W.typeIn K (.ref f20999) = some (.type "type"))
    (Isd20999 : PySem.W.subIn K (.type "dict") (.ref f20999) = some false)
    (C47999 : PySem.W.nsIn K mainGlobals "Journal" = some (some (.ref f47999)))
    (Cpg47999 : PySem.W.plainGet K f47999 Str.empty = true)
    (Chd47999 : PySem.W.hasDictIn K f47999 = true)
    (Cpo47999 : PySem.W.plainOver K f47999 = true)
    (Csa47999 : PySem.W.findIn K (.ref f47999) "__setattr__" = some (some (.builtin "object.__setattr__")))
    (Cmk47999 : PySem.W.makesIn K f47999 = true)
    (Ckp47999 : PySem.W.keepIn K (.ref f47999) = true)
    (m47000 : PySem.W.findIn K (.ref f47999) "__init__" = some (some (.ref f47000)))
    (n47000 : PySem.W.isFn K (.ref f47000) = true)
    (l47000 : K.lookup f47000 = some ⟨oc47000, od47000, .func (PySem.W.fnOf "__init__" "Journal.__init__" (defArgs s_Journal___init__) (defBody s_Journal___init__) (defScope s_Journal___init__) .none kV47000 dc47000 pm47000 an47000 cd47000 ct47000), sl47000⟩)
    (c47000 : PySem.W.codeIn K cd47000 "Journal.__init__" = true)
    (k47000 : PySem.W.keepIn K (.ref f47000) = true)
    (m47001 : PySem.W.findIn K (.ref f47999) "write" = some (some (.ref f47001)))
    (n47001 : PySem.W.isFn K (.ref f47001) = true)
    (l47001 : K.lookup f47001 = some ⟨oc47001, od47001, .func (PySem.W.fnOf "write" "Journal.write" (defArgs s_Journal_write) (defBody s_Journal_write) (defScope s_Journal_write) .none kV47001 dc47001 pm47001 an47001 cd47001 ct47001), sl47001⟩)
    (c47001 : PySem.W.codeIn K cd47001 "Journal.write" = true)
    (k47001 : PySem.W.keepIn K (.ref f47001) = true)
    (m47002 : PySem.W.findIn K (.ref f47999) "settle" = some (some (.ref f47002)))
    (n47002 : PySem.W.isFn K (.ref f47002) = true)
    (l47002 : K.lookup f47002 = some ⟨oc47002, od47002, .func (PySem.W.fnOf "settle" "Journal.settle" (defArgs s_Journal_settle) (defBody s_Journal_settle) (defScope s_Journal_settle) .none kV47002 dc47002 pm47002 an47002 cd47002 ct47002), sl47002⟩)
    (c47002 : PySem.W.codeIn K cd47002 "Journal.settle" = true)
    (k47002 : PySem.W.keepIn K (.ref f47002) = true)
    (m47003 : PySem.W.findIn K (.ref f47999) "fallen" = some (some (.ref f47003)))
    (n47003 : PySem.W.isFn K (.ref f47003) = true)
    (l47003 : K.lookup f47003 = some ⟨oc47003, od47003, .func (PySem.W.fnOf "fallen" "Journal.fallen" (defArgs s_Journal_fallen) (defBody s_Journal_fallen) (defScope s_Journal_fallen) .none kV47003 dc47003 pm47003 an47003 cd47003 ct47003), sl47003⟩)
    (c47003 : PySem.W.codeIn K cd47003 "Journal.fallen" = true)
    (k47003 : PySem.W.keepIn K (.ref f47003) = true)
    (m47005 : PySem.W.findIn K (.ref f47999) "letters" = some (some (.ref f47005)))
    (n47005 : PySem.W.isFn K (.ref f47005) = true)
    (l47005 : K.lookup f47005 = some ⟨oc47005, od47005, .func (PySem.W.fnOf "letters" "Journal.letters" (defArgs s_Journal_letters) (defBody s_Journal_letters) (defScope s_Journal_letters) .none kV47005 dc47005 pm47005 an47005 cd47005 ct47005), sl47005⟩)
    (c47005 : PySem.W.codeIn K cd47005 "Journal.letters" = true)
    (k47005 : PySem.W.keepIn K (.ref f47005) = true)
    (na47999_relations : PySem.W.findIn K (.ref f47999) "relations" = some none)
    (na47999_entries : PySem.W.findIn K (.ref f47999) "entries" = some none)
    (na47999_text : PySem.W.findIn K (.ref f47999) "text" = some none)
    (na47999_loose : PySem.W.findIn K (.ref f47999) "loose" = some none)
    (na47999_settled : PySem.W.findIn K (.ref f47999) "settled" = some none)
    (Ica47999 : PySem.W.findIn K (.ref f47999) "__class__" = some (some (.builtin "object.__class__")))
    (Icn47999 : PySem.W.specialIn K (.builtin "object.__class__") "__get__" = some (some (.builtin "getset_descriptor.__get__")))
    (Ict47999 : PySem.W.takesIn K (.builtin "object.__class__") = some true)
    (Icm47999 : PySem.W.mroIn K f47999 (.type "object") = some true)
    (Iic47999 : PySem.W.isClsIn K f47999 = true)
    (Itc47999 : PySem.W.typeIn K (.ref f47999) = some (.type "type"))
    (Isd47999 : PySem.W.subIn K (.type "dict") (.ref f47999) = some false)
    (x5999a : PySem.W.nsIn K mainGlobals "BadEntry" = some (some (.ref f5999)))
    (x5999i : PySem.W.excInitIn K f5999 PySem.YjX_BadEntry.exTail "Exception.__new__" = true)
    (x5999o : PySem.W.excOver K f5999 PySem.YjX_BadEntry.exTail = true)
    (x5999t : PySem.W.takerIn K f5999 "entry" = some none)
    (x5999s : PySem.W.findIn K (.ref f5999) "__setattr__" = some (some (.builtin "object.__setattr__")))
    (x5999g : PySem.W.findIn K (.ref f5999) "__getattribute__" = some (some (.builtin "BaseException.__getattribute__")))
    (x5999gg : PySem.W.findIn K (.ref f5999) "__getattr__" = some none)
    (x5999n : PySem.W.findIn K (.ref f5999) "entry" = some none)
    (x5999in : PySem.W.findIn K (.ref f5999) "__init__" = some (some (.ref f5000)))
    (x5999ti : PySem.W.typeIn K (.ref f5000) = some (.type "function"))
    (x5999k : PySem.W.keepIn K (.ref f5999) = true)
    (x5999b : PySem.W.subIn K (.ref f5999) (.type "BaseException") = some true)
    (x5999tc : PySem.W.typeIn K (.ref f5999) = some (.type "type"))
    (x5999hd : PySem.W.hasDictIn K f5999 = true)
    (x5999ic : PySem.W.isClsIn K f5999 = true)
    (x5999sc : PySem.W.subIn K (.ref f5999) (.ref f5999) = some true)
    (x5999l : K.lookup f5000 = some ⟨oc5000, od5000, .func (PySem.W.fnOf "__init__" "BadEntry.__init__" (PySem.YjX_BadEntry.nArgs ⟨13, 17, 13, 21⟩ ⟨13, 23, 13, 28⟩) (PySem.YjX_BadEntry.nBody ⟨14, 8, 14, 12⟩ ⟨14, 8, 14, 18⟩ ⟨14, 21, 14, 26⟩ ⟨14, 8, 14, 26⟩) (PySem.YjX_BadEntry.nScope []) .none kV5000 dc5000 pm5000 an5000 cd5000 ct5000), sl5000⟩)
    (x5999c : PySem.W.codeIn K cd5000 "BadEntry.__init__" = true)
    (z_isinstance : PySem.W.nsIn K mainGlobals "isinstance" = some none)
    (z_len : PySem.W.nsIn K mainGlobals "len" = some none)
    (z_all : PySem.W.nsIn K mainGlobals "all" = some none)
    (z_any : PySem.W.nsIn K mainGlobals "any" = some none)
    (z_sum : PySem.W.nsIn K mainGlobals "sum" = some none)
    (z_sorted : PySem.W.nsIn K mainGlobals "sorted" = some none)
    (z_max : PySem.W.nsIn K mainGlobals "max" = some none)
    (z_min : PySem.W.nsIn K mainGlobals "min" = some none)
    (z_tuple : PySem.W.nsIn K mainGlobals "tuple" = some none)
    (z_list : PySem.W.nsIn K mainGlobals "list" = some none)
    (z_int : PySem.W.nsIn K mainGlobals "int" = some none)
    (z_bool : PySem.W.nsIn K mainGlobals "bool" = some none)
    (z_str : PySem.W.nsIn K mainGlobals "str" = some none)
    (z_enumerate : PySem.W.nsIn K mainGlobals "enumerate" = some none)
    (z_range : PySem.W.nsIn K mainGlobals "range" = some none)
    (z_zip : PySem.W.nsIn K mainGlobals "zip" = some none)
    (z_abs : PySem.W.nsIn K mainGlobals "abs" = some none)
    (v7 : PySem.W.nsIn K mainGlobals "LETTERS" = some (some (Value.str "abcdefghijklmnopqrstuvwxyz" tk7)))
    (v8 : PySem.W.nsIn K mainGlobals "FIGURES" = some (some (Value.str "0123456789" tk8)))
    (v9 : PySem.W.nsIn K mainGlobals "LONGEST_NAME" = some (some (Value.int 8 tk9)))
    (v11 : PySem.W.nsIn K mainGlobals "MOST_NAMES" = some (some (Value.int 4 tk11)))
    (v27 : PySem.W.nsIn K mainGlobals "MOST_FIGURES" = some (some (Value.int 6 tk27)))
    (v34 : PySem.W.nsIn K mainGlobals "CHANGE" = some (some (Value.str "change" tk34)))
    (v35 : PySem.W.nsIn K mainGlobals "LETTER" = some (some (Value.str "letter" tk35)))
    (v36 : PySem.W.nsIn K mainGlobals "MOST_IN_LETTER" = some (some (Value.int 6 tk36)))
    (v42 : PySem.W.nsIn K mainGlobals "END_OF_LINE" = some (some (Value.str "\n" tk42))) :
    ∃ fd : FuncData, (∀ (s : Shared) (v : Value), BindsTo s fd ⟨[v], []⟩ [("script", v)]) ∧ ∀ base : Heap, K.In base → base.Ns mainGlobals mg → FnOk l.prog w K mg base (L2N.CX l.prog w) 12 fa fd ["script"] (spLaw K) := by
  have e := hfa.symm.trans (PySem.W.mg_of X G a59)
  cases e
  have T : Txt K mg (fun i => match i with | 12 => f12 | 13 => f13 | 16 => f16 | 28 => f28 | 29 => f29 | 30 => f30 | 37 => f37 | 38 => f38 | 39 => f39 | 40 => f40 | 41 => f41 | 44 => f44 | 45 => f45 | 48 => f48 | 49 => f49 | 50 => f50 | 51 => f51 | 58 => f58 | 59 => fa | 19999 => f19999 | 19000 => f19000 | 19001 => f19001 | 19002 => f19002 | 20999 => f20999 | 20000 => f20000 | 20001 => f20001 | 47999 => f47999 | 47000 => f47000 | 47001 => f47001 | 47002 => f47002 | 47003 => f47003 | 47005 => f47005 | 5999 => f5999 | 5000 => f5000 | _ => 0) (fun i => match i with | 12 => PySem.W.fnOf "is_integer" "is_integer" (defArgs s_is_integer) (defBody s_is_integer) (defScope s_is_integer) .none kV12 dc12 pm12 an12 cd12 ct12 | 13 => PySem.W.fnOf "is_name" "is_name" (defArgs s_is_name) (defBody s_is_name) (defScope s_is_name) .none kV13 dc13 pm13 an13 cd13 ct13 | 16 => PySem.W.fnOf "checked_relations" "checked_relations" (defArgs s_checked_relations) (defBody s_checked_relations) (defScope s_checked_relations) .none kV16 dc16 pm16 an16 cd16 ct16 | 28 => PySem.W.fnOf "number_by" "number_by" (defArgs s_number_by) (defBody s_number_by) (defScope s_number_by) .none kV28 dc28 pm28 an28 cd28 ct28 | 29 => PySem.W.fnOf "names_word" "names_word" (defArgs s_names_word) (defBody s_names_word) (defScope s_names_word) .none kV29 dc29 pm29 an29 cd29 ct29 | 30 => PySem.W.fnOf "names_by" "names_by" (defArgs s_names_by) (defBody s_names_by) (defScope s_names_by) .none kV30 dc30 pm30 an30 cd30 ct30 | 37 => PySem.W.fnOf "is_entry" "is_entry" (defArgs s_is_entry) (defBody s_is_entry) (defScope s_is_entry) .none kV37 dc37 pm37 an37 cd37 ct37 | 38 => PySem.W.fnOf "_are_letter_names" "_are_letter_names" (defArgs s__are_letter_names) (defBody s__are_letter_names) (defScope s__are_letter_names) .none kV38 dc38 pm38 an38 cd38 ct38 | 39 => PySem.W.fnOf "entry_line" "entry_line" (defArgs s_entry_line) (defBody s_entry_line) (defScope s_entry_line) .none kV39 dc39 pm39 an39 cd39 ct39 | 40 => PySem.W.fnOf "entry_by" "entry_by" (defArgs s_entry_by) (defBody s_entry_by) (defScope s_entry_by) .none kV40 dc40 pm40 an40 cd40 ct40 | 41 => PySem.W.fnOf "_entry_of" "_entry_of" (defArgs s__entry_of) (defBody s__entry_of) (defScope s__entry_of) .none kV41 dc41 pm41 an41 cd41 ct41 | 44 => PySem.W.fnOf "_read" "_read" (defArgs s__read) (defBody s__read) (defScope s__read) .none kV44 dc44 pm44 an44 cd44 ct44 | 45 => PySem.W.fnOf "_line" "_line" (defArgs s__line) (defBody s__line) (defScope s__line) .none kV45 dc45 pm45 an45 cd45 ct45 | 48 => PySem.W.fnOf "_law_number" "_law_number" (defArgs s__law_number) (defBody s__law_number) (defScope s__law_number) .none kV48 dc48 pm48 an48 cd48 ct48 | 49 => PySem.W.fnOf "_law_take" "_law_take" (defArgs s__law_take) (defBody s__law_take) (defScope s__law_take) .none kV49 dc49 pm49 an49 cd49 ct49 | 50 => PySem.W.fnOf "_law_pick" "_law_pick" (defArgs s__law_pick) (defBody s__law_pick) (defScope s__law_pick) .none kV50 dc50 pm50 an50 cd50 ct50 | 51 => PySem.W.fnOf "_law_relations" "_law_relations" (defArgs s__law_relations) (defBody s__law_relations) (defScope s__law_relations) .none kV51 dc51 pm51 an51 cd51 ct51 | 58 => PySem.W.fnOf "_law_right" "_law_right" (defArgs s__law_right) (defBody s__law_right) (defScope s__law_right) .none kV58 dc58 pm58 an58 cd58 ct58 | 59 => PySem.W.fnOf "law" "law" (defArgs s_law) (defBody s_law) (defScope s_law) .none kV59 dc59 pm59 an59 cd59 ct59 | 19000 => PySem.W.fnOf "__init__" "Post.__init__" (defArgs s_Post___init__) (defBody s_Post___init__) (defScope s_Post___init__) .none kV19000 dc19000 pm19000 an19000 cd19000 ct19000 | 19001 => PySem.W.fnOf "waiting" "Post.waiting" (defArgs s_Post_waiting) (defBody s_Post_waiting) (defScope s_Post_waiting) .none kV19001 dc19001 pm19001 an19001 cd19001 ct19001 | 19002 => PySem.W.fnOf "hear" "Post.hear" (defArgs s_Post_hear) (defBody s_Post_hear) (defScope s_Post_hear) .none kV19002 dc19002 pm19002 an19002 cd19002 ct19002 | 20000 => PySem.W.fnOf "__init__" "Receiver.__init__" (defArgs s_Receiver___init__) (defBody s_Receiver___init__) (defScope s_Receiver___init__) .none kV20000 dc20000 pm20000 an20000 cd20000 ct20000 | 20001 => PySem.W.fnOf "get" "Receiver.get" (defArgs s_Receiver_get) (defBody s_Receiver_get) (defScope s_Receiver_get) .none kV20001 dc20001 pm20001 an20001 cd20001 ct20001 | 47000 => PySem.W.fnOf "__init__" "Journal.__init__" (defArgs s_Journal___init__) (defBody s_Journal___init__) (defScope s_Journal___init__) .none kV47000 dc47000 pm47000 an47000 cd47000 ct47000 | 47001 => PySem.W.fnOf "write" "Journal.write" (defArgs s_Journal_write) (defBody s_Journal_write) (defScope s_Journal_write) .none kV47001 dc47001 pm47001 an47001 cd47001 ct47001 | 47002 => PySem.W.fnOf "settle" "Journal.settle" (defArgs s_Journal_settle) (defBody s_Journal_settle) (defScope s_Journal_settle) .none kV47002 dc47002 pm47002 an47002 cd47002 ct47002 | 47003 => PySem.W.fnOf "fallen" "Journal.fallen" (defArgs s_Journal_fallen) (defBody s_Journal_fallen) (defScope s_Journal_fallen) .none kV47003 dc47003 pm47003 an47003 cd47003 ct47003 | 47005 => PySem.W.fnOf "letters" "Journal.letters" (defArgs s_Journal_letters) (defBody s_Journal_letters) (defScope s_Journal_letters) .none kV47005 dc47005 pm47005 an47005 cd47005 ct47005 | _ => PySem.W.fnOf "law" "law" (defArgs s_law) (defBody s_law) (defScope s_law) .none kV59 dc59 pm59 an59 cd59 ct59) (fun i => match i with | 7 => Value.str "abcdefghijklmnopqrstuvwxyz" tk7 | 8 => Value.str "0123456789" tk8 | 9 => Value.int 8 tk9 | 11 => Value.int 4 tk11 | 27 => Value.int 6 tk27 | 34 => Value.str "change" tk34 | 35 => Value.str "letter" tk35 | 36 => Value.int 6 tk36 | 42 => Value.str "\n" tk42 | _ => Value.none) := { g_is_integer := PySem.W.mg_of X G a12, F_is_integer := fun_mk (st := s_is_integer) l12 c12 k12, g_is_name := PySem.W.mg_of X G a13, F_is_name := fun_mk (st := s_is_name) l13 c13 k13, g_checked_relations := PySem.W.mg_of X G a16, F_checked_relations := fun_mk (st := s_checked_relations) l16 c16 k16, g_number_by := PySem.W.mg_of X G a28, F_number_by := fun_mk (st := s_number_by) l28 c28 k28, g_names_word := PySem.W.mg_of X G a29, F_names_word := fun_mk (st := s_names_word) l29 c29 k29, g_names_by := PySem.W.mg_of X G a30, F_names_by := fun_mk (st := s_names_by) l30 c30 k30, g_is_entry := PySem.W.mg_of X G a37, F_is_entry := fun_mk (st := s_is_entry) l37 c37 k37, g__are_letter_names := PySem.W.mg_of X G a38, F__are_letter_names := fun_mk (st := s__are_letter_names) l38 c38 k38, g_entry_line := PySem.W.mg_of X G a39, F_entry_line := fun_mk (st := s_entry_line) l39 c39 k39, g_entry_by := PySem.W.mg_of X G a40, F_entry_by := fun_mk (st := s_entry_by) l40 c40 k40, g__entry_of := PySem.W.mg_of X G a41, F__entry_of := fun_mk (st := s__entry_of) l41 c41 k41, g__read := PySem.W.mg_of X G a44, F__read := fun_mk (st := s__read) l44 c44 k44, g__line := PySem.W.mg_of X G a45, F__line := fun_mk (st := s__line) l45 c45 k45, g__law_number := PySem.W.mg_of X G a48, F__law_number := fun_mk (st := s__law_number) l48 c48 k48, g__law_take := PySem.W.mg_of X G a49, F__law_take := fun_mk (st := s__law_take) l49 c49 k49, g__law_pick := PySem.W.mg_of X G a50, F__law_pick := fun_mk (st := s__law_pick) l50 c50 k50, g__law_relations := PySem.W.mg_of X G a51, F__law_relations := fun_mk (st := s__law_relations) l51 c51 k51, g__law_right := PySem.W.mg_of X G a58, F__law_right := fun_mk (st := s__law_right) l58 c58 k58, g_law := PySem.W.mg_of X G a59, F_law := fun_mk (st := s_law) l59 c59 k59, g_Post := PySem.W.mg_of X G C19999, cl_Post := ⟨Cpg19999, Chd19999, Cpo19999, Csa19999⟩, F_Post___init__ := fun_mk (st := s_Post___init__) l19000 c19000 k19000, mk_Post := ⟨Cmk19999, m19000, n19000, Ckp19999⟩, F_Post_waiting := fun_mk (st := s_Post_waiting) l19001 c19001 k19001, m_Post_waiting := ⟨m19001, n19001, k19001⟩, F_Post_hear := fun_mk (st := s_Post_hear) l19002 c19002 k19002, m_Post_hear := ⟨m19002, n19002, k19002⟩, na_Post_journal := na19999_journal, na_Post_heard := na19999_heard, is_Post := ⟨Ica19999, Icn19999, Ict19999, Icm19999, kit_self, kit_not Iic19999 Itc19999 Isd19999⟩, g_Receiver := PySem.W.mg_of X G C20999, cl_Receiver := ⟨Cpg20999, Chd20999, Cpo20999, Csa20999⟩, F_Receiver___init__ := fun_mk (st := s_Receiver___init__) l20000 c20000 k20000, mk_Receiver := ⟨Cmk20999, m20000, n20000, Ckp20999⟩, F_Receiver_get := fun_mk (st := s_Receiver_get) l20001 c20001 k20001, m_Receiver_get := ⟨m20001, n20001, k20001⟩, na_Receiver_taken := na20999_taken, na_Receiver_early := na20999_early, is_Receiver := ⟨Ica20999, Icn20999, Ict20999, Icm20999, kit_self, kit_not Iic20999 Itc20999 Isd20999⟩, g_Journal := PySem.W.mg_of X G C47999, cl_Journal := ⟨Cpg47999, Chd47999, Cpo47999, Csa47999⟩, F_Journal___init__ := fun_mk (st := s_Journal___init__) l47000 c47000 k47000, mk_Journal := ⟨Cmk47999, m47000, n47000, Ckp47999⟩, F_Journal_write := fun_mk (st := s_Journal_write) l47001 c47001 k47001, m_Journal_write := ⟨m47001, n47001, k47001⟩, F_Journal_settle := fun_mk (st := s_Journal_settle) l47002 c47002 k47002, m_Journal_settle := ⟨m47002, n47002, k47002⟩, F_Journal_fallen := fun_mk (st := s_Journal_fallen) l47003 c47003 k47003, m_Journal_fallen := ⟨m47003, n47003, k47003⟩, F_Journal_letters := fun_mk (st := s_Journal_letters) l47005 c47005 k47005, m_Journal_letters := ⟨m47005, n47005, k47005⟩, na_Journal_relations := na47999_relations, na_Journal_entries := na47999_entries, na_Journal_text := na47999_text, na_Journal_loose := na47999_loose, na_Journal_settled := na47999_settled, is_Journal := ⟨Ica47999, Icn47999, Ict47999, Icm47999, kit_self, kit_not Iic47999 Itc47999 Isd47999⟩, x_BadEntry := ⟨PySem.W.mg_of X G x5999a, x5999i, x5999o, x5999t, dict_of x5999hd, x5999s, x5999g, x5999gg, x5999n, x5999in, x5999ti, x5999k, x5999b, x5999tc, x5999hd, exm_own x5999b x5999ic x5999tc x5999sc, ⟨_, _, _, _, _, _, _, _, _, _, _, _, _, _, _, _, x5999l, x5999c⟩⟩, z_isinstance := PySem.W.mg_none_of X G z_isinstance, z_len := PySem.W.mg_none_of X G z_len, z_all := PySem.W.mg_none_of X G z_all, z_any := PySem.W.mg_none_of X G z_any, z_sum := PySem.W.mg_none_of X G z_sum, z_sorted := PySem.W.mg_none_of X G z_sorted, z_max := PySem.W.mg_none_of X G z_max, z_min := PySem.W.mg_none_of X G z_min, z_tuple := PySem.W.mg_none_of X G z_tuple, z_list := PySem.W.mg_none_of X G z_list, z_int := PySem.W.mg_none_of X G z_int, z_bool := PySem.W.mg_none_of X G z_bool, z_str := PySem.W.mg_none_of X G z_str, z_enumerate := PySem.W.mg_none_of X G z_enumerate, z_range := PySem.W.mg_none_of X G z_range, z_zip := PySem.W.mg_none_of X G z_zip, z_abs := PySem.W.mg_none_of X G z_abs, c_LETTERS := PySem.W.mg_of X G v7, r_LETTERS := ⟨tk7, rfl⟩, c_FIGURES := PySem.W.mg_of X G v8, r_FIGURES := ⟨tk8, rfl⟩, c_LONGEST_NAME := PySem.W.mg_of X G v9, r_LONGEST_NAME := ⟨tk9, rfl⟩, c_MOST_NAMES := PySem.W.mg_of X G v11, r_MOST_NAMES := ⟨tk11, rfl⟩, c_MOST_FIGURES := PySem.W.mg_of X G v27, r_MOST_FIGURES := ⟨tk27, rfl⟩, c_CHANGE := PySem.W.mg_of X G v34, r_CHANGE := ⟨tk34, rfl⟩, c_LETTER := PySem.W.mg_of X G v35, r_LETTER := ⟨tk35, rfl⟩, c_MOST_IN_LETTER := PySem.W.mg_of X G v36, r_MOST_IN_LETTER := ⟨tk36, rfl⟩, c_END_OF_LINE := PySem.W.mg_of X G v42, r_END_OF_LINE := ⟨tk42, rfl⟩ }
  exact ⟨PySem.W.fnOf "law" "law" (defArgs s_law) (defBody s_law) (defScope s_law) .none kV59 dc59 pm59 an59 cd59 ct59, fun s v => .of_eq rfl, fun base _ _ => ok_law T⟩
end Yj
set_option Elab.async false
set_option linter.all false
open PySem PySem.W PyProof.Rows
set_option maxRecDepth 100000 in
set_option maxHeartbeats 0 in
theorem PySem.Challenge.cw_twicedated_k58_whole_letters_holds : PySem.Challenge.rw_twicedated_k58_whole_letters.Holds := by
  w_on; o_law; k_head; (case hw => w_witness2)
  k_fill
  refine L2.walk_of (l := PySem.Challenge.rw_twicedated_k58_whole_letters) (n := 63) (k := 12) (x := "script") (CX := fun w => L2N.CX PySem.Challenge.rw_twicedated_k58_whole_letters.prog w) (sp := fun w => Yj.spLaw _) rfl (by decide) rfl ⟨rfl, by decide, by decide⟩ (fun w h Y => PySem.W.kIn_of Y) ?F (fun _ _ a ns hl _ hS => ⟨a, ns, rfl, hS, hl, fun _ => rfl⟩) (fun _ _ _ _ _ h => Yj.no_exc h)
  case F =>
    intro w mg fa h KX G hmg
    refine' Yj.all_mk KX G hmg ?a12 ?l12 ?c12 ?k12 ?a13 ?l13 ?c13 ?k13 ?a16 ?l16 ?c16 ?k16 ?a28 ?l28 ?c28 ?k28 ?a29 ?l29 ?c29 ?k29 ?a30 ?l30 ?c30 ?k30 ?a37 ?l37 ?c37 ?k37 ?a38 ?l38 ?c38 ?k38 ?a39 ?l39 ?c39 ?k39 ?a40 ?l40 ?c40 ?k40 ?a41 ?l41 ?c41 ?k41 ?a44 ?l44 ?c44 ?k44 ?a45 ?l45 ?c45 ?k45 ?a48 ?l48 ?c48 ?k48 ?a49 ?l49 ?c49 ?k49 ?a50 ?l50 ?c50 ?k50 ?a51 ?l51 ?c51 ?k51 ?a58 ?l58 ?c58 ?k58 ?a59 ?l59 ?c59 ?k59 ?C19999 ?Cpg19999 ?Chd19999 ?Cpo19999 ?Csa19999 ?Cmk19999 ?Ckp19999 ?m19000 ?n19000 ?l19000 ?c19000 ?k19000 ?m19001 ?n19001 ?l19001 ?c19001 ?k19001 ?m19002 ?n19002 ?l19002 ?c19002 ?k19002 ?na19999_journal ?na19999_heard ?Ica19999 ?Icn19999 ?Ict19999 ?Icm19999 ?Iic19999 ?Itc19999 ?Isd19999 ?C20999 ?Cpg20999 ?Chd20999 ?Cpo20999 ?Csa20999 ?Cmk20999 ?Ckp20999 ?m20000 ?n20000 ?l20000 ?c20000 ?k20000 ?m20001 ?n20001 ?l20001 ?c20001 ?k20001 ?na20999_taken ?na20999_early ?Ica20999 ?Icn20999 ?Ict20999 ?Icm20999 ?Iic20999 ?Itc20999 ?Isd20999 ?C47999 ?Cpg47999 ?Chd47999 ?Cpo47999 ?Csa47999 ?Cmk47999 ?Ckp47999 ?m47000 ?n47000 ?l47000 ?c47000 ?k47000 ?m47001 ?n47001 ?l47001 ?c47001 ?k47001 ?m47002 ?n47002 ?l47002 ?c47002 ?k47002 ?m47003 ?n47003 ?l47003 ?c47003 ?k47003 ?m47005 ?n47005 ?l47005 ?c47005 ?k47005 ?na47999_relations ?na47999_entries ?na47999_text ?na47999_loose ?na47999_settled ?Ica47999 ?Icn47999 ?Ict47999 ?Icm47999 ?Iic47999 ?Itc47999 ?Isd47999 ?x5999a ?x5999i ?x5999o ?x5999t ?x5999s ?x5999g ?x5999gg ?x5999n ?x5999in ?x5999ti ?x5999k ?x5999b ?x5999tc ?x5999hd ?x5999ic ?x5999sc ?x5999l ?x5999c ?z_isinstance ?z_len ?z_all ?z_any ?z_sum ?z_sorted ?z_max ?z_min ?z_tuple ?z_list ?z_int ?z_bool ?z_str ?z_enumerate ?z_range ?z_zip ?z_abs ?v7 ?v8 ?v9 ?v11 ?v27 ?v34 ?v35 ?v36 ?v42
    (case a12 => k_is); (case l12 => k_is); (case c12 => k_is); (case k12 => k_is); (case a13 => k_is); (case l13 => k_is); (case c13 => k_is); (case k13 => k_is)
    (case a16 => k_is); (case l16 => k_is); (case c16 => k_is); (case k16 => k_is); (case a28 => k_is); (case l28 => k_is); (case c28 => k_is); (case k28 => k_is)
    (case a29 => k_is); (case l29 => k_is); (case c29 => k_is); (case k29 => k_is); (case a30 => k_is); (case l30 => k_is); (case c30 => k_is); (case k30 => k_is)
    (case a37 => k_is); (case l37 => k_is); (case c37 => k_is); (case k37 => k_is); (case a38 => k_is); (case l38 => k_is); (case c38 => k_is); (case k38 => k_is)
    (case a39 => k_is); (case l39 => k_is); (case c39 => k_is); (case k39 => k_is); (case a40 => k_is); (case l40 => k_is); (case c40 => k_is); (case k40 => k_is)
    (case a41 => k_is); (case l41 => k_is); (case c41 => k_is); (case k41 => k_is); (case a44 => k_is); (case l44 => k_is); (case c44 => k_is); (case k44 => k_is)
    (case a45 => k_is); (case l45 => k_is); (case c45 => k_is); (case k45 => k_is); (case a48 => k_is); (case l48 => k_is); (case c48 => k_is); (case k48 => k_is)
    (case a49 => k_is); (case l49 => k_is); (case c49 => k_is); (case k49 => k_is); (case a50 => k_is); (case l50 => k_is); (case c50 => k_is); (case k50 => k_is)
    (case a51 => k_is); (case l51 => k_is); (case c51 => k_is); (case k51 => k_is); (case a58 => k_is); (case l58 => k_is); (case c58 => k_is); (case k58 => k_is)
    (case a59 => k_is); (case l59 => k_is); (case c59 => k_is); (case k59 => k_is); (case C19999 => k_is); (case Cpg19999 => k_is); (case Chd19999 => k_is); (case Cpo19999 => k_is)
    (case Csa19999 => k_is); (case Cmk19999 => k_is); (case Ckp19999 => k_is); (case m19000 => k_is); (case n19000 => k_is); (case l19000 => k_is); (case c19000 => k_is); (case k19000 => k_is)
    (case m19001 => k_is); (case n19001 => k_is); (case l19001 => k_is); (case c19001 => k_is); (case k19001 => k_is); (case m19002 => k_is); (case n19002 => k_is); (case l19002 => k_is)
    (case c19002 => k_is); (case k19002 => k_is); (case na19999_journal => k_is); (case na19999_heard => k_is); (case Ica19999 => k_is); (case Icn19999 => k_is); (case Ict19999 => k_is); (case Icm19999 => k_is)
    (case Iic19999 => k_is); (case Itc19999 => k_is); (case Isd19999 => k_is); (case C20999 => k_is); (case Cpg20999 => k_is); (case Chd20999 => k_is); (case Cpo20999 => k_is); (case Csa20999 => k_is)
    (case Cmk20999 => k_is); (case Ckp20999 => k_is); (case m20000 => k_is); (case n20000 => k_is); (case l20000 => k_is); (case c20000 => k_is); (case k20000 => k_is); (case m20001 => k_is)
    (case n20001 => k_is); (case l20001 => k_is); (case c20001 => k_is); (case k20001 => k_is); (case na20999_taken => k_is); (case na20999_early => k_is); (case Ica20999 => k_is); (case Icn20999 => k_is)
    (case Ict20999 => k_is); (case Icm20999 => k_is); (case Iic20999 => k_is); (case Itc20999 => k_is); (case Isd20999 => k_is); (case C47999 => k_is); (case Cpg47999 => k_is); (case Chd47999 => k_is)
    (case Cpo47999 => k_is); (case Csa47999 => k_is); (case Cmk47999 => k_is); (case Ckp47999 => k_is); (case m47000 => k_is); (case n47000 => k_is); (case l47000 => k_is); (case c47000 => k_is)
    (case k47000 => k_is); (case m47001 => k_is); (case n47001 => k_is); (case l47001 => k_is); (case c47001 => k_is); (case k47001 => k_is); (case m47002 => k_is); (case n47002 => k_is)
    (case l47002 => k_is); (case c47002 => k_is); (case k47002 => k_is); (case m47003 => k_is); (case n47003 => k_is); (case l47003 => k_is); (case c47003 => k_is); (case k47003 => k_is)
    (case m47005 => k_is); (case n47005 => k_is); (case l47005 => k_is); (case c47005 => k_is); (case k47005 => k_is); (case na47999_relations => k_is); (case na47999_entries => k_is); (case na47999_text => k_is)
    (case na47999_loose => k_is); (case na47999_settled => k_is); (case Ica47999 => k_is); (case Icn47999 => k_is); (case Ict47999 => k_is); (case Icm47999 => k_is); (case Iic47999 => k_is); (case Itc47999 => k_is)
    (case Isd47999 => k_is); (case x5999a => k_is); (case x5999i => kx_is); (case x5999o => kx_is); (case x5999t => k_is); (case x5999s => k_is); (case x5999g => k_is); (case x5999gg => k_is)
    (case x5999n => k_is); (case x5999in => k_is); (case x5999ti => k_is); (case x5999k => k_is); (case x5999b => k_is); (case x5999tc => k_is); (case x5999hd => k_is); (case x5999ic => k_is)
    (case x5999sc => k_is); (case x5999l => k_is); (case x5999c => k_is); (case z_isinstance => k_is); (case z_len => k_is); (case z_all => k_is); (case z_any => k_is); (case z_sum => k_is)
    (case z_sorted => k_is); (case z_max => k_is); (case z_min => k_is); (case z_tuple => k_is); (case z_list => k_is); (case z_int => k_is); (case z_bool => k_is); (case z_str => k_is)
    (case z_enumerate => k_is); (case z_range => k_is); (case z_zip => k_is); (case z_abs => k_is); (case v7 => k_is); (case v8 => k_is); (case v9 => k_is); (case v11 => k_is)
    (case v27 => k_is); (case v34 => k_is); (case v35 => k_is); (case v36 => k_is); (case v42 => k_is)

import PyProof.Rows.All
import Wide.All
import OpenK.AllK
import Wide.FinOn
import HandS.ForMost
import HandS.Exc
import HandS.ExcOwn
import HandS.ExcInit
import HandS.IsInst
import HandS.Style
import HandS.Flow
import HandS.Lambda
import KE.KeyNested
import KE.KDictKeyed
import HandS.TupAny
import KE.DatumIndex
import HandS.ExcSuper
import HandS.ExcIs
import HandS.ExcField
import HandS.ExcValue
import HandS.TryMany
import HandS.Nested
import KE.KExcSuper
import KE.KExcIs
import HandS.RaiseMore
import KE.KEqDict
import PyProof.NeKinds
import PyProof.EqKinds
import HandS.Ends
import KE.GoesEnum
import HandS.TupMul
import HandS.Walk
import KE.KDflt
import HandS.More
import HandS.Deep
import HandS.SortInts
import HandS.Star
import HandS.SetFor
import HandS.Remove
import HandS.Conv
import PyProof.P3In
import HandS.Strs
import HandS.SortKw
import KE.DatumOrd
import HandS.Defaults
import KE.SortData
import HandS.Zip
import HandS.Dict
import HandS.Spec
import KE.KDictDisplayH
import KE.KDictCopyH
import KE.KDictList
import KE.DataMinKey
import HandS.Text
import HandS.FStr
import HandS.SetBool
import OpenK.KMore
import KE.KExcInit
import PySem.Challenge.RW_stolenvoices_k01_errors
set_option Elab.async false
set_option linter.all false
set_option maxRecDepth 100000
set_option maxHeartbeats 4000001
namespace DE
open PyProof.Rows PySem.Spec PySem L2

inductive D where
  | non | bl (b : Bool) | int (i : Int) | str (s : Str) | lst (xs : List D) | tup (xs : List D) | dic (kvs : List (Key × D)) | m | exc (c : Str) (v : D) | scr (ns : List Int) | fn (x : Str) | dkn (kvs : List (D × D)) | fzt (xs : List D)

structure DS where
  great : List Int
  seed : Int
  turns : Int
inductive Sl where
  | no | dat (d : D) | own (xs : List D) | fn (f c : Addr) (q : Str) (G1 : Hp) | odk (t : Option Addr) (kvs : List (D × D)) | odi (kvs : List (Key × D))
structure Sg where
  r : List Sl
  s : DS
structure Exn where
  c : Str
  v : D
/-- the draw dict's address; the own error classes: address, field -/
structure Gam where
  M : Addr
  cl : Str → Option (Addr × Str)
  T : List (Addr × Str)
  w : World
/-- what stays as it is: neither the draw dict nor a table of code objects -/
def Gam.Ok (Γ : Gam) (a : Addr) : Prop := a ≠ Γ.M ∧ ∀ p ∈ Γ.T, a ≠ p.1

/-- a caught exception: the class at C, its dict at d -/
def xob (a C : Addr) (d : Option Addr) : HO := .ext fun h => ∃ (oe : Obj) (vs : Array Value), h.get? a = some oe ∧ Zc (.ref C) d oe ∧ oe.data = .fields vs
mutual
/-- data as a dict's key -/
def keyD : D → Option NestedKey
  | .non => some .none
  | .bl b => some (.num (if b = true then 1 else 0))
  | .int i => some (.num i)
  | .str s => some (.text s)
  | .tup xs => (keyA xs).map .tup
  | .lst _ => none
  | .dic _ => none
  | .m => none
  | .exc _ _ => none
  | .scr _ => none
  | .fn _ => none
  | .dkn _ => none
  | .fzt xs => (keyA xs).map .tup
def keyA : List D → Option (List NestedKey)
  | [] => some []
  | d :: ds => match keyD d, keyA ds with
    | some p, some ps => some (p :: ps)
    | _, _ => none
end
/-- an entry; a dict whose keys are tuples, its keys, where they stand, its values -/
def entN (w : World) (x : NestedKey × Addr × Value) : DictEntry := ⟨x.1.hash w, .ref x.2.1, x.2.2⟩
abbrev NKV := List (NestedKey × Addr × V)
def dnO (w : World) (a : Addr) (xs : NKV) : HO := .ext fun h => ∃ ys : List (NestedKey × Addr × Value), Paired (fun (p : NestedKey × Addr × V) (q : NestedKey × Addr × Value) => p.1 = q.1 ∧ p.2.1 = q.2.1 ∧ RelV p.2.2 q.2.2) xs ys ∧ xs.length ≤ sizeLine ∧ (a == sysModules) = false ∧
  ∃ o es ep, h.get? a = some o ∧ o.ExactDict ∧ o.data = .dict es ep ∧ es.toList = ys.map (entN w) ∧ (ys.map (·.1)).Nodup
/-- .. known to all: it is never written again -/
def dfO (w : World) (a : Addr) (o : Obj) (xs : NKV) : HO := .frz o (dnO w a xs)
/-- a dict of one's own whose keys are whole numbers or texts -/
def dkO (w : World) (a : Addr) (xs : List (Key × V)) : HO := .ext fun h => xs.length ≤ sizeLine ∧ (a == sysModules) = false ∧ ∃ (P : Program) (vs : List (Key × Value)), KV xs vs ∧ h.DictOf (mixKind P w) a vs
mutual
inductive Dv (K : PySem.W.Frag) (Γ : Gam) (G : Hp) : V → D → Prop
  | non : Dv K Γ G .non .non
  | bl (b : Bool) : Dv K Γ G (.bl b) (.bl b)
  | int (i : Int) : Dv K Γ G (.int i) (.int i)
  | str (s : Str) : Dv K Γ G (.str s) (.str s)
  | lst {a : Addr} {xs : List V} {ds : List D} : G a = some (.lst xs) → DvA K Γ G xs ds → Dv K Γ G (.ref a) (.lst ds)
  | tup {a : Addr} {xs : List V} {ds : List D} : SqT K G a xs → DvA K Γ G xs ds → Dv K Γ G (.ref a) (.tup ds)
  | dic {a : Addr} {xs : List (Key × V)} {ds : List (Key × D)} : G a = some (.dK xs) → DvK K Γ G xs ds → Dv K Γ G (.ref a) (.dic ds)
  | m : Dv K Γ G (.ref Γ.M) .m
  | scr {a : Addr} {ns : List Int} : SqL K G a (ns.map V.int) → Dv K Γ G (.ref a) (.scr ns)
  | fn {f : Addr} {x : Str} : PySem.W.nsIn K mainGlobals x = some (some (Value.ref f)) → Dv K Γ G (.ref f) (.fn x)
  | exc {a d C : Addr} {f c : Str} {v : V} {w : D} : Γ.cl c = some (C, f) → G a = some (xob a C (some d)) → G d = some (.xd [(f, v)]) → Dv K Γ G v w → Dv K Γ G (.ref a) (.exc c w)
  | exc0 {a C : Addr} {c : Str} : Γ.cl c = some (C, ("" : Str)) → G a = some (xob a C none) → Dv K Γ G (.ref a) (.exc c .non)
  | dkn {a : Addr} {o : Obj} {xs : NKV} {ds : List (D × D)} : G a = some (dfO Γ.w a o xs) → DvN K Γ G xs ds → Dv K Γ G (.ref a) (.dkn ds)
  | fzt {a : Addr} {o : Obj} {xs : List V} {ds : List D} : G a = some (.frz o (.tup xs)) → o.cls = .type "tuple" → o.dict = none → DvA K Γ G xs ds → Dv K Γ G (.ref a) (.fzt ds)
inductive DvA (K : PySem.W.Frag) (Γ : Gam) (G : Hp) : List V → List D → Prop
  | nil : DvA K Γ G [] []
  | cons {v : V} {vs : List V} {d : D} {ds : List D} : Dv K Γ G v d → DvA K Γ G vs ds → DvA K Γ G (v :: vs) (d :: ds)
inductive DvK (K : PySem.W.Frag) (Γ : Gam) (G : Hp) : List (Key × V) → List (Key × D) → Prop
  | nil : DvK K Γ G [] []
  | cons {k : Key} {v : V} {vs : List (Key × V)} {d : D} {ds : List (Key × D)} : Dv K Γ G v d → DvK K Γ G vs ds → DvK K Γ G ((k, v) :: vs) ((k, d) :: ds)
inductive DvN (K : PySem.W.Frag) (Γ : Gam) (G : Hp) : NKV → List (D × D) → Prop
  | nil : DvN K Γ G [] []
  | cons {k : NestedKey} {a : Addr} {v : V} {xs : NKV} {d e : D} {ds : List (D × D)} : keyD d = some k → k.depth ≤ 8 → Dv K Γ G (.ref a) d → Dv K Γ G v e → DvN K Γ G xs ds → DvN K Γ G ((k, a, v) :: xs) ((d, e) :: ds)
end

def Gr (G G' : Hp) : Prop := ∀ a o, G a = some o → G' a = some o
theorem Gr.refl (G : Hp) : Gr G G := fun _ _ h => h
theorem Gr.trans {G G1 G2 : Hp} (a : Gr G G1) (b : Gr G1 G2) : Gr G G2 := fun x o h => b x o (a x o h)
theorem Gr.upd {G : Hp} {p : Addr} {o : HO} (h : G p = none) : Gr G (upd G p o) := fun a u e => by
  rw [upd_ne (ne_of_none e h)]; exact e
theorem Gr.rd {G G' : Hp} {a : Addr} {u : HO} (e : Gr G G') (h : Rd G a u) : Rd G' a u := h.imp (e a _) fun ⟨o, h⟩ => ⟨o, e a _ h⟩
theorem Gr.sqL {K : PySem.W.Frag} {G G' : Hp} {a : Addr} {xs : List V} (e : Gr G G') (h : SqL K G a xs) : SqL K G' a xs := h.imp e.rd id
theorem Gr.sqT {K : PySem.W.Frag} {G G' : Hp} {a : Addr} {xs : List V} (e : Gr G G') (h : SqT K G a xs) : SqT K G' a xs := h.imp e.rd id

section
variable {K : PySem.W.Frag} {Γ : Gam} {G G' : Hp}
mutual
theorem Dv.mono (e : Gr G G') : ∀ {v : V} {d : D}, Dv K Γ G v d → Dv K Γ G' v d
  | _, _, .non => .non
  | _, _, .bl b => .bl b
  | _, _, .int i => .int i
  | _, _, .str s => .str s
  | _, _, .lst h t => .lst (e _ _ h) (DvA.mono e t)
  | _, _, .tup h t => .tup (e.sqT h) (DvA.mono e t)
  | _, _, .dic h t => .dic (e _ _ h) (DvK.mono e t)
  | _, _, .m => .m
  | _, _, .scr h => .scr (e.sqL h)
  | _, _, .fn h => .fn h
  | _, _, .exc h1 h2 h3 t => .exc h1 (e _ _ h2) (e _ _ h3) (Dv.mono e t)
  | _, _, .exc0 h1 h2 => .exc0 h1 (e _ _ h2)
  | _, _, .dkn h t => .dkn (e _ _ h) (DvN.mono e t)
  | _, _, .fzt h h1 h2 t => .fzt (e _ _ h) h1 h2 (DvA.mono e t)
theorem DvA.mono (e : Gr G G') : ∀ {v : List V} {d : List D}, DvA K Γ G v d → DvA K Γ G' v d
  | _, _, .nil => .nil
  | _, _, .cons h t => .cons (Dv.mono e h) (DvA.mono e t)
theorem DvK.mono (e : Gr G G') : ∀ {v : List (Key × V)} {d : List (Key × D)}, DvK K Γ G v d → DvK K Γ G' v d
  | _, _, .nil => .nil
  | _, _, .cons h t => .cons (Dv.mono e h) (DvK.mono e t)
theorem DvN.mono (e : Gr G G') : ∀ {v : NKV} {d : List (D × D)}, DvN K Γ G v d → DvN K Γ G' v d
  | _, _, .nil => .nil
  | _, _, .cons h1 h2 h3 h4 t => .cons h1 h2 (Dv.mono e h3) (Dv.mono e h4) (DvN.mono e t)
end
theorem DvA.length : ∀ {vs : List V} {ds : List D}, DvA K Γ G vs ds → vs.length = ds.length
  | _, _, .nil => rfl
  | _, _, .cons _ t => congrArg (· + 1) t.length
theorem DvA.get : ∀ {vs : List V} {ds : List D}, DvA K Γ G vs ds → ∀ (i : Nat) {d : D}, ds[i]? = some d → ∃ v, vs[i]? = some v ∧ Dv K Γ G v d
  | _, _, .nil, _, _, h => by simp at h
  | _, _, .cons h _, 0, _, e => by simp at e; subst e; exact ⟨_, rfl, h⟩
  | _, _, .cons _ t, i + 1, d, e => by
    obtain ⟨v, h1, h2⟩ := t.get i (d := d) (by simpa using e)
    exact ⟨v, by simpa using h1, h2⟩
theorem DvA.get' : ∀ {vs : List V} {ds : List D}, DvA K Γ G vs ds → ∀ (i : Nat) {v : V}, vs[i]? = some v → ∃ d, ds[i]? = some d ∧ Dv K Γ G v d
  | _, _, .nil, _, _, h => by simp at h
  | _, _, .cons h _, 0, _, e => by simp at e; subst e; exact ⟨_, rfl, h⟩
  | _, _, .cons _ t, i + 1, v, e => by
    obtain ⟨d, h1, h2⟩ := t.get' i (v := v) (by simpa using e)
    exact ⟨d, by simpa using h1, h2⟩
theorem DvA.append : ∀ {vs ws : List V} {ds es : List D}, DvA K Γ G vs ds → DvA K Γ G ws es → DvA K Γ G (vs ++ ws) (ds ++ es)
  | _, _, _, _, .nil, u => u
  | _, _, _, _, .cons h t, u => .cons h (t.append u)
theorem DvA.take : ∀ {vs : List V} {ds : List D} (n : Nat), DvA K Γ G vs ds → DvA K Γ G (vs.take n) (ds.take n)
  | _, _, 0, _ => by simp only [List.take_zero]; exact .nil
  | _, _, _ + 1, .nil => by simp only [List.take_nil]; exact .nil
  | _, _, n + 1, .cons h t => by simp only [List.take_succ_cons]; exact .cons h (t.take n)
theorem DvA.drop : ∀ {vs : List V} {ds : List D} (n : Nat), DvA K Γ G vs ds → DvA K Γ G (vs.drop n) (ds.drop n)
  | _, _, 0, h => h
  | _, _, _ + 1, .nil => by simp only [List.drop_nil]; exact .nil
  | _, _, n + 1, .cons _ t => by simp only [List.drop_succ_cons]; exact t.drop n
theorem DvA.set : ∀ {vs : List V} {ds : List D} (n : Nat) {v : V} {d : D}, DvA K Γ G vs ds → Dv K Γ G v d → DvA K Γ G (vs.set n v) (ds.set n d)
  | _, _, _, _, _, .nil, _ => by simp only [List.set_nil]; exact .nil
  | _, _, 0, _, _, .cons _ t, e => .cons e t
  | _, _, n + 1, _, _, .cons h t, e => .cons h (t.set n e)
end

/-- the draw state stands -/
def StM (Γ : Gam) (G H : Hp) (s : DS) : Prop := ∃ l, H Γ.M = some (.dK [(Sum.inr "great", .ref l), (Sum.inr "seed", .int s.seed), (Sum.inr "turns", .int s.turns)]) ∧ G l = some (.lst (s.great.map V.int))

/-- an address whose object is neither a table nor a code object -/
def Sf (H : Hp) (a : Addr) : Prop := H a = none ∨ ∃ o, H a = some o ∧ (∀ ps, o ≠ .tbl ps) ∧ ∀ φ, o ≠ .ext φ
section
variable {H : Hp} {a : Addr}
theorem sf_new (h : H a = none) : Sf H a := .inl h
theorem sf_lst {xs : List V} (h : H a = some (.lst xs)) : Sf H a := .inr ⟨_, h, (fun _ z => by cases z), (fun _ z => by cases z)⟩
theorem sf_dK {xs : List (Key × V)} (h : H a = some (.dK xs)) : Sf H a := .inr ⟨_, h, (fun _ z => by cases z), (fun _ z => by cases z)⟩
theorem Sf.ne_code (s : Sf H a) {c : Addr} {q : Str} (h : H c = some (LamX.CodeO c q)) : c ≠ a := by
  rintro rfl
  rcases s with z | ⟨o, z, _, n⟩
  · rw [z] at h; cases h
  · rw [z] at h; cases h; exact n _ rfl
theorem Sf.ne_dn (s : Sf H a) {l : Addr} {φ : Heap → Prop} (h : H l = some (.ext φ)) : l ≠ a := by
  rintro rfl
  rcases s with z | ⟨o, z, _, n⟩
  · rw [z] at h; cases h
  · rw [z] at h; cases h; exact n _ rfl
theorem Sf.ne_tab (s : Sf H a) {T : List (Addr × Str)} (t : LamX.Tabs T H) : ∀ p ∈ T, a ≠ p.1 := by
  rintro p hp rfl
  obtain ⟨ps, h, _⟩ := t p hp
  rcases s with z | ⟨o, z, n, _⟩
  · rw [z] at h; cases h
  · rw [z] at h; cases h; exact n _ rfl
theorem Sf.tabs (s : Sf H a) {T : List (Addr × Str)} (t : LamX.Tabs T H) {o : HO} : LamX.Tabs T (upd H a o) := fun p hp => by
  obtain ⟨ps, h1, h2, h3⟩ := t p hp
  refine ⟨ps, by rw [upd_ne (Ne.symm (s.ne_tab t p hp))]; exact h1, h2, fun pos cv hcv => ?_⟩
  obtain ⟨c, e1, e2⟩ := h3 pos cv hcv
  exact ⟨c, e1, by rw [upd_ne (s.ne_code e2)]; exact e2⟩
end
/-- a dict of one's own, its keys tuples: at most one slot holds one -/
def OdK (K : PySem.W.Frag) (Γ : Gam) (H0 G H : Hp) (v : Option (Option V)) (t : Option Addr) (kvs : List (D × D)) : Prop := ∃ l xs, v = some (some (V.ref l)) ∧ (∀ a, t = some a → a = l) ∧ H l = some (dnO Γ.w l xs) ∧ G l = none ∧ H0 l = none ∧ DvN K Γ G xs kvs
/-- .. its keys whole numbers or texts -/
def OdI (K : PySem.W.Frag) (Γ : Gam) (H0 G H : Hp) (v : Option (Option V)) (kvs : List (Key × D)) : Prop := ∃ l xs, v = some (some (V.ref l)) ∧ H l = some (dkO Γ.w l xs) ∧ G l = none ∧ H0 l = none ∧ DvK K Γ G xs kvs
def isOd : Sl → Bool
  | .odk _ _ => true
  | .odi _ => true
  | _ => false
structure OdA (K : PySem.W.Frag) (Γ : Gam) (H0 G H : Hp) (σ : L2.St) (r : List Sl) : Prop where
  k : ∀ (i : Nat) t kvs, r[i]? = some (Sl.odk t kvs) → OdK K Γ H0 G H σ[i]? t kvs ∧ ∀ (j : Nat) z, isOd z = true → r[j]? = some z → j = i
  i : ∀ (i : Nat) kvs, r[i]? = some (Sl.odi kvs) → OdI K Γ H0 G H σ[i]? kvs ∧ ∀ (j : Nat) z, isOd z = true → r[j]? = some z → j = i
section
variable {K : PySem.W.Frag} {Γ : Gam} {H0 H0' G G' H H' : Hp} {σ σ' : L2.St} {r r' : List Sl}
theorem OdA.tr (h : OdA K Γ H0 G H σ r) (hr : ∀ (i : Nat) z, isOd z = true → r'[i]? = some z → r[i]? = some z ∧ σ'[i]? = σ[i]?) (gr : Gr G G')
    (hk : ∀ l φ, H l = some (.ext φ) → G l = none → H0 l = none → H' l = some (.ext φ) ∧ G' l = none ∧ H0' l = none) : OdA K Γ H0' G' H' σ' r' := by
  refine ⟨fun i t kvs e => ?_, fun i kvs e => ?_⟩
  · obtain ⟨e1, e2⟩ := hr i _ rfl e
    obtain ⟨⟨l, xs, a1, a2, a3, a4, a5, a6⟩, b⟩ := h.k i t kvs e1
    obtain ⟨k1, k2, k3⟩ := hk l _ a3 a4 a5
    exact ⟨⟨l, xs, e2.trans a1, a2, k1, k2, k3, a6.mono gr⟩, fun j z hz q => b j z hz (hr j _ hz q).1⟩
  · obtain ⟨e1, e2⟩ := hr i _ rfl e
    obtain ⟨⟨l, xs, a1, a3, a4, a5, a6⟩, b⟩ := h.i i kvs e1
    obtain ⟨k1, k2, k3⟩ := hk l _ a3 a4 a5
    exact ⟨⟨l, xs, e2.trans a1, k1, k2, k3, a6.mono gr⟩, fun j z hz q => b j z hz (hr j _ hz q).1⟩
theorem OdA.same (h : OdA K Γ H0 G H σ r) (gr : Gr G G') (hk : ∀ l φ, H l = some (.ext φ) → G l = none → H0 l = none → H' l = some (.ext φ) ∧ G' l = none ∧ H0' l = none) : OdA K Γ H0' G' H' σ r := h.tr (fun _ _ _ e => ⟨e, rfl⟩) gr hk
theorem OdA.no (h : ∀ (i : Nat) z, isOd z = true → r[i]? ≠ some z) : OdA K Γ H0 G H σ r := ⟨fun i t kvs e => absurd e (h i _ rfl), fun i kvs e => absurd e (h i _ rfl)⟩
theorem OdA.at_ (h : OdA K Γ H0 G H σ r) {i : Nat} {z : Sl} (hz : isOd z = true) (e : r[i]? = some z) : ∃ l φ, σ[i]? = some (some (V.ref l)) ∧ H l = some (.ext φ) ∧ G l = none ∧ H0 l = none := by
  cases z with
  | odk t kvs => obtain ⟨⟨l, xs, a1, _, a3, a4, a5, _⟩, _⟩ := h.k i _ _ e; exact ⟨l, _, a1, a3, a4, a5⟩
  | odi kvs => obtain ⟨⟨l, xs, a1, a3, a4, a5, _⟩, _⟩ := h.i i _ e; exact ⟨l, _, a1, a3, a4, a5⟩
  | _ => cases hz
theorem OdA.no2 (h : ∀ (i : Nat) t kvs, r[i]? ≠ some (.odk t kvs)) (h2 : ∀ (i : Nat) kvs, r[i]? ≠ some (.odi kvs)) : OdA K Γ H0 G H σ r := ⟨fun i t kvs e => absurd e (h i _ _), fun i kvs e => absurd e (h2 i _)⟩
theorem OdA.uni (h : OdA K Γ H0 G H σ r) {i j : Nat} {z y : Sl} (hz : isOd z = true) (e : r[i]? = some z) (hy : isOd y = true) (e2 : r[j]? = some y) : j = i := by
  cases z with
  | odk t kvs => exact (h.k i _ _ e).2 j y hy e2
  | odi kvs => exact (h.i i _ e).2 j y hy e2
  | _ => cases hz
theorem OdA.h0 (h : OdA K Γ H0 G H σ r) (n : ∀ (i : Nat) z l, isOd z = true → r[i]? = some z → σ[i]? = some (some (V.ref l)) → H0' l = none) : OdA K Γ H0' G H σ r := by
  refine ⟨fun i t kvs e => ?_, fun i kvs e => ?_⟩
  · obtain ⟨⟨l, xs, a1, a2, a3, a4, a5, a6⟩, b⟩ := h.k i t kvs e
    exact ⟨⟨l, xs, a1, a2, a3, a4, n i _ l rfl e a1, a6⟩, b⟩
  · obtain ⟨⟨l, xs, a1, a3, a4, a5, a6⟩, b⟩ := h.i i kvs e
    exact ⟨⟨l, xs, a1, a3, a4, n i _ l rfl e a1, a6⟩, b⟩
/-- another slot than a dict's is set -/
theorem od_set {i : Nat} {z : Sl} {x : Option V} (n : isOd z = false) {j : Nat} {y : Sl} (hy : isOd y = true) (e : (r.set i z)[j]? = some y) : r[j]? = some y ∧ (σ.set i x)[j]? = σ[j]? := by
  by_cases c : j = i
  · subst c
    have il : j < r.length := by have := (List.getElem?_eq_some_iff.mp e).1; simpa using this
    rw [List.getElem?_set_self il] at e
    cases e
    rw [n] at hy; cases hy
  · rw [List.getElem?_set_ne (Ne.symm c)] at e ⊢; exact ⟨e, rfl⟩
theorem dn_ne {a l : Addr} {φ : Heap → Prop} {o : HO} (e : H l = some (.ext φ)) (h : H a = some o) (n : ∀ φ, o ≠ .ext φ) : l ≠ a := by
  rintro rfl
  rw [e] at h; cases h
  exact n _ rfl
end
/-- what is known between two steps of a def: H0, G0 its entry -/
structure En (K : PySem.W.Frag) (Γ : Gam) (H0 G0 G H : Hp) (σ : L2.St) (g : Sg) : Prop where
  base : ∀ a o, Γ.Ok a → H0 a = some o → H a = some o
  gfr : ∀ a o, H0 a = some o → G0 a = none → G a = none
  g0 : Gr G0 G
  sub : Gr G H
  gm : G Γ.M = none
  st : StM Γ G H g.s
  len : g.r.length = σ.length
  dat : ∀ (i : Nat) d, g.r[i]? = some (Sl.dat d) → ∃ v, σ[i]? = some (some v) ∧ Dv K Γ G v d
  own : ∀ (i : Nat) xs, g.r[i]? = some (Sl.own xs) → ∃ l vs, σ[i]? = some (some (V.ref l)) ∧ H l = some (.lst vs) ∧ G l = none ∧ H0 l = none ∧ DvA K Γ G vs xs
  dis : ∀ (i j : Nat) xs ys l, g.r[i]? = some (Sl.own xs) → g.r[j]? = some (Sl.own ys) → σ[i]? = some (some (V.ref l)) → σ[j]? = some (some (V.ref l)) → i = j
  tb : LamX.Tabs Γ.T H
  gt : ∀ p ∈ Γ.T, G p.1 = none
  fn : ∀ (i : Nat) f c q G1, g.r[i]? = some (Sl.fn f c q G1) → σ[i]? = some (some (V.ref f)) ∧ H c = some (LamX.CodeO c q) ∧ Gr G1 G
  odk : OdA K Γ H0 G H σ g.r

theorem StM.gr {Γ : Gam} {G G' H H' : Hp} {s : DS} (h : StM Γ G H s) (e : Gr G G') (hm : H' Γ.M = H Γ.M) : StM Γ G' H' s := by
  obtain ⟨l, h1, h2⟩ := h
  exact ⟨l, hm.trans h1, e _ _ h2⟩

section
variable {K : PySem.W.Frag} {Γ : Gam} {H0 G0 G H : Hp} {σ : L2.St} {g : Sg}
theorem En.hm (E : En K Γ H0 G0 G H σ g) : ∃ o, H Γ.M = some o := let ⟨_, h, _⟩ := E.st; ⟨_, h⟩
theorem En.ok_lst (E : En K Γ H0 G0 G H σ g) {a : Addr} {xs : List V} (h : H a = some (.lst xs)) : Γ.Ok a := by
  refine ⟨?_, (sf_lst h).ne_tab E.tb⟩
  obtain ⟨lm, hM, _⟩ := E.st
  rintro rfl
  rw [hM] at h; cases h
theorem En.ok_code (E : En K Γ H0 G0 G H σ g) {c : Addr} {q : Str} (h : H c = some (LamX.CodeO c q)) : Γ.Ok c := by
  refine ⟨?_, fun p hp z => ?_⟩
  · obtain ⟨lm, hM, _⟩ := E.st
    exact (sf_dK hM).ne_code h
  · obtain ⟨ps, h1, _⟩ := E.tb p hp
    rw [← z, h] at h1
    exact LamX.codeO_ne ps (Option.some.inj h1)
theorem En.ok_dn (E : En K Γ H0 G0 G H σ g) {a : Addr} {φ : Heap → Prop} (h : H a = some (.ext φ)) : Γ.Ok a := by
  obtain ⟨lm, hM, _⟩ := E.st
  refine ⟨fun z => ?_, fun p hp z => ?_⟩
  · rw [z, hM] at h; cases h
  · obtain ⟨ps, h1, _⟩ := E.tb p hp
    rw [← z, h] at h1; cases h1
/-- where the entry has an object there is one -/
theorem En.there (E : En K Γ H0 G0 G H σ g) {a : Addr} {o : HO} (h : H0 a = some o) : ∃ u, H a = some u := by
  by_cases n : Γ.Ok a
  · exact ⟨o, E.base a o n h⟩
  · by_cases m : a = Γ.M
    · rw [m]; exact E.hm
    · have : ∃ p ∈ Γ.T, a = p.1 := Classical.byContradiction fun z => n ⟨m, fun p hp e => z ⟨p, hp, e⟩⟩
      obtain ⟨p, hp, rfl⟩ := this
      obtain ⟨ps, h1, _⟩ := E.tb p hp
      exact ⟨_, h1⟩
theorem En.fnU (E : En K Γ H0 G0 G H σ g) {a : Addr} {o : HO} (s : Sf H a) {f c : Addr} {q : Str} {G1 G' : Hp} {i : Nat} (h : g.r[i]? = some (.fn f c q G1)) (gr : Gr G G') : σ[i]? = some (some (V.ref f)) ∧ upd H a o c = some (LamX.CodeO c q) ∧ Gr G1 G' :=
  let ⟨x, y, z⟩ := E.fn i f c q G1 h; ⟨x, by rw [upd_ne (s.ne_code y)]; exact y, z.trans gr⟩
/-- a slot that holds a function, behind a store elsewhere -/
theorem En.fnSet (E : En K Γ H0 G0 G H σ g) {i : Nat} {x : Option V} {z : Sl} (n : ∀ f c q G1, z ≠ .fn f c q G1) {j : Nat} {f c : Addr} {q : Str} {G1 : Hp} (h : (g.r.set i z)[j]? = some (.fn f c q G1)) : (σ.set i x)[j]? = some (some (V.ref f)) ∧ H c = some (LamX.CodeO c q) ∧ Gr G1 G := by
  by_cases e : j = i
  · subst e
    have il : j < g.r.length := by have := (List.getElem?_eq_some_iff.mp h).1; simpa using this
    rw [List.getElem?_set_self il] at h
    exact absurd (Option.some.inj h) (n f c q G1)
  · rw [List.getElem?_set_ne (Ne.symm e)] at h ⊢; exact E.fn j f c q G1 h
theorem gtU {T : List (Addr × Str)} {G H : Hp} {a : Addr} {o : HO} (h : ∀ p ∈ T, G p.1 = none) (t : LamX.Tabs T H) (s : Sf H a) : ∀ p ∈ T, upd G a o p.1 = none := fun p hp => by
  rw [upd_ne (Ne.symm (s.ne_tab t p hp))]; exact h p hp
/-- a new object that is known and never changes -/
theorem En.new (E : En K Γ H0 G0 G H σ g) {p : Addr} {o : HO} (hp : H p = none) : En K Γ H0 G0 (upd G p o) (upd H p o) σ g := by
  have gp : G p = none := by
    cases h : G p with
    | none => rfl
    | some u => rw [E.sub _ _ h] at hp; cases hp
  have gr : Gr G (upd G p o) := Gr.upd gp
  have hr : Gr H (upd H p o) := Gr.upd hp
  obtain ⟨om, hM⟩ := E.hm
  have pm : Γ.M ≠ p := ne_of_none hM hp
  refine ⟨fun a u n h => hr _ _ (E.base a u n h), fun a u h h' => ?_, E.g0.trans gr, fun a u h => ?_, by rw [upd_ne pm]; exact E.gm, E.st.gr gr (upd_ne pm), E.len, fun i d h => ?_, fun i xs h => ?_, E.dis, (sf_new hp).tabs E.tb, gtU E.gt E.tb (sf_new hp), fun i f c q G1 h => E.fnU (sf_new hp) h gr, E.odk.same gr fun l xs e e1 e2 => (have n := ne_of_none e hp; ⟨by rw [upd_ne n]; exact e, by rw [upd_ne n]; exact e1, e2⟩)⟩
  · have : a ≠ p := by
      rintro rfl
      obtain ⟨u', z⟩ := E.there h
      rw [hp] at z; cases z
    rw [upd_ne this]; exact E.gfr a u h h'
  · by_cases e : a = p
    · subst e; rw [upd_same] at h ⊢; exact h
    · rw [upd_ne e] at h ⊢; exact E.sub a u h
  · obtain ⟨v, h1, h2⟩ := E.dat i d h
    exact ⟨v, h1, h2.mono gr⟩
  · obtain ⟨l, vs, h1, h2, h3, h4, h5⟩ := E.own i xs h
    have lp : l ≠ p := ne_of_none h2 hp
    exact ⟨l, vs, h1, hr _ _ h2, by rw [upd_ne lp]; exact h3, h4, h5.mono gr⟩
/-- a new object that is kept apart -/
theorem En.newO (E : En K Γ H0 G0 G H σ g) {p : Addr} {o : HO} (hp : H p = none) : En K Γ H0 G0 G (upd H p o) σ g := by
  have hr : Gr H (upd H p o) := Gr.upd hp
  obtain ⟨om, hM⟩ := E.hm
  have pm : Γ.M ≠ p := ne_of_none hM hp
  refine ⟨fun a u n h => hr _ _ (E.base a u n h), E.gfr, E.g0, E.sub.trans hr, E.gm, E.st.gr (Gr.refl _) (upd_ne pm), E.len, E.dat, fun i xs h => ?_, E.dis, (sf_new hp).tabs E.tb, E.gt, fun i f c q G1 h => E.fnU (sf_new hp) h (Gr.refl _), E.odk.same (Gr.refl _) fun l xs e e1 e2 => (have n := ne_of_none e hp; ⟨by rw [upd_ne n]; exact e, e1, e2⟩)⟩
  obtain ⟨l, vs, h1, h2, h3, h4, h5⟩ := E.own i xs h
  exact ⟨l, vs, h1, hr _ _ h2, h3, h4, h5⟩
/-- an owned list is let go: it is known from now on -/
theorem En.rel (E : En K Γ H0 G0 G H σ g) {i : Nat} {xs : List D} (hi : g.r[i]? = some (.own xs)) :
    ∃ l G', σ[i]? = some (some (.ref l)) ∧ Gr G G' ∧ Dv K Γ G' (.ref l) (.lst xs) ∧ En K Γ H0 G0 G' H σ ⟨g.r.set i (.dat (.lst xs)), g.s⟩ := by
  obtain ⟨l, vs, h1, h2, h3, h4, h5⟩ := E.own i xs hi
  have gr : Gr G (upd G l (.lst vs)) := Gr.upd h3
  obtain ⟨lm, hM, hG⟩ := E.st
  have ml : Γ.M ≠ l := by rintro rfl; rw [hM] at h2; cases h2
  have il : i < g.r.length := (List.getElem?_eq_some_iff.mp hi).1
  have dl : Dv K Γ (upd G l (.lst vs)) (.ref l) (.lst xs) := .lst upd_same (h5.mono gr)
  refine ⟨l, upd G l (.lst vs), h1, gr, dl, E.base, fun a u h h' => ?_, E.g0.trans gr, fun a u h => ?_, by rw [upd_ne ml]; exact E.gm, ⟨lm, hM, gr _ _ hG⟩, by simpa using E.len, fun j d h => ?_, fun j zs h => ?_, fun j k zs us q e1 e2 e3 e4 => ?_, E.tb, gtU E.gt E.tb (sf_lst h2), fun j f c q G1 h => ?_, E.odk.tr (fun j y hy e => ⟨(od_set (σ := σ) (x := none) rfl hy e).1, rfl⟩) gr fun l' xs' e e1 e2 => (have n := dn_ne e h2 (fun _ z => by cases z); ⟨e, by rw [upd_ne n]; exact e1, e2⟩)⟩
  · have : a ≠ l := by rintro rfl; rw [h4] at h; cases h
    rw [upd_ne this]; exact E.gfr a u h h'
  · by_cases e : a = l
    · subst e; rw [upd_same] at h; cases h; exact h2
    · rw [upd_ne e] at h; exact E.sub a u h
  · by_cases e : j = i
    · subst e; rw [List.getElem?_set_self il] at h; cases h
      exact ⟨_, h1, dl⟩
    · rw [List.getElem?_set_ne (Ne.symm e)] at h
      obtain ⟨v, k1, k2⟩ := E.dat j d h
      exact ⟨v, k1, k2.mono gr⟩
  · by_cases e : j = i
    · subst e; rw [List.getElem?_set_self il] at h; cases h
    · rw [List.getElem?_set_ne (Ne.symm e)] at h
      obtain ⟨l2, v2, k1, k2, k3, k4, k5⟩ := E.own j zs h
      have : l2 ≠ l := by rintro rfl; exact e (E.dis j i zs xs l2 h hi k1 h1)
      exact ⟨l2, v2, k1, k2, by rw [upd_ne this]; exact k3, k4, k5.mono gr⟩
  · have e1' : ∃ z, g.r[j]? = some (.own z) := by
      by_cases e : j = i
      · subst e; exact ⟨_, hi⟩
      · rw [List.getElem?_set_ne (Ne.symm e)] at e1; exact ⟨_, e1⟩
    have e2' : ∃ z, g.r[k]? = some (.own z) := by
      by_cases e : k = i
      · subst e; exact ⟨_, hi⟩
      · rw [List.getElem?_set_ne (Ne.symm e)] at e2; exact ⟨_, e2⟩
    obtain ⟨z1, e1'⟩ := e1'
    obtain ⟨z2, e2'⟩ := e2'
    exact E.dis j k z1 z2 q e1' e2' e3 e4
  · by_cases e : j = i
    · subst e; rw [List.getElem?_set_self il] at h; cases h
    · rw [List.getElem?_set_ne (Ne.symm e)] at h; exact (let ⟨x, y, z⟩ := E.fn j f c q G1 h; ⟨x, y, z.trans gr⟩)
/-- a dict of one's own is told to all -/
theorem En.relX (E : En K Γ H0 G0 G H σ g) {i : Nat} {z0 : Sl} (hz0 : isOd z0 = true) (hi : g.r[i]? = some z0) {l : Addr} {φ0 : Heap → Prop} (h1 : σ[i]? = some (some (V.ref l))) (h2 : H l = some (.ext φ0)) {o' : HO} {d0 : D}
    (dl : Dv K Γ (upd G l o') (.ref l) d0) (nc : ∀ c q, H c = some (LamX.CodeO c q) → c ≠ l) : En K Γ H0 G0 (upd G l o') (upd H l o') σ ⟨g.r.set i (.dat d0), g.s⟩ := by
  obtain ⟨l', _, a1, a2, h3, h4⟩ := E.odk.at_ hz0 hi
  rw [h1] at a1; cases a1
  have gr : Gr G (upd G l o') := Gr.upd h3
  obtain ⟨lm, hM, hG⟩ := E.st
  have okl := E.ok_dn h2
  have ml : Γ.M ≠ l := fun z => okl.1 z.symm
  have il : i < g.r.length := (List.getElem?_eq_some_iff.mp hi).1
  have other : ∀ (j : Nat) z, (∀ d, z ≠ Sl.dat d) → (g.r.set i (.dat d0))[j]? = some z → j ≠ i ∧ g.r[j]? = some z := fun j z hz h' => by
    by_cases e : j = i
    · subst e
      rw [List.getElem?_set_self il] at h'; exact absurd (Option.some.inj h').symm (hz _)
    · rw [List.getElem?_set_ne (Ne.symm e)] at h'; exact ⟨e, h'⟩
  refine ⟨fun a u n h => ?_, fun a u h h' => ?_, E.g0.trans gr, fun a u h => ?_, by rw [upd_ne ml]; exact E.gm, ⟨lm, by rw [upd_ne ml]; exact hM, gr _ _ hG⟩, by simpa using E.len, fun j d h => ?_, fun j zs h => ?_, fun j k zs us q e1 e2 e3 e4 => ?_, fun p hp => ?_, fun p hp => ?_, fun j f c q G1 h => ?_, OdA.no fun j z hz h => ?_⟩
  · have : a ≠ l := by rintro rfl; rw [h4] at h; cases h
    rw [upd_ne this]; exact E.base a u n h
  · have : a ≠ l := by rintro rfl; rw [h4] at h; cases h
    rw [upd_ne this]; exact E.gfr a u h h'
  · by_cases e : a = l
    · subst e; rw [upd_same] at h ⊢; exact h
    · rw [upd_ne e] at h ⊢; exact E.sub a u h
  · by_cases e : j = i
    · subst e; rw [List.getElem?_set_self il] at h; cases h
      exact ⟨_, h1, dl⟩
    · rw [List.getElem?_set_ne (Ne.symm e)] at h
      obtain ⟨v, k1, k2⟩ := E.dat j d h
      exact ⟨v, k1, k2.mono gr⟩
  · obtain ⟨l2, v2, k1, k2, k3, k4, k5⟩ := E.own j zs (other j _ (fun _ z => by cases z) h).2
    have : l2 ≠ l := (dn_ne h2 k2 fun _ z => by cases z).symm
    exact ⟨l2, v2, k1, by rw [upd_ne this]; exact k2, by rw [upd_ne this]; exact k3, k4, k5.mono gr⟩
  · exact E.dis j k zs us q (other j _ (fun _ z => by cases z) e1).2 (other k _ (fun _ z => by cases z) e2).2 e3 e4
  · obtain ⟨ps, q1, q2, q3⟩ := E.tb p hp
    refine ⟨ps, by rw [upd_ne (Ne.symm (okl.2 p hp))]; exact q1, q2, fun pos cv hcv => ?_⟩
    obtain ⟨c, e1, e2⟩ := q3 pos cv hcv
    exact ⟨c, e1, by rw [upd_ne (nc c _ e2)]; exact e2⟩
  · rw [upd_ne (Ne.symm (okl.2 p hp))]; exact E.gt p hp
  · obtain ⟨x, y, z⟩ := E.fn j f c q G1 (other j _ (fun _ z => by cases z) h).2
    exact ⟨x, by rw [upd_ne (nc c _ y)]; exact y, z.trans gr⟩
  · obtain ⟨n, h⟩ := other j z (fun _ e => by rw [e] at hz; cases hz) h
    exact n (E.odk.uni hz0 hi hz h)
/-- a dict of one's own is let go: it is known from now on -/
theorem En.relF (E : En K Γ H0 G0 G H σ g) {i : Nat} {t : Option Addr} {kvs : List (D × D)} (hi : g.r[i]? = some (.odk t kvs)) :
    ∃ l xs, σ[i]? = some (some (.ref l)) ∧ H l = some (dnO Γ.w l xs) ∧ ∀ o : Obj, (∀ c q, H c = some (LamX.CodeO c q) → c ≠ l) → ∃ G', Gr G G' ∧ Dv K Γ G' (.ref l) (.dkn kvs) ∧ En K Γ H0 G0 G' (upd H l (dfO Γ.w l o xs)) σ ⟨g.r.set i (.dat (.dkn kvs)), g.s⟩ := by
  obtain ⟨⟨l, xs, h1, _, h2, h3, h4, h5⟩, uni⟩ := E.odk.k i _ _ hi
  refine ⟨l, xs, h1, h2, fun o nc => ?_⟩
  have gr : Gr G (upd G l (dfO Γ.w l o xs)) := Gr.upd h3
  have dl : Dv K Γ (upd G l (dfO Γ.w l o xs)) (.ref l) (.dkn kvs) := .dkn upd_same (h5.mono gr)
  exact ⟨_, gr, dl, E.relX rfl hi h1 h2 dl nc⟩
/-- a slot gets a value -/
theorem En.set (E : En K Γ H0 G0 G H σ g) (i : Nat) {v : V} {d : D} (h : Dv K Γ G v d) : En K Γ H0 G0 G H (σ.set i (some v)) ⟨g.r.set i (.dat d), g.s⟩ := by
  refine ⟨E.base, E.gfr, E.g0, E.sub, E.gm, E.st, by simpa using E.len, fun j d' h' => ?_, fun j zs h' => ?_, fun j k zs us q e1 e2 e3 e4 => ?_, E.tb, E.gt, fun j f c q G1 h' => E.fnSet (fun _ _ _ _ z => by cases z) h', E.odk.tr (fun j y hy e => od_set rfl hy e) (Gr.refl _) fun _ _ e e1 e2 => ⟨e, e1, e2⟩⟩
  · by_cases e : j = i
    · subst e
      have il : j < g.r.length := by have := (List.getElem?_eq_some_iff.mp h').1; simpa using this
      rw [List.getElem?_set_self il] at h'; cases h'
      exact ⟨v, by rw [List.getElem?_set_self (by rw [← E.len]; exact il)], h⟩
    · rw [List.getElem?_set_ne (Ne.symm e)] at h' ⊢; exact E.dat j d' h'
  · by_cases e : j = i
    · subst e
      have il : j < g.r.length := by have := (List.getElem?_eq_some_iff.mp h').1; simpa using this
      rw [List.getElem?_set_self il] at h'; cases h'
    · rw [List.getElem?_set_ne (Ne.symm e)] at h' ⊢; exact E.own j zs h'
  · have f : ∀ (j : Nat) z, (g.r.set i (.dat d))[j]? = some (.own z) → j ≠ i ∧ g.r[j]? = some (.own z) := fun j z h' => by
      by_cases e : j = i
      · subst e
        have il : j < g.r.length := by have := (List.getElem?_eq_some_iff.mp h').1; simpa using this
        rw [List.getElem?_set_self il] at h'; cases h'
      · rw [List.getElem?_set_ne (Ne.symm e)] at h'; exact ⟨e, h'⟩
    obtain ⟨n1, f1⟩ := f j zs e1
    obtain ⟨n2, f2⟩ := f k us e2
    rw [List.getElem?_set_ne (Ne.symm n1)] at e3
    rw [List.getElem?_set_ne (Ne.symm n2)] at e4
    exact E.dis j k zs us q f1 f2 e3 e4
/-- a list that stands apart -/
structure Fre (K : PySem.W.Frag) (Γ : Gam) (H0 G H : Hp) (σ : L2.St) (g : Sg) (v : V) (ds : List D) : Prop where
  at_ : ∃ p vs, v = .ref p ∧ H p = some (.lst vs) ∧ G p = none ∧ H0 p = none ∧ DvA K Γ G vs ds ∧ ∀ (i : Nat) zs, g.r[i]? = some (.own zs) → σ[i]? ≠ some (some (.ref p))
/-- the same, all that stands now taken for the entry's -/
theorem En.rebase2 (E : En K Γ H0 G0 G H σ g) : ∃ H1 : Hp, (∀ a o, H1 a = some o → H a = some o) ∧ (∀ a o, H a = some o → a ≠ Γ.M → (∀ (i : Nat) xs, g.r[i]? = some (Sl.own xs) → σ[i]? ≠ some (some (V.ref a))) → (hdn : ∀ φ, o ≠ .ext φ := by intro _ z; cases z) → H1 a = some o) ∧ En K Γ H1 G G H σ g ∧
    (∀ G' H' σ' g', En K Γ H1 G G' H' σ' g' → En K Γ H0 G0 G' H' σ' g') ∧ ∀ a o, Γ.Ok a → H0 a = some o → H1 a = some o := by
  classical
  have hH1 : ∃ H1 : Hp, ∀ a, (a ≠ Γ.M ∧ (∀ (i : Nat) xs, g.r[i]? = some (Sl.own xs) → σ[i]? ≠ some (some (V.ref a))) ∧ (∀ (i : Nat) z, isOd z = true → g.r[i]? = some z → σ[i]? ≠ some (some (V.ref a))) ∧ H1 a = H a) ∨ (¬ (a ≠ Γ.M ∧ (∀ (i : Nat) xs, g.r[i]? = some (Sl.own xs) → σ[i]? ≠ some (some (V.ref a))) ∧ ∀ (i : Nat) z, isOd z = true → g.r[i]? = some z → σ[i]? ≠ some (some (V.ref a))) ∧ H1 a = none) := by
    refine ⟨fun a => if a ≠ Γ.M ∧ (∀ (i : Nat) xs, g.r[i]? = some (Sl.own xs) → σ[i]? ≠ some (some (V.ref a))) ∧ ∀ (i : Nat) z, isOd z = true → g.r[i]? = some z → σ[i]? ≠ some (some (V.ref a)) then H a else none, fun a => ?_⟩
    by_cases c : a ≠ Γ.M ∧ (∀ (i : Nat) xs, g.r[i]? = some (Sl.own xs) → σ[i]? ≠ some (some (V.ref a))) ∧ ∀ (i : Nat) z, isOd z = true → g.r[i]? = some z → σ[i]? ≠ some (some (V.ref a))
    · exact .inl ⟨c.1, c.2.1, c.2.2, if_pos c⟩
    · exact .inr ⟨c, if_neg c⟩
  obtain ⟨H1, hH1⟩ := hH1
  have up : ∀ a o, H1 a = some o → H a = some o ∧ a ≠ Γ.M := fun a o h => by
    rcases hH1 a with ⟨n, _, _, e⟩ | ⟨_, e⟩
    · exact ⟨e ▸ h, n⟩
    · rw [e] at h; cases h
  have dn0 : ∀ a o, H a = some o → a ≠ Γ.M → (∀ (i : Nat) xs, g.r[i]? = some (Sl.own xs) → σ[i]? ≠ some (some (V.ref a))) → (∀ (i : Nat) z, isOd z = true → g.r[i]? = some z → σ[i]? ≠ some (some (V.ref a))) → H1 a = some o := fun a o h n k k2 => by
    rcases hH1 a with ⟨_, _, _, e⟩ | ⟨c, _⟩
    · rw [e]; exact h
    · exact absurd ⟨n, k, k2⟩ c
  have dn : ∀ a o, H a = some o → a ≠ Γ.M → (∀ (i : Nat) xs, g.r[i]? = some (Sl.own xs) → σ[i]? ≠ some (some (V.ref a))) → (∀ φ, o ≠ .ext φ) → H1 a = some o := fun a o h n k nd => dn0 a o h n k fun i z hz hi hs => by
    obtain ⟨l, φ, e1, e3, _⟩ := E.odk.at_ hz hi
    rw [hs] at e1; cases e1
    exact dn_ne e3 h nd rfl
  have ow : ∀ (i : Nat) xs l, g.r[i]? = some (Sl.own xs) → σ[i]? = some (some (V.ref l)) → H1 l = none := fun i xs l h k => by
    rcases hH1 l with ⟨_, c, _, _⟩ | ⟨_, e⟩
    · exact absurd k (c i xs h)
    · exact e
  have od : ∀ (i : Nat) z l, isOd z = true → g.r[i]? = some z → σ[i]? = some (some (V.ref l)) → H1 l = none := fun i z l hz h k => by
    rcases hH1 l with ⟨_, _, c, _⟩ | ⟨_, e⟩
    · exact absurd k (c i z hz h)
    · exact e
  -- what the entry has, the new one has
  have ent : ∀ a o, Γ.Ok a → H0 a = some o → H1 a = some o := fun a o n h => dn0 a o (E.base a o n h) n.1 (fun i xs hi hs => by
      obtain ⟨l, vs, h1, _, _, h4, _⟩ := E.own i xs hi
      rw [hs] at h1; cases h1; rw [h4] at h; cases h) fun i z hz hi hs => by
      obtain ⟨l, φ, e1, _, _, e5⟩ := E.odk.at_ hz hi
      rw [hs] at e1; cases e1; rw [e5] at h; cases h
  refine ⟨H1, fun a o h => (up a o h).1, fun a o h n k nd => dn a o h n k nd, ⟨fun a o _ h => (up a o h).1, fun a o _ h => h, Gr.refl _, E.sub, E.gm, E.st, E.len, E.dat, fun i xs h => ?_, E.dis, E.tb, E.gt, E.fn, E.odk.h0 fun i z l hz h h1 => od i z l hz h h1⟩, fun G' H' σ' g' F => ⟨fun a o n h => ?_, fun a o h h' => ?_, E.g0.trans F.g0, F.sub, F.gm, F.st, F.len, F.dat, fun i xs h => ?_, F.dis, F.tb, F.gt, F.fn, F.odk.h0 fun i z l hz h h1 => ?_⟩, ent⟩
  · obtain ⟨l, vs, h1, h2, h3, _, h5⟩ := E.own i xs h
    exact ⟨l, vs, h1, h2, h3, ow i xs l h h1, h5⟩
  · exact F.base a o n (ent a o n h)
  · by_cases n : Γ.Ok a
    case neg =>
      by_cases m : a = Γ.M
      · rw [m]; exact F.gm
      · have : ∃ p ∈ Γ.T, a = p.1 := Classical.byContradiction fun z => n ⟨m, fun p hp e => z ⟨p, hp, e⟩⟩
        obtain ⟨p, hp, rfl⟩ := this
        exact F.gt p hp
    · exact F.gfr a o (ent a o n h) (E.gfr a o h h')
  · obtain ⟨l, vs, h1, h2, h3, h4, h5⟩ := F.own i xs h
    refine ⟨l, vs, h1, h2, h3, ?_, h5⟩
    cases z : H0 l with
    | none => rfl
    | some o => rw [ent l o (F.ok_lst h2) z] at h4; cases h4
  · obtain ⟨l', φ, e1, e3, e4, e5⟩ := F.odk.at_ hz h
    rw [h1] at e1; cases e1
    cases z : H0 l with
    | none => rfl
    | some o => rw [ent l o (F.ok_dn e3) z] at e5; cases e5
theorem En.rebase (E : En K Γ H0 G0 G H σ g) : ∃ H1 : Hp, (∀ a o, H1 a = some o → H a = some o) ∧ (∀ a o, H a = some o → a ≠ Γ.M → (∀ (i : Nat) xs, g.r[i]? = some (Sl.own xs) → σ[i]? ≠ some (some (V.ref a))) → (hdn : ∀ φ, o ≠ .ext φ := by intro _ z; cases z) → H1 a = some o) ∧ En K Γ H1 G G H σ g ∧
    ∀ G' H' σ' g', En K Γ H1 G G' H' σ' g' → En K Γ H0 G0 G' H' σ' g' :=
  let ⟨H1, a, b, c, d, _⟩ := E.rebase2
  ⟨H1, a, fun x o e1 e2 e3 nd => b x o e1 e2 e3 nd, c, d⟩
end
end DE
namespace DE
open PyProof.Rows PySem.Spec PySem L2

/-! ### programs over data -/
abbrev Res (α : Type) := Option (Except Exn α × Sg)
abbrev Mo (α : Type) := Sg → Res α
def bd {α β : Type} (f : Mo α) (k : α → Mo β) : Mo β := fun g => match f g with
  | none => none
  | some (.error x, g1) => some (.error x, g1)
  | some (.ok a, g1) => k a g1
def rt {α : Type} (a : α) : Mo α := fun g => some (.ok a, g)
def stop {α : Type} : Mo α := fun _ => none
def ofO {α : Type} : Option α → Mo α
  | some a => rt a
  | none => stop
@[simp] theorem bd_rt {α β : Type} (a : α) (k : α → Mo β) : bd (rt a) k = k a := rfl
@[simp] theorem bd_stop {α β : Type} (k : α → Mo β) : bd (stop : Mo α) k = stop := rfl

def ExD (K : PySem.W.Frag) (Γ : Gam) (G : Hp) (C : Value) (dd : Option Addr) (x : Exn) : Prop := (∃ a d f v, Γ.cl x.c = some (a, f) ∧ C = .ref a ∧ dd = some d ∧ G d = some (.xd [(f, v)]) ∧ Dv K Γ G v x.v) ∨ ∃ a, Γ.cl x.c = some (a, ("" : Str)) ∧ C = .ref a ∧ dd = none ∧ x.v = .non

abbrev Rel (β α : Type) := Hp → Hp → Hp → L2.St → Sg → β → α → Prop
section
variable (K : PySem.W.Frag) (Γ : Gam) (W : WX) {α β : Type}
def tAt (R : Rel β α) (f : Mo α) (H0 G0 G : Hp) (g : Sg) (σ : L2.St) (H : Hp) (Q : β → Hp → Prop) : Prop :=
  En K Γ H0 G0 G H σ g ∧ ∃ r g', f g = some (r, g') ∧ match r with
    | .ok d => ∀ v G' H', Gr G G' → En K Γ H0 G0 G' H' σ g' → R H0 G' H' σ g' v d → Q v H'
    | .error x => ∀ C dd G' H', Gr G G' → En K Γ H0 G0 G' H' σ g' → ExD K Γ G' C dd x → W C dd σ H'
def tG (R : Rel β α) (f : Mo α) : L2.St → Hp → (β → Hp → Prop) → Prop := fun σ H Q => ∃ H0 G0 G g, tAt K Γ W R f H0 G0 G g σ H Q
def RD : Rel V D := fun _ G _ _ _ v d => Dv K Γ G v d
def RA : Rel (List V) (List D) := fun _ G _ _ _ v d => DvA K Γ G v d
def RB : Rel Bool Bool := fun _ _ _ _ _ v d => v = d
def RF : Rel V (List D) := fun H0 G H σ g v d => Fre K Γ H0 G H σ g v d
/-- a list as it stands, of one's own or known -/
def RP : Rel V (List D) := fun _ G H _ _ v d => ∃ l vs, v = .ref l ∧ (SqL K H l vs ∨ SqT K G l vs) ∧ DvA K Γ G vs d
end

section
variable {K : PySem.W.Frag} {Γ : Gam} {W : WX} {α β α' β' : Type}
theorem tAt.bind {R : Rel β α} {R1 : Rel β' α'} {f : Mo α'} {k : α' → Mo α} {H0 G0 G H : Hp} {g : Sg} {σ : L2.St} {Q : β → Hp → Prop} {P : β' → Hp → Prop}
    (h : tAt K Γ W R (bd f k) H0 G0 G g σ H Q) (hp : ∀ d v g1 G1 H1, Gr G G1 → R1 H0 G1 H1 σ g1 v d → tAt K Γ W R (k d) H0 G0 G1 g1 σ H1 Q → P v H1) : tAt K Γ W R1 f H0 G0 G g σ H P := by
  obtain ⟨E, r, g', e, q⟩ := h
  refine ⟨E, ?_⟩
  unfold bd at e
  cases hf : f g with
  | none => (rw [hf] at e); cases e
  | some p =>
    obtain ⟨r1, g1⟩ := p
    rw [hf] at e
    cases r1 with
    | error x =>
      cases e
      exact ⟨.error x, _, rfl, q⟩
    | ok d =>
      refine ⟨.ok d, g1, rfl, fun v G1 H1 gr E1 r1 => hp d v g1 G1 H1 gr r1 ⟨E1, r, g', e, ?_⟩⟩
      cases r with
      | ok d2 => exact fun v2 G2 H2 gr2 => q v2 G2 H2 (gr.trans gr2)
      | error x => exact fun C dd G2 H2 gr2 => q C dd G2 H2 (gr.trans gr2)
theorem tG.bind {R : Rel β α} {R1 : Rel β' α'} {f : Mo α'} {k : α' → Mo α} {H : Hp} {σ : L2.St} {Q : β → Hp → Prop} {P : β' → Hp → Prop}
    (h : tG K Γ W R (bd f k) σ H Q) (hp : ∀ H0 G0 d v g1 G1 H1, R1 H0 G1 H1 σ g1 v d → tAt K Γ W R (k d) H0 G0 G1 g1 σ H1 Q → P v H1) : tG K Γ W R1 f σ H P := by
  obtain ⟨H0, G0, G, g, h⟩ := h
  exact ⟨H0, G0, G, g, h.bind fun d v g1 G1 H1 _ => hp H0 G0 d v g1 G1 H1⟩
theorem tAt.g {R : Rel β α} {f : Mo α} {H0 G0 G H : Hp} {g : Sg} {σ : L2.St} {Q : β → Hp → Prop} (h : tAt K Γ W R f H0 G0 G g σ H Q) : tG K Γ W R f σ H Q := ⟨H0, G0, G, g, h⟩
theorem tAt.stop {R : Rel β α} {H0 G0 G H : Hp} {g : Sg} {σ : L2.St} {Q : β → Hp → Prop} {P : Prop} (h : tAt K Γ W R stop H0 G0 G g σ H Q) : P := by
  obtain ⟨_, _, _, e, _⟩ := h
  cases e
/-- the end: the very value -/
theorem tAt.here {R : Rel β α} {d : α} {v : β} {H0 G0 G H : Hp} {g : Sg} {σ : L2.St} {Q : β → Hp → Prop} (h : tAt K Γ W R (rt d) H0 G0 G g σ H Q) (r : R H0 G H σ g v d) : Q v H := by
  obtain ⟨E, _, _, e, q⟩ := h
  cases e
  exact q v G H (Gr.refl _) E r
/-- the end: a new known object -/
theorem tAt.new {d : D} {p : Addr} {o : HO} {H0 G0 G H : Hp} {g : Sg} {σ : L2.St} {Q : VK} (h : tAt K Γ W (RD K Γ) (rt d) H0 G0 G g σ H Q) (hp : H p = none) (r : Dv K Γ (upd G p o) (.ref p) d) : Q (.ref p) (upd H p o) := by
  obtain ⟨E, _, _, e, q⟩ := h
  cases e
  have gp : G p = none := by
    cases h : G p with
    | none => rfl
    | some u => rw [E.sub _ _ h] at hp; cases hp
  exact q (.ref p) _ _ (Gr.upd gp) (E.new hp) r
/-- the end: a new list of one's own -/
theorem tAt.newO {ds : List D} {vs : List V} {p : Addr} {H0 G0 G H : Hp} {g : Sg} {σ : L2.St} {Q : VK} (h : tAt K Γ W (RF K Γ) (rt ds) H0 G0 G g σ H Q) (hp : H p = none) (r : DvA K Γ G vs ds) : Q (.ref p) (upd H p (.lst vs)) := by
  obtain ⟨E, _, _, e, q⟩ := h
  cases e
  have gp : G p = none := by
    cases h : G p with
    | none => rfl
    | some u => rw [E.sub _ _ h] at hp; cases hp
  have h0 : H0 p = none := by
    cases h : H0 p with
    | none => rfl
    | some u =>
      obtain ⟨u', z⟩ := E.there h
      rw [hp] at z; cases z
  refine q (.ref p) _ _ (Gr.refl _) (E.newO hp) ⟨p, vs, rfl, upd_same, gp, h0, r, fun i zs hi => ?_⟩
  obtain ⟨l, _, k1, k2, _⟩ := E.own i zs hi
  rw [k1]
  intro z
  cases z
  rw [k2] at hp; cases hp
theorem tAt.en {R : Rel β α} {f : Mo α} {H0 G0 G H : Hp} {g : Sg} {σ : L2.St} {Q : β → Hp → Prop} (h : tAt K Γ W R f H0 G0 G g σ H Q) : En K Γ H0 G0 G H σ g := h.1
/-- a list of one's own that no name holds is known from now on -/
theorem En.free {H0 G0 G H : Hp} {σ : L2.St} {g : Sg} (E : En K Γ H0 G0 G H σ g) {v : V} {ds : List D} (hF : Fre K Γ H0 G H σ g v ds) : ∃ G', Gr G G' ∧ Dv K Γ G' v (.lst ds) ∧ En K Γ H0 G0 G' H σ g := by
  obtain ⟨p, vs, rfl, h1, h2, h3, h4, h5⟩ := hF.at_
  have gr : Gr G (upd G p (.lst vs)) := Gr.upd h2
  obtain ⟨lm, hM, hG⟩ := E.st
  have ml : Γ.M ≠ p := by rintro rfl; rw [hM] at h1; cases h1
  refine ⟨_, gr, .lst upd_same (h4.mono gr), E.base, fun a u h h' => ?_, E.g0.trans gr, fun a u h => ?_, by rw [upd_ne ml]; exact E.gm, ⟨lm, hM, gr _ _ hG⟩, E.len, fun j d h => ?_, fun j zs h => ?_, E.dis, E.tb, gtU E.gt E.tb (sf_lst h1), fun i f c q G1 h => (let ⟨x, y, z⟩ := E.fn i f c q G1 h; ⟨x, y, z.trans gr⟩), E.odk.same gr fun l' xs' e e1 e2 => (have n := (sf_lst h1).ne_dn e; ⟨e, by rw [upd_ne n]; exact e1, e2⟩)⟩
  · have : a ≠ p := by rintro rfl; rw [h3] at h; cases h
    rw [upd_ne this]; exact E.gfr a u h h'
  · by_cases e : a = p
    · subst e; rw [upd_same] at h; cases h; exact h1
    · rw [upd_ne e] at h; exact E.sub a u h
  · obtain ⟨v, k1, k2⟩ := E.dat j d h
    exact ⟨v, k1, k2.mono gr⟩
  · obtain ⟨l2, v2, k1, k2, k3, k4, k5⟩ := E.own j zs h
    have : l2 ≠ p := by rintro rfl; exact h5 j zs h k1
    exact ⟨l2, v2, k1, k2, by rw [upd_ne this]; exact k3, k4, k5.mono gr⟩
end

/-! ### judgements -/
theorem _root_.L2.PE.imp {X : Cx} {e : Expr} {t t' : TE} (h : PE X e t) (k : ∀ σ H Q, t' σ H Q → t σ H Q) : PE X e t' := ⟨fun p s σ H Q I q => h.run p s σ H Q I (k _ _ _ q)⟩
theorem _root_.L2.PT.imp {X : Cx} {e : Expr} {t t' : TT} (h : PT X e t) (k : ∀ σ H Q, t' σ H Q → t σ H Q) : PT X e t' := ⟨fun p s σ H Q I q => h.run p s σ H Q I (k _ _ _ q)⟩
theorem _root_.L2.PW.imp {X : Cx} {e : Expr} {t t' : TT} (h : PW X e t) (k : ∀ σ H Q, t' σ H Q → t σ H Q) : PW X e t' := ⟨fun w p s σ H Q I q => h.run w p s σ H Q I (k _ _ _ q)⟩
theorem _root_.L2.PA.imp {X : Cx} {e : List Expr} {t t' : TA} (h : PA X e t) (k : ∀ σ H Q, t' σ H Q → t σ H Q) : PA X e t' := ⟨fun w p s σ H Q I q => h.run w p s σ H Q I (k _ _ _ q)⟩
theorem _root_.L2.PS.imp {X : Cx} {e : Stmt} {t t' : TS} (h : PS X e t) (k : ∀ D σ H, t' D σ H → t D σ H) : PS X e t' := ⟨fun p s σ H D I q => h.run p s σ H D I (k _ _ _ q)⟩
theorem _root_.L2.PSs.imp {X : Cx} {e : List Stmt} {t t' : TS} (h : PSs X e t) (k : ∀ D σ H, t' D σ H → t D σ H) : PSs X e t' := ⟨fun p s σ H D I q => h.run p s σ H D I (k _ _ _ q)⟩

abbrev DX (X : Cx) (Γ : Gam) (W : WX) (e : Expr) (f : Mo D) : Prop := PE X e (tG X.K Γ W (RD X.K Γ) f)
abbrev DF (X : Cx) (Γ : Gam) (W : WX) (e : Expr) (f : Mo (List D)) : Prop := PE X e (tG X.K Γ W (RF X.K Γ) f)
abbrev DP (X : Cx) (Γ : Gam) (W : WX) (e : Expr) (f : Mo (List D)) : Prop := PE X e (tG X.K Γ W (RP X.K Γ) f)
abbrev DA (X : Cx) (Γ : Gam) (W : WX) (e : List Expr) (f : Mo (List D)) : Prop := PA X e (tG X.K Γ W (RA X.K Γ) f)
abbrev DT (X : Cx) (Γ : Gam) (W : WX) (e : Expr) (f : Mo Bool) : Prop := PT X e (tG X.K Γ W RB f)
abbrev DW (X : Cx) (Γ : Gam) (W : WX) (e : Expr) (f : Mo Bool) : Prop := PW X e (tG X.K Γ W RB f)

section
variable {X : Cx} {Γ : Gam} {W : WX} {a b e : Expr} {es : List Expr} {pos : Pos}
/-! ### names, constants -/
def fName (i : Nat) : Mo D := fun g => match g.r[i]? with
  | some (.dat d) => some (.ok d, g)
  | some (.own xs) => some (.ok (.lst xs), ⟨g.r.set i (.dat (.lst xs)), g.s⟩)
  | some (.odk _ kvs) => some (.ok (.dkn kvs), ⟨g.r.set i (.dat (.dkn kvs)), g.s⟩)
  | _ => none
/-- an `.ext` object is the very one that stands there from now on -/
theorem fix_ext {pins : List (Addr × Obj)} {σ : L2.St} {H : Hp} {s : Shared} {l : Addr} {xs : NKV} {w : World} (I : L2.Inv X pins σ H s) (e : H l = some (dnO w l xs)) : (∀ c q, H c = some (LamX.CodeO c q) → c ≠ l) ∧ ∃ o, L2.Inv X pins σ (upd H l (dfO w l o xs)) s := by
  have k := (show ObjOk X.prog X.w H s.heap l (dnO w l xs) from I.hok l _ e)
  obtain ⟨φ, ⟨o, ho⟩, st⟩ := k
  refine ⟨?_, o, L2.d_write (h' := s.heap) (t' := s.toks) I (by rw [e]; exact True.intro) (Heap.SameBut.refl _ _) ⟨o, ho⟩ ⟨ho, φ, ⟨o, ho⟩, st⟩⟩
  rintro c q h rfl
  obtain ⟨ys, _, _, _, o', es, ep, h1, _, h3, _⟩ := φ
  obtain ⟨⟨oc, vs, t, k1, k2, _⟩, _, _⟩ := (show ObjOk X.prog X.w H s.heap c (LamX.CodeO c q) from I.hok c _ h)
  rw [h1] at k1; cases k1
  rw [h3] at k2; cases k2
/-- a name: what it holds; a dict of one's own is let go -/
def tVarK (i : Nat) : TE := fun σ H Q => ∃ v, σ[i]? = some (some v) ∧ (Q v H ∨ ∃ w l xs, v = .ref l ∧ H l = some (dnO w l xs) ∧ ∀ o, (∀ c q, H c = some (LamX.CodeO c q) → c ≠ l) → Q v (upd H l (dfO w l o xs)))
theorem pe_varK {i : Nat} {x : Str} {pos : Pos} (hN : X.N[i]? = some x) (hv : Vis X.env.scope x) (hd : (x == ("__debug__" : Str)) = false := by decide) (hcd : (x == ("__classdict__" : Str)) = false := by decide) : PE X (.Name x pos) (tVarK i) := by
  refine ⟨fun pins s σ H Q I ⟨v, e, h⟩ => ?_⟩
  rcases h with h | ⟨w, l, xs, rfl, hl, h⟩
  · exact (pe_var hN hv hd hcd).run pins s σ H Q I ⟨v, e, h⟩
  · refine wpAny_mono ((pe_var (pos := pos) hN hv hd hcd).run pins s σ H (fun v' H' => v' = .ref l ∧ H' = H) I ⟨_, e, rfl, rfl⟩) (fun u s1 ⟨v', H', I', r, e1, e2⟩ => ?_) fun _ _ z => z
    subst e1 e2
    obtain ⟨nc, o, I2⟩ := fix_ext I' hl
    exact ⟨.ref l, _, I2, r, h o nc⟩
theorem dv_ (i : Nat) {x : Str} {pos : Pos} (hN : X.N[i]? = some x := by rfl) (hv : Vis X.env.scope x := by first | exact Or.inl rfl | exact Or.inr (Or.inl rfl) | exact Or.inr (Or.inr rfl)) (hd : (x == ("__debug__" : Str)) = false := by decide)
    (hcd : (x == ("__classdict__" : Str)) = false := by decide) : DX X Γ W (.Name x pos) (fName i) :=
  (pe_varK hN hv hd hcd).imp fun σ H Q ⟨H0, G0, G, g, E, r, g', e, q⟩ => by
    unfold fName at e
    split at e
    · rename_i d hi
      cases e
      obtain ⟨v, h1, h2⟩ := E.dat i d hi
      exact ⟨v, h1, .inl (q v G H (Gr.refl _) E h2)⟩
    · rename_i xs hi
      cases e
      obtain ⟨l, G', h1, gr, h2, E2⟩ := E.rel hi
      exact ⟨_, h1, .inl (q _ G' H gr E2 h2)⟩
    · rename_i t kvs hi
      cases e
      obtain ⟨l, xs, h1, hl, k⟩ := E.relF hi
      refine ⟨_, h1, .inr ⟨_, l, xs, rfl, hl, fun o nc => ?_⟩⟩
      obtain ⟨G', gr, h2, E2⟩ := k o nc
      exact q _ G' _ gr E2 h2
    · cases e
/-- a list that a name holds, looked at -/
def fPeek (i : Nat) : Mo (List D) := fun g => match g.r[i]? with
  | some (.dat (.lst xs)) => some (.ok xs, g)
  | some (.dat (.tup xs)) => some (.ok xs, g)
  | some (.own xs) => some (.ok xs, g)
  | _ => none
theorem Dv.lst_inv {K : PySem.W.Frag} {G : Hp} {v : V} {xs : List D} (h : Dv K Γ G v (.lst xs)) : ∃ l vs, v = .ref l ∧ G l = some (.lst vs) ∧ DvA K Γ G vs xs := by
  cases h with
  | lst h t => exact ⟨_, _, rfl, h, t⟩
theorem Dv.tup_inv {K : PySem.W.Frag} {G : Hp} {v : V} {xs : List D} (h : Dv K Γ G v (.tup xs)) : ∃ l vs, v = .ref l ∧ SqT K G l vs ∧ DvA K Γ G vs xs := by
  cases h with
  | tup h t => exact ⟨_, _, rfl, h, t⟩
theorem dp_ (i : Nat) {x : Str} {pos : Pos} (hN : X.N[i]? = some x := by rfl) (hv : Vis X.env.scope x := by first | exact Or.inl rfl | exact Or.inr (Or.inl rfl) | exact Or.inr (Or.inr rfl)) (hd : (x == ("__debug__" : Str)) = false := by decide)
    (hcd : (x == ("__classdict__" : Str)) = false := by decide) : DP X Γ W (.Name x pos) (fPeek i) :=
  (pe_var hN hv hd hcd).imp fun σ H Q ⟨H0, G0, G, g, E, r, g', e, q⟩ => by
    unfold fPeek at e
    split at e
    · rename_i xs hi
      cases e
      obtain ⟨v, h1, h2⟩ := E.dat i _ hi
      obtain ⟨l, vs, rfl, h3, h4⟩ := h2.lst_inv
      exact ⟨_, h1, q _ G H (Gr.refl _) E ⟨l, vs, rfl, .inl (SqL.of (E.sub _ _ h3)), h4⟩⟩
    · rename_i xs hi
      cases e
      obtain ⟨v, h1, h2⟩ := E.dat i _ hi
      obtain ⟨l, vs, rfl, h3, h4⟩ := h2.tup_inv
      exact ⟨_, h1, q _ G H (Gr.refl _) E ⟨l, vs, rfl, .inr h3, h4⟩⟩
    · rename_i xs hi
      cases e
      obtain ⟨l, vs, h1, h2, _, _, h5⟩ := E.own i xs hi
      exact ⟨_, h1, q _ G H (Gr.refl _) E ⟨l, vs, rfl, .inl (SqL.of h2), h5⟩⟩
    · cases e
theorem dc_of {e : Expr} {v : V} {d : D} (h : PE X e (tC v)) (r : ∀ G, Dv X.K Γ G v d) : DX X Γ W e (rt d) := h.imp fun σ H Q ⟨H0, G0, G, g, h⟩ => h.here (v := v) (r _)
theorem d_int {i j pos} : DX X Γ W (.Constant (.int i) j pos) (rt (.int i)) := dc_of pe_int fun _ => .int i
theorem d_bl {i j pos} : DX X Γ W (.Constant (.bool i) j pos) (rt (.bl i)) := dc_of pe_bl fun _ => .bl i
theorem d_non {j pos} : DX X Γ W (.Constant .none j pos) (rt .non) := dc_of pe_non fun _ => .non
theorem d_str {x j pos} : DX X Γ W (.Constant (.str x) j pos) (rt (.str x)) := dc_of pe_str fun _ => .str x
/-! ### arguments, displays -/
def fCons (f : Mo D) (fs : Mo (List D)) : Mo (List D) := bd f fun d => bd fs fun ds => rt (d :: ds)
theorem da_nil : DA X Γ W [] (rt []) := pa_nil.imp fun σ H Q ⟨H0, G0, G, g, h⟩ => h.here (v := []) .nil
theorem da_cons {f : Mo D} {fs : Mo (List D)} (ha : DX X Γ W e f) (hr : DA X Γ W es fs) (hs : starEach (e :: es) X.env = (false, eval e X.env) :: starEach es X.env := by rfl) : DA X Γ W (e :: es) (fCons f fs) :=
  (pa_cons ha hr hs).imp fun σ H Q h => h.bind fun H0 G0 d v g1 G1 H1 r1 h1 => (h1.bind fun ds vs g2 G2 H2 gr r2 h2 => h2.here (v := v :: vs) (.cons (r1.mono gr) r2)).g
def fTup (f : Mo (List D)) : Mo D := bd f fun ds => if ds.length ≤ 100000 then rt (.tup ds) else stop
def fLst (f : Mo (List D)) : Mo (List D) := bd f fun ds => if ds.length ≤ 100000 then rt ds else stop
theorem sz5 {n : Nat} (h : n ≤ 100000) : n ≤ sizeLine := Nat.le_trans h (by decide)
theorem d_tup {x1} {f : Mo (List D)} (h : DA X Γ W es f) : DX X Γ W (.Tuple es x1 pos) (fTup f) :=
  (pe_tup h).imp fun σ H Q h => h.bind fun H0 G0 ds vs g1 G1 H1 r1 h1 => by
    by_cases c : ds.length ≤ 100000
    · rw [if_pos c] at h1
      refine ⟨by rw [r1.length]; exact sz5 c, fun p hp => h1.new hp (.tup (SqT.of upd_same) (r1.mono (Gr.upd ?_)))⟩
      cases z : G1 p with
      | none => rfl
      | some u => rw [h1.en.sub _ _ z] at hp; cases hp
    · rw [if_neg c] at h1; exact h1.stop
theorem d_lstO {f : Mo (List D)} (h : DA X Γ W es f) : DF X Γ W (.List es pos) (fLst f) :=
  (pe_lst h).imp fun σ H Q h => h.bind fun H0 G0 ds vs g1 G1 H1 r1 h1 => by
    by_cases c : ds.length ≤ 100000
    · rw [if_pos c] at h1
      exact ⟨by rw [r1.length]; exact sz5 c, fun p hp => h1.newO hp r1⟩
    · rw [if_neg c] at h1; exact h1.stop
/-- a new list, let go at once -/
def fLet (f : Mo (List D)) : Mo D := bd f fun ds => rt (.lst ds)
theorem d_let {f : Mo (List D)} (h : DF X Γ W e f) : DX X Γ W e (fLet f) :=
  h.imp fun σ H Q h => h.bind fun H0 G0 ds v g1 G1 H1 r1 h1 => by
    obtain ⟨G', gr, dv, E⟩ := h1.en.free r1
    obtain ⟨_, _, _, e, q⟩ := h1
    cases e
    exact q v G' H1 gr E dv
def aLst : D → Mo (List D)
  | .lst xs => rt xs
  | .tup xs => rt xs
  | _ => stop
def fPk (f : Mo D) : Mo (List D) := bd f aLst
/-! ### operators -/
def f2 (p : D → D → Mo D) (f h : Mo D) : Mo D := bd f fun d => bd h fun e => p d e
/-- a two-place operation by data -/
def BinD (X : Cx) (Γ : Gam) (W : WX) (F : Value → Value → Sem Value) (p : D → D → Mo D) : Prop :=
  OpR X F fun x y H Q => ∃ H0 G0 G g σ d e, Dv X.K Γ G x d ∧ Dv X.K Γ G y e ∧ tAt X.K Γ W (RD X.K Γ) (p d e) H0 G0 G g σ H Q
theorem d_bin {op : Operator} {p : D → D → Mo D} {f h : Mo D} (ho : BinD X Γ W (binaryOp op) p) (ha : DX X Γ W a f) (hb : DX X Γ W b h) : DX X Γ W (.BinOp a op b pos) (f2 p f h) :=
  (pe_op ho ha hb).imp fun σ H Q h => h.bind fun H0 G0 d v g1 G1 H1 r1 h1 => (h1.bind fun e u g2 G2 H2 gr r2 h2 => ⟨H0, G0, G2, g2, σ, d, e, r1.mono gr, r2, h2⟩).g
theorem d_cmp {op : CmpOp} {p : D → D → Mo D} {f h : Mo D} (ho : BinD X Γ W (compareOp op) p) (ha : DX X Γ W a f) (hb : DX X Γ W b h) (hm : behindInMarks op b = false) : DX X Γ W (.Compare a [op] [b] pos) (f2 p f h) :=
  (pe_cmpR ho ha hb hm).imp fun σ H Q h => h.bind fun H0 G0 d v g1 G1 H1 r1 h1 => (h1.bind fun e u g2 G2 H2 gr r2 h2 => ⟨H0, G0, G2, g2, σ, d, e, r1.mono gr, r2, h2⟩).g
def aB : D → Mo Bool
  | .bl b => rt b
  | _ => stop
def fT (f : Mo D) : Mo Bool := bd f aB
theorem tT {k : L2.St → Hp → VK → Prop} {f : Mo D} {σ : L2.St} {H : Hp} {Q : Bool → Hp → Prop} (h : tG X.K Γ W RB (fT f) σ H Q) : tG X.K Γ W (RD X.K Γ) f σ H (fun x H1 => ∃ c, x = .bl c ∧ Q c H1) :=
  h.bind fun H0 G0 d v g1 G1 H1 r1 h1 => by
    unfold aB at h1
    split at h1
    · cases r1
      exact ⟨_, rfl, h1.here rfl⟩
    · exact h1.stop
theorem t_val {f : Mo D} (h : DX X Γ W e f) (he : ∀ whole, isTrue e X.env whole = (do let v ← whole; standAt e.pos; holding [v] (truthy v)) := by intro _; rfl) : DT X Γ W e (fT f) :=
  (pt_val h he).imp fun σ H Q h => tT (k := fun _ _ _ => True) h
theorem t_cmp {op : CmpOp} {p : D → D → Mo D} {f h : Mo D} (ho : BinD X Γ W (compareOp op) p) (ha : DX X Γ W a f) (hb : DX X Γ W b h) (hm : behindInMarks op b = false) : DT X Γ W (.Compare a [op] [b] pos) (fT (f2 p f h)) :=
  (pt_cmpR ho ha hb hm).imp fun σ H Q h => (tT (k := fun _ _ _ => True) h).bind fun H0 G0 d v g1 G1 H1 r1 h1 => (h1.bind fun e u g2 G2 H2 gr r2 h2 => ⟨H0, G0, G2, g2, σ, d, e, r1.mono gr, r2, h2⟩).g
/-! ### tests -/
def fNot (f : Mo Bool) : Mo Bool := bd f fun b => rt (!b)
def fAnd (f h : Mo Bool) : Mo Bool := bd f fun b => if b = true then h else rt false
def fOr (f h : Mo Bool) : Mo Bool := bd f fun b => if b = true then rt true else h
variable {rest : List Expr}
theorem w_and1 {f : Mo Bool} (h : DT X Γ W a f) : DW X Γ W (.BoolOp .And [a] pos) f := pw_and1 h
theorem w_or1 {f : Mo Bool} (h : DT X Γ W a f) : DW X Γ W (.BoolOp .Or [a] pos) f := pw_or1 h
theorem w_and {f h : Mo Bool} (ha : DT X Γ W a f) (hb : DW X Γ W (.BoolOp .And (b :: rest) pos) h) : DW X Γ W (.BoolOp .And (a :: b :: rest) pos) (fAnd f h) :=
  (pw_and ha hb).imp fun σ H Q h => h.bind fun H0 G0 d v g1 G1 H1 r1 h1 => by
    cases r1
    cases d with
    | true => rw [if_pos rfl] at h1 ⊢; exact h1.g
    | false => rw [if_neg Bool.false_ne_true] at h1 ⊢; exact h1.here rfl
theorem w_or {f h : Mo Bool} (ha : DT X Γ W a f) (hb : DW X Γ W (.BoolOp .Or (b :: rest) pos) h) : DW X Γ W (.BoolOp .Or (a :: b :: rest) pos) (fOr f h) :=
  (pw_or ha hb).imp fun σ H Q h => h.bind fun H0 G0 d v g1 G1 H1 r1 h1 => by
    cases r1
    cases d with
    | true => rw [if_pos rfl] at h1 ⊢; exact h1.here rfl
    | false => rw [if_neg Bool.false_ne_true] at h1 ⊢; exact h1.g
theorem t_w {f : Mo Bool} (h : DW X Γ W e f) : DT X Γ W e f := h.pt
/-- values that are bools -/
def fNotV (f : Mo D) : Mo D := bd f fun d => bd (aB d) fun b => rt (.bl (!b))
def fAndV (f h : Mo D) : Mo D := bd f fun d => bd (aB d) fun b => if b = true then h else rt (.bl false)
def fOrV (f h : Mo D) : Mo D := bd f fun d => bd (aB d) fun b => if b = true then rt (.bl true) else h
theorem tAt.bl {β : Type} {α : Type} {R : Rel β α} {k : Bool → Mo α} {d : D} {v : V} {H0 G0 G H : Hp} {g : Sg} {σ : L2.St} {Q : β → Hp → Prop} {K : PySem.W.Frag} (h : tAt K Γ W R (bd (aB d) k) H0 G0 G g σ H Q) (r : Dv K Γ G v d) : ∃ b, v = .bl b ∧ tAt K Γ W R (k b) H0 G0 G g σ H Q := by
  unfold aB at h
  split at h
  · cases r; exact ⟨_, rfl, h⟩
  · exact h.stop
def fIfE {α : Type} (c : Mo Bool) (f h : Mo α) : Mo α := bd c fun b => if b = true then f else h
end
end DE
namespace DE
open PyProof.Rows PySem.Spec PySem L2

/-! ### statements -/
inductive Out where
  | nx | ret (d : D) | brk | ct | exc (x : Exn)
abbrev Ms := Sg → Option (Out × Sg)
def sb {α : Type} (f : Mo α) (k : α → Ms) : Ms := fun g => match f g with
  | none => none
  | some (.error x, g1) => some (.exc x, g1)
  | some (.ok a, g1) => k a g1
def sOut (o : Out) : Ms := fun g => some (o, g)
def sStop : Ms := fun _ => none
@[simp] theorem sb_rt {α : Type} (a : α) (k : α → Ms) : sb (rt a) k = k a := rfl
@[simp] theorem sb_stop {α : Type} (k : α → Ms) : sb (stop : Mo α) k = sStop := rfl
def fSeq (f k : Ms) : Ms := fun g => match f g with
  | some (.nx, g1) => k g1
  | o => o
section
variable (K : PySem.W.Frag) (Γ : Gam) (W : WX)
def tSt (f : Ms) (H0 G0 G : Hp) (g : Sg) (Ds : Ends) (σ : L2.St) (H : Hp) : Prop :=
  En K Γ H0 G0 G H σ g ∧ ∃ o g', f g = some (o, g') ∧ match o with
    | .nx => ∀ σ' G' H', Gr G G' → En K Γ H0 G0 G' H' σ' g' → Ds.nx σ' H'
    | .brk => ∀ σ' G' H', Gr G G' → En K Γ H0 G0 G' H' σ' g' → Ds.bk σ' H'
    | .ct => ∀ σ' G' H', Gr G G' → En K Γ H0 G0 G' H' σ' g' → Ds.ct σ' H'
    | .ret d => ∀ v σ' G' H', Gr G G' → En K Γ H0 G0 G' H' σ' g' → Dv K Γ G' v d → Ds.rt v H'
    | .exc x => ∀ C dd σ' G' H', Gr G G' → En K Γ H0 G0 G' H' σ' g' → ExD K Γ G' C dd x → W C dd σ' H'
def tS (f : Ms) : TS := fun Ds σ H => ∃ H0 G0 G g, tSt K Γ W f H0 G0 G g Ds σ H
end
section
variable {K : PySem.W.Frag} {Γ : Gam} {W : WX} {α β : Type}
theorem tSt.bind {R1 : Rel β α} {f : Mo α} {k : α → Ms} {H0 G0 G H : Hp} {g : Sg} {σ : L2.St} {Ds : Ends} {P : β → Hp → Prop}
    (h : tSt K Γ W (sb f k) H0 G0 G g Ds σ H) (hp : ∀ d v g1 G1 H1, f g = some (.ok d, g1) → Gr G G1 → R1 H0 G1 H1 σ g1 v d → tSt K Γ W (k d) H0 G0 G1 g1 Ds σ H1 → P v H1) : tAt K Γ W R1 f H0 G0 G g σ H P := by
  obtain ⟨E, o, g', e, q⟩ := h
  refine ⟨E, ?_⟩
  unfold sb at e
  cases hf : f g with
  | none => (rw [hf] at e); cases e
  | some p =>
    obtain ⟨r1, g1⟩ := p
    rw [hf] at e
    cases r1 with
    | error x =>
      cases e
      exact ⟨.error x, _, rfl, fun C dd G' H' gr E' hx => q C dd σ G' H' gr E' hx⟩
    | ok d =>
      refine ⟨.ok d, g1, rfl, fun v G1 H1 gr E1 r1 => hp d v g1 G1 H1 hf gr r1 ⟨E1, o, g', e, ?_⟩⟩
      cases o with
      | nx => exact fun σ2 G2 H2 gr2 => q σ2 G2 H2 (gr.trans gr2)
      | brk => exact fun σ2 G2 H2 gr2 => q σ2 G2 H2 (gr.trans gr2)
      | ct => exact fun σ2 G2 H2 gr2 => q σ2 G2 H2 (gr.trans gr2)
      | ret d2 => exact fun v2 σ2 G2 H2 gr2 => q v2 σ2 G2 H2 (gr.trans gr2)
      | exc x => exact fun C dd σ2 G2 H2 gr2 => q C dd σ2 G2 H2 (gr.trans gr2)
theorem tS.bind {R1 : Rel β α} {f : Mo α} {k : α → Ms} {H : Hp} {σ : L2.St} {Ds : Ends} {P : β → Hp → Prop}
    (h : tS K Γ W (sb f k) Ds σ H) (hp : ∀ H0 G0 d v g1 G1 H1, R1 H0 G1 H1 σ g1 v d → tSt K Γ W (k d) H0 G0 G1 g1 Ds σ H1 → P v H1) : tG K Γ W R1 f σ H P := by
  obtain ⟨H0, G0, G, g, h⟩ := h
  exact ⟨H0, G0, G, g, h.bind fun d v g1 G1 H1 _ _ => hp H0 G0 d v g1 G1 H1⟩
theorem tSt.s {f : Ms} {H0 G0 G H : Hp} {g : Sg} {σ : L2.St} {Ds : Ends} (h : tSt K Γ W f H0 G0 G g Ds σ H) : tS K Γ W f Ds σ H := ⟨H0, G0, G, g, h⟩
theorem tSt.stop {H0 G0 G H : Hp} {g : Sg} {σ : L2.St} {Ds : Ends} {P : Prop} (h : tSt K Γ W sStop H0 G0 G g Ds σ H) : P := by
  obtain ⟨_, _, _, e, _⟩ := h
  cases e
theorem tSt.no {f : Ms} {H0 G0 G H : Hp} {g : Sg} {σ : L2.St} {Ds : Ends} {P : Prop} (h : tSt K Γ W f H0 G0 G g Ds σ H) (e : f g = none) : P := by
  obtain ⟨_, _, _, e', _⟩ := h
  rw [e] at e'; cases e'
theorem tSt.next {f : Ms} {g g' : Sg} {H0 G0 G H H' : Hp} {σ σ' : L2.St} {Ds : Ends} (h : tSt K Γ W f H0 G0 G g Ds σ H) (e : f g = some (.nx, g')) {G' : Hp} (gr : Gr G G') (E : En K Γ H0 G0 G' H' σ' g') : Ds.nx σ' H' := by
  obtain ⟨_, _, _, e', q⟩ := h
  rw [e] at e'; cases e'
  exact q σ' G' H' gr E
/-- .. the next state, then the rest -/
theorem tSt.seq {f k : Ms} {H0 G0 G H : Hp} {g : Sg} {σ : L2.St} {Ds : Ends} (h : tSt K Γ W (fSeq f k) H0 G0 G g Ds σ H) {N : L2.St → Hp → Prop}
    (hn : ∀ σ1 G1 H1 g1, Gr G G1 → tSt K Γ W k H0 G0 G1 g1 Ds σ1 H1 → N σ1 H1) : tSt K Γ W f H0 G0 G g { Ds with nx := N } σ H := by
  obtain ⟨E, o, g', e, q⟩ := h
  refine ⟨E, ?_⟩
  unfold fSeq at e
  cases hf : f g with
  | none => simp only [hf] at e; cases e
  | some p =>
    obtain ⟨o1, g1⟩ := p
    simp only [hf] at e
    cases o1 with
    | nx =>
      refine ⟨.nx, g1, rfl, fun σ1 G1 H1 gr E1 => hn σ1 G1 H1 g1 gr ⟨E1, o, g', e, ?_⟩⟩
      cases o with
      | nx => exact fun σ2 G2 H2 gr2 => q σ2 G2 H2 (gr.trans gr2)
      | brk => exact fun σ2 G2 H2 gr2 => q σ2 G2 H2 (gr.trans gr2)
      | ct => exact fun σ2 G2 H2 gr2 => q σ2 G2 H2 (gr.trans gr2)
      | ret d2 => exact fun v2 σ2 G2 H2 gr2 => q v2 σ2 G2 H2 (gr.trans gr2)
      | exc x => exact fun C dd σ2 G2 H2 gr2 => q C dd σ2 G2 H2 (gr.trans gr2)
    | brk => cases e; exact ⟨.brk, _, rfl, q⟩
    | ct => cases e; exact ⟨.ct, _, rfl, q⟩
    | ret d => cases e; exact ⟨.ret d, _, rfl, q⟩
    | exc x => cases e; exact ⟨.exc x, _, rfl, q⟩
end

abbrev DS_ (X : Cx) (Γ : Gam) (W : WX) (st : Stmt) (f : Ms) : Prop := PS X st (tS X.K Γ W f)
abbrev DB (X : Cx) (Γ : Gam) (W : WX) (st : List Stmt) (f : Ms) : Prop := PSs X st (tS X.K Γ W f)
section
variable {X : Cx} {Γ : Gam} {W : WX} {a b e : Expr} {es : List Expr} {pos : Pos} {st : Stmt} {rest body : List Stmt}
theorem b_nil : DB X Γ W [] (sOut .nx) := pss_nil.imp fun Ds σ H ⟨H0, G0, G, g, h⟩ => h.next rfl (Gr.refl _) h.1
theorem b_cons {f k : Ms} (h1 : DS_ X Γ W st f) (h2 : DB X Γ W rest k) : DB X Γ W (st :: rest) (fSeq f k) :=
  (pss_cons h1 h2).imp fun Ds σ H ⟨H0, G0, G, g, h⟩ => ⟨H0, G0, G, g, h.seq fun σ1 G1 H1 g1 _ h1 => h1.s⟩
theorem b_one {f : Ms} (h1 : DS_ X Γ W st f) : DB X Γ W [st] f := pss_one h1
def fSet (i : Nat) (f : Mo D) : Ms := sb f fun d g => some (.nx, ⟨g.r.set i (.dat d), g.s⟩)
def fSetO (i : Nat) (f : Mo (List D)) : Ms := sb f fun d g => some (.nx, ⟨g.r.set i (.own d), g.s⟩)
theorem s_set (i : Nat) {x : Str} {pos' : Pos} {f : Mo D} (hN : X.N.Nodup) (he : DX X Γ W e f) (hi : X.N[i]? = some x := by rfl) (hx : Loc X.env.scope x := by first | exact Or.inl rfl | exact Or.inr rfl) (hs : swapsWith e (some (.Name x pos')) pos.line X.env = pure false := by rfl)
    (hf : X.fn x = true ∨ X.env.scope.names.lookup x = some .local := by first | exact .inl rfl | exact .inr rfl | assumption) : DS_ X Γ W (.Assign [.Name x pos'] e pos) (fSet i f) :=
  (ps_set hN hi hx he hs hf).imp fun Ds σ H h => h.bind fun H0 G0 d v g1 G1 H1 r1 h1 => h1.next rfl (Gr.refl _) (h1.1.set i r1)
def fRet (f : Mo D) : Ms := sb f fun d => sOut (.ret d)
theorem s_ret {f : Mo D} (he : DX X Γ W e f) : DS_ X Γ W (.Return (some e) pos) (fRet f) :=
  (ps_ret he).imp fun Ds σ H h => h.bind fun H0 G0 d v g1 G1 H1 r1 ⟨E, o, g', e, q⟩ => by
    cases e; exact q v σ G1 H1 (Gr.refl _) E r1
def fExp (f : Mo D) : Ms := sb f fun _ => sOut .nx
def fIf (c : Mo Bool) (t u : Ms) : Ms := sb c fun b => if b = true then t else u
theorem s_if {c : Expr} {p q : List Stmt} {fc : Mo Bool} {t u : Ms} (hc : DT X Γ W c fc) (ha : DB X Γ W p t) (hb : DB X Γ W q u) : DS_ X Γ W (.If c p q pos) (fIf fc t u) :=
  (ps_if hc ha hb).imp fun Ds σ H h => h.bind fun H0 G0 d v g1 G1 H1 r1 h1 => by
    cases r1
    cases d with
    | true => rw [if_pos rfl] at h1 ⊢; exact h1.s
    | false => rw [if_neg Bool.false_ne_true] at h1 ⊢; exact h1.s
/-! ### targets -/
abbrev Mt := D → Sg → Option Sg
def TgS (K : PySem.W.Frag) (Γ : Gam) (gt : TG) (js : List Nat) (ft : Mt) : Prop := ∀ (v : V) (σ : L2.St) (H : Hp) (Q : L2.St → Hp → Prop) (H0 G0 G : Hp) (g g' : Sg) (d : D), En K Γ H0 G0 G H σ g → Dv K Γ G v d → ft d g = some g' →
  (∀ σ', En K Γ H0 G0 G H σ' g' → (σ'.length = σ.length ∧ ∀ i, i ∉ js → σ'[i]? = σ[i]?) → Q σ' H) → gt v σ H Q
def DG (X : Cx) (Γ : Gam) (tg : Expr) (gt : TG) (js : List Nat) (ft : Mt) : Prop := PG X tg gt ∧ TgS X.K Γ gt js ft
def gN (i : Nat) : Mt := fun d g => some ⟨g.r.set i (.dat d), g.s⟩
theorem g_name (i : Nat) {x : Str} {pos : Pos} (hN : X.N.Nodup) (hi : X.N[i]? = some x := by rfl) (hx : Loc X.env.scope x := by first | exact Or.inl rfl | exact Or.inr rfl)
    (hf : X.fn x = true ∨ X.env.scope.names.lookup x = some .local := by first | exact .inl rfl | exact .inr rfl | assumption) : DG X Γ (.Name x pos) (gName i) [i] (gN i) :=
  ⟨pg_name hN hi hx hf, fun v σ H Q H0 G0 G g g' d E dv e k => by
    cases e
    exact k _ (E.set i dv) ⟨List.length_set, fun j hj => List.getElem?_set_ne (by simp at hj; omega)⟩⟩
abbrev Mts := List D → Sg → Option Sg
def DGs (X : Cx) (Γ : Gam) (tg : List Expr) (gt : TGs) (js : List Nat) (ft : Mts) : Prop := PGs X tg gt ∧ ∀ (vs : List V) (σ : L2.St) (H : Hp) (Q : L2.St → Hp → Prop) (H0 G0 G : Hp) (g g' : Sg) (ds : List D), En X.K Γ H0 G0 G H σ g → DvA X.K Γ G vs ds → ft ds g = some g' →
  (∀ σ', En X.K Γ H0 G0 G H σ' g' → (σ'.length = σ.length ∧ ∀ i, i ∉ js → σ'[i]? = σ[i]?) → Q σ' H) → gt vs σ H Q
def gsNil : Mts := fun ds g => match ds with
  | [] => some g
  | _ => none
def gsCons (t : Mt) (u : Mts) : Mts := fun ds g => match ds with
  | [] => none
  | d :: ds => (t d g).bind (u ds)
theorem gs_nil : DGs X Γ [] gNil [] gsNil := ⟨pgs_nil, fun vs σ H Q H0 G0 G g g' ds E dv e k => by
  cases ds with
  | nil => cases dv; cases e; exact ⟨rfl, k _ E ⟨rfl, fun _ _ => rfl⟩⟩
  | cons d ds => cases e⟩
theorem gs_cons {t : Mt} {u : Mts} {j1 j2 : List Nat} {t' : TG} {u' : TGs} (h1 : DG X Γ e t' j1 t) (h2 : DGs X Γ es u' j2 u) (hs : (assignEach (e :: es) X.env).map (·.2) = assign e X.env :: (assignEach es X.env).map (·.2) := by rfl) : DGs X Γ (e :: es) (gCons t' u') (j1 ++ j2) (gsCons t u) := by
  obtain ⟨p1, k1⟩ := h1
  obtain ⟨p2, k2⟩ := h2
  refine ⟨pgs_cons p1 p2 hs, fun vs σ H Q H0 G0 G g g' ds E dv e k => ?_⟩
  cases ds with
  | nil => cases e
  | cons d ds =>
    cases dv with
    | cons dv dvs =>
      cases ht : t d g with
      | none => unfold gsCons at e; simp only [ht] at e; cases e
      | some g1 =>
        have e : u ds g1 = some g' := by unfold gsCons at e; simp only [ht, Option.bind_some] at e; exact e
        exact ⟨_, _, rfl, k1 _ σ H _ H0 G0 G g g1 d E dv ht fun σ1 E1 f1 => k2 _ σ1 H Q H0 G0 G g1 g' ds E1 dvs e fun σ2 E2 f2 => k σ2 E2 ⟨f2.1.trans f1.1, fun i hi => (f2.2 i fun z => hi (List.mem_append_right _ z)).trans (f1.2 i fun z => hi (List.mem_append_left _ z))⟩⟩
def gT (n : Nat) (u : Mts) : Mt := fun d g => match d with
  | .tup ds => if ds.length = n then u ds g else none
  | _ => none
theorem g_tup {k : Nat} {u : Mts} {n : Nat} {js : List Nat} {u' : TGs} (hc : X.calm = true) (h : DGs X Γ es u' js u) (hn : (assignEach es X.env).length = n := by rfl) (hst : (assignEach es X.env).findIdx? (·.1) = none := by rfl) : DG X Γ (.Tuple es k pos) (gTup X.K n u') js (gT n u) := by
  obtain ⟨p, q⟩ := h
  refine ⟨pg_tup hc p hn hst, fun v σ H Q H0 G0 G g g' d E dv e k => ?_⟩
  unfold gT at e
  split at e
  · split at e
    · rename_i hl
      obtain ⟨a, xs, rfl, h1, h2⟩ := Dv.tup_inv dv
      exact ⟨a, xs, rfl, E.sub.sqT h1, by rw [h2.length]; exact hl, q xs σ H Q H0 G0 G g g' _ E h2 e k⟩
    · cases e
  · cases e
def fAsg (f : Mo D) (t : Mt) : Ms := sb f fun d g => (t d g).map fun g' => (.nx, g')
/-! ### for -/
def loop (t : Mt) (b : Ms) : List D → Ms
  | [] => sOut .nx
  | d :: ds => fun g => match t d g with
    | none => none
    | some g1 => match b g1 with
      | some (.nx, g2) => loop t b ds g2
      | some (.ct, g2) => loop t b ds g2
      | some (.brk, g2) => some (.nx, g2)
      | o => o
theorem loop_turn {K : PySem.W.Frag} {t : Mt} {f : Ms} {d : D} {ds : List D} {H0 G0 G H : Hp} {g : Sg} {σ : L2.St} {Ds : Ends} {N : L2.St → Hp → Prop} (h : tSt K Γ W (loop t f (d :: ds)) H0 G0 G g Ds σ H) {v : V} {gt : TG} (dv : Dv K Γ G v d)
    (hgt : ∀ (Q : L2.St → Hp → Prop) (g' : Sg), t d g = some g' → (∀ σ', En K Γ H0 G0 G H σ' g' → Q σ' H) → gt v σ H Q)
    (hN : ∀ σ1 G1 H1 g1, Gr G G1 → tSt K Γ W (loop t f ds) H0 G0 G1 g1 Ds σ1 H1 → N σ1 H1) : gt v σ H fun σ2 H2 => tS K Γ W f { Ds with nx := N, ct := N, bk := Ds.nx } σ2 H2 := by
  obtain ⟨E, o, g', e, q⟩ := h
  unfold loop at e
  cases ht : t d g with
  | none => simp only [ht] at e; cases e
  | some g1 =>
    simp only [ht] at e
    refine hgt _ g1 ht fun σ1 E1 => ⟨H0, G0, G, g1, E1, ?_⟩
    cases hf : f g1 with
    | none => simp only [hf] at e; cases e
    | some p =>
      obtain ⟨o1, g2⟩ := p
      simp only [hf] at e
      have nxt : ∀ {e : loop t f ds g2 = some (o, g')} σ2 G2 H2, Gr G G2 → En K Γ H0 G0 G2 H2 σ2 g2 → N σ2 H2 := fun {e} σ2 G2 H2 gr E2 => hN σ2 G2 H2 g2 gr ⟨E2, o, g', e, by
        cases o with
        | nx => exact fun σ3 G3 H3 gr3 => q σ3 G3 H3 (gr.trans gr3)
        | brk => exact fun σ3 G3 H3 gr3 => q σ3 G3 H3 (gr.trans gr3)
        | ct => exact fun σ3 G3 H3 gr3 => q σ3 G3 H3 (gr.trans gr3)
        | ret d2 => exact fun v3 σ3 G3 H3 gr3 => q v3 σ3 G3 H3 (gr.trans gr3)
        | exc x => exact fun C dd σ3 G3 H3 gr3 => q C dd σ3 G3 H3 (gr.trans gr3)⟩
      cases o1 with
      | nx => exact ⟨.nx, g2, rfl, fun σ2 G2 H2 gr E2 => nxt (e := e) σ2 G2 H2 gr E2⟩
      | ct => exact ⟨.ct, g2, rfl, fun σ2 G2 H2 gr E2 => nxt (e := e) σ2 G2 H2 gr E2⟩
      | brk => cases e; exact ⟨.brk, _, rfl, q⟩
      | ret d => cases e; exact ⟨.ret d, _, rfl, q⟩
      | exc x => cases e; exact ⟨.exc x, _, rfl, q⟩
/-- iteration over a known list or tuple -/
def aSeq : D → Option (List D)
  | .lst xs => some xs
  | .tup xs => some xs
  | _ => none
def fFor (f : Mo D) (t : Mt) (b : Ms) : Ms := sb f fun d => match aSeq d with
  | some ds => loop t b ds
  | none => sStop
theorem PI.or {tg iter : Expr} {w u : TI} (h1 : PI X tg iter w) (h2 : PI X tg iter u) : PI X tg iter (fun σ H R => w σ H R ∨ u σ H R) :=
  ⟨fun pins s σ H R I h => h.elim (h1.run pins s σ H R I) (h2.run pins s σ H R I)⟩
end
end DE
namespace DE
open PyProof.Rows PySem.Spec PySem L2

/-! ### comprehensions -/
def wipeR (r : List Sl) : List Nat → List Sl
  | [] => r
  | v :: vs => (wipeR r vs).set v .no
theorem wipeR_length (r : List Sl) : ∀ vs, (wipeR r vs).length = r.length
  | [] => rfl
  | v :: vs => by unfold wipeR; rw [List.length_set, wipeR_length r vs]
theorem wipeR_get {r : List Sl} {i : Nat} {x : Sl} (hx : x ≠ .no) : ∀ {vs : List Nat}, (wipeR r vs)[i]? = some x → r[i]? = some x ∧ i ∉ vs
  | [], h => ⟨h, by simp⟩
  | v :: vs, h => by
    unfold wipeR at h
    by_cases e : i = v
    · subst e
      have il : i < (wipeR r vs).length := by have := (List.getElem?_eq_some_iff.mp h).1; simpa using this
      rw [List.getElem?_set_self il] at h
      exact absurd (Option.some.inj h).symm hx
    · rw [List.getElem?_set_ne (Ne.symm e)] at h
      obtain ⟨a, b⟩ := wipeR_get hx h
      exact ⟨a, by simp [e, b]⟩
theorem wipe_at {σ : L2.St} {i : Nat} : ∀ {vs : List Nat}, i ∉ vs → (wipe σ vs)[i]? = σ[i]?
  | [], _ => rfl
  | v :: vs, h => by
    unfold wipe
    have e : i ≠ v := fun z => h (by simp [z])
    rw [List.getElem?_set_ne (Ne.symm e)]
    exact wipe_at fun z => h (by simp [z])
theorem wipe_in {σ : L2.St} {i : Nat} : ∀ {vs : List Nat}, i ∈ vs → (wipe σ vs)[i]? = if i < σ.length then some none else none
  | [], h => by simp at h
  | v :: vs, h => by
    unfold wipe
    by_cases e : i = v
    · subst e
      by_cases l : i < σ.length
      · rw [List.getElem?_set_self (by rw [wipe_length]; exact l), if_pos l]
      · rw [if_neg l, List.getElem?_eq_none_iff.mpr]
        rw [List.length_set, wipe_length]; omega
    · rw [List.getElem?_set_ne (Ne.symm e)]
      exact wipe_in (by simpa [e] using h)
theorem wipe_congr {σ σ' : L2.St} {vs : List Nat} (hl : σ'.length = σ.length) (h : ∀ i, i ∉ vs → σ'[i]? = σ[i]?) : wipe σ' vs = wipe σ vs := by
  refine List.ext_getElem? fun i => ?_
  by_cases m : i ∈ vs
  · rw [wipe_in m, wipe_in m, hl]
  · rw [wipe_at m, wipe_at m, h i m]
section
variable {K : PySem.W.Frag} {Γ : Gam} {H0 G0 G H : Hp} {σ : L2.St} {g : Sg}
theorem En.wipe (E : En K Γ H0 G0 G H σ g) (vs : List Nat) : En K Γ H0 G0 G H (wipe σ vs) ⟨wipeR g.r vs, g.s⟩ := by
  refine ⟨E.base, E.gfr, E.g0, E.sub, E.gm, E.st, by rw [wipeR_length, wipe_length]; exact E.len, fun i d h => ?_, fun i xs h => ?_, fun i j xs ys l h1 h2 h3 h4 => ?_, E.tb, E.gt, fun i f c q G1 h => by obtain ⟨h, n⟩ := wipeR_get (by intro z; cases z) h; (rw [wipe_at n]; exact E.fn i f c q G1 h), E.odk.tr (fun j y hy e => by obtain ⟨e, n⟩ := wipeR_get (by rintro rfl; cases hy) e; exact ⟨e, wipe_at n⟩) (Gr.refl _) fun _ _ e e1 e2 => ⟨e, e1, e2⟩⟩
  · obtain ⟨h, n⟩ := wipeR_get (by intro z; cases z) h
    rw [wipe_at n]; exact E.dat i d h
  · obtain ⟨h, n⟩ := wipeR_get (by intro z; cases z) h
    rw [wipe_at n]; exact E.own i xs h
  · obtain ⟨h1, n1⟩ := wipeR_get (by intro z; cases z) h1
    obtain ⟨h2, n2⟩ := wipeR_get (by intro z; cases z) h2
    rw [wipe_at n1] at h3
    rw [wipe_at n2] at h4
    exact E.dis i j xs ys l h1 h2 h3 h4
theorem En.unwipe {vs : List Nat} (E : En K Γ H0 G0 G H (L2.wipe σ vs) g) : En K Γ H0 G0 G H σ g := by
  refine ⟨E.base, E.gfr, E.g0, E.sub, E.gm, E.st, by rw [E.len, wipe_length], fun i d h => ?_, fun i xs h => ?_, fun i j xs ys l h1 h2 h3 h4 => ?_, E.tb, E.gt, fun i f c q G1 h => (let ⟨x, y⟩ := E.fn i f c q G1 h; ⟨(wipe_some x).1, y⟩), ⟨fun i t kvs h => (let ⟨⟨l, xs, e1, e2⟩, b⟩ := E.odk.k i t kvs h; ⟨⟨l, xs, (wipe_some e1).1, e2⟩, b⟩), fun i kvs h => (let ⟨⟨l, xs, e1, e2⟩, b⟩ := E.odk.i i kvs h; ⟨⟨l, xs, (wipe_some e1).1, e2⟩, b⟩)⟩⟩
  · obtain ⟨v, k1, k2⟩ := E.dat i d h
    exact ⟨v, (wipe_some k1).1, k2⟩
  · obtain ⟨l, ws, k1, k2⟩ := E.own i xs h
    exact ⟨l, ws, (wipe_some k1).1, k2⟩
  · obtain ⟨l1, _, k1, _⟩ := E.own i xs h1
    obtain ⟨l2, _, k2, _⟩ := E.own j ys h2
    have e1 := (wipe_some k1)
    have e2 := (wipe_some k2)
    rw [e1.1] at h3; cases h3
    rw [e2.1] at h4; cases h4
    exact E.dis i j xs ys l h1 h2 k1 k2
/-- an object that none of these tells of -/
theorem En.touch (E : En K Γ H0 G0 G H σ g) {p : Addr} {o : HO} (g1 : G p = none) (h0 : H0 p = none) (m : p ≠ Γ.M) (sf : Sf H p) (ow : ∀ (i : Nat) xs, g.r[i]? = some (Sl.own xs) → σ[i]? ≠ some (some (V.ref p))) : En K Γ H0 G0 G (upd H p o) σ g := by
  refine ⟨fun a u n h => ?_, E.gfr, E.g0, fun a u h => ?_, E.gm, ?_, E.len, E.dat, fun i xs h => ?_, E.dis, sf.tabs E.tb, E.gt, fun i f c q G1 h => E.fnU sf h (Gr.refl _), E.odk.same (Gr.refl _) fun l xs e e1 e2 => (have n := sf.ne_dn e; ⟨by rw [upd_ne n]; exact e, e1, e2⟩)⟩
  · have : a ≠ p := by rintro rfl; rw [h0] at h; cases h
    rw [upd_ne this]; exact E.base a u n h
  · have : a ≠ p := by rintro rfl; rw [g1] at h; cases h
    rw [upd_ne this]; exact E.sub a u h
  · exact E.st.gr (Gr.refl _) (upd_ne (Ne.symm m))
  · obtain ⟨l, vs, h1, h2, h3⟩ := E.own i xs h
    have : l ≠ p := by rintro rfl; exact ow i xs h h1
    exact ⟨l, vs, h1, by rw [upd_ne this]; exact h2, h3⟩
end
def compL (vs : List Nat) (t : Mt) (c : Mo Bool) (e : Mo D) : List D → Sg → Option (List D × Sg)
  | [], g => some ([], g)
  | d :: ds, g => match t d g with
    | none => none
    | some g1 => match c g1 with
      | some (.ok true, g2) => match e g2 with
        | some (.ok x, g3) => (compL vs t c e ds ⟨wipeR g3.r vs, g3.s⟩).map fun p => (x :: p.1, p.2)
        | _ => none
      | some (.ok false, g2) => compL vs t c e ds ⟨wipeR g2.r vs, g2.s⟩
      | _ => none
def compF (vs : List Nat) (t : Mt) (c : Mo Bool) (e : Mo D) (ds : List D) : Mo (List D) := fun g => if ds.length ≤ 100000 then (compL vs t c e ds ⟨wipeR g.r vs, g.s⟩).map fun p => (.ok p.1, p.2) else none
abbrev Wn : WX := fun _ _ _ _ => False
/-- between two turns of a comprehension -/
structure CI (K : PySem.W.Frag) (Γ : Gam) (H0 G0 G1 : Hp) (σw : L2.St) (vs : List Nat) (t : Mt) (c : Mo Bool) (e : Mo D) (out : List D) (ge : Sg) (Dl : Addr) (ds : List D) (m : Nat) (H : Hp) : Prop where
  ex : ∃ G g acc as r, Gr G1 G ∧ En K Γ H0 G0 G H σw g ∧ H Dl = some (.lst acc) ∧ DvA K Γ G acc as ∧ G Dl = none ∧ H0 Dl = none ∧ Dl ≠ Γ.M ∧ (∀ (i : Nat) xs, g.r[i]? = some (Sl.own xs) → σw[i]? ≠ some (some (V.ref Dl))) ∧
    compL vs t c e ds g = some (r, ge) ∧ out = as ++ r ∧ as.length + ds.length ≤ m
theorem comp_turn {K : PySem.W.Frag} {Γ : Gam} {H0 G0 G1 : Hp} {σ : L2.St} {vs : List Nat} {t : Mt} {c : Mo Bool} {e : Mo D} {out : List D} {ge : Sg} {Dl : Addr} {d : D} {ds : List D} {m : Nat} {H : Hp} {v : V} {gt : TG} {js : List Nat}
    (hm : m ≤ 100000) (hj : ∀ j ∈ js, j ∈ vs) (C : CI K Γ H0 G0 G1 (L2.wipe σ vs) vs t c e out ge Dl (d :: ds) m H) (dv : Dv K Γ G1 v d)
    (kg : ∀ (v : V) (σ : L2.St) (H : Hp) (Q : L2.St → Hp → Prop) (H0 G0 G : Hp) (g g' : Sg) (d : D), En K Γ H0 G0 G H σ g → Dv K Γ G v d → t d g = some g' → (∀ σ', En K Γ H0 G0 G H σ' g' → (σ'.length = σ.length ∧ ∀ i, i ∉ js → σ'[i]? = σ[i]?) → Q σ' H) → gt v σ H Q) :
    gt v (L2.wipe σ vs) H fun σ2 H2 => L2.wipe σ2 vs = L2.wipe σ vs ∧ tG K Γ Wn RB c σ2 H2 fun b H3 =>
      if b = true then tG K Γ Wn (RD K Γ) e σ2 H3 fun y H4 => ∃ acc, H4 Dl = some (.lst acc) ∧ acc.length < sizeLine ∧ CI K Γ H0 G0 G1 (L2.wipe σ vs) vs t c e out ge Dl ds m (upd H4 Dl (.lst (acc ++ [y])))
      else CI K Γ H0 G0 G1 (L2.wipe σ vs) vs t c e out ge Dl ds m H3 := by
  obtain ⟨G, g, acc, as, r, gr, E, hD, da, gD, h0, mD, ow, hc, ho, hl⟩ := C.ex
  unfold compL at hc
  cases ht : t d g with
  | none => simp only [ht] at hc; cases hc
  | some g1 =>
    simp only [ht] at hc
    obtain ⟨H1, up, dn, F0, back⟩ := E.rebase
    have hD1 : H1 Dl = some (.lst acc) := dn Dl _ hD mD ow
    refine kg v _ H _ H1 G G g g1 d F0 (dv.mono gr) ht fun σ2 F f2 => ?_
    have ew : L2.wipe σ2 vs = L2.wipe σ vs := by
      refine wipe_congr (f2.1.trans (wipe_length _ _)) fun i hi => ?_
      rw [f2.2 i fun z => hi (hj i z), wipe_at hi]
    refine ⟨ew, ?_⟩
    -- what own slots hold is not the new list
    have own_ne : ∀ {G0' G' H' : Hp} {σ' : L2.St} {g' : Sg} {H1 : Hp}, En K Γ H1 G0' G' H' σ' g' → H1 Dl = some (.lst acc) → ∀ (i : Nat) xs, g'.r[i]? = some (Sl.own xs) → σ'[i]? ≠ some (some (V.ref Dl)) := fun {G0' G' H' σ' g' H1} F hF i xs hi hs => by
      obtain ⟨l, _, k1, _, _, k4, _⟩ := F.own i xs hi
      rw [hs] at k1; cases k1; rw [hF] at k4; cases k4
    cases hcf : c g1 with
    | none => simp only [hcf] at hc; cases hc
    | some p =>
      obtain ⟨rc, g2⟩ := p
      cases rc with
      | error x => simp only [hcf] at hc; cases hc
      | ok b =>
        refine ⟨H1, G, G, g1, F, .ok b, g2, hcf, fun b' G2 H2 gr2 F2 rb => ?_⟩
        obtain rfl : b' = b := rb
        have hD2 : H2 Dl = some (.lst acc) := F2.base Dl _ (F.ok_lst hD) hD1
        have gD2 : G2 Dl = none := F2.gfr Dl _ hD1 gD
        cases b' with
        | false =>
          simp only [hcf] at hc
          rw [if_neg Bool.false_ne_true]; have W2 := (back _ _ _ _ F2).wipe vs
          rw [ew] at W2
          refine ⟨G2, _, acc, as, r, gr.trans gr2, W2, hD2, da.mono gr2, gD2, h0, mD, fun i xs hi => ?_, hc, ho, by simp at hl; omega⟩
          obtain ⟨hi, n⟩ := wipeR_get (by intro z; cases z) hi
          rw [← ew, wipe_at n]
          exact own_ne F2 hD1 i xs hi
        | true =>
          simp only [hcf] at hc
          rw [if_pos rfl]
          cases hef : e g2 with
          | none => simp only [hef] at hc; cases hc
          | some p =>
            obtain ⟨re, g3⟩ := p
            cases re with
            | error x => simp only [hef] at hc; cases hc
            | ok x =>
              simp only [hef] at hc
              obtain ⟨q, hq, eq⟩ := Option.map_eq_some_iff.mp hc
              cases eq
              refine ⟨H1, G, G2, g2, F2, .ok x, g3, hef, fun y G3 H3 gr3 F3 dy => ⟨acc, F3.base Dl _ (F.ok_lst hD) hD1, ?_, ?_⟩⟩
              · have := da.length
                simp at hl
                exact Nat.lt_of_lt_of_le (show acc.length < 100001 by omega) (by decide)
              · have gD3 : G3 Dl = none := F3.gfr Dl _ hD1 gD
                have B3 := back _ _ _ _ F3
                have W3 := (B3.touch (o := .lst (acc ++ [y])) gD3 h0 mD (sf_lst (F3.base Dl _ (F.ok_lst hD) hD1)) (own_ne F3 hD1)).wipe vs
                rw [ew] at W3
                refine ⟨G3, _, acc ++ [y], as ++ [x], q.1, (gr.trans gr2).trans gr3, W3, upd_same, ((da.mono gr2).mono gr3).append (.cons dy .nil), gD3, h0, mD, fun i xs hi => ?_, hq, by rw [ho]; simp, by simp at hl ⊢; omega⟩
                obtain ⟨hi, n⟩ := wipeR_get (by intro z; cases z) hi
                rw [← ew, wipe_at n]
                exact own_ne F3 hD1 i xs hi

theorem _root_.L2.PTs.imp {X : Cx} {e : List Expr} {t t' : TT} (h : PTs X e t) (k : ∀ σ H Q, t' σ H Q → t σ H Q) : PTs X e t' := ⟨fun p s σ H Q I q => h.run p s σ H Q I (k _ _ _ q)⟩
abbrev DTs (X : Cx) (Γ : Gam) (W : WX) (e : List Expr) (f : Mo Bool) : Prop := PTs X e (tG X.K Γ W RB f)
def fComp (vs : List Nat) (fi : Mo D) (t : Mt) (c : Mo Bool) (e : Mo D) : Mo (List D) := bd fi fun d => match aSeq d with
  | some ds => compF vs t c e ds
  | none => stop
theorem tAt.bindE {K : PySem.W.Frag} {Γ : Gam} {W : WX} {α β α' β' : Type} {R : Rel β α} {R1 : Rel β' α'} {f : Mo α'} {k : α' → Mo α} {H0 G0 G H : Hp} {g : Sg} {σ : L2.St} {Q : β → Hp → Prop} {P : β' → Hp → Prop}
    (h : tAt K Γ W R (bd f k) H0 G0 G g σ H Q) (hp : ∀ d v g1 G1 H1, f g = some (.ok d, g1) → Gr G G1 → R1 H0 G1 H1 σ g1 v d → tAt K Γ W R (k d) H0 G0 G1 g1 σ H1 Q → P v H1) : tAt K Γ W R1 f H0 G0 G g σ H P := by
  obtain ⟨E, r, g', e, q⟩ := h
  refine ⟨E, ?_⟩
  unfold bd at e
  cases hf : f g with
  | none => (rw [hf] at e); cases e
  | some p =>
    obtain ⟨r1, g1⟩ := p
    rw [hf] at e
    cases r1 with
    | error x =>
      cases e
      exact ⟨.error x, _, rfl, q⟩
    | ok d =>
      refine ⟨.ok d, g1, rfl, fun v G1 H1 gr E1 r1 => hp d v g1 G1 H1 hf gr r1 ⟨E1, r, g', e, ?_⟩⟩
      cases r with
      | ok d2 => exact fun v2 G2 H2 gr2 => q v2 G2 H2 (gr.trans gr2)
      | error x => exact fun C dd G2 H2 gr2 => q C dd G2 H2 (gr.trans gr2)
section
variable {K : PySem.W.Frag} {Γ : Gam} {W : WX}
/-- what the walk over the items gives -/
theorem comp_start {H0 G0 G1 H1 : Hp} {σ : L2.St} {g1 : Sg} {vs : List Nat} {t : Mt} {c : Mo Bool} {e : Mo D} {ds : List D} {Q : VK} (h : tAt K Γ W (RF K Γ) (compF vs t c e ds) H0 G0 G1 g1 σ H1 Q) {Dl : Addr} (hD : H1 Dl = none) :
    ∃ out ge, ds.length ≤ 100000 ∧ CI K Γ H0 G0 G1 (L2.wipe σ vs) vs t c e out ge Dl ds ds.length (upd H1 Dl (.lst [])) ∧ ∀ H', CI K Γ H0 G0 G1 (L2.wipe σ vs) vs t c e out ge Dl [] ds.length H' → Q (.ref Dl) H' := by
  obtain ⟨E, r, g', e', q⟩ := h
  unfold compF at e'
  split at e'
  · rename_i hl
    obtain ⟨p, hp, ep⟩ := Option.map_eq_some_iff.mp e'
    cases ep
    obtain ⟨om, hM⟩ := E.hm
    have mD : Dl ≠ Γ.M := Ne.symm (ne_of_none hM hD)
    have gD : G1 Dl = none := by
      cases z : G1 Dl with
      | none => rfl
      | some u => rw [E.sub _ _ z] at hD; cases hD
    have h0 : H0 Dl = none := by
      cases z : H0 Dl with
      | none => rfl
      | some u => obtain ⟨u', z⟩ := E.there z; rw [hD] at z; cases z
    have ow : ∀ (i : Nat) xs, (wipeR g1.r vs)[i]? = some (Sl.own xs) → (L2.wipe σ vs)[i]? ≠ some (some (V.ref Dl)) := fun i xs hi hs => by
      obtain ⟨l, _, k1, k2, _⟩ := (E.wipe vs).own i xs hi
      rw [hs] at k1; cases k1; rw [k2] at hD; cases hD
    refine ⟨p.1, p.2, hl, ⟨G1, _, [], [], p.1, Gr.refl _, ((E.newO hD).wipe vs), upd_same, .nil, gD, h0, mD, ow, hp, rfl, by simp⟩, fun H' C => ?_⟩
    obtain ⟨G, g, acc, as, r, gr, E2, hD2, da, gD2, h02, _, ow2, hc, ho, _⟩ := C.ex
    cases hc
    rw [List.append_nil] at ho
    refine q _ G H' gr E2.unwipe ⟨Dl, acc, rfl, hD2, gD2, h02, by rw [ho]; exact da, fun i zs hi hs => ?_⟩
    obtain ⟨l, _, k1, _⟩ := E2.own i zs hi
    have k2 := (wipe_some k1).1
    rw [hs] at k2; cases k2
    exact ow2 i zs hi k1
  · cases e'
end
section
variable {X : Cx} {Γ : Gam} {W : WX} {elt tg iter : Expr} {ifs : List Expr} {scope : Scope} {own : List (Str × Nat)} {pos : Pos}
theorem lc_read {K : PySem.W.Frag} {fi : Mo D} {t : Mt} {c : Mo Bool} {e : Mo D} {gt : TG} {js vs : List Nat} (hj : ∀ j ∈ js, j ∈ vs)
    (kg : ∀ (v : V) (σ : L2.St) (H : Hp) (Q : L2.St → Hp → Prop) (H0 G0 G : Hp) (g g' : Sg) (d : D), En K Γ H0 G0 G H σ g → Dv K Γ G v d → t d g = some g' → (∀ σ', En K Γ H0 G0 G H σ' g' → (σ'.length = σ.length ∧ ∀ i, i ∉ js → σ'[i]? = σ[i]?) → Q σ' H) → gt v σ H Q)
    {σ : L2.St} {H : Hp} {Q : VK} (h : tG K Γ W (RF K Γ) (fComp vs fi t c e) σ H Q) :
    tLc (fun σ H R => iList K (tG K Γ W (RD K Γ) fi) σ H R ∨ iTup K (tG K Γ W (RD K Γ) fi) σ H R) gt (tG K Γ Wn RB c) (tG K Γ Wn (RD K Γ) e) vs σ H Q := by
  obtain ⟨H0, G0, G, g, h⟩ := h
  by_cases hl : ∃ xs g1, fi g = some (.ok (D.lst xs), g1)
  · refine .inl ⟨H0, G0, G, g, h.bindE (R1 := RD K Γ) fun d v g1 G1 H1 hfe gr r1 h1 => ?_⟩
    cases d with
    | lst ds =>
      obtain ⟨l, ws, rfl, h3, h4⟩ := Dv.lst_inv r1
      have h1 : tAt K Γ W (RF K Γ) (compF vs t c e ds) H0 G0 G1 g1 σ H1 Q := h1
      refine ⟨l, rfl, ⟨ws, SqL.of (h1.1.sub _ _ h3)⟩, fun Dl hD => ?_⟩
      obtain ⟨out, ge, hm, c0, fin⟩ := comp_start h1 hD
      refine lc_list (xs := ws) (fun i H2 => CI K Γ H0 G0 G1 (L2.wipe σ vs) vs t c e out ge Dl (ds.drop i) ds.length H2) c0 (fun i H2 _ C => ?_) (fun i x H2 hx C => ?_) (fun H2 C => ?_)
      · obtain ⟨G2, _, _, _, _, gr2, E2, _⟩ := C.ex
        exact SqL.of (E2.sub _ _ (gr2 _ _ h3))
      · obtain ⟨d, hd, dv⟩ := h4.get' i hx
        have ed : ds.drop i = d :: ds.drop (i + 1) := by
          obtain ⟨il, e⟩ := List.getElem?_eq_some_iff.mp hd
          rw [← e]; exact List.drop_eq_getElem_cons il
        rw [ed] at C
        exact comp_turn hm hj C dv kg
      · rw [h4.length, List.drop_length] at C
        exact fin H2 C
    | tup ds =>
      obtain ⟨xs, g2, hl⟩ := hl
      rw [hl] at hfe; cases hfe
    | _ => exact h1.stop
  · refine .inr ⟨H0, G0, G, g, h.bindE (R1 := RD K Γ) fun d v g1 G1 H1 hfe gr r1 h1 => ?_⟩
    cases d with
    | tup ds =>
      obtain ⟨l, ws, rfl, h3, h4⟩ := Dv.tup_inv r1
      have h1 : tAt K Γ W (RF K Γ) (compF vs t c e ds) H0 G0 G1 g1 σ H1 Q := h1
      refine ⟨l, rfl, ⟨ws, h1.1.sub.sqT h3⟩, fun Dl hD => ?_⟩
      obtain ⟨out, ge, hm, c0, fin⟩ := comp_start h1 hD
      refine lc_tup (xs := ws) (fun i H2 => CI K Γ H0 G0 G1 (L2.wipe σ vs) vs t c e out ge Dl (ds.drop i) ds.length H2) c0 (fun i H2 _ C => ?_) (fun i x H2 hx C => ?_) (fun H2 C => ?_)
      · obtain ⟨G2, _, _, _, _, gr2, E2, _⟩ := C.ex
        exact E2.sub.sqT (gr2.sqT h3)
      · obtain ⟨d, hd, dv⟩ := h4.get' i hx
        have ed : ds.drop i = d :: ds.drop (i + 1) := by
          obtain ⟨il, e⟩ := List.getElem?_eq_some_iff.mp hd
          rw [← e]; exact List.drop_eq_getElem_cons il
        rw [ed] at C
        exact comp_turn hm hj C dv kg
      · rw [h4.length, List.drop_length] at C
        exact fin H2 C
    | lst ds => exact absurd ⟨ds, g1, hfe⟩ hl
    | _ => exact h1.stop
/-- the parts of a comprehension, in its block -/
def CompOk (X : Cx) (Γ : Gam) (elt tg : Expr) (ifs : List Expr) (scope : Scope) (gt : TG) (js : List Nat) (t : Mt) (c : Mo Bool) (e : Mo D) : Prop :=
  (∀ (s : Shared) (H : Hp) (C : Addr) (cl : List (Str × Addr)) (fp : List Addr), DG (X.blk s H scope (compEnvC scope cl C X.env) fp) Γ tg gt js t) ∧
  (∀ (s : Shared) (H : Hp) (C : Addr) (cl : List (Str × Addr)) (fp : List Addr), DTs (X.blk s H scope (compEnvC scope cl C X.env) fp) Γ Wn ifs c) ∧
  ∀ (s : Shared) (H : Hp) (C : Addr) (cl : List (Str × Addr)) (fp : List Addr), DX (X.blk s H scope (compEnvC scope cl C X.env) fp) Γ Wn elt e
theorem CompOk.sem {gt : TG} {js : List Nat} {t : Mt} {c : Mo Bool} {e : Mo D} (k : CompOk X Γ elt tg ifs scope gt js t c e) : TgS X.K Γ gt js t :=
  (k.1 X.s_0 (fun _ => none) X.env.locals [] []).2
theorem d_comp {fi : Mo D} {t : Mt} {c : Mo Bool} {e : Mo D} {gt : TG} {js : List Nat} (hc : X.calm = true) (hN : X.N.Nodup) (hi : DX X Γ W iter fi) (ok : BlkOk X.N X.env.scope scope own) (hj : ∀ j ∈ js, j ∈ own.map (·.2)) (k : CompOk X Γ elt tg ifs scope gt js t c e)
    (hs : ∀ x, foldedSetIterable iter X.env x = pure x := by intro _; rfl) : DF X Γ W (.ListComp elt [⟨tg, iter, ifs, 0⟩] scope pos) (fComp (own.map (·.2)) fi t c e) := by
  have kg := k.sem
  obtain ⟨pg, kt, ke⟩ := k
  exact (pe_lc hc hN (PI.or (pi_list (tl := tG X.K Γ W (RD X.K Γ) fi) hi) (pi_tup (tl := tG X.K Γ W (RD X.K Γ) fi) hi)) ok (fun s H C cl fp => (pg s H C cl fp).1) kt ke hs).imp fun σ H Q h => lc_read hj kg h
end
end DE
namespace DE
open PyProof.Rows PySem.Spec PySem L2

/-! ### a def's promise over data -/
/-- what a call may have done to the heap -/
structure Aft (Γ : Gam) (G H G' H' : Hp) : Prop where
  keep : ∀ a o, Γ.Ok a → H a = some o → H' a = some o
  gr : Gr G G'
  sub : Gr G' H'
  gm : G' Γ.M = none
  fr : ∀ a o, H a = some o → G a = none → G' a = none
  tb : LamX.Tabs Γ.T H'
  gt : ∀ p ∈ Γ.T, G' p.1 = none
abbrev Fd := List D → DS → Option (Except Exn D × DS)
def dsp (K : PySem.W.Frag) (Γ : Gam) (n : Nat) (gm : Fd) : Sp := fun vs H Q E => ∃ G s ds r s', Gr G H ∧ (G Γ.M = none ∧ LamX.Tabs Γ.T H ∧ ∀ p ∈ Γ.T, G p.1 = none) ∧ StM Γ G H s ∧ DvA K Γ G vs ds ∧ ds.length = n ∧ gm ds s = some (r, s') ∧ match r with
  | .ok d => ∀ v G' H', Aft Γ G H G' H' → StM Γ G' H' s' → Dv K Γ G' v d → Q v H'
  | .error x => ∀ C dd G' H', Aft Γ G H G' H' → StM Γ G' H' s' → ExD K Γ G' C dd x → E C dd H'
theorem En.aft {K : PySem.W.Frag} {Γ : Gam} {H0 G0 G H G' H' : Hp} {σ : L2.St} {g : Sg} {s' : DS} (E : En K Γ H0 G0 G H σ g) (A : Aft Γ G H G' H') (h : StM Γ G' H' s') : En K Γ H0 G0 G' H' σ ⟨g.r, s'⟩ := by
  refine ⟨fun a o n h => A.keep a o n (E.base a o n h), fun a o h h' => ?_, E.g0.trans A.gr, A.sub, A.gm, h, E.len, fun i d h => ?_, fun i xs h => ?_, E.dis, A.tb, A.gt, fun i f c q G1 h => (let ⟨x, y, z⟩ := E.fn i f c q G1 h; ⟨x, A.keep c _ (E.ok_code y) y, z.trans A.gr⟩), E.odk.same A.gr fun l xs e e1 e2 => ⟨A.keep l _ (E.ok_dn e) e, A.fr l _ e e1, e2⟩⟩
  · by_cases n : Γ.Ok a
    case neg =>
      by_cases m : a = Γ.M
      · rw [m]; exact A.gm
      · have : ∃ p ∈ Γ.T, a = p.1 := Classical.byContradiction fun z => n ⟨m, fun p hp e => z ⟨p, hp, e⟩⟩
        obtain ⟨p, hp, rfl⟩ := this
        exact A.gt p hp
    · exact A.fr a o (E.base a o n h) (E.gfr a o h h')
  · obtain ⟨v, h1, h2⟩ := E.dat i d h
    exact ⟨v, h1, h2.mono A.gr⟩
  · obtain ⟨l, vs, h1, h2, h3, h4, h5⟩ := E.own i xs h
    exact ⟨l, vs, h1, A.keep l _ (E.ok_lst h2) h2, A.fr l _ h2 h3, h4, h5.mono A.gr⟩

/-- FnOk where no guarded code is under way -/
structure FnG (P : Program) (w : World) (K : PySem.W.Frag) (mg : Str → Option Value) (base : Heap) (k : Nat) (f : Addr) (fd : FuncData) (ps : List Str) (sp : Sp) : Prop where
  len : ∀ us H Q E, sp us H Q E → us.length = ps.length
  run : ∀ (A : Around) (outer : List Env) (s : Shared) (H : Hp) (args : Args) (us : List Value) (vs : List V) (Q : VK) (E : XK), Room k A → A.guards = some [] → Env0 P w K mg base A outer s H → BindsTo s fd args (ps.zip us) → Vals vs us → sp vs H Q E →
    codeAny (model P w) A (.call (.ref f) args) (CR (L2.CX P w) outer P w H s Q E) s
theorem FnG.mono {P : Program} {w : World} {K : PySem.W.Frag} {mg : Str → Option Value} {base : Heap} {j k : Nat} {f : Addr} {fd : FuncData} {ps : List Str} {sp : Sp} (F : FnG P w K mg base j f fd ps sp) (h : j ≤ k) : FnG P w K mg base k f fd ps sp :=
  ⟨F.len, fun A outer s H args us vs Q E hr hg => F.run A outer s H args us vs Q E (hr.mono h) hg⟩

abbrev cxD (P : Program) (w : World) (K : PySem.W.Frag) (mg : Str → Option Value) (base : Heap) (N : List Str) (qual : Str) (st : Stmt) (f : Addr) (cdv : Value) (A : Around) (outer : List Env) (s : Shared) (H : Hp) (E : XK) : Cx :=
  cxOf (L2.CX P w) P w K mg base N qual (defScope st) f cdv A outer s H E
/-- what a body's derivation may lean on -/
structure Ct (X : Cx) (W : WX) (k : Nat) : Prop where
  calm : X.calm = true
  tk : Takes X W
  pas : PassesOwn (model X.prog X.w) X.A X.env X.xe
  room : Room k X.A
  gua : X.A.guards = some []
theorem fnG_ofC {P : Program} {w : World} {K : PySem.W.Frag} {mg : Str → Option Value} {base : Heap} {x qual : Str} {st : Stmt} {f : Addr} {fd : FuncData} {N ps : List Str} {k : Nat} {sp : Sp}
    (F : Fun K x qual st f fd) (S : FnScope N ps (defScope st)) (len : ∀ vs H Q E, sp vs H Q E → vs.length = ps.length)
    (hbody : ∀ (cdv : Value) (A : Around) (outer : List Env) (s : Shared) (H : Hp) (vs : List V) (Q : VK) (E : XK), fd.code = cdv →
      Ct (cxD P w K mg base N qual st f cdv A outer s H E) (fun c d _ H => E c d H) k → sp vs H Q E →
      ∃ t, PSs (cxD P w K mg base N qual st f cdv A outer s H E) (defBody st) t ∧ t { nx := fun _ H' => Q .non H', rt := Q } (L2.start N vs) H) :
    FnG P w K mg base (k + 1) f fd ps sp := by
  obtain ⟨oc, od, kV, doc, pm, an, cdv, ct, osl, rfl, lk, hcd⟩ := F.ex; refine ⟨len, fun A outer s H args us vs Q E hr hg e0 hb r hsp => ?_⟩; have KX : K.In s.heap := e0.mod.kin.keeps fun b o e => (e0.bs b o e).1
  have kinds : ∀ y ∈ ps.zip us, (defScope st).names.lookup y.1 = some .local ∨ ((defScope st).names.lookup y.1 = some .cell ∧ ((cellsFrom (s.heap.objs.size + 1) (defScope st).names []).lookup y.1).isSome = true) := by
    rintro ⟨n, v⟩ hy
    exact (S.par n (List.of_mem_zip hy).1).imp id fun q => ⟨q, PySem.W.cellsFrom_some _ _ _ (.inl q)⟩
  refine codeAny_call_function hr.depth (KX _ _ lk) rfl S.co S.gen rfl (PySem.W.codeRec_of KX hcd) (hb _ _ _ _ ?_); refine wpAny_newFunctionEnv_cells S.kind kinds fun env he s1 x => ?_
  subst he
  have lim : s.heap.NoLimit := e0.mod.nolimit.keeps fun b o e => (e0.bs b o e).1; refine ⟨lim.keeps x.toInCall.keep, codeAny_func ?_⟩
  have C : Ct (cxD P w K mg base N qual st f cdv A outer s H E) (fun c d _ H => E c d H) k := ⟨rfl, takes_of rfl rfl rfl rfl, PassesOwn.leaving, hr.deeper _, hg⟩
  obtain ⟨t, ht, hq⟩ := hbody cdv A outer s H vs Q E rfl C hsp
  have I : Inv (cxD P w K mg base N qual st f cdv A outer s H E) [] (L2.start N vs) H s1 := inv_start S hr.hd e0 (len _ _ _ _ hsp) r x
  refine wpAny_mono (ht.run [] s1 _ H _ I hq) (fun fl s' hs => ?_) fun e s' hs => hs
  cases fl with
  | brk => exact hs.elim fun _ z => z.elim fun _ z => z.2.elim
  | cont => exact hs.elim fun _ z => z.elim fun _ z => z.2.elim
  | next =>
    obtain ⟨σ', H', J, q⟩ := hs
    exact ⟨V.non, H', J.os, J.bare, J.base, J.hok, rfl, q⟩
  | ret u =>
    obtain ⟨v, σ', H', J, rv, q⟩ := hs; exact ⟨v, H', J.os, J.bare, J.base, J.hok, rv, q⟩
theorem fnG_of {P : Program} {w : World} {K : PySem.W.Frag} {mg : Str → Option Value} {base : Heap} {x qual : Str} {st : Stmt} {f : Addr} {fd : FuncData} {N ps : List Str} {k : Nat} {sp : Sp}
    (F : Fun K x qual st f fd) (S : FnScope N ps (defScope st)) (len : ∀ vs H Q E, sp vs H Q E → vs.length = ps.length)
    (hbody : ∀ (cdv : Value) (A : Around) (outer : List Env) (s : Shared) (H : Hp) (vs : List V) (Q : VK) (E : XK),
      Ct (cxD P w K mg base N qual st f cdv A outer s H E) (fun c d _ H => E c d H) k → sp vs H Q E →
      ∃ t, PSs (cxD P w K mg base N qual st f cdv A outer s H E) (defBody st) t ∧ t { nx := fun _ H' => Q .non H', rt := Q } (L2.start N vs) H) :
    FnG P w K mg base (k + 1) f fd ps sp :=
  fnG_ofC F S len fun cdv A outer s H vs Q E _ C h => hbody cdv A outer s H vs Q E C h
theorem runG {X : Cx} {W : WX} {k : Nat} {f : Addr} {fd : FuncData} {ps : List Str} {sp : Sp} {pins : List (Addr × Obj)} {σ : L2.St} {H : Hp} {s : Shared} {Q : VK} {us : List Value} {vs : List V}
    (F : FnG X.prog X.w X.K X.mg X.base k f fd ps sp) (C : Ct X W k) (hb : Binds X.K fd ps []) (I : Inv X pins σ H s) (r : Vals vs us) (h : sp vs H Q (WE W σ)) : wpAny (model X.prog X.w) X.A (call (.ref f) us) (EP X pins σ Q) X.xe s := by
  have hl : us.length = ps.length := r.length.symm.trans (F.len _ _ _ _ h)
  have hb' : BindsTo s fd ⟨us, []⟩ (ps.zip us) := by
    have q := hb s us I.kIn (by rw [List.append_nil]; exact hl)
    rw [List.append_nil] at q; exact q
  refine wpAny_call (codeAny_mono (F.run X.A X.stack s H ⟨us, []⟩ us vs Q (WE W σ) C.room C.gua I.env0 hb' r h) fun r s' hq => ?_)
  cases r with
  | error e => exact passAt C.tk σ pins H s e s' I hq
  | ok fl =>
    cases fl with
    | ret u => exact I.after hq
    | next => exact hq.elim
    | brk => exact hq.elim
    | cont => exact hq.elim
section
variable {X : Cx} {Γ : Gam} {W : WX} {a b e : Expr} {es : List Expr} {pos : Pos}
def lift (gm : Fd) (ds : List D) : Mo D := fun g => match gm ds g.s with
  | none => none
  | some (r, s') => some (r, ⟨g.r, s'⟩)
/-- the call's data promise from what stands at the call -/
theorem dsp_at {gm : Fd} {n : Nat} {ds : List D} {vs : List V} {H0 G0 G H : Hp} {g : Sg} {σ : L2.St} {Q : VK} (h : tAt X.K Γ W (RD X.K Γ) (lift gm ds) H0 G0 G g σ H Q) (dv : DvA X.K Γ G vs ds) (hn : ds.length = n) : dsp X.K Γ n gm vs H Q (WE W σ) := by
  obtain ⟨E, r, g', e, q⟩ := h
  unfold lift at e
  cases hg : gm ds g.s with
  | none => rw [hg] at e; cases e
  | some p =>
    obtain ⟨r1, s'⟩ := p
    rw [hg] at e
    cases e
    refine ⟨G, g.s, ds, r, s', E.sub, ⟨E.gm, E.tb, E.gt⟩, E.st, dv, hn, hg, ?_⟩
    cases r with
    | ok d => exact fun v G' H' A st dv' => q v G' H' A.gr (E.aft A st) dv'
    | error x => exact fun C dd G' H' A st ex => q C dd G' H' A.gr (E.aft A st) ex
theorem pe_callG {k : Nat} {f : Addr} {fd : FuncData} {ps : List Str} {sp : Sp} {x : Str} {p : Pos} {t : TA} (F : FnG X.prog X.w X.K X.mg X.base k f fd ps sp) (C : Ct X W k) (hg : Gl X x) (hm : X.mg x = some (.ref f)) (hk : PySem.W.keepIn X.K (.ref f) = true) (hb : Binds X.K fd ps [])
    (args : PA X (e :: es) t) (hdb : (x == ("__debug__" : Str)) = false := by decide) (he : starEach (e :: es) X.env = (false, eval e X.env) :: starEach es X.env := by rfl) (hpl : (backTo pos (starEach es X.env)).any (·.1) = false := by rfl) :
    PE X (.Call (.Name x p) (e :: es) [] pos) (fun σ H Q => t σ H fun vs H1 => sp vs H1 Q (WE W σ)) := by
  refine ⟨fun pins s σ H Q I h => ?_⟩; refine wpAny_Call_Name_kw (ld_glob I hg hm ?_ hdb)
  refine PySem.W.callWith_K (h₀ := X.base) I.ok.mod.kin hk (thn (args.run pos pins s σ H _ I h) fun us s1 ⟨vs, H1, I1, r, q⟩ => ⟨I1.kIn, ?_⟩) he hpl; exact runG F C hb I1 r q
/-- f(e, ..) -/
def fCallN (n : Nat) (gm : Fd) (fa : Mo (List D)) : Mo D := bd fa fun ds => if ds.length = n then lift gm ds else stop
theorem d_call {k n : Nat} {f : Addr} {fd : FuncData} {ps : List Str} {gm : Fd} {x : Str} {p : Pos} {fa : Mo (List D)} (F : FnG X.prog X.w X.K X.mg X.base k f fd ps (dsp X.K Γ n gm)) (C : Ct X W k) (hg : Gl X x) (hm : X.mg x = some (.ref f)) (hk : PySem.W.keepIn X.K (.ref f) = true) (hb : Binds X.K fd ps [])
    (ha : DA X Γ W (e :: es) fa) (hdb : (x == ("__debug__" : Str)) = false := by decide) (he : starEach (e :: es) X.env = (false, eval e X.env) :: starEach es X.env := by rfl) (hpl : (backTo pos (starEach es X.env)).any (·.1) = false := by rfl) :
    DX X Γ W (.Call (.Name x p) (e :: es) [] pos) (fCallN n gm fa) :=
  (pe_callG F C hg hm hk hb ha hdb he hpl).imp fun σ H Q h => h.bind fun H0 G0 ds vs g1 G1 H1 r1 h1 => by
    by_cases c : ds.length = n
    · rw [if_pos c] at h1; exact dsp_at h1 r1 c
    · rw [if_neg c] at h1; exact h1.stop
end
/-- THE RULE for a def over data: f runs the body; gm is what it comes to -/
def bodyGives (f : Ms) (N : Nat) (n : Nat) (gm : Fd) : Prop := ∀ (ds : List D) (s : DS) r s', ds.length = n → gm ds s = some (r, s') → ∃ g', g'.s = s' ∧ ((f ⟨ds.map .dat ++ List.replicate (N - n) .no, s⟩ = some ((match r with | .ok d => .ret d | .error x => .exc x), g')) ∨ (r = .ok .non ∧ f ⟨ds.map .dat ++ List.replicate (N - n) .no, s⟩ = some (.nx, g')))
theorem fn_dataC {P : Program} {w : World} {K : PySem.W.Frag} {mg : Str → Option Value} {base : Heap} {x qual : Str} {st : Stmt} {f : Addr} {fd : FuncData} {N ps : List Str} {k : Nat} {Γ : Gam} {gm : Fd}
    (F : Fun K x qual st f fd) (S : FnScope N ps (defScope st)) (fb : Ms) (hb : bodyGives fb N.length ps.length gm)
    (hd : ∀ (cdv : Value) (A : Around) (outer : List Env) (s : Shared) (H : Hp) (E : XK), fd.code = cdv → Ct (cxD P w K mg base N qual st f cdv A outer s H E) (fun c d _ H => E c d H) k → DB (cxD P w K mg base N qual st f cdv A outer s H E) Γ (fun c d _ H => E c d H) (defBody st) fb) :
    FnG P w K mg base (k + 1) f fd ps (dsp K Γ ps.length gm) := by
  refine fnG_ofC F S (fun vs H Q E h => ?_) (fun cdv A outer s H vs Q E hc C h => ⟨_, hd cdv A outer s H E hc C, ?_⟩)
  · obtain ⟨G, s, ds, r, s', _, _, _, dv, hn, _⟩ := h
    rw [dv.length]; exact hn
  · obtain ⟨G, s0, ds, r, s', sub, ⟨gm0, tb0, gt0⟩, st0, dv, hn, hg, q⟩ := h
    obtain ⟨g', hs, hf⟩ := hb ds s0 r s' hn hg
    have hN : ps.length ≤ N.length := by have := congrArg List.length S.pre; rw [List.length_take] at this; omega
    have E0 : En K Γ H G G H (L2.start N vs) ⟨ds.map .dat ++ List.replicate (N.length - ps.length) .no, s0⟩ := by
      have hv := dv.length
      refine ⟨fun a o _ h => h, fun a o _ h => h, Gr.refl _, sub, gm0, st0, ?_, fun i d h => ?_, fun i xs h => ?_, fun i j xs ys l h => ?_, tb0, gt0, fun i f c q G1 h => ?_, OdA.no2 (fun i t kvs h => ?_) (fun i kvs h => ?_)⟩
      · unfold L2.start; simp [hv, hn]
      · have hi : i < ds.length := by
          by_cases c : i < ds.length
          · exact c
          · rw [List.getElem?_append_right (by simpa using c), List.getElem?_replicate] at h
            split at h <;> cases h
        rw [List.getElem?_append_left (by simpa using hi), List.getElem?_map] at h
        have hd : ds[i]? = some d := by
          cases e : ds[i]? with
          | none => (rw [e] at h); cases h
          | some d' => rw [e] at h; cases h; rfl
        obtain ⟨v, h1, h2⟩ := dv.get i hd
        refine ⟨v, ?_, h2⟩
        unfold L2.start
        rw [List.getElem?_append_left (by simp; omega), List.getElem?_map, h1]; rfl
      · exfalso
        by_cases c : i < ds.length
        · rw [List.getElem?_append_left (by simpa using c), List.getElem?_map] at h
          cases e : ds[i]? with
          | none => (rw [e] at h); cases h
          | some d' => rw [e] at h; cases h
        · rw [List.getElem?_append_right (by simpa using c), List.getElem?_replicate] at h
          split at h <;> cases h
      · exfalso
        by_cases c : i < ds.length
        · rw [List.getElem?_append_left (by simpa using c), List.getElem?_map] at h
          cases e : ds[i]? with
          | none => (rw [e] at h); cases h
          | some d' => rw [e] at h; cases h
        · rw [List.getElem?_append_right (by simpa using c), List.getElem?_replicate] at h
          split at h <;> cases h
      · exfalso
        by_cases c : i < ds.length
        · rw [List.getElem?_append_left (by simpa using c), List.getElem?_map] at h
          cases e : ds[i]? with
          | none => (rw [e] at h); cases h
          | some d' => rw [e] at h; cases h
        · rw [List.getElem?_append_right (by simpa using c), List.getElem?_replicate] at h
          split at h <;> cases h
      · exfalso
        by_cases c : i < ds.length
        · rw [List.getElem?_append_left (by simpa using c), List.getElem?_map] at h
          cases e : ds[i]? with
          | none => (rw [e] at h); cases h
          | some d' => rw [e] at h; cases h
        · rw [List.getElem?_append_right (by simpa using c), List.getElem?_replicate] at h
          split at h <;> cases h
      · exfalso
        by_cases c : i < ds.length
        · rw [List.getElem?_append_left (by simpa using c), List.getElem?_map] at h
          cases e : ds[i]? with
          | none => (rw [e] at h); cases h
          | some d' => rw [e] at h; cases h
        · rw [List.getElem?_append_right (by simpa using c), List.getElem?_replicate] at h
          split at h <;> cases h
    have aft : ∀ {σ' : L2.St} {G' H' : Hp}, En K Γ H G G' H' σ' g' → Aft Γ G H G' H' ∧ StM Γ G' H' s' := fun E => ⟨⟨fun a o n h => E.base a o n h, E.g0, E.sub, E.gm, fun a o h h' => E.gfr a o h h', E.tb, E.gt⟩, hs ▸ E.st⟩
    refine ⟨H, G, G, _, E0, ?_⟩
    rcases hf with hf | ⟨rfl, hf⟩
    · cases r with
      | ok d => exact ⟨.ret d, g', hf, fun v σ' G' H' gr E dv' => q v G' H' (aft E).1 (aft E).2 dv'⟩
      | error x => exact ⟨.exc x, g', hf, fun C dd σ' G' H' gr E ex => q C dd G' H' (aft E).1 (aft E).2 ex⟩
    · exact ⟨.nx, g', hf, fun σ' G' H' gr E => q .non G' H' (aft E).1 (aft E).2 .non⟩
theorem fn_data {P : Program} {w : World} {K : PySem.W.Frag} {mg : Str → Option Value} {base : Heap} {x qual : Str} {st : Stmt} {f : Addr} {fd : FuncData} {N ps : List Str} {k : Nat} {Γ : Gam} {gm : Fd}
    (F : Fun K x qual st f fd) (S : FnScope N ps (defScope st)) (fb : Ms) (hb : bodyGives fb N.length ps.length gm)
    (hd : ∀ (cdv : Value) (A : Around) (outer : List Env) (s : Shared) (H : Hp) (E : XK), Ct (cxD P w K mg base N qual st f cdv A outer s H E) (fun c d _ H => E c d H) k → DB (cxD P w K mg base N qual st f cdv A outer s H E) Γ (fun c d _ H => E c d H) (defBody st) fb) :
    FnG P w K mg base (k + 1) f fd ps (dsp K Γ ps.length gm) :=
  fn_dataC F S fb hb fun cdv A outer s H E _ C => hd cdv A outer s H E C
end DE
namespace DE
open PyProof.Rows PySem.Spec PySem L2

/-! ### plain data -/
mutual
def pyd : D → Option PyData
  | .non => some .none
  | .bl b => some (.bool b)
  | .int i => some (.int i)
  | .str s => some (.str s)
  | .lst xs => (pydA xs).map .list
  | .tup xs => (pydA xs).map .tuple
  | .dic _ => none
  | .m => none
  | .exc _ _ => none
  | .scr _ => none
  | .fn _ => none
  | .dkn _ => none
  | .fzt _ => none
def pydA : List D → Option (List PyData)
  | [] => some []
  | d :: ds => match pyd d, pydA ds with
    | some p, some ps => some (p :: ps)
    | _, _ => none
end
section
variable {K : PySem.W.Frag} {Γ : Gam} {G H : Hp}
mutual
theorem Dv.dp (e : Gr G H) : ∀ {v : V} {d : D} {p : PyData}, Dv K Γ G v d → pyd d = some p → Dp K H v p
  | _, _, _, .non, h => by simp [pyd] at h; subst h; exact .non
  | _, _, _, .bl b, h => by simp [pyd] at h; subst h; exact .bl b
  | _, _, _, .int i, h => by simp [pyd] at h; subst h; exact .int i
  | _, _, _, .str s, h => by simp [pyd] at h; subst h; exact .str s
  | _, _, _, .lst h1 t, h => by
    simp only [pyd, Option.map_eq_some_iff] at h
    obtain ⟨ps, hp, rfl⟩ := h
    exact .lst (SqL.of (e _ _ h1)) (DvA.dp e t hp)
  | _, _, _, .tup h1 t, h => by
    simp only [pyd, Option.map_eq_some_iff] at h
    obtain ⟨ps, hp, rfl⟩ := h
    exact .tup (e.sqT h1) (DvA.dp e t hp)
  | _, _, _, .dic _ _, h => by simp [pyd] at h
  | _, _, _, .m, h => by simp [pyd] at h
  | _, _, _, .scr _, h => by simp [pyd] at h
  | _, _, _, .fn _, h => by simp [pyd] at h
  | _, _, _, .exc _ _ _ _, h => by simp [pyd] at h
  | _, _, _, .exc0 _ _, h => by simp [pyd] at h
  | _, _, _, .dkn _ _, h => by simp [pyd] at h
  | _, _, _, .fzt _ _ _ _, h => by simp [pyd] at h
theorem DvA.dp (e : Gr G H) : ∀ {v : List V} {d : List D} {p : List PyData}, DvA K Γ G v d → pydA d = some p → DpAll K H v p
  | _, _, _, .nil, h => by simp [pydA] at h; subst h; exact .nil
  | _, _, _, .cons h1 t, h => by
    unfold pydA at h
    split at h
    · rename_i p ps hp hps
      cases h
      exact .cons (Dv.dp e h1 hp) (DvA.dp e t hps)
    · cases h
end
end
def flat1 : D → Option V
  | .non => some .non
  | .bl b => some (.bl b)
  | .int i => some (.int i)
  | .str s => some (.str s)
  | _ => none
def flatA : List D → Option (List V)
  | [] => some []
  | d :: ds => match flat1 d, flatA ds with
    | some p, some ps => some (p :: ps)
    | _, _ => none
theorem Dv.flat {K : PySem.W.Frag} {Γ : Gam} {G : Hp} {v w : V} {d : D} (h : Dv K Γ G v d) (e : flat1 d = some w) : v = w ∧ flatV w = true := by
  cases h <;> simp [flat1] at e <;> subst e <;> exact ⟨rfl, rfl⟩
theorem DvA.flat {K : PySem.W.Frag} {Γ : Gam} {G : Hp} : ∀ {vs ws : List V} {ds : List D}, DvA K Γ G vs ds → flatA ds = some ws → vs = ws ∧ ws.all flatV = true
  | _, _, _, .nil, e => by simp [flatA] at e; subst e; exact ⟨rfl, rfl⟩
  | _, _, _, .cons h t, e => by
    unfold flatA at e
    split at e
    · rename_i p ps hp hps
      cases e
      obtain ⟨rfl, f⟩ := h.flat hp
      obtain ⟨rfl, g⟩ := t.flat hps
      exact ⟨rfl, by rw [List.all_cons, f, g]; rfl⟩
    · cases e

def pEqD (d e : D) : Mo D := match pyd d, pyd e with
  | some p, some q => if (SeqAt.shaped p && SeqAt.shaped q) = true then rt (.bl (PyData.eqv p q)) else stop
  | _, _ => stop
def pNeD (d e : D) : Mo D := match pyd d, pyd e with
  | some p, some q => if (SeqAt.shaped p && SeqAt.shaped q) = true then rt (.bl (!PyData.eqv p q)) else stop
  | _, _ => stop
def pEq (d e : D) : Mo D := match d, e with
  | .str a, .str b => rt (.bl (decide (a = b)))
  | .int a, .int b => rt (.bl (decide (a = b)))
  | _, _ => pEqD d e
def pNe (d e : D) : Mo D := match d, e with
  | .str a, .str b => rt (.bl (!decide (a = b)))
  | .int a, .int b => rt (.bl (!decide (a = b)))
  | _, _ => pNeD d e
def isNon : D → Bool
  | .non => true
  | _ => false
theorem Dv.isNon {K : PySem.W.Frag} {Γ : Gam} {G : Hp} {v : V} {d : D} (h : Dv K Γ G v d) : decide (v = .non) = isNon d := by cases h <;> simp [DE.isNon]
def pIs (d e : D) : Mo D := match e with
  | .non => rt (.bl (isNon d))
  | .bl b => match d with
    | .bl a => rt (.bl (decide (a = b)))
    | _ => stop
  | _ => stop
def pNis (d e : D) : Mo D := match e with
  | .non => rt (.bl (!isNon d))
  | .bl b => match d with
    | .bl a => rt (.bl (!decide (a = b)))
    | _ => stop
  | _ => stop
def pIn (neg : Bool) (d e : D) : Mo D := match aSeq e with
  | some es => match flat1 d, flatA es with
    | some x, some xs => rt (.bl (if neg then !inV x xs else inV x xs))
    | _, _ => stop
  | none => stop
def pI (g : Int → Int → D) (d e : D) : Mo D := match d, e with
  | .int i, .int j => rt (g i j)
  | _, _ => stop
def pIc (c : Int → Int → Bool) (g : Int → Int → D) (d e : D) : Mo D := match d, e with
  | .int i, .int j => if c i j = true then rt (g i j) else stop
  | _, _ => stop
def pAdd (d e : D) : Mo D := match d, e with
  | .int i, .int j => rt (.int (i + j))
  | .str s, .str t => if s.length + t.length ≤ 100000 then rt (.str (s ++ t)) else stop
  | .tup xs, .tup ys => if xs.length + ys.length ≤ 100000 then rt (.tup (xs ++ ys)) else stop
  | _, _ => stop
abbrev pSub := pI fun i j => .int (i - j)
abbrev pLt := pI fun i j => .bl (decide (i < j))
abbrev pLe := pI fun i j => .bl (decide (i ≤ j))
abbrev pGt := pI fun i j => .bl (decide (j < i))
abbrev pMul := pIc (fun i j => decide (i.natAbs < 2 ^ 60) || decide (j.natAbs < 2 ^ 60)) fun i j => .int (i * j)
abbrev pMod := pIc (fun _ j => decide (0 < j)) fun i j => .int (i % j)
abbrev pDiv := pIc (fun _ j => decide (0 < j) && decide (j < 2 ^ 29)) fun i j => .int (i / j)
abbrev pPow := pIc (fun i j => decide (0 ≤ j) && decide (j ≤ 1000) && decide (i.natAbs < 2 ^ 60)) fun i j => .int (i ^ j.toNat)
section
variable {X : Cx} {Γ : Gam} {W : WX} {k : Nat}
theorem BinD.I {F : Value → Value → Sem Value} {g : Int → Int → V} {g' : Int → Int → D} (h : OpR X F (rI0 g)) (hg : ∀ i j G, Dv X.K Γ G (g i j) (g' i j)) : BinD X Γ W F (pI g') := by
  intro pins s σ H x y v u Q I rx ry ⟨H0, G0, G, gg, σ', d, e, dx, dy, q⟩
  unfold pI at q
  split at q
  · cases dx; cases dy
    exact h pins s σ H _ _ v u Q I rx ry ⟨_, _, rfl, rfl, q.here (hg _ _ _)⟩
  · exact q.stop
theorem BinD.Ic {F : Value → Value → Sem Value} {C : Int → Int → Prop} {c : Int → Int → Bool} {g : Int → Int → V} {g' : Int → Int → D} (h : OpR X F (rI C g)) (hc : ∀ i j, c i j = true → C i j) (hg : ∀ i j G, Dv X.K Γ G (g i j) (g' i j)) : BinD X Γ W F (pIc c g') := by
  intro pins s σ H x y v u Q I rx ry ⟨H0, G0, G, gg, σ', d, e, dx, dy, q⟩
  unfold pIc at q
  split at q
  · split at q
    · rename_i cc
      cases dx; cases dy
      exact h pins s σ H _ _ v u Q I rx ry ⟨_, _, rfl, rfl, hc _ _ cc, q.here (hg _ _ _)⟩
    · exact q.stop
  · exact q.stop
theorem o_lt : BinD X Γ W (compareOp .Lt) pLt := .I op_lt fun _ _ _ => .bl _
theorem o_mul : BinD X Γ W (binaryOp .Mult) pMul := .Ic op_mul (fun i j h => by
  simp only [Bool.or_eq_true, decide_eq_true_eq] at h
  unfold CMul
  rcases h with h | h
  · exact .inl ⟨by omega, by omega⟩
  · exact .inr ⟨by omega, by omega⟩) fun _ _ _ => .int _
theorem o_mod : BinD X Γ W (binaryOp .Mod) pMod := .Ic op_mod (fun i j h => by simpa using h) fun _ _ _ => .int _
theorem o_div : BinD X Γ W (binaryOp .FloorDiv) pDiv := .Ic op_fdiv (fun i j h => by
  simp only [Bool.and_eq_true, decide_eq_true_eq] at h; unfold CDiv
  exact ⟨h.1, by omega⟩) fun _ _ _ => .int _
theorem o_pow : BinD X Γ W (binaryOp .Pow) pPow := .Ic op_pow (fun i j h => by
  simp only [Bool.and_eq_true, decide_eq_true_eq] at h; unfold CPow
  exact ⟨h.1.1, by omega, by omega⟩) fun _ _ _ => .int _
theorem o_add : BinD X Γ W (binaryOp .Add) pAdd := by
  intro pins s σ H x y v u Q I rx ry ⟨H0, G0, G, gg, σ', d, e, dx, dy, q⟩
  unfold pAdd at q
  split at q
  · cases dx; cases dy
    exact op_add pins s σ H _ _ v u Q I rx ry ⟨_, _, rfl, rfl, q.here (.int _)⟩
  · cases dx; cases dy
    split at q
    · rename_i c
      exact op_add_str pins s σ H _ _ v u Q I rx ry ⟨_, _, rfl, rfl, sz5 c, q.here (.str _)⟩
    · exact q.stop
  · split at q
    · rename_i c
      obtain ⟨l, vs, rfl, h3, h4⟩ := Dv.tup_inv dx
      obtain ⟨l', vs', rfl, h3', h4'⟩ := Dv.tup_inv dy
      refine op_catA pins s σ H _ _ v u Q I rx ry ⟨l, l', vs, vs', rfl, rfl, q.1.sub.sqT h3, q.1.sub.sqT h3', by rw [h4.length, h4'.length]; exact sz5 c, fun e => ?_, fun e1 e2 => ?_, fun e1 e2 p hp => ?_⟩
      · subst e
        cases h4
        exact q.here (.tup h3' h4')
      · subst e2
        cases h4'
        rw [List.append_nil] at q
        exact q.here (.tup h3 h4)
      · have gp : G p = none := by
          cases z : G p with
          | none => rfl
          | some u => rw [q.1.sub _ _ z] at hp; cases hp
        exact q.new hp (.tup (SqT.of upd_same) ((h4.append h4').mono (Gr.upd gp)))
    · exact q.stop
  · exact q.stop
theorem o_eqD (hu : X.A.units + 64 < cLine) : BinD X Γ W (compareOp .Eq) pEqD := by
  intro pins s σ H x y v u Q I rx ry ⟨H0, G0, G, gg, σ', d, e, dx, dy, q⟩
  unfold pEqD at q
  split at q
  · rename_i p p' hp hp'
    split at q
    · rename_i c
      rw [Bool.and_eq_true] at c
      exact op_eqD hu pins s σ H _ _ v u Q I rx ry ⟨p, p', dx.dp q.1.sub hp, dy.dp q.1.sub hp', c.1, c.2, q.here (.bl _)⟩
    · exact q.stop
  · exact q.stop
theorem o_neD (hu : X.A.units + 64 < cLine) : BinD X Γ W (compareOp .NotEq) pNeD := by
  intro pins s σ H x y v u Q I rx ry ⟨H0, G0, G, gg, σ', d, e, dx, dy, q⟩
  unfold pNeD at q
  split at q
  · rename_i p p' hp hp'
    split at q
    · rename_i c
      rw [Bool.and_eq_true] at c
      exact op_neD hu pins s σ H _ _ v u Q I rx ry ⟨p, p', dx.dp q.1.sub hp, dy.dp q.1.sub hp', c.1, c.2, q.here (.bl _)⟩
    · exact q.stop
  · exact q.stop
theorem o_eq (hu : X.A.units + 64 < cLine) : BinD X Γ W (compareOp .Eq) pEq := by
  intro pins s σ H x y v u Q I rx ry ⟨H0, G0, G, gg, σ', d, e, dx, dy, q⟩
  unfold pEq at q
  split at q
  · cases dx; cases dy
    exact op_eq pins s σ H _ _ v u Q I rx ry ⟨rfl, by simpa using q.here (.bl _)⟩
  · cases dx; cases dy
    exact op_eq pins s σ H _ _ v u Q I rx ry ⟨rfl, by simpa using q.here (.bl _)⟩
  · exact o_eqD hu pins s σ H x y v u Q I rx ry ⟨H0, G0, G, gg, σ', d, e, dx, dy, q⟩
theorem o_ne (hu : X.A.units + 64 < cLine) : BinD X Γ W (compareOp .NotEq) pNe := by
  intro pins s σ H x y v u Q I rx ry ⟨H0, G0, G, gg, σ', d, e, dx, dy, q⟩
  unfold pNe at q
  split at q
  · cases dx; cases dy
    exact op_ne pins s σ H _ _ v u Q I rx ry ⟨rfl, by simpa using q.here (.bl _)⟩
  · cases dx; cases dy
    exact op_ne pins s σ H _ _ v u Q I rx ry ⟨rfl, by simpa using q.here (.bl _)⟩
  · exact o_neD hu pins s σ H x y v u Q I rx ry ⟨H0, G0, G, gg, σ', d, e, dx, dy, q⟩
theorem seq_at {K : PySem.W.Frag} {G H : Hp} {v : V} {d : D} {ds : List D} (h : Dv K Γ G v d) (e : aSeq d = some ds) (s : Gr G H) : ∃ l vs, v = .ref l ∧ (SqL K H l vs ∨ SqT K H l vs) ∧ DvA K Γ G vs ds := by
  cases d <;> simp [aSeq] at e
  · subst e
    obtain ⟨l, vs, rfl, h3, h4⟩ := Dv.lst_inv h
    exact ⟨l, vs, rfl, .inl (SqL.of (s _ _ h3)), h4⟩
  · subst e
    obtain ⟨l, vs, rfl, h3, h4⟩ := Dv.tup_inv h
    exact ⟨l, vs, rfl, .inr (s.sqT h3), h4⟩
/-! ### chains of comparisons -/
variable {a b c e : Expr} {es : List Expr} {pos : Pos}
def fChain (p q : D → D → Mo D) (f h j : Mo D) : Mo D := bd f fun d => bd h fun e => bd (p d e) fun z => bd (aB z) fun t => if t = true then bd j fun w => q e w else rt (.bl false)
/-! ### negative numbers, items, slices -/
def fNeg (f : Mo D) : Mo D := bd f fun d => match d with
  | .int i => rt (.int (-i))
  | _ => stop
theorem d_neg {f : Mo D} (ha : DX X Γ W a f) : DX X Γ W (.UnaryOp .USub a pos) (fNeg f) :=
  (pe_un un_neg ha).imp fun σ H Q h => h.bind fun H0 G0 d v g1 G1 H1 r1 h1 => by
    split at h1
    · cases r1; exact ⟨_, rfl, h1.here (.int _)⟩
    · exact h1.stop
def pIx (ds : List D) (e : D) : Mo D := match e with
  | .int i => match atI ds i with
    | some d => rt d
    | none => stop
  | _ => stop
theorem atI_dv {K : PySem.W.Frag} {G : Hp} {vs : List V} {ds : List D} (h : DvA K Γ G vs ds) {i : Int} {d : D} (e : atI ds i = some d) : ∃ v, atI vs i = some v ∧ Dv K Γ G v d := by
  unfold atI at e ⊢
  rw [h.length]
  cases z : ixN ds.length i with
  | none => rw [z] at e; cases e
  | some j =>
    rw [z] at e
    exact h.get j e
/-- a[i], a a known list or tuple -/
def fIxD (f : Mo D) (h : Mo D) : Mo D := bd f fun d => bd h fun e => match aSeq d with
  | some ds => pIx ds e
  | none => stop
theorem d_ix {f h : Mo D} (ha : DX X Γ W a f) (hb : DX X Γ W b h) (hs : PlainIx b) : DX X Γ W (.Subscript a b pos) (fIxD f h) :=
  (pe_ix (ix_list.or ix_tup) ha hb hs).imp fun σ H Q h => h.bind fun H0 G0 d v g1 G1 H1 r1 h1 => (h1.bind fun e u g2 G2 H2 gr2 r2 h2 => by
    split at h2
    · rename_i ds hd
      unfold pIx at h2
      split at h2
      · split at h2
        · rename_i d' hd'
          cases r2
          obtain ⟨l, vs, rfl, h3, h4⟩ := seq_at (Dv.mono gr2 r1) hd h2.1.sub
          obtain ⟨w, hw, dw⟩ := atI_dv h4 hd'
          rcases h3 with h3 | h3
          · exact .inl ⟨l, vs, _, w, rfl, rfl, h3, hw, h2.here dw⟩
          · exact .inr ⟨l, vs, _, w, rfl, rfl, h3, hw, h2.here dw⟩
        · exact h2.stop
      · exact h2.stop
    · exact h2.stop).g
/-- the parts of a slice -/
abbrev DO (X : Cx) (Γ : Gam) (W : WX) (e : Option Expr) (f : Mo (Option Int)) : Prop := PO X e (tG X.K Γ W (fun _ _ _ _ _ v d => v = d) f)
theorem _root_.L2.PO.imp {X : Cx} {e : Option Expr} {t t' : TO} (h : PO X e t) (k : ∀ σ H Q, t' σ H Q → t σ H Q) : PO X e t' := ⟨fun p s σ H Q I q => h.run p s σ H Q I (k _ _ _ q)⟩
theorem do_none : DO X Γ W none (rt none) := po_none.imp fun σ H Q ⟨H0, G0, G, g, h⟩ => h.here rfl
def fPart (f : Mo D) : Mo (Option Int) := bd f fun d => match d with
  | .int i => rt (some i)
  | _ => stop
theorem do_some {f : Mo D} (h : DX X Γ W e f) : DO X Γ W (some e) (fPart f) :=
  (po_some h).imp fun σ H Q h => h.bind fun H0 G0 d v g1 G1 H1 r1 h1 => by
    split at h1
    · cases r1; exact ⟨_, rfl, h1.here rfl⟩
    · exact h1.stop
def cutD {α : Type} (xs : List α) (lo hi : Option Int) : List α := (xs.drop (HT.sIx xs.length 0 lo)).take (HT.sIx xs.length xs.length hi - HT.sIx xs.length 0 lo)
theorem DvA.cut {K : PySem.W.Frag} {G : Hp} {vs : List V} {ds : List D} (h : DvA K Γ G vs ds) (lo hi : Option Int) : DvA K Γ G (cutV vs lo hi) (cutD ds lo hi) := by
  unfold cutV cutD
  rw [h.length]
  exact (h.drop _).take _
/-! ### built-ins -/
def fLen (f : Mo (List D)) : Mo D := bd f fun ds => rt (.int ds.length)
theorem d_len {x : Str} {p : Pos} {f : Mo (List D)} (ha : DP X Γ W e f) (hg : Gl X x) (hm : X.mg x = none) (hv : bootBuiltins x = some (.builtin "len")) (hn : x ≠ "__name__" := by decide) (hdb : (x == ("__debug__" : Str)) = false := by decide)
    (hs : starEach [e] X.env = (false, eval e X.env) :: starEach [] X.env := by rfl) (hpl : (backTo pos (starEach [] X.env)).any (·.1) = false := by rfl) : DX X Γ W (.Call (.Name x p) [e] [] pos) (fLen f) :=
  (pe_callB call_len_seq hg hm hv (pa_cons ha pa_nil hs) hn hdb hs hpl).imp fun σ H Q h => h.bind fun H0 G0 ds v g1 G1 H1 r1 h1 => by
    obtain ⟨l, vs, rfl, h3, h4⟩ := r1
    refine ⟨l, vs, rfl, h3.imp id fun z => h1.1.sub.sqT z, ?_⟩
    rw [h4.length]
    exact h1.here (.int _)
def fTupOf (f : Mo (List D)) : Mo D := bd f fun ds => rt (.tup ds)
def fInt (f : Mo D) : Mo D := bd f fun d => match d with
  | .int i => rt (.int i)
  | .bl b => rt (.int (if b then 1 else 0))
  | _ => stop
theorem d_intOf {x : Str} {p : Pos} {f : Mo D} (ha : DX X Γ W e f) (hg : Gl X x) (hm : X.mg x = none) (hv : bootBuiltins x = some (.type "int")) (hn : x ≠ "__name__" := by decide) (hdb : (x == ("__debug__" : Str)) = false := by decide)
    (hs : starEach [e] X.env = (false, eval e X.env) :: starEach [] X.env := by rfl) (hpl : (backTo pos (starEach [] X.env)).any (·.1) = false := by rfl) : DX X Γ W (.Call (.Name x p) [e] [] pos) (fInt f) :=
  (pe_callTy call_int1 hg hm hv (pa_cons ha pa_nil hs) hn hdb hs hpl).imp fun σ H Q h => h.bind fun H0 G0 d v g1 G1 H1 r1 h1 => by
    split at h1
    · cases r1; exact .inl ⟨_, rfl, h1.here (.int _)⟩
    · cases r1; exact .inr ⟨_, rfl, h1.here (.int _)⟩
    · exact h1.stop
def tyD : D → String
  | .non => "NoneType"
  | .bl _ => "bool"
  | .int _ => "int"
  | .str _ => "str"
  | .lst _ => "list"
  | .tup _ => "tuple"
  | .dic _ => "dict"
  | .m => "dict"
  | .exc _ _ => "?"
  | .scr _ => "?"
  | .fn _ => "?"
  | .dkn _ => "?"
  | .fzt _ => "?"
def isExc : D → Bool
  | .exc _ _ => true
  | .scr _ => true
  | .fn _ => true
  | .dkn _ => true
  | .fzt _ => true
  | _ => false
theorem Dv.ty {K : PySem.W.Frag} {G H : Hp} {v : V} {d : D} (h : Dv K Γ G v d) (ne : isExc d = false) (s : Gr G H) {s' : DS} (m : StM Γ G H s') : TyX K H v (.type (tyD d)) := by
  cases h with
  | non => exact .base .non
  | bl b => exact .base (.bl b)
  | int i => exact .base (.int i)
  | str z => exact .base (.str z)
  | lst h1 _ => exact .base (.lst (s _ _ h1))
  | tup h1 _ =>
    rcases h1 with (h1 | ⟨o, h1⟩) | ⟨o, its, n, h1, h2, _⟩
    · exact .base (.tup (s _ _ h1))
    · exact .fTuple (s _ _ h1)
    · exact .kTuple h1 h2
  | dic h1 _ => exact .base (.dK (s _ _ h1))
  | m =>
    obtain ⟨l, h1, _⟩ := m
    exact .base (.dK h1)
  | exc _ _ _ _ => cases ne
  | exc0 _ _ => cases ne
  | scr _ => cases ne
  | fn _ => cases ne
  | dkn _ _ => cases ne
  | fzt _ _ _ _ => cases ne
def fIsi (T : String) (f : Mo D) : Mo D := bd f fun d => if isExc d = true then stop else match kitB (tyD d) T with
  | some b => rt (.bl b)
  | none => stop
end
end DE
namespace DE
open PyProof.Rows PySem.Spec PySem L2
/-! ### a def of the text, ready to be called -/
def Kf (P : Program) (w : World) (K : PySem.W.Frag) (mg : Str → Option Value) (base : Heap) (k : Nat) (x : Str) (sp : Sp) : Prop :=
  ∃ f fd ps, FnG P w K mg base k f fd ps sp ∧ mg x = some (.ref f) ∧ PySem.W.keepIn K (.ref f) = true ∧ Binds K fd ps []
theorem Kf.mono {P : Program} {w : World} {K : PySem.W.Frag} {mg : Str → Option Value} {base : Heap} {j k : Nat} {x : Str} {sp : Sp} (h : Kf P w K mg base j x sp) (hk : j ≤ k) : Kf P w K mg base k x sp :=
  let ⟨f, fd, ps, a, b⟩ := h
  ⟨f, fd, ps, a.mono hk, b⟩
section
variable {X : Cx} {Γ : Gam} {W : WX} {a b c e : Expr} {es : List Expr} {pos : Pos} {k : Nat}
theorem d_callK {j n : Nat} {gm : Fd} {x : Str} {p : Pos} {fa : Mo (List D)} (F : Kf X.prog X.w X.K X.mg X.base j x (dsp X.K Γ n gm)) (hk : j ≤ k) (C : Ct X W k) (hg : Gl X x)
    (ha : DA X Γ W (e :: es) fa) (hdb : (x == ("__debug__" : Str)) = false := by decide) (he : starEach (e :: es) X.env = (false, eval e X.env) :: starEach es X.env := by rfl) (hpl : (backTo pos (starEach es X.env)).any (·.1) = false := by rfl) :
    DX X Γ W (.Call (.Name x p) (e :: es) [] pos) (fCallN n gm fa) :=
  let ⟨f, fd, ps, h1, h2, h3, h4⟩ := F.mono hk
  d_call h1 C hg h2 h3 h4 ha hdb he hpl
/-! ### two lists -/
def fCat (f h : Mo D) : Mo (List D) := bd f fun d => bd h fun e => match d, e with
  | .lst xs, .lst ys => if xs.length + ys.length ≤ 100000 then rt (xs ++ ys) else stop
  | _, _ => stop
theorem d_catO {f h : Mo D} (ha : DX X Γ W a f) (hb : DX X Γ W b h) : DF X Γ W (.BinOp a .Add b pos) (fCat f h) :=
  (pe_op op_cat ha hb).imp fun σ H Q h => h.bind fun H0 G0 d v g1 G1 H1 r1 h1 => (h1.bind fun e u g2 G2 H2 gr2 r2 h2 => by
    split at h2
    · split at h2
      · rename_i c
        obtain ⟨l, vs, rfl, h3, h4⟩ := Dv.lst_inv (Dv.mono gr2 r1)
        obtain ⟨l', vs', rfl, h3', h4'⟩ := Dv.lst_inv r2
        exact ⟨l, l', vs, vs', rfl, rfl, h2.1.sub _ _ h3, h2.1.sub _ _ h3', by rw [h4.length, h4'.length]; exact sz5 c, fun p hp => h2.newO hp (h4.append h4')⟩
      · exact h2.stop
    · exact h2.stop).g
/-- a slice of a known tuple or list -/
def fSl (f : Mo D) (l u : Mo (Option Int)) : Mo D := bd f fun d => bd l fun lo => bd u fun hi => match d with
  | .tup ds => rt (.tup (cutD ds lo hi))
  | .lst ds => rt (.lst (cutD ds lo hi))
  | _ => stop
theorem d_sl {lo hi : Option Expr} {p2 : Pos} {f : Mo D} {l u : Mo (Option Int)} (ha : DX X Γ W a f) (hl : DO X Γ W lo l) (hh : DO X Γ W hi u) : DX X Γ W (.Subscript a (.Slice lo hi none p2) pos) (fSl f l u) :=
  (pe_slice (sl_tupA.or sl_list) ha hl hh).imp fun σ H Q h => h.bind fun H0 G0 d v g1 G1 H1 r1 h1 => (h1.bind fun lo' lo g2 G2 H2 gr2 r2 h2 => (h2.bind fun hi' hi g3 G3 H3 gr3 r3 h3 => by
    obtain rfl := r2
    obtain rfl := r3
    have gp : ∀ {p : Addr}, H3 p = none → G3 p = none := fun {p} hp => by
      cases z : G3 p with
      | none => rfl
      | some u => rw [h3.1.sub _ _ z] at hp; cases hp
    split at h3
    · obtain ⟨l, vs, rfl, k1, k2⟩ := Dv.tup_inv ((Dv.mono gr2 r1).mono gr3)
      refine .inl ⟨l, vs, rfl, h3.1.sub.sqT k1, fun hw => ?_, fun hw p hp => ?_⟩
      · refine h3.here (.tup k1 ?_)
        have e : cutD ‹List D› lo hi = ‹List D› := by
          unfold cutD
          rw [← k2.length, hw.1, hw.2, k2.length]; simp
        rw [e]; exact k2
      · exact h3.new hp (.tup (SqT.of upd_same) ((k2.cut lo hi).mono (Gr.upd (gp hp))))
    · obtain ⟨l, vs, rfl, k1, k2⟩ := Dv.lst_inv ((Dv.mono gr2 r1).mono gr3)
      exact .inr ⟨l, vs, rfl, SqL.of (h3.1.sub _ _ k1), fun p hp => h3.new hp (.lst upd_same ((k2.cut lo hi).mono (Gr.upd (gp hp))))⟩
    · exact h3.stop).g).g
/-! ### xs.append(e), xs.pop(e) of a list of one's own -/
def fApp (i : Nat) (f : Mo D) : Mo D := fun g => match g.r[i]? with
  | some (.own _) => bd f (fun d g1 => match g1.r[i]? with
    | some (.own xs) => if xs.length < 100000 then some (.ok .non, ⟨g1.r.set i (.own (xs ++ [d])), g1.s⟩) else none
    | _ => none) g
  | _ => none
/-! ### for over a range -/
def intsD (n : Int) : List D := (List.range n.toNat).map fun (i : Nat) => D.int (i : Int)
def fForR (f : Mo (List D)) (t : Mt) (b : Ms) : Ms := sb f fun ds => match ds with
  | [.int n] => if n ≤ 1000000 ∧ -1000000 ≤ n then loop t b (intsD n) else sStop
  | _ => sStop
theorem s_forR {tg : Expr} {p2 : Pos} {body : List Stmt} {f : Mo (List D)} {t : Mt} {kk : Ms} {js : List Nat} {gt : TG} {p : Pos} (hc : X.calm = true) (hp : PassesOwn (model X.prog X.w) X.A X.env X.xe) (hi : DA X Γ W [e] f) (hg : DG X Γ tg gt js t) (hb : DB X Γ W body kk)
    (hgl : Gl X "range") (hm : X.mg "range" = none) (hs1 : starEach [e] X.env = [(false, eval e X.env)] := by rfl)
    (hs : ∀ x, foldedSetIterable (.Call (.Name "range" p) [e] [] p2) X.env x = pure x := by intro _; rfl) : DS_ X Γ W (.For tg (.Call (.Name "range" p) [e] [] p2) body [] pos) (fForR f t kk) := by
  obtain ⟨pg, kg⟩ := hg
  refine (ps_for hp hc (pi_range1 hgl hm hi hs1) pg hb hs).imp fun Ds σ H h => h.bind (R1 := RA X.K Γ) fun H0 G0 ds vs g1 G1 H1 r1 h1 => ?_
  split at h1
  · rename_i n
    split at h1
    · rename_i hn
      cases r1 with
      | cons dv t0 =>
        cases t0
        cases dv
        refine ⟨n, rfl, by omega, by omega, for_range (lo := 0) (n := n.toNat) (fun i σ2 H2 => ∃ G2 g2, Gr G1 G2 ∧ tSt X.K Γ W (loop t kk ((intsD n).drop i)) H0 G0 G2 g2 Ds σ2 H2) ⟨G1, g1, Gr.refl _, h1⟩ ?_ ?_⟩
        · rintro i σ2 H2 hi ⟨G2, g2, gr2, h2⟩
          have ed : (intsD n).drop i = D.int (i : Int) :: (intsD n).drop (i + 1) := by
            have il : i < (intsD n).length := by unfold intsD; simpa using hi
            rw [List.drop_eq_getElem_cons il]
            have z : (intsD n)[i]? = some (D.int (i : Int)) := by unfold intsD; rw [List.getElem?_map, List.getElem?_range hi]; rfl
            rw [List.getElem?_eq_getElem il] at z
            rw [Option.some.inj z]
          rw [ed] at h2
          have e0 : (0 : Int) + (i : Int) = (i : Int) := Int.zero_add _; rw [e0]
          exact loop_turn h2 (.int _) (fun Q g' e k => kg _ σ2 H2 Q H0 G0 G2 g2 g' _ h2.1 (.int _) e fun σ' E' _ => k σ' E') fun σ3 G3 H3 g3 gr3 h3 => ⟨G3, g3, gr2.trans gr3, h3⟩
        · rintro σ2 H2 ⟨G2, g2, gr2, h2⟩
          have el : (intsD n).drop n.toNat = [] := by
            apply List.drop_eq_nil_of_le
            unfold intsD; simp
          rw [el] at h2
          exact h2.next rfl (Gr.refl _) h2.1
    · exact h1.stop
  · exact h1.stop
end
end DE
namespace DE
open PyProof.Rows PySem.Spec PySem L2
/-! ### a def's meaning: its body, run -/
def runB (f : Ms) (N n : Nat) : Fd := fun ds s => if ds.length = n then
    match f ⟨ds.map .dat ++ List.replicate (N - n) .no, s⟩ with
    | some (.ret d, g') => some (.ok d, g'.s)
    | some (.nx, g') => some (.ok .non, g'.s)
    | some (.exc x, g') => some (.error x, g'.s)
    | _ => none
  else none
theorem runB_gives (f : Ms) (N n : Nat) : bodyGives f N n (runB f N n) := by
  intro ds s r s' hn h
  unfold runB at h
  rw [if_pos hn] at h
  split at h
  · rename_i d g' e
    cases h
    exact ⟨g', rfl, .inl e⟩
  · rename_i g' e
    cases h
    exact ⟨g', rfl, .inr ⟨rfl, e⟩⟩
  · rename_i x g' e
    cases h
    exact ⟨g', rfl, .inl e⟩
  · cases h
theorem kf_of {P : Program} {w : World} {K : PySem.W.Frag} {mg : Str → Option Value} {base : Heap} {x qual : Str} {st : Stmt} {f : Addr} {fd : FuncData} {N ps : List Str} {k : Nat} {Γ : Gam} {fb : Ms}
    (F : Fun K x qual st f fd) (hm : mg x = some (.ref f)) (S : FnScope N ps (defScope st)) (hb : Binds K fd ps [])
    (hd : ∀ (cdv : Value) (A : Around) (outer : List Env) (s : Shared) (H : Hp) (E : XK), Ct (cxD P w K mg base N qual st f cdv A outer s H E) (fun c d _ H => E c d H) k → DB (cxD P w K mg base N qual st f cdv A outer s H E) Γ (fun c d _ H => E c d H) (defBody st) fb) :
    Kf P w K mg base (k + 1) x (dsp K Γ ps.length (runB fb N.length ps.length)) :=
  ⟨f, fd, ps, fn_data F S fb (runB_gives _ _ _) hd, hm, F.kp, hb⟩
section
variable {X : Cx} {Γ : Gam} {W : WX} {a b c e : Expr} {es : List Expr} {pos : Pos} {k : Nat}
theorem takesB {X : Cx} : Takes X Wn := fun _ _ x => by
  obtain ⟨_, _, _, _, _, _, _, _, _, _, _, _, _, _, _, _, z⟩ := x; exact z.elim
theorem Ct.blk (C : Ct X W k) {s : Shared} {H : Hp} {scope : Scope} {env : Env} {fp : List Addr} : Ct (X.blk s H scope env fp) Wn k := ⟨C.calm, takesB, PassesOwn.never, C.room, C.gua⟩
theorem Ct.mono {j : Nat} (C : Ct X W k) (h : j ≤ k) : Ct X W j := ⟨C.calm, C.tk, C.pas, C.room.mono h, C.gua⟩
theorem pts_1 {f : Mo Bool} (h : DT X Γ W e f) : DTs X Γ W [e] f := pts_one h
/-! ### a, b = e1, e2 -/
def fParDD (i j : Nat) (f h : Mo D) : Ms := sb f fun d => sb h fun e g => some (.nx, ⟨(g.r.set i (.dat d)).set j (.dat e), g.s⟩)
/-! ### for i, x in enumerate(list) -/
end
end DE
namespace DE
open PyProof.Rows PySem.Spec PySem L2
/-! ### the draw dict -/
def mkvs (l : Addr) (s : DS) : List (Key × V) := [(Sum.inr "great", .ref l), (Sum.inr "seed", .int s.seed), (Sum.inr "turns", .int s.turns)]
theorem gs_ : ¬ (("great" : Str) = "seed") := by decide +kernel
theorem gt_ : ¬ (("great" : Str) = "turns") := by decide +kernel
theorem st_ : ¬ (("seed" : Str) = "turns") := by decide +kernel
theorem val_g (l : Addr) (s : DS) : valV (mkvs l s) (Sum.inr "great") = some (.ref l) := by simp [mkvs, valV, List.find?_cons]
theorem val_s (l : Addr) (s : DS) : valV (mkvs l s) (Sum.inr "seed") = some (.int s.seed) := by simp [mkvs, valV, List.find?_cons, gs_]
theorem val_t (l : Addr) (s : DS) : valV (mkvs l s) (Sum.inr "turns") = some (.int s.turns) := by simp [mkvs, valV, List.find?_cons, gt_, st_]
theorem put_g (l l' : Addr) (s : DS) (xs : List Int) : putK (mkvs l s) (Sum.inr "great") (.ref l') = mkvs l' { s with great := xs } := by
  simp [mkvs, putK, gs_, gt_, Ne.symm gs_, Ne.symm gt_, fun h => gs_ (Eq.symm h), fun h => gt_ (Eq.symm h)]
theorem put_t (l : Addr) (s : DS) (n : Int) : putK (mkvs l s) (Sum.inr "turns") (.int n) = mkvs l { s with turns := n } := by
  simp [mkvs, putK, gt_, st_]
inductive MK where
  | great | seed | turns
def MK.key : MK → Str
  | .great => "great"
  | .seed => "seed"
  | .turns => "turns"
def fMg (k : MK) (f : Mo D) : Mo D := bd f fun d g => match d with
  | .m => some (.ok (match k with | .great => .lst (g.s.great.map .int) | .seed => .int g.s.seed | .turns => .int g.s.turns), g)
  | _ => none
theorem dva_ints {K : PySem.W.Frag} {Γ : Gam} {G : Hp} : ∀ xs : List Int, DvA K Γ G (xs.map V.int) (xs.map D.int)
  | [] => .nil
  | x :: xs => .cons (.int x) (dva_ints xs)
theorem dva_ints' {K : PySem.W.Frag} {Γ : Gam} {G : Hp} : ∀ {xs : List Int} {vs : List V}, DvA K Γ G vs (xs.map D.int) → vs = xs.map V.int
  | [], _, h => by cases h; rfl
  | x :: xs, _, h => by
    cases h with
    | cons h t =>
      cases h
      rw [dva_ints' t]; rfl
section
variable {X : Cx} {Γ : Gam} {W : WX} {a b c e : Expr} {es : List Expr} {pos p2 pos' : Pos} {k : Nat} {j : Nat}
theorem d_mget (mk : MK) {f : Mo D} (hu : X.A.units + 1 < cLine) (ha : DX X Γ W a f) (hs : NoSl (.Constant (.str mk.key) j p2) := by exact fun _ _ => rfl) : DX X Γ W (.Subscript a (.Constant (.str mk.key) j p2) pos) (fMg mk f) :=
  (pe_dget hu ha pe_str hs).imp fun σ H Q h => h.bind fun H0 G0 d v g1 G1 H1 r1 h1 => by
    obtain ⟨E, r, g', e, q⟩ := h1
    dsimp only at e
    split at e
    · cases e
      cases r1
      obtain ⟨l, hM, hG⟩ := E.st
      cases mk with
      | great => exact ⟨Γ.M, .ref l, rfl, by rw [← val_g l g1.s]; exact DGet.k (k := Sum.inr "great") hM, q _ _ _ (Gr.refl _) E (.lst hG (dva_ints _))⟩
      | seed => exact ⟨Γ.M, .int g1.s.seed, rfl, by rw [← val_s l g1.s]; exact DGet.k (k := Sum.inr "seed") hM, q _ _ _ (Gr.refl _) E (.int _)⟩
      | turns => exact ⟨Γ.M, .int g1.s.turns, rfl, by rw [← val_t l g1.s]; exact DGet.k (k := Sum.inr "turns") hM, q _ _ _ (Gr.refl _) E (.int _)⟩
    · cases e
theorem En.putM {K : PySem.W.Frag} {H0 G0 G H : Hp} {σ : L2.St} {g : Sg} (E : En K Γ H0 G0 G H σ g) {l : Addr} {s' : DS} (hl : G l = some (.lst (s'.great.map V.int))) : En K Γ H0 G0 G (upd H Γ.M (.dK (mkvs l s'))) σ ⟨g.r, s'⟩ := by
  refine ⟨fun a o n h => by rw [upd_ne n.1]; exact E.base a o n h, E.gfr, E.g0, fun a o h => ?_, E.gm, ⟨l, upd_same, hl⟩, E.len, E.dat, fun i xs h => ?_, E.dis, (let ⟨_, z, _⟩ := E.st; (sf_dK z).tabs E.tb), E.gt, fun i f c q G1 h => (let ⟨_, z, _⟩ := E.st; E.fnU (sf_dK z) h (Gr.refl _)), E.odk.same (Gr.refl _) fun l xs e e1 e2 => (let ⟨_, z, _⟩ := E.st; have n := (sf_dK z).ne_dn e; ⟨by rw [upd_ne n]; exact e, e1, e2⟩)⟩
  · have : a ≠ Γ.M := by rintro rfl; rw [E.gm] at h; cases h
    rw [upd_ne this]; exact E.sub a o h
  · obtain ⟨q, vs, h1, h2, h3⟩ := E.own i xs h
    have : q ≠ Γ.M := by
      obtain ⟨lm, hM, _⟩ := E.st
      rintro rfl
      rw [hM] at h2; cases h2
    exact ⟨q, vs, h1, by rw [upd_ne this]; exact h2, h3⟩
def intsOf : List D → Option (List Int)
  | [] => some []
  | .int i :: ds => (intsOf ds).map (i :: ·)
  | _ => none
theorem intsOf_eq : ∀ {ds : List D} {xs : List Int}, intsOf ds = some xs → ds = xs.map D.int
  | [], xs, h => by simp [intsOf] at h; subst h; rfl
  | d :: ds, xs, h => by
    cases d <;> simp [intsOf] at h
    obtain ⟨ys, h1, rfl⟩ := h
    rw [intsOf_eq h1]; rfl
/-- m["great"] = e, m["turns"] = e -/
def fMp (k : MK) (i : Nat) (f : Mo D) : Ms := sb f fun d => sb (fName i) fun m g => match m, k, d with
  | .m, .great, .lst ds => match intsOf ds with
    | some xs => some (.nx, ⟨g.r, { g.s with great := xs }⟩)
    | none => none
  | .m, .turns, .int n => some (.nx, ⟨g.r, { g.s with turns := n }⟩)
  | _, _, _ => none
theorem s_mput (mk : MK) (i : Nat) {f : Mo D} (hu : X.A.units + 1 < cLine) (ha : DX X Γ W a (fName i)) (hv : DX X Γ W e f) (hs : swapsWith e (some (.Subscript a (.Constant (.str mk.key) j p2) pos')) pos.line X.env = pure false := by rfl) :
    DS_ X Γ W (.Assign [.Subscript a (.Constant (.str mk.key) j p2) pos'] e pos) (fMp mk i f) :=
  (ps_dput hu ha pe_str hv hs).imp fun Ds σ H h => h.bind fun H0 G0 d v g1 G1 H1 r1 h1 => (h1.bind fun m u g2 G2 H2 hfe gr2 r2 h2 => by
    obtain ⟨E, o, g', e, q⟩ := h2
    obtain ⟨l, hM, hG⟩ := E.st
    dsimp only at e
    split at e
    · split at e
      · rename_i ds xs hx
        cases e
        cases r2
        obtain ⟨l2, vs, rfl, k1, k2⟩ := Dv.lst_inv (Dv.mono gr2 r1)
        have hd := intsOf_eq hx
        subst hd
        have hv := dva_ints' k2
        subst hv
        exact ⟨Γ.M, _, rfl, DPut.k (k := Sum.inr "great") hM (by show 3 < sizeLine; decide), by
          rw [show ([(Sum.inr "great", V.ref l), (Sum.inr "seed", V.int g2.s.seed), (Sum.inr "turns", V.int g2.s.turns)] : List (Key × V)) = mkvs l g2.s from rfl, put_g l l2 g2.s xs]
          exact q σ G2 _ (Gr.refl _) (E.putM k1)⟩
      · cases e
    · cases e
      cases r2
      cases (show Dv X.K Γ G1 v (.int _) from r1)
      exact ⟨Γ.M, _, rfl, DPut.k (k := Sum.inr "turns") hM (by show 3 < sizeLine; decide), by
        rw [show ([(Sum.inr "great", V.ref l), (Sum.inr "seed", V.int g2.s.seed), (Sum.inr "turns", V.int g2.s.turns)] : List (Key × V)) = mkvs l g2.s from rfl, put_t l g2.s _]
        exact q σ G2 _ (Gr.refl _) (E.putM hG)⟩
    · cases e).g
/-! ### while, with fuel -/
def whl (c : Mo Bool) (b : Ms) : Nat → Ms
  | 0 => sStop
  | n + 1 => sb c fun t => if t = true then (fun g => match b g with
      | some (.nx, g2) => whl c b n g2
      | some (.ct, g2) => whl c b n g2
      | some (.brk, g2) => some (.nx, g2)
      | o => o) else sOut .nx
def fWhl (fuel : Sg → Nat) (c : Mo Bool) (b : Ms) : Ms := fun g => whl c b (fuel g) g
theorem s_while (fuel : Sg → Nat) {test : Expr} {body : List Stmt} {c : Mo Bool} {b : Ms} (hp : PassesOwn (model X.prog X.w) X.A X.env X.xe) (hc : DT X Γ W test c) (hb : DB X Γ W body b) : DS_ X Γ W (.While test body [] pos) (fWhl fuel c b) := by
  refine (ps_while hp hc hb).imp fun Ds σ H ⟨H0, G0, G, g, h⟩ => ?_
  have h0 : tSt X.K Γ W (whl c b (fuel g)) H0 G0 G g Ds σ H := h
  refine ⟨fun n σ H => tS X.K Γ W (whl c b n) Ds σ H, ⟨fuel g, h0.s⟩, fun n σ H hn => ?_⟩
  cases n with
  | zero =>
    obtain ⟨H0, G0, G, g, h⟩ := hn
    exact h.stop
  | succ n =>
    refine hn.bind fun H0 G0 t t' g1 G1 H1 r1 h1 => ?_
    cases r1
    cases t with
    | false =>
      rw [if_neg Bool.false_ne_true] at h1 ⊢
      exact h1.next rfl (Gr.refl _) h1.1
    | true =>
      rw [if_pos rfl] at h1 ⊢
      refine ⟨fun σ' H' => tS X.K Γ W (whl c b n) Ds σ' H', fun σ' H' q => ⟨n, Nat.lt_succ_self n, q⟩, ?_⟩
      obtain ⟨E, o, g', e, q⟩ := h1
      dsimp only at e
      refine ⟨H0, G0, G1, g1, E, ?_⟩
      cases hf : b g1 with
      | none => (rw [hf] at e); cases e
      | some p =>
        obtain ⟨o1, g2⟩ := p
        rw [hf] at e
        have nxt : ∀ {e : whl c b n g2 = some (o, g')} σ2 G2 H2, Gr G1 G2 → En X.K Γ H0 G0 G2 H2 σ2 g2 → tS X.K Γ W (whl c b n) Ds σ2 H2 := fun {e} σ2 G2 H2 gr E2 => ⟨H0, G0, G2, g2, E2, o, g', e, by
          cases o with
          | nx => exact fun σ3 G3 H3 gr3 => q σ3 G3 H3 (gr.trans gr3)
          | brk => exact fun σ3 G3 H3 gr3 => q σ3 G3 H3 (gr.trans gr3)
          | ct => exact fun σ3 G3 H3 gr3 => q σ3 G3 H3 (gr.trans gr3)
          | ret d2 => exact fun v3 σ3 G3 H3 gr3 => q v3 σ3 G3 H3 (gr.trans gr3)
          | exc x => exact fun C dd σ3 G3 H3 gr3 => q C dd σ3 G3 H3 (gr.trans gr3)⟩
        cases o1 with
        | nx => exact ⟨.nx, g2, rfl, fun σ2 G2 H2 gr E2 => nxt (e := e) σ2 G2 H2 gr E2⟩
        | ct => exact ⟨.ct, g2, rfl, fun σ2 G2 H2 gr E2 => nxt (e := e) σ2 G2 H2 gr E2⟩
        | brk => cases e; exact ⟨.brk, _, rfl, q⟩
        | ret d => cases e; exact ⟨.ret d, _, rfl, q⟩
        | exc x => cases e; exact ⟨.exc x, _, rfl, q⟩
end
end DE
namespace DE
open PyProof.Rows PySem.Spec PySem L2
end DE
namespace DE
open PyProof.Rows PySem.Spec PySem L2
open NdefX (NF envF ncx startF NScope CellsAt inv_startN)
/-! ### own error classes: super().__init__(text), then self.f = p -/
structure ErrC (P : Program) (K : PySem.W.Frag) (C fI : Addr) (fld par txt qual : Str) (fd : FuncData) : Prop where
  T : OexC K C
  iC : PySem.W.findIn K (.ref C) "__init__" = some (some (.ref fI))
  tI : PySem.W.typeIn K (.ref fI) = some (.type "function")
  noF : PySem.W.findIn K (.ref C) fld = some none
  sup : PySem.W.ks_superIn K C C "__init__" = some (some (.builtin "ValueError.__init__"))
  sVE : PySem.W.subIn K (.ref C) (.type "ValueError") = some true
  mroC : PySem.W.mroIn K C (.ref C) = some true
  noAny : PySem.W.nsIn K cStatics "thirdparty.any" = some none
  noSup : PySem.W.nsIn K mainGlobals "super" = some none
  top : (P.main.scope.names.lookup ("super" : Str)).isSome = false
  fn : ∃ (oc : Value) (od : Option Addr) (osl : Array (Option Value)) (params : Arguments) (body : List Stmt) (scope : Scope) (dV kV doc pm : Value) (an : Option Addr) (cda : Addr) (ct : Value) (cc : Addr) (ccl : Value) (cdd : Option Addr) (vs : Array Value) (ccs : Array (Option Value)) (file : Str) (tf : Tok) (cl : Value) (cld : Option Addr) (csl : Array (Option Value)) (p0 p1 p2 p3 p4 p5 q1 q2 q3 q4 : Pos) (j : Nat) (ar : Arg),
    fd = PySem.W.ksFn "__init__" qual params body scope dV kV doc pm an (.ref cda) ct cc ∧ K.lookup fI = some ⟨oc, od, .func fd, osl⟩ ∧ PySem.W.codeIn K (.ref cda) qual = true ∧ K.lookup cda = some ⟨ccl, cdd, .fields vs, ccs⟩ ∧ vs[2]? = some (.str file tf) ∧ ((P.main.file : Str) == file) = true ∧
      K.lookup cc = some ⟨cl, cld, .cell (some (.ref C)), csl⟩ ∧ NScope (["self", par, "__class__"] : List Str) (["self", par] : List Str) (["__class__"] : List Str) scope ∧ scope.names.lookup ("super" : Str) = some .globalImplicit ∧ (params.posonlyargs ++ params.args).head? = some ar ∧ ar.arg = "self" ∧
      (∃ pl : Env → Sem Bool, ∀ env : Env, eval (.Call (.Attribute (.Call (.Name "super" p0) [] [] p1) "__init__" p2) [.Constant (.str txt) j p3] [] p4) env = (do
        let ov ← attributeBase (.Call (.Name "super" p0) [] [] p1) "__init__" env (eval (.Call (.Name "super" p0) [] [] p1) env)
        standAt p2.atName
        let (f, first) ← holding [ov] (getMethod ov "__init__" (pl env))
        callWith p4 f first (backTo p4 (starEach [.Constant (.str txt) j p3] env)) [])) ∧ (par == ("__debug__" : Str)) = false ∧ (par == ("__classdict__" : Str)) = false ∧
      (∀ env : Env, swapsWith (.Call (.Attribute (.Call (.Name "super" p0) [] [] p1) "__init__" p2) [.Constant (.str txt) j p3] [] p4) none p5.line env = pure false) ∧ (∀ env : Env, swapsWith (.Name par q3) (some (.Attribute (.Name "self" q1) fld q2)) q4.line env = pure false) ∧
      body = [.Expr (.Call (.Attribute (.Call (.Name "super" p0) [] [] p1) "__init__" p2) [.Constant (.str txt) j p3] [] p4) p5, .Assign [.Attribute (.Name "self" q1) fld q2] (.Name par q3) q4] ∧
      (∀ us : List Value, us.length = 2 → bindArgs fd ⟨us, []⟩ = pure ((["self", par] : List Str).zip us))
section
variable {w : World} {prog : Program} {A : Around} {E : Value → Shared → Prop} {h : Heap} {g : Array GenState} {d : Drawn} {t : Nat} {os : OsState}
variable {q nm : Str} {C N : Addr} {bs bm : List Value} {hdct : Bool} {sn : List Str} {sub : List Value} {ab : Bool} {col : Option Bool} {dd : Option Addr} {k0 k1 k2 k3 k5 : Option Value}
/-- ValueError.__init__, bound to the exception at e, called -/
theorem call_mw {u e t0 : Addr} {rest : List Value} {Q : Value → Shared → Prop}
    (hC : h.get? C = some (excClassObj nm q C N bs bm hdct sn sub ab col dd k0 k1 k2 k3 k5 "ValueError.__new__")) (he : h.get? e = some (HandSPX.excO C t0)) (hu : h.get? u = some (PySem.W.kxs_mw "ValueError.__init__" e)) (hrest : rest.length ≤ sizeLine)
    (done : ∀ h' t1, (∀ b o, b ≠ e → h.get? b = some o → h'.get? b = some o) → h'.get? e = some (HandSPX.excO C t1) → Q .none ⟨h', g, d, t, os⟩) :
    wpAny (model prog w) A (call (Value.ref u) rest) Q E ⟨h, g, d, t, os⟩ := by
  refine wpAny_call (codeAny_of_tree ?_); show wpAny _ A.in1 (callAny (.ref u) ⟨rest, []⟩) _ _ _
  simp only [callAny]
  refine wpAny_bind (wpAny_load hu ?_); simp only [PySem.W.kxs_mw, show (Value.type "method-wrapper" == Value.type "method" || Value.type "method-wrapper" == Value.type "builtin_function_or_method" || Value.type "method-wrapper" == Value.type "method-wrapper") = true by decide, if_true]
  refine PySem.W.KFB.if_so (by decide) ?_; refine wpAny_bind (PySem.ESX.check_bound PySem.F.excBase_ValueError hC he rfl ?_)
  refine wpAny_bind (wpAny_pure (wpAny_pure ?_)); refine ⟨Code.quiet_builtin _ (by decide +kernel), codeAny_builtin PySem.F.excBase_ValueError.initEntry ?_⟩
  rw [Around.under_plainId PySem.F.excBase_ValueError.init.plain _]
  wp_walk
  exact done _ h.objs.size (fun b o hb ho => (Heap.get?_update_other _ _ (Ne.symm hb)).trans (Heap.get?_push_of_some _ ho)) ((Heap.get?_update_self _ (Heap.get?_push_of_some _ he) rfl).trans rfl)
end
/-- super().__init__(text), self an exception that is being made -/
theorem super_init {X : Cx} {σ : L2.St} {H : Hp} {s : Shared} {a C f cc cda : Addr} {fd : FuncData} {oc ccl cl : Value} {od cdd cld : Option Addr} {osl ccs csl : Array (Option Value)} {vs : Array Value} {file : Str} {tf : Tok} {ar : Arg} {body : List Stmt} {p0 p1 p2 p3 p4 : Pos} {j : Nat} {txt : Str}
    (I : Inv X [] σ H s) (T : OexC X.K C) (hks : X.env.kindOf "super" = some .globalImplicit) (hkc : X.env.kindOf "__class__" = some .free) (hka : X.env.kindOf "self" = some .local) (hfu : X.env.func = some f) (hco : X.env.code = .ref cda) (hcell : X.env.cells.lookup ("__class__" : Str) = some cc)
    (hN : X.N[0]? = some ("self" : Str)) (hσ : σ[0]? = some (some (.ref a))) (ha : H a = some (exo a C none)) (lk : X.K.lookup f = some ⟨oc, od, .func fd, osl⟩) (hp : (fd.params.posonlyargs ++ fd.params.args).head? = some ar) (hself : ar.arg = "self")
    (lcda : X.K.lookup cda = some ⟨ccl, cdd, .fields vs, ccs⟩) (hvs : vs[2]? = some (.str file tf)) (hfile : ((X.prog.main.file : Str) == file) = true) (htop : (X.prog.main.scope.names.lookup ("super" : Str)).isSome = false) (lcc : X.K.lookup cc = some ⟨cl, cld, .cell (some (.ref C)), csl⟩)
    (hm : X.mg "super" = none) (mroC : PySem.W.mroIn X.K C (.ref C) = some true) (noAny : PySem.W.nsIn X.K cStatics "thirdparty.any" = some none) (sup : PySem.W.ks_superIn X.K C C "__init__" = some (some (.builtin "ValueError.__init__"))) (sVE : PySem.W.subIn X.K (.ref C) (.type "ValueError") = some true)
    {pl : Sem Bool} (hev : eval (.Call (.Attribute (.Call (.Name "super" p0) [] [] p1) "__init__" p2) [.Constant (.str txt) j p3] [] p4) X.env = (do
      let ov ← attributeBase (.Call (.Name "super" p0) [] [] p1) "__init__" X.env (eval (.Call (.Name "super" p0) [] [] p1) X.env)
      standAt p2.atName
      let (f, first) ← (holding [ov] (getMethod ov "__init__" pl))
      callWith p4 f first (backTo p4 (starEach [.Constant (.str txt) j p3] X.env)) [])) :
    PySem.wpAt (model X.prog X.w) X.A (.func body X.env) (eval (.Call (.Attribute (.Call (.Name "super" p0) [] [] p1) "__init__" p2) [.Constant (.str txt) j p3] [] p4) X.env) (fun _ s' => Inv X [] σ H s') X.xe s := by
  obtain ⟨nm, q, N, bs, bm, sn, sub, ab, col, dd, k0, k1, k2, k3, k5, hC, hbm⟩ := T.cls; have KX := I.kIn
  obtain ⟨cdC, hcd⟩ : ∃ cd, PySem.W.clsIn X.K C = some cd := by
    cases e : PySem.W.clsIn X.K C with
    | none => unfold PySem.W.ks_superIn at sup; rw [e] at sup; cases sup
    | some cd => exact ⟨cd, rfl⟩
  obtain ⟨oD, hD1, hD2⟩ : ∃ oD, s.heap.get? C = some oD ∧ oD.data = .cls cdC := by
    unfold PySem.W.clsIn at hcd
    split at hcd
    · rename_i c d cd' sl ho
      cases hcd
      exact ⟨_, KX _ _ ho, rfl⟩
    · cases hcd
  obtain ⟨t1, hoa⟩ := exo_at I.hok ha
  obtain ⟨m, hns, hlk⟩ := I.loc
  obtain ⟨u, ru, lku⟩ := hlk 0 "self" (.ref a) hN hσ (.inl hka); obtain rfl : u = Value.ref a := ru
  have hms : m "self" = some (.ref a) := by
    rcases lku with ⟨_, e⟩ | ⟨k | k, _⟩
    · exact e
    · rw [hka] at k; cases k
    · rw [hka] at k; cases k
  refine ks_wpAt_MethodCall ?_ hev
  refine ks_wpAt_super_base hks hkc (by decide) hfu (KX _ _ lk) rfl hp hco (KX _ _ lcda) rfl hvs hfile htop ?_
  obtain ⟨mb, hb1, hb2⟩ := I.mod.blt
  refine PySem.W.ks_loadName_global I.ok.kind hks (Calls.loadGlobal_builtin (by rw [I.ok.glob]; exact I.mod.glob.keeps I.bk) hm (by rw [I.ok.blt]; exact hb1.keeps I.bk) ((hb2 _ (by decide)).trans (show bootBuiltins "super" = some (.type "super") from by decide +kernel)) ⟨rfl, ?_⟩)
  refine wpAny_loadName_free I.ok.kind hkc hcell ⟨_, KX _ _ lcc, rfl⟩ ?_
  rw [hself]
  refine wpAny_loadName_local I.ok.kind hka hns hms ?_
  refine ks_wpAny_isType_cls hD1 hD2 ⟨rfl, ?_⟩; refine ks_wpAny_call_super hD1 hD2 hoa rfl (fun c e => by cases e) (PySem.W.looks_mroIn KX mroC) (fun h1 e1 k1' => ?_)
  -- the bound __init__
  have I1 : Inv X [] σ H { s with heap := h1 } := I.kept (t' := s.toks) k1'
  have hoa1 := k1' _ _ hoa
  have IA : PySem.W.InstAt h1 a (HandSPX.excO C t1) C none := ⟨hoa1, rfl, rfl, trivial⟩
  unfold PySem.W.ks_superIn at sup
  rw [hcd] at sup
  refine PySem.W.kxs_getMethod PySem.W.kxs_ValueError e1 (PySem.W.looks_opaque I1.kIn noAny) (l₀ := cdC.mro) (fun A Q E s k q => wpAny_bind ((PySem.W.looks_clsIn I1.kIn hcd) A _ E s k (wpAny_pure q))) rfl I1.kIn sup (IA.type.andThen (PySem.W.looks_subIn I1.kIn sVE)) (PySem.W.ks_ne I1.kIn IA hcd) (by decide) ?_
  have k2' : ∀ b o, h1.get? b = some o → (h1.push (PySem.W.kxs_mw "ValueError.__init__" a)).get? b = some o := fun b o e => Heap.get?_push_of_some _ e
  have I2 : Inv X [] σ H { s with heap := h1.push (PySem.W.kxs_mw "ValueError.__init__" a), toks := s.toks + 1 } := I1.kept (t' := s.toks + 1) k2'
  have hu : (h1.push (PySem.W.kxs_mw "ValueError.__init__" a)).get? h1.objs.size = some (PySem.W.kxs_mw "ValueError.__init__" a) := Heap.get?_push_at rfl rfl
  have nH : H h1.objs.size = none := I1.hok.fresh (Nat.le_refl _)
  have nL : h1.objs.size ≠ X.env.locals := Ne.symm (Nat.ne_of_lt I1.lt)
  have nF : h1.objs.size ∉ X.fs := fun hb => by
    obtain ⟨_, o, e, _⟩ := I1.ok.funs.mem hb
    exact absurd (Nat.lt_of_lt_of_le (Heap.lt_size e) I1.sz) (Nat.lt_irrefl _)
  have I3 : Inv X [(h1.objs.size, PySem.W.kxs_mw "ValueError.__init__" a)] σ H { s with heap := h1.push (PySem.W.kxs_mw "ValueError.__init__" a), toks := s.toks + 1 } :=
    ⟨I2.ok, I2.os, I2.bare, I2.base, I2.loc, I2.cell, I2.free, I2.freeC, fun p hp => by
      rcases List.mem_append.mp hp with hp' | hp'
      · exact I2.pin p (List.mem_append_left _ hp')
      · obtain rfl := List.mem_singleton.mp hp'
        exact ⟨hu, nH, nL, nF, fun v e => by cases e⟩, I2.hok, I2.len⟩
  refine PySem.W.kxs_callWith (i := "ValueError.__init__") (x := a) rfl (Calls.evalArgs_plain ?_)
  refine thn ((pa_cons (X := X) (pe_str (X := X)) (pa_nil (X := X))).run p4 [(h1.objs.size, PySem.W.kxs_mw "ValueError.__init__" a)] _ σ H (fun vs' H1 => vs' = [V.str txt] ∧ H = H1) I3 ⟨rfl, rfl⟩) fun us s4 hh => ?_
  obtain ⟨vs', H1, I4, r4, ev, eH⟩ := hh
  subst ev
  rw [← eH] at I4
  have hpin := I4.pin (h1.objs.size, PySem.W.kxs_mw "ValueError.__init__" a) (List.mem_append_right _ List.mem_cons_self)
  refine ⟨hpin.1, ?_⟩
  have I5 : Inv X [] σ H s4 := ⟨I4.ok, I4.os, I4.bare, I4.base, I4.loc, I4.cell, I4.free, I4.freeC, fun p hp => I4.pin p (by rw [List.append_nil] at hp; exact List.mem_append_left _ hp), I4.hok, I4.len⟩
  obtain ⟨t4, ho4⟩ := exo_at I5.hok ha
  have hz : us.length ≤ sizeLine := by rw [← Paired.length r4, sizeLine_eq]; show 1 ≤ _; decide
  obtain ⟨hp4, g4, d4, tk4, os4⟩ := s4
  refine call_mw (I5.kIn _ _ hC) ho4 hpin.1 hz fun h' t2 k hx => ?_
  have J := I5.write (t' := tk4) (x := a) (e := a) (o := exo a C none) (by rw [ha]; exact True.intro) (.inl rfl) k ⟨_, hx⟩ (exo_ok hx)
  have same : upd H a (exo a C none) = H := by
    funext b
    by_cases hb : b = a
    · rw [hb, upd_same, ha]
    · rw [upd_ne hb]
  rw [same] at J
  exact J
/-- what such an __init__ keeps -/
def spI (C : Addr) (fld : Str) : Sp := fun vs H Q _ => ∃ a y, vs = [.ref a, y] ∧ H a = some (exo a C none) ∧ ∀ dx, H dx = none → dx ≠ a → Q .non (upd (upd H dx (exd dx [(fld, y)])) a (exo a C (some dx)))
theorem fn_init {P : Program} {w : World} {K : PySem.W.Frag} {mg : Str → Option Value} {base : Heap} {C fI : Addr} {fld par txt qual : Str} {fd : FuncData} (R : ErrC P K C fI fld par txt qual fd) (hmg : mg "super" = none) :
    FnOk P w K mg base (L2.CX P w) 1 fI fd ["self", par] (spI C fld) := by
  obtain ⟨oc, od, osl, params, body, scope, dV, kV, doc, pm, an, cda, ct, cc, ccl, cdd, vs, ccs, file, tf, cl, cld, csl, p0, p1, p2, p3, p4, p5, q1, q2, q3, q4, j, ar, efd, lk, hcd, lcda, hvs, hfile, lcc, S, hsup, har, hself, ⟨pl, hev⟩, hpdb, hpcd, hsw1, hsw2, ebody, hbind⟩ := R.fn
  refine ⟨fun vs H Q E h => ?_, fun A outer s H args us vs' Q E hr e0 hb r hsp => ?_⟩
  · obtain ⟨a, y, rfl, _⟩ := h; rfl
  · obtain ⟨a, y, rfl, ha, hq⟩ := hsp
    have KX : K.In s.heap := e0.mod.kin.keeps fun b o e => (e0.bs b o e).1; have lim : s.heap.NoLimit := e0.mod.nolimit.keeps fun b o e => (e0.bs b o e).1
    have hnocell : ∀ x ∈ scope.names, x.2 ≠ .cell := S.nocell
    have hscope : fd.scope = scope := by rw [efd]
    refine ks_codeAny_call_defAt (fd := fd) (body := body) (binds := (["self", par] : List Str).zip us) hr.depth (KX _ _ lk) rfl lim (by rw [efd]; exact PySem.W.codeRec_of KX hcd) (by rw [efd]) hb (by rw [hscope]; exact hnocell) (fun x hx => by rw [hscope]; exact S.par x.1 (List.of_mem_zip hx).1) (fun h₀ hns hk => ?_) (by rw [hscope]; exact S.co) (by rw [hscope]; exact S.gen) (by rw [hscope]; exact S.kind)
    have C0 : CellsAt [("__class__", cc)] ["__class__"] [none] s.heap H := by
      have hcc : s.heap.get? cc = some ⟨cl, cld, .cell (some (.ref C)), csl⟩ := KX _ _ lcc
      have hbase := e0.bs cc _ (e0.mod.kin _ _ lcc)
      have lk1 : ∀ {y c}, ([(("__class__" : Str), cc)] : List (Str × Addr)).lookup y = some c → y = "__class__" ∧ c = cc := fun {y c} e => by
        by_cases hy : y = "__class__"
        · subst hy; simp [List.lookup] at e; exact ⟨rfl, e.symm⟩
        · have : (y == ("__class__" : Str)) = false := by simpa using hy
          simp [List.lookup, this] at e
      refine ⟨rfl, fun y c e => ?_, fun x y c e1 e2 => (lk1 e1).1.trans (lk1 e2).1.symm, fun i y hi => ?_⟩
      · obtain ⟨_, rfl⟩ := lk1 e
        exact ⟨hbase.2, _, _, hcc, rfl⟩
      · cases i with
        | zero =>
          simp at hi; subst hi
          exact ⟨cc, by simp [List.lookup], fun v hv => by simp at hv⟩
        | succ i => simp at hi
    obtain ⟨F, hF⟩ : ∃ F : NF, F = ⟨"__init__", qual, params, body, scope, [("__class__", cc)], cda⟩ := ⟨_, rfl⟩
    have I0 : L2.Inv (ncx (L2.CX P w) P w K mg base (["self", par, "__class__"] : List Str) F fI A outer s H E) [] (startF (["self", par, "__class__"] : List Str) [.ref a, y] [none]) H { s with heap := h₀, toks := s.toks + ((["self", par] : List Str).zip us).length } :=
      inv_startN (F := F) (by rw [hF]; exact S) hr.hd e0 rfl r (by rw [hF]; exact C0) hns hk
    have henv : callEnv fd s.heap.objs.size fI = envF F fI s.heap.objs.size := by rw [efd, hF]; rfl
    rw [henv]
    obtain ⟨X, hX⟩ : ∃ X : Cx, X = ncx (L2.CX P w) P w K mg base (["self", par, "__class__"] : List Str) F fI A outer s H E := ⟨_, rfl⟩
    have e1 : envF F fI s.heap.objs.size = X.env := by rw [hX]; rfl
    have eA : A.deeper (envF F fI s.heap.objs.size) = X.A := by rw [hX]; rfl
    rw [← hX] at I0
    have kself : scope.names.lookup ("self" : Str) = some .local := S.par _ (by simp)
    have kpar : scope.names.lookup par = some .local := S.par _ (by simp)
    have kcls : scope.names.lookup ("__class__" : Str) = some .free := S.frk _ (by simp)
    have EE : ∀ u s', X.xe u s' ↔ wpAny (model P w) (A.deeper (envF F fI s.heap.objs.size)) (leaving (envF F fI s.heap.objs.size) u) (fun _ s'' => L2.CX P w outer H s E u s'') (fun e' s'' => L2.CX P w outer H s E e' s'') s' := fun u s' => by rw [hX]; exact Iff.rfl
    have base : ∀ {σ' : L2.St} {H' : Hp} {s' : Shared}, L2.Inv X [] σ' H' s' → Q .non H' → CE outer P w H s Q .none s' := fun {σ' H' s'} J q => by
      rw [hX] at J
      exact ⟨.non, H', J.os, J.bare, J.base, J.hok, rfl, q⟩
    rw [eA, e1]
    have hXs : X.env.scope = scope := by rw [hX, hF]; rfl
    have hint : interactive X.env = false := by
      unfold interactive
      rw [hXs, S.kind]; rfl
    have hXp : X.prog = P := by rw [hX]; rfl
    have hXw : X.w = w := by rw [hX]; rfl
    have hXK : X.K = K := by rw [hX]; rfl
    have hXm : X.mg = mg := by rw [hX]; rfl
    have hXN : X.N = (["self", par, "__class__"] : List Str) := by rw [hX]; rfl
    have hkind : ∀ x, X.env.kindOf x = scope.names.lookup x := fun x => by rw [hX, hF]; rfl
    have hinit := super_init (X := X) (σ := startF (["self", par, "__class__"] : List Str) [.ref a, y] [none]) (H := H) (a := a) (C := C) (f := fI) (cc := cc) (cda := cda) (body := body) (txt := txt) (j := j) (p0 := p0) (p1 := p1) (p2 := p2) (p3 := p3) (p4 := p4) (pl := pl X.env) I0 (by rw [hXK]; exact R.T) (by rw [hkind]; exact hsup) (by rw [hkind]; exact kcls) (by rw [hkind]; exact kself) (by rw [hX, hF]; rfl) (by rw [hX, hF]; rfl) (by rw [hX, hF]; simp [ncx, envF, List.lookup]) (by rw [hXN]; rfl) rfl ha (by rw [hXK]; exact lk) (by rw [efd]; exact har) hself
      (by rw [hXK]; exact lcda) hvs (by rw [hXp]; exact hfile) (by rw [hXp]; exact R.top) (by rw [hXK]; exact lcc) (by rw [hXm]; exact hmg) (by rw [hXK]; exact R.mroC) (by rw [hXK]; exact R.noAny) (by rw [hXK]; exact R.sup) (by rw [hXK]; exact R.sVE) (hev X.env)
    have hrest : PSs X [.Assign [.Attribute (.Name "self" q1) fld q2] (.Name par q3) q4] _ := pss_one (ps_ost (X := X) (pe_var (i := 0) (by rw [hXN]; rfl) (.inl (by rw [hXs]; exact kself)) (by decide) (by decide)) (pe_var (i := 1) (by rw [hXN]; rfl) (.inl (by rw [hXs]; exact kpar)) hpdb hpcd) (hsw2 X.env))
    rw [hXp, hXw] at hinit
    have key : PySem.wpAt (model P w) X.A (.func body X.env) (execs [.Expr (.Call (.Attribute (.Call (.Name "super" p0) [] [] p1) "__init__" p2) [.Constant (.str txt) j p3] [] p4) p5, .Assign [.Attribute (.Name "self" q1) fld q2] (.Name par q3) q4] X.env)
        (fun f s' => CR (L2.CX P w) outer P w H s Q E (.ok (.ret (match f with | .ret v => v | _ => .none))) s') X.xe { s with heap := h₀, toks := s.toks + ((["self", par] : List Str).zip us).length } := by
      refine ks_wpAt_execs_cons (ks_wpAt_Expr_any (ks_wpAt_mono hinit (fun v s' J => ?_) fun _ _ z => z) hint (hsw1 X.env))
      refine wpAt_of_wpAny ?_
      have run := hrest.run [] s' _ H { nx := fun _ H' => Q .non H', rt := fun _ _ => False } J
        ⟨y, rfl, .ref a, rfl, a, C, rfl, by rw [hXK]; exact R.T, by rw [hXK]; exact R.noF, .inl ⟨ha, fun dx hd hne => hq dx hd hne⟩⟩
      rw [hXp, hXw] at run
      refine wpAny_mono run (fun f s2 hs2 => ?_) fun _ _ z => z
      cases f with
      | next =>
        obtain ⟨σ', H', J', q⟩ := hs2
        exact base J' q
      | brk => obtain ⟨_, _, _, q⟩ := hs2; exact q.elim
      | cont => obtain ⟨_, _, _, q⟩ := hs2; exact q.elim
      | ret u => obtain ⟨_, _, _, _, _, q⟩ := hs2; exact q.elim
    rw [← ebody] at key
    refine ks_wpAt_mono key (fun f s' z => z) fun u s' z => ?_
    have z := (EE u s').mp z
    rw [eA, e1] at z
    exact z
end DE
namespace DE
open PyProof.Rows PySem.Spec PySem L2
/-! ### raise X(e) -/
/-- an own error class under its name -/
def ErrX (P : Program) (w : World) (K : PySem.W.Frag) (mg : Str → Option Value) (base : Heap) (Γ : Gam) (x : Str) : Prop :=
  ∃ (C fI : Addr) (fld par txt qual : Str) (fd : FuncData), mg x = some (.ref C) ∧ Γ.cl x = some (C, fld) ∧ mg "super" = none ∧ ErrC P K C fI fld par txt qual fd
theorem ErrC.bnd {P : Program} {K : PySem.W.Frag} {C fI : Addr} {fld par txt qual : Str} {fd : FuncData} (R : ErrC P K C fI fld par txt qual fd) : Binds K fd ["self", par] [] := by
  obtain ⟨oc, od, osl, params, body, scope, dV, kV, doc, pm, an, cda, ct, cc, ccl, cdd, vs, ccs, file, tf, cl, cld, csl, p0, p1, p2, p3, p4, p5, q1, q2, q3, q4, j, ar, efd, lk, hcd, lcda, hvs, hfile, lcc, S, hsup, har, hself, ⟨pl, hev⟩, hpdb, hpcd, hsw1, hsw2, ebody, hbind⟩ := R.fn
  exact Binds.all fun us hl => hbind us hl
def fRaise (c : Str) (f : Mo D) : Ms := sb f fun d g => some (.exc ⟨c, d⟩, g)
theorem upd_two {H : Hp} {a d : Addr} {o1 o2 o3 o4 : HO} (hn : H a = none) (hne : d ≠ a) : upd (del (upd (upd (upd H a o1) d o2) a o3) a) d o4 = upd H d o4 := by
  funext b
  by_cases hd : b = d
  · subst hd; rw [upd_same, upd_same]
  · rw [upd_ne hd, upd_ne hd]
    by_cases ha : b = a
    · subst ha; rw [del_same, hn]
    · rw [del_ne ha, upd_ne ha, upd_ne hd, upd_ne ha]
section
variable {X : Cx} {Γ : Gam} {W : WX} {a b c e : Expr} {es : List Expr} {pos pos2 : Pos} {k : Nat}
end
/-! ### try: body / except X as e: suite / .. -/
section
variable {X : Cx} {σ : L2.St} {H : Hp} {s : Shared} {pins : List (Addr × Obj)}
/-- an object that stands already is tracked from now on -/
theorem inv_track {a : Addr} {o : HO} (I : L2.Inv X pins σ H s) (hn : H a = none) (new0 : X.s_0.heap.get? a = none) (offL : a ≠ X.env.locals) (nC : ∀ x c, X.env.cells.lookup x = some c → c ≠ a) (nP : ∀ p ∈ X.pn ++ pins, p.1 ≠ a) (okX : ObjOk X.prog X.w (upd H a o) s.heap a o) :
    L2.Inv X pins σ (upd H a o) s := by
  refine ⟨I.ok, I.os, I.bare, ⟨I.base.keep, I.base.slot, fun b u e n hx => ?_, I.base.there, fun b xs e => ?_, fun b u v e => ?_, fun b ps e => ?_⟩, I.loc, I.cell, ?_, fun x c e => ?_, fun p hp => ?_, I.hok.laidN (fun _ _ z => z) hn okX, I.len⟩
  · have : b ≠ a := by rintro rfl; rw [new0] at e; cases e
    rw [upd_ne this]; exact I.base.free b u e n hx
  · rw [upd_ne (ne_of_none (I.base.tups b xs e) hn)]; exact I.base.tups b xs e
  · have q := I.base.frzs b u v e
    rw [upd_ne (ne_of_none q hn)]; exact q
  · obtain ⟨more, q⟩ := I.base.tbls b ps e
    exact ⟨more, by rw [upd_ne (ne_of_none q hn)]; exact q⟩
  · rw [upd_ne (Ne.symm offL)]; exact I.free
  · rw [upd_ne (nC x c e)]; exact I.freeC x c e
  · obtain ⟨h1, h2, h3, h4, h5⟩ := I.pin p hp
    exact ⟨h1, by rw [upd_ne (nP p hp)]; exact h2, h3, h4, h5⟩
theorem xob_ok {P : Program} {w : World} {H : Hp} {h : Heap} {a C : Addr} {d : Option Addr} {oe : Obj} {vs : Array Value} (e : h.get? a = some oe) (z : Zc (.ref C) d oe) (hd : oe.data = .fields vs) : ObjOk P w H h a (xob a C d) :=
  ⟨⟨oe, vs, e, z, hd⟩, ⟨oe, e⟩, fun _ _ ⟨o, v, q, r⟩ k => ⟨o, v, k o q, r⟩⟩
end
structure HSem where
  t : List (Str × Bool)
  i : Option Nat
  f : Ms
def hsuite (x : Exn) (h : HSem) : Ms := fun g => match h.i with
  | none => match h.f g with
    | some (.exc _, _) => none
    | o => o
  | some i => match h.f ⟨g.r.set i (.dat (.exc x.c x.v)), g.s⟩ with
    | some (.exc _, _) => none
    | some (o, g2) => some (o, ⟨g2.r.set i .no, g2.s⟩)
    | none => none
def hdl (x : Exn) : List HSem → Ms
  | [] => sOut (.exc x)
  | h :: r => match h.t.lookup x.c with
    | none => sStop
    | some false => hdl x r
    | some true => hsuite x h
def fTry (fb : Ms) (l : List HSem) : Ms := fun g => match fb g with
  | some (.exc x, g1) => hdl x l g1
  | o => o
/-- a class under its name: own or built-in -/
inductive ClN (mg : Str → Option Value) (x : Str) : V → Value → Prop
  | own {C : Addr} : mg x = some (.ref C) → ClN mg x (.ref C) (.ref C)
  | blt {T : String} : mg x = none → bootBuiltins x = some (.type T) → x ≠ "__name__" → ClN mg x (.ty T) (.type T)
/-- what the own error classes are to the class under the name x -/
def HdX (K : PySem.W.Frag) (mg : Str → Option Value) (Γ : Gam) (x : Str) (tb : List (Str × Bool)) : Prop :=
  ∃ v c, ClN mg x v c ∧ ∀ cn C f b, Γ.cl cn = some (C, f) → tb.lookup cn = some b → PySem.W.exmOne K (.ref C) c = some b ∧ PySem.W.kitOne K (.ref C) c = some b
theorem ClN.names {X : Cx} {x : Str} {v : V} {c : Value} (h : ClN X.mg x v c) (hg : Gl X x) (hd : (x == ("__debug__" : Str)) = false) : Names X x c := by
  cases h with
  | own h => exact ⟨hg, hd, .inl h⟩
  | blt h1 h2 h3 => exact ⟨hg, hd, .inr ⟨h1, h2, h3⟩⟩
theorem ClN.pe {X : Cx} {x : Str} {v : V} {c : Value} (h : ClN X.mg x v c) (hg : Gl X x) {pos : Pos} (hd : (x == ("__debug__" : Str)) = false) : PE X (.Name x pos) (tC v) := by
  cases h with
  | own h => exact pe_glob hg h rfl hd
  | blt h1 h2 h3 => exact pe_bltn hg h1 h2 rfl h3 hd
theorem ClN.rel {mg : Str → Option Value} {x : Str} {v : V} {c : Value} (h : ClN mg x v c) : ∀ u, RelV v u → u = c := by
  cases h with
  | own h => exact fun u r => r
  | blt h1 h2 h3 => exact fun u r => r
inductive HdsD (X : Cx) (Γ : Gam) : List ExceptHandler → List HSem → Prop
  | nil : HdsD X Γ [] []
  | as_ {x n : Str} {tb : List (Str × Bool)} {i : Nat} {f : Ms} {b₀ : Stmt} {suite : List Stmt} {np pos' : Pos} {hds : List ExceptHandler} {l : List HSem} (hc : HdX X.K X.mg Γ x tb) (hg : Gl X x) (hi : X.N[i]? = some n) (hln : X.env.kindOf n = some .local)
      (hsu : ∀ (a : Addr) (pn : List (Addr × Obj)), DB (X.suite a pn) Γ Wn (b₀ :: suite) f) (r : HdsD X Γ hds l) (hd : (x == ("__debug__" : Str)) = false) :
      HdsD X Γ (.ExceptHandler (some (.Name x np)) (some n) (b₀ :: suite) pos' :: hds) (⟨tb, some i, f⟩ :: l)
  | no_ {x : Str} {tb : List (Str × Bool)} {f : Ms} {b₀ : Stmt} {suite : List Stmt} {np pos' : Pos} {hds : List ExceptHandler} {l : List HSem} (hc : HdX X.K X.mg Γ x tb) (hg : Gl X x)
      (hsu : ∀ (a : Addr) (pn : List (Addr × Obj)), DB (X.suite a pn) Γ Wn (b₀ :: suite) f) (r : HdsD X Γ hds l) (hd : (x == ("__debug__" : Str)) = false) :
      HdsD X Γ (.ExceptHandler (some (.Name x np)) none (b₀ :: suite) pos' :: hds) (⟨tb, none, f⟩ :: l)
theorem ExD.cls {K : PySem.W.Frag} {Γ : Gam} {G : Hp} {C : Value} {dd : Option Addr} {x : Exn} (h : ExD K Γ G C dd x) : ∃ a f, Γ.cl x.c = some (a, f) ∧ C = .ref a := by
  rcases h with ⟨a, d, f, v, k1, k2, _⟩ | ⟨a, k1, k2, _⟩
  · exact ⟨a, f, k1, k2⟩
  · exact ⟨a, _, k1, k2⟩
section
variable {X : Cx} {Γ : Gam} {W : WX} {body : List Stmt} {h₀ : ExceptHandler} {hds : List ExceptHandler} {l : List HSem} {pos : Pos} {fb : Ms} {k : Nat}
end
end DE
namespace DE
open PyProof.Rows PySem.Spec PySem L2
/-! ### repr -/
def showB (p : PyData) : Bool := p.showable && (decide (p.depth ≤ 50) && (decide (p.shown.length ≤ 16000000) && !p.hasDict))
def aRepr (d : D) : Mo D := match pyd d with
  | some p => if showB p = true then rt (.str p.shown) else stop
  | none => stop
def fRepr (f : Mo D) : Mo D := bd f aRepr
section
variable {X : Cx} {Γ : Gam} {W : WX} {a b c e : Expr} {es : List Expr} {pos : Pos} {k : Nat}
/-! ### isinstance of a caught error, its field -/
/-- what the written part says of the own error classes -/
def ErrK (K : PySem.W.Frag) (Γ : Gam) : Prop := ∀ cn C f, Γ.cl cn = some (C, f) → XfC K C ∧ ExcC K C ∧ (PySem.W.clsIn K C).isSome = true ∧ PySem.W.findIn K (.ref C) f = some none
theorem xob_at {P : Program} {w : World} {H : Hp} {h : Heap} {a C : Addr} {d : Option Addr} (hok : HOk P w H h) (he : H a = some (xob a C d)) : ∃ (oe : Obj) (vs : Array Value), h.get? a = some oe ∧ Zc (.ref C) d oe ∧ oe.data = .fields vs := by
  have x : ObjOk P w H h a (.ext fun h => ∃ (oe : Obj) (vs : Array Value), h.get? a = some oe ∧ Zc (.ref C) d oe ∧ oe.data = .fields vs) := hok a _ he
  exact x.1
theorem inst_at {X : Cx} {pins : List (Addr × Obj)} {σ : L2.St} {H : Hp} {s : Shared} {a C d : Addr} {f : Str} {v : V} (I : L2.Inv X pins σ H s) (ha : H a = some (xob a C (some d))) (hd : H d = some (.xd [(f, v)])) :
    ∃ (oe od : Obj) (mA : Str → Option Value), PySem.W.InstAt s.heap a oe C (some od) ∧ PySem.W.lookIn f od = some (mA f) ∧ RelO (([(f, v)] : List (Str × V)).lookup f) (mA f) := by
  obtain ⟨oe, vs, h1, hz, h2⟩ := xob_at I.hok ha
  have hx : ObjOk X.prog X.w H s.heap d (.xd [(f, v)]) := I.hok d _ hd
  obtain ⟨mA, hns, hr⟩ := hx
  obtain ⟨od, ho, hl⟩ := lookIn_ns hns; exact ⟨oe, od, mA, ⟨h1, hz.1, by unfold PySem.W.notCls; rw [h2] <;> rfl, by rw [hz.2]; exact ho⟩, hl f, hr f⟩
/-- the dict of an exception, where it has one, holds one field -/
def XdOf (H : Hp) (dd : Option Addr) : Prop := ∀ d, dd = some d → ∃ f v, H d = some (.xd [(f, v)])
theorem inst_any {X : Cx} {pins : List (Addr × Obj)} {σ : L2.St} {H : Hp} {s : Shared} {a C : Addr} {dd : Option Addr} (I : L2.Inv X pins σ H s) (ha : H a = some (xob a C dd)) (hd : XdOf H dd) : ∃ (oe : Obj) (od : Option Obj), PySem.W.InstAt s.heap a oe C od := by
  cases dd with
  | some d =>
    obtain ⟨f, v, hd⟩ := hd d rfl
    obtain ⟨oe, od, mA, J, _⟩ := inst_at I ha hd
    exact ⟨oe, some od, J⟩
  | none =>
    obtain ⟨oe, vs, h1, hz, h2⟩ := xob_at I.hok ha
    exact ⟨oe, none, h1, hz.1, by unfold PySem.W.notCls; rw [h2] <;> rfl, by rw [hz.2]; trivial⟩
theorem call_isX : CallR X (.builtin "isinstance") (fun xs H Q => ∃ (a C : Addr) (dd : Option Addr) (cv : V) (c : Value) (b : Bool), xs = [.ref a, cv] ∧ (∀ u, RelV cv u → u = c) ∧ H a = some (xob a C dd) ∧ XdOf H dd ∧ ExcC X.K C ∧ (PySem.W.clsIn X.K C).isSome = true ∧ PySem.W.kitOne X.K (.ref C) c = some b ∧ Q (.bl b) H) := by
  intro pins s σ H xs us Q I r h; obtain ⟨a, C, dd, cv, c, b, rfl, hcv, ha, hd, T, hcl, e, q⟩ := h
  cases r with
  | cons rx rr =>
    cases rr with
    | cons rt rr =>
      cases rr
      cases rx
      have ec := hcv _ rt
      subst ec
      obtain ⟨oe, od, J⟩ := inst_any I ha hd
      exact PySem.W.kia_one (PySem.W.kitx_exc hcl T.hg T.hk T.hs T.ha T.hn T.ht T.hm) I.kIn J e (fun z => nomatch z) fun tk => ⟨.bl b, H, I.kept (t' := tk) fun _ _ z => z, rfl, q⟩
def aIsE (tb : List (Str × Bool)) (d : D) : Mo D := match d with
  | .exc c _ => match tb.lookup c with
    | some b => rt (.bl b)
    | none => stop
  | _ => stop
def fIsE (tb : List (Str × Bool)) (f : Mo D) : Mo D := bd f (aIsE tb)
theorem Dv.exc_inv {K : PySem.W.Frag} {G : Hp} {v : V} {c : Str} {w : D} (h : Dv K Γ G v (.exc c w)) : ∃ a C dd f, v = .ref a ∧ Γ.cl c = some (C, f) ∧ G a = some (xob a C dd) ∧ ((∃ d u, dd = some d ∧ G d = some (.xd [(f, u)]) ∧ Dv K Γ G u w) ∨ (dd = none ∧ f = ("" : Str))) := by
  cases h with
  | exc h1 h2 h3 h4 => exact ⟨_, _, _, _, rfl, h1, h2, .inl ⟨_, _, rfl, h3, h4⟩⟩
  | exc0 h1 h2 => exact ⟨_, _, _, _, rfl, h1, h2, .inr ⟨rfl, rfl⟩⟩
theorem xd_of {K : PySem.W.Frag} {G H : Hp} {dd : Option Addr} {f : Str} {w : D} (sub : Gr G H) (h : (∃ d u, dd = some d ∧ G d = some (.xd [(f, u)]) ∧ Dv K Γ G u w) ∨ (dd = none ∧ f = ("" : Str))) : XdOf H dd := by
  intro d e
  rcases h with ⟨d', u, rfl, k3, _⟩ | ⟨rfl, _⟩
  · cases e; exact ⟨f, u, sub _ _ k3⟩
  · cases e
theorem d_isE {x y : Str} {tb : List (Str × Bool)} {p py : Pos} {f : Mo D} (R : ErrK X.K Γ) (hy : HdX X.K X.mg Γ y tb) (gy : Gl X y) (ha : DX X Γ W e f) (hg : Gl X x) (hm : X.mg x = none) (hv : bootBuiltins x = some (.builtin "isinstance")) (hdy : (y == ("__debug__" : Str)) = false := by decide)
    (hn : x ≠ "__name__" := by decide) (hdb : (x == ("__debug__" : Str)) = false := by decide)
    (hs2 : starEach [.Name y py] X.env = (false, eval (.Name y py) X.env) :: starEach [] X.env := by rfl) (hs : starEach [e, .Name y py] X.env = (false, eval e X.env) :: starEach [.Name y py] X.env := by rfl) (hpl : (backTo pos (starEach [.Name y py] X.env)).any (·.1) = false := by rfl) :
    DX X Γ W (.Call (.Name x p) [e, .Name y py] [] pos) (fIsE tb f) := by
  obtain ⟨cv, c, hc, htab⟩ := hy
  refine (pe_callB call_isX hg hm hv (pa_cons ha (pa_cons (hc.pe gy hdy) pa_nil hs2) hs) hn hdb hs hpl).imp fun σ H Q h => h.bind fun H0 G0 d v g1 G1 H1 r1 h1 => ?_
  unfold aIsE at h1
  split at h1
  · rename_i cn w
    split at h1
    · rename_i b hb
      obtain ⟨a, C, dd, f, rfl, k1, k2, k3⟩ := Dv.exc_inv r1
      obtain ⟨_, x2, x3, _⟩ := R _ _ _ k1
      exact ⟨a, C, dd, cv, c, b, rfl, hc.rel, h1.1.sub _ _ k2, xd_of h1.1.sub k3, x2, x3, (htab _ _ _ _ k1 hb).2, h1.here (.bl _)⟩
    · exact h1.stop
  · exact h1.stop
/-- e.name -/
def aFld (cs : List Str) (d : D) : Mo D := match d with
  | .exc c w => if cs.contains c = true then rt w else stop
  | _ => stop
def fFld (cs : List Str) (f : Mo D) : Mo D := bd f (aFld cs)
def FldOk (Γ : Gam) (n : Str) (cs : List Str) : Prop := ∀ c, cs.contains c = true → ∀ C f, Γ.cl c = some (C, f) → f = n
theorem d_fld {n : Str} {cs : List Str} {f : Mo D} (R : ErrK X.K Γ) (F : FldOk Γ n cs) (he : DX X Γ W e f) (hb : attributeBase e n X.env (eval e X.env) = eval e X.env := by rfl) (hne : n ≠ "" := by decide) : DX X Γ W (.Attribute e n pos) (fFld cs f) := by
  refine ⟨fun pins s σ H Q I h => ?_⟩; refine attr_of hb (thn (he.run pins s σ H _ I (h.bind (P := fun v H1 => ∃ (a C d : Addr) (u : V), v = .ref a ∧ H1 a = some (xob a C (some d)) ∧ H1 d = some (.xd [(n, u)]) ∧ XfC X.K C ∧ PySem.W.findIn X.K (.ref C) n = some none ∧ Q u H1) fun H0 G0 d v g1 G1 H1 r1 h1 => ?_)) fun u s1 hh => ?_)
  · unfold aFld at h1
    split at h1
    · rename_i cn w
      split at h1
      · rename_i hcs
        obtain ⟨a, C, dd, f, rfl, k1, k2, k3⟩ := Dv.exc_inv r1
        obtain ⟨x1, _, _, x4⟩ := R _ _ _ k1
        obtain rfl := F _ hcs _ _ k1
        obtain ⟨d, u, rfl, k3, k4⟩ := k3.resolve_right fun z => hne z.2
        exact ⟨a, C, d, u, rfl, h1.1.sub _ _ k2, h1.1.sub _ _ k3, x1, x4, h1.here k4⟩
      · exact h1.stop
    · exact h1.stop
  · obtain ⟨v, H1, I1, rv, a, C, d, u', rfl, k2, k3, T, hno, q⟩ := hh
    obtain rfl : u = Value.ref a := rv
    obtain ⟨oe, od, mA, J, hl, hr⟩ := inst_at I1 k2 k3
    obtain ⟨u2, hu, ru⟩ := RelO.some_of (v := u') (o := mA n) (by
      have z : ([(n, u')] : List (Str × V)).lookup n = some u' := by simp [List.lookup]
      rw [z] at hr; exact hr)
    exact HandSPX.exc_get I1.kIn J T.ga T.gg T.exC (PySem.W.findObj_own T.hdC hno rfl (by rw [hl, hu])) (handed_of ru) ⟨u', H1, I1.tok _, ru, q⟩
end
end DE
namespace DE
open PyProof.Rows PySem.Spec PySem L2
/-! ### isinstance(e, (X, Y, ..)) of a caught error -/
section
variable {X : Cx} {Γ : Gam} {W : WX} {a b c e : Expr} {es : List Expr} {pos : Pos} {k : Nat}
/-! ### {}, and a dict held against a text -/
theorem d_dic0 : DX X Γ W (.Dict [] [] pos) (rt (.dic [])) :=
  pe_dnewK.imp fun σ H Q ⟨H0, G0, G, g, h⟩ p hp => h.new hp (.dic upd_same .nil)
end
section
variable {M : Model} {prog : Program} {w : World} {A : Around} {E : Value → Shared → Prop} {s : Shared}
end
section
variable {X : Cx} {Γ : Gam} {W : WX}
end
end DE
namespace DE
open PyProof.Rows PySem.Spec PySem L2
/-! ### the script's draws begin -/
def begStep (s c : Int) : Int := (s * 69621 + c % 2147483629 + 7) % 2147483647
def begS (ns : List Int) : DS := ⟨ns.filter (fun c => decide ((10 : Int) ^ 18 ≤ c)), ns.foldl begStep 11, 0⟩
abbrev tBInt (t : TE) : TE := fun σ H Q => tCons t tNil σ H fun xs H1 => (∃ i, xs = [.int i] ∧ Q (.int i) H1) ∨ ∃ k, xs = [.bl k] ∧ Q (.int (if k then 1 else 0)) H1
abbrev tBStep : TE := tOp (rI (fun _ j => 0 < j) fun i j => .int (i % j)) (tBInt (tOp (rI0 fun i j => .int (i + j)) (tOp (rI0 fun i j => .int (i + j)) (tOp (rI CMul fun i j => .int (i * j)) (tVar 1) (tC (.int 69621))) (tOp (rI (fun _ j => 0 < j) fun i j => .int (i % j)) (tBInt (tVar 2)) (tC (.int 2147483629)))) (tC (.int 7)))) (tC (.int 2147483647))
abbrev tBComp (K : PySem.W.Frag) : TE := tLc (iList K (tVar 0)) (gName 2) (tTest (tOp (rI0 fun i j => .bl (decide (j ≤ i))) (tVar 2) (tOp (rI CPow fun i j => .int (i ^ j.toNat)) (tC (.int 10)) (tC (.int 18))))) (tVar 2) [2]
abbrev tBeg (K : PySem.W.Frag) : TS := tSeq (tAsg (tC (.int 11)) (gName 1)) (tSeq (tFor (iList K (tVar 0)) (gName 2) (tAsg tBStep (gName 1)))
  (tRet (tDisp [(tC (.str "great"), tBComp K), (tC (.str "seed"), tVar 1), (tC (.str "turns"), tC (.int 0))])))
def spBeg (K : PySem.W.Frag) : Sp := fun vs H Q _ => ∃ l ns, vs = [.ref l] ∧ SqL K H l (ns.map V.int) ∧ ns.length ≤ 100000 ∧
  ∀ M D H', H M = none → H D = none → M ≠ D → H' M = some (.dK (mkvs D (begS ns))) → H' D = some (.lst ((begS ns).great.map V.int)) → (∀ a, a ≠ M → a ≠ D → H' a = H a) → Q (.ref M) H'
theorem takeOne {α : Type} : ∀ {l : List α} {x : α} {i : Nat}, l[i]? = some x → l.take (i + 1) = l.take i ++ [x]
  | [], x, i, h => by simp at h
  | a :: l, x, 0, h => by simp at h; subst h; rfl
  | a :: l, x, i + 1, h => by
    have ih := takeOne (l := l) (i := i) (x := x) (by simpa using h)
    simp [ih]
theorem beg_run {K : PySem.W.Frag} {l : Addr} {ns : List Int} {H : Hp} {Ds : Ends} {σ : L2.St} (hσ : σ.length = 3) (h0 : σ[0]? = some (some (V.ref l))) (hl : SqL K H l (ns.map V.int)) (hn : ns.length ≤ 100000)
    (hq : ∀ M D H', H M = none → H D = none → M ≠ D → H' M = some (.dK (mkvs D (begS ns))) → H' D = some (.lst ((begS ns).great.map V.int)) → (∀ a, a ≠ M → a ≠ D → H' a = H a) → Ds.rt (.ref M) H') : tBeg K Ds σ H := by
  have set_ne : ∀ {σ : L2.St} {i j : Nat} {v : Option V}, i ≠ j → (σ.set i v)[j]? = σ[j]? := fun h => List.getElem?_set_ne h
  have set_eq : ∀ {σ : L2.St} {i : Nat} {v : Option V}, i < σ.length → (σ.set i v)[i]? = some v := fun h => List.getElem?_set_self h
  show tSeq _ _ Ds (σ.set 1 (some (.int 11))) H
  refine ⟨.ref l, by rw [set_ne (by decide)]; exact h0, l, rfl, ⟨_, hl⟩, for_list (xs := ns.map V.int) (fun i σ2 H2 => H2 = H ∧ σ2.length = 3 ∧ σ2[0]? = some (some (V.ref l)) ∧ σ2[1]? = some (some (V.int ((ns.take i).foldl begStep 11)))) ⟨rfl, by simpa using hσ, by rw [set_ne (by decide)]; exact h0, by rw [set_eq (by omega)]; rfl⟩ (fun i σ2 H2 _ p => by rw [p.1]; exact hl) ?_ ?_⟩
  · rintro i x σ2 H2 hx ⟨rfl, hs, p0, p1⟩
    rw [List.getElem?_map] at hx
    cases hc : ns[i]? with
    | none => rw [hc] at hx; cases hx
    | some c =>
      rw [hc] at hx; cases hx
      refine ⟨.int ((ns.take i).foldl begStep 11), by rw [set_ne (by decide)]; exact p1, _, _, rfl, rfl, .inr ⟨by decide, by decide⟩, .int c, set_eq (by omega), .inl ⟨c, rfl, _, _, rfl, rfl, (show (0 : Int) < 2147483629 by decide), _, _, rfl, rfl, _, _, rfl, rfl, .inl ⟨_, rfl, _, _, rfl, rfl, (show (0 : Int) < 2147483647 by decide), rfl, by simpa using hs, ?_, ?_⟩⟩⟩
      · rw [set_ne (by decide), set_ne (by decide)]; exact p0
      · rw [set_eq (by simpa using (by omega : 1 < σ2.length)), takeOne hc, List.foldl_append]; rfl
  · rintro σ2 H2 ⟨rfl, hs, p0, p1⟩ p hp
    rw [List.length_map, List.take_length] at p1
    refine ⟨.ref l, p0, l, rfl, ⟨_, Gr.sqL (Gr.upd hp) hl⟩, fun D hD => ?_⟩
    have pD : D ≠ p := by rintro rfl; rw [upd_same] at hD; cases hD
    have hD' : H2 D = none := by rw [upd_ne pD] at hD; exact hD
    refine lc_list (xs := ns.map V.int) (fun i H3 => H3 D = some (.lst (((ns.take i).filter (fun c => decide ((10 : Int) ^ 18 ≤ c))).map V.int)) ∧ ∀ a, a ≠ D → H3 a = upd H2 p (.dK []) a) ⟨upd_same, fun a ha => upd_ne ha⟩ (fun i H3 _ q => Gr.sqL (fun a o z => by rw [q.2 a (ne_of_none z hD), ← z]) (Gr.sqL (Gr.upd hp) hl)) ?_ ?_
    · rintro i x H3 hx ⟨q1, q2⟩
      rw [List.getElem?_map] at hx
      cases hc : ns[i]? with
      | none => rw [hc] at hx; cases hx
      | some c =>
        rw [hc] at hx; cases hx
        have wl : (L2.wipe σ2 [2]).length = 3 := by rw [wipe_length]; exact hs
        refine ⟨wipe_congr (by rw [List.length_set, wl, hs]) fun i hi => ?_, .int c, set_eq (by omega), _, _, rfl, rfl, by unfold CPow; decide, _, _, rfl, rfl, ?_⟩
        · have : 2 ≠ i := by simpa [eq_comm] using hi
          rw [set_ne this, wipe_at hi]
        · refine ⟨_, rfl, ?_⟩
          have e18 : ((10 : Int) ^ (18 : Int).toNat) = 10 ^ 18 := rfl
          by_cases hk : (10 : Int) ^ 18 ≤ c
          · have hk' : decide ((10 : Int) ^ (18 : Int).toNat ≤ c) = true := by rw [e18]; exact decide_eq_true hk
            rw [hk']
            show (if true = true then _ else _); rw [if_pos rfl]
            refine ⟨.int c, set_eq (by omega), _, q1, ?_, ?_, fun a ha => by rw [upd_ne ha]; exact q2 a ha⟩
            · rw [List.length_map]
              have h1 := List.length_filter_le (fun c => decide ((10 : Int) ^ 18 ≤ c)) (ns.take i)
              have h2 : (ns.take i).length ≤ ns.length := by rw [List.length_take]; omega
              exact Nat.lt_of_le_of_lt (Nat.le_trans h1 (Nat.le_trans h2 hn)) (by decide)
            · rw [upd_same, takeOne hc, List.filter_append, List.map_append]
              have : List.filter (fun c => decide ((10 : Int) ^ 18 ≤ c)) [c] = [c] := by rw [List.filter_cons]; rw [decide_eq_true hk]; rfl
              rw [this]; rfl
          · have hk' : decide ((10 : Int) ^ (18 : Int).toNat ≤ c) = false := by rw [e18]; exact decide_eq_false hk
            rw [hk']
            show (if false = true then _ else _)
            rw [if_neg Bool.false_ne_true]; refine ⟨?_, q2⟩
            rw [q1, takeOne hc, List.filter_append]
            have : List.filter (fun c => decide ((10 : Int) ^ 18 ≤ c)) [c] = [] := by rw [List.filter_cons]; rw [decide_eq_false hk]; rfl
            rw [this, List.append_nil]
    · rintro H3 ⟨q1, q2⟩
      rw [List.length_map, List.take_length] at q1
      refine ⟨.int (ns.foldl begStep 11), p1, ⟨by rw [q2 p (Ne.symm pD), upd_same], [(Sum.inr "great", .ref D), (Sum.inr "seed", .int (ns.foldl begStep 11)), (Sum.inr "turns", .int 0)], rfl, by show 3 ≤ 15; decide, ?_⟩⟩
      have em : mergeK [] [(Sum.inr "great", V.ref D), (Sum.inr "seed", .int (ns.foldl begStep 11)), (Sum.inr "turns", .int 0)] = mkvs D (begS ns) := by
        simp [mergeK, putK, mkvs, gs_, gt_, st_, begS]
      rw [em]
      refine hq p D _ hp hD' (Ne.symm pD) upd_same ?_ fun a h1 h2 => ?_
      · rw [upd_ne pD]; exact q1
      · rw [upd_ne h1, q2 a h2, upd_ne h1]
end DE
namespace DE
open PyProof.Rows PySem.Spec PySem L2
/-! ### a law's def: m = _law_begun(script), then the rest over data -/
section
variable {X : Cx} {W : WX} {e : Expr} {es : List Expr} {pos : Pos} {k : Nat}
theorem pe_callKs {j : Nat} {sp : Sp} {x : Str} {p : Pos} {t : TA} (F : Kf X.prog X.w X.K X.mg X.base j x sp) (hk : j ≤ k) (C : Ct X W k) (hg : Gl X x) (args : PA X (e :: es) t)
    (hdb : (x == ("__debug__" : Str)) = false := by decide) (he : starEach (e :: es) X.env =
      (false, eval e X.env) :: starEach es X.env := by rfl) (hpl : (backTo pos (starEach es X.env)).any (·.1) = false := by rfl) :
    PE X (.Call (.Name x p) (e :: es) [] pos) (fun σ H Q => t σ H fun vs H1 => sp vs H1 Q (WE W σ)) :=
  let ⟨_, _, _, h1, h2, h3, h4⟩ := F.mono hk
  pe_callG h1 C hg h2 h3 h4 args hdb he hpl
end
theorem pss_ex {X : Cx} {α : Type} {st : List Stmt} {t : α → TS} (h : ∀ a, PSs X st (t a)) : PSs X st (fun Ds σ H => ∃ a, t a Ds σ H) := ⟨fun pins s σ H Ds I ⟨a, q⟩ => (h a).run pins s σ H Ds I q⟩
def initR (n i : Nat) : List Sl := (List.replicate n Sl.no).set i (.dat .m)
def initS (n i : Nat) (ns : List Int) : List Sl := (initR n i).set 0 (.dat (.scr ns))
/-- the law's program gives True, its script known or not -/
def goesL (fb : Ms) (n im : Nat) (ns : List Int) : Prop := (∃ g', fb ⟨initR n im, begS ns⟩ = some (.ret (.bl true), g')) ∨ ∃ g', fb ⟨initS n im ns, begS ns⟩ = some (.ret (.bl true), g')
def spLaw (K : PySem.W.Frag) (T : List (Addr × Str)) (n im : Nat) (fb : Ms) : Sp := fun vs H Q _ => ∃ l ns, vs = [.ref l] ∧ SqL K H l (ns.map V.int) ∧ ns.length ≤ 100000 ∧ LamX.Tabs T H ∧ goesL fb n im ns ∧ ∀ H', Q (.bl true) H'
abbrev tFirst (K : PySem.W.Frag) (E : XK) (im : Nat) : TS := tAsg (fun σ H Q => tCons (tVar 0) tNil σ H fun vs H1 => spBeg K vs H1 Q E) (gName im)
theorem law_fnC {P : Program} {w : World} {K : PySem.W.Frag} {mg : Str → Option Value} {base : Heap} {cl : Str → Option (Addr × Str)} {T : List (Addr × Str)} {st st1 : Stmt} {rest : List Stmt} {f : Addr} {fd : FuncData} {N : List Str} {im k : Nat} {fb : Ms}
    (F : Fun K "law" "law" st f fd) (S : FnScope N ["script"] (defScope st)) (hbody : defBody st = st1 :: rest) (him : im < N.length) (h0 : im ≠ 0)
    (hfirst : ∀ (cdv : Value) (A : Around) (outer : List Env) (s : Shared) (H : Hp) (E : XK), Ct (cxD P w K mg base N "law" st f cdv A outer s H E) (fun c d _ H => E c d H) k → PS (cxD P w K mg base N "law" st f cdv A outer s H E) st1 (tFirst K E im))
    (hd : ∀ (M : Addr) (cdv : Value) (A : Around) (outer : List Env) (s : Shared) (H : Hp) (E : XK), fd.code = cdv → Ct (cxD P w K mg base N "law" st f cdv A outer s H E) (fun c d _ H => E c d H) k → DB (cxD P w K mg base N "law" st f cdv A outer s H E) ⟨M, cl, T, w⟩ (fun c d _ H => E c d H) rest fb) :
    FnG P w K mg base (k + 1) f fd ["script"] (spLaw K T N.length im fb) := by
  refine fnG_ofC F S (fun vs H Q E h => ?_) (fun cdv A outer s H vs Q E hcv C h => ?_)
  · obtain ⟨l, ns, rfl, _⟩ := h; rfl
  · obtain ⟨l, ns, rfl, hl, hn, tb, hg, q⟩ := h
    rw [hbody]
    refine ⟨_, pss_cons (hfirst cdv A outer s H E C) (pss_ex fun M => hd M cdv A outer s H E hcv C), ?_⟩
    have hN : 1 ≤ N.length := by omega
    have s0 : (L2.start N [V.ref l])[0]? = some (some (V.ref l)) := by unfold L2.start; rfl
    refine ⟨.ref l, s0, l, ns, rfl, hl, hn, fun M D H' hM hD hMD eM eD keep => ?_⟩
    have gne : ∀ a o, (if a = D then H' D else none) = some o → a = D ∧ H' D = some o := fun a o z => by
      by_cases c : a = D
      · rw [if_pos c] at z; exact ⟨c, z⟩
      · rw [if_neg c] at z; cases z
    have lenS : (L2.start N [V.ref l]).length = N.length := by unfold L2.start; simp; omega
    have slot : ∀ (i : Nat) z, z ≠ Sl.no → (initR N.length im)[i]? = some z → i = im ∧ z = .dat .m := fun i z hz h' => by
      unfold initR at h'
      by_cases c : i = im
      · subst c
        rw [List.getElem?_set_self (by simpa using him)] at h'
        exact ⟨rfl, (Option.some.inj h').symm⟩
      · rw [List.getElem?_set_ne (Ne.symm c), List.getElem?_replicate] at h'
        split at h'
        · exact absurd (Option.some.inj h').symm hz
        · cases h'
    have old : ∀ a o, H a = some o → H' a = some o := fun a o z => by
      rw [keep a (ne_of_none z hM) (ne_of_none z hD)]; exact z
    have E0 : En K ⟨M, cl, T, w⟩ H' (fun a => if a = D then H' D else none) (fun a => if a = D then H' D else none) H' ((L2.start N [V.ref l]).set im (some (.ref M))) ⟨initR N.length im, begS ns⟩ := by
      refine ⟨fun a o _ z => z, fun a o _ z => z, Gr.refl _, fun a o z => ?_, if_neg hMD, ⟨D, eM, ?_⟩, ?_, fun i d z => ?_, fun i xs z => ?_, fun i j xs ys l z => ?_, tb.ext old, fun p hp => ?_, fun i f c q G1 z => ?_, OdA.no fun i y hy z => by obtain ⟨_, z⟩ := slot i y (by rintro rfl; cases hy) z; rw [z] at hy; cases hy⟩
      · obtain ⟨rfl, z⟩ := gne a o z; exact z
      · show (if D = D then H' D else none) = _
        rw [if_pos rfl, eD]
      · rw [List.length_set, lenS]; unfold initR; simp
      · obtain ⟨rfl, zz⟩ := slot i _ (by intro z; cases z) z
        cases zz
        exact ⟨.ref M, List.getElem?_set_self (by rw [lenS]; exact him), .m⟩
      · obtain ⟨_, zz⟩ := slot i _ (by intro z; cases z) z
        cases zz
      · obtain ⟨_, zz⟩ := slot i _ (by intro z; cases z) z
        cases zz
      · obtain ⟨ps, z, _⟩ := tb p hp
        exact if_neg (ne_of_none z hD)
      · obtain ⟨_, zz⟩ := slot i _ (by intro z; cases z) z
        cases zz
    rcases hg with ⟨g', hg⟩ | ⟨g', hg⟩
    · exact ⟨M, H', _, _, _, E0, .ret (.bl true), g', hg, fun v σ' G' H2 gr E' dv => by cases dv; exact q H2⟩
    · -- the script is known, too
      have hlM : l ≠ M ∨ H l = none := by
        by_cases c : l = M
        · subst c; exact .inr hM
        · exact .inl c
      obtain ⟨G2, hG2, hsub, hD2, hM2, hT2⟩ : ∃ G2 : Hp, SqL K G2 l (ns.map V.int) ∧ Gr G2 H' ∧ G2 D = H' D ∧ G2 M = none ∧ ∀ p ∈ T, G2 p.1 = none := by
        have gD : ∀ p ∈ T, p.1 ≠ D := fun p hp z => by
          obtain ⟨ps, y, _⟩ := tb p hp
          rw [z, hD] at y; cases y
        rcases hl with hR | hK
        · have hlH : ∃ o, H l = some o ∧ ∀ ps, o ≠ .tbl ps := by
            rcases hR with h | ⟨o, h⟩
            · exact ⟨_, h, fun _ z => by cases z⟩
            · exact ⟨_, h, fun _ z => by cases z⟩
          obtain ⟨o, ho, no⟩ := hlH
          have lM : l ≠ M := ne_of_none ho hM
          have lD : l ≠ D := ne_of_none ho hD
          refine ⟨fun a => if a = D then H' D else if a = l then H l else none, .inl ?_, fun a u z => ?_, if_pos rfl, ?_, fun p hp => ?_⟩
          · have e : (if l = D then H' D else if l = l then H l else none) = H l := by rw [if_neg lD, if_pos rfl]
            rcases hR with h | ⟨o, h⟩
            · exact .inl (e.trans h)
            · exact .inr ⟨o, e.trans h⟩
          · replace z : (if a = D then H' D else if a = l then H l else none) = some u := z
            by_cases c : a = D
            · rw [if_pos c] at z; rw [c]; exact z
            · rw [if_neg c] at z
              by_cases c2 : a = l
              · rw [if_pos c2] at z; rw [c2]; exact old _ _ z
              · rw [if_neg c2] at z; cases z
          · show (if M = D then H' D else if M = l then H l else none) = none
            rw [if_neg hMD, if_neg (Ne.symm lM)]
          · obtain ⟨ps, y, _⟩ := tb p hp
            have : p.1 ≠ l := fun z => by rw [z, ho] at y; exact no _ (Option.some.inj y)
            show (if p.1 = D then H' D else if p.1 = l then H l else none) = none
            rw [if_neg (gD p hp), if_neg this]
        · refine ⟨fun a => if a = D then H' D else none, .inr hK, fun a u z => ?_, if_pos rfl, if_neg hMD, fun p hp => if_neg (gD p hp)⟩
          obtain ⟨rfl, z⟩ := gne a u z; exact z
      have slotS : ∀ (i : Nat) z, z ≠ Sl.no → (initS N.length im ns)[i]? = some z → (i = 0 ∧ z = .dat (.scr ns)) ∨ (i = im ∧ z = .dat .m) := fun i z hz h' => by
        unfold initS at h'
        by_cases c : i = 0
        · subst c
          rw [List.getElem?_set_self (by unfold initR; simp; omega)] at h'
          exact .inl ⟨rfl, (Option.some.inj h').symm⟩
        · rw [List.getElem?_set_ne (Ne.symm c)] at h'
          exact .inr (slot i z hz h')
      have E1 : En K ⟨M, cl, T, w⟩ H' G2 G2 H' ((L2.start N [V.ref l]).set im (some (.ref M))) ⟨initS N.length im ns, begS ns⟩ := by
        refine ⟨fun a o _ z => z, fun a o _ z => z, Gr.refl _, hsub, hM2, ⟨D, eM, hD2.trans eD⟩, ?_, fun i d z => ?_, fun i xs z => ?_, fun i j xs ys l z => ?_, tb.ext old, hT2, fun i f c q G1 z => ?_, OdA.no fun i y hy z => by rcases slotS i y (by rintro rfl; cases hy) z with ⟨_, z⟩ | ⟨_, z⟩ <;> (rw [z] at hy; cases hy)⟩
        · rw [List.length_set, lenS]; unfold initS initR; simp
        · rcases slotS i _ (by intro z; cases z) z with ⟨rfl, zz⟩ | ⟨rfl, zz⟩
          · cases zz
            refine ⟨.ref l, ?_, .scr hG2⟩
            rw [List.getElem?_set_ne h0]; exact s0
          · cases zz
            exact ⟨.ref M, List.getElem?_set_self (by rw [lenS]; exact him), .m⟩
        · rcases slotS i _ (by intro z; cases z) z with ⟨_, zz⟩ | ⟨_, zz⟩ <;> cases zz
        · rcases slotS i _ (by intro z; cases z) z with ⟨_, zz⟩ | ⟨_, zz⟩ <;> cases zz
        · rcases slotS i _ (by intro z; cases z) z with ⟨_, zz⟩ | ⟨_, zz⟩ <;> cases zz
      exact ⟨M, H', _, _, _, E1, .ret (.bl true), g', hg, fun v σ' G' H2 gr E' dv => by cases dv; exact q H2⟩
theorem law_fn {P : Program} {w : World} {K : PySem.W.Frag} {mg : Str → Option Value} {base : Heap} {cl : Str → Option (Addr × Str)} {T : List (Addr × Str)} {st st1 : Stmt} {rest : List Stmt} {f : Addr} {fd : FuncData} {N : List Str} {im k : Nat} {fb : Ms}
    (F : Fun K "law" "law" st f fd) (S : FnScope N ["script"] (defScope st)) (hbody : defBody st = st1 :: rest) (him : im < N.length) (h0 : im ≠ 0)
    (hfirst : ∀ (cdv : Value) (A : Around) (outer : List Env) (s : Shared) (H : Hp) (E : XK), Ct (cxD P w K mg base N "law" st f cdv A outer s H E) (fun c d _ H => E c d H) k → PS (cxD P w K mg base N "law" st f cdv A outer s H E) st1 (tFirst K E im))
    (hd : ∀ (M : Addr) (cdv : Value) (A : Around) (outer : List Env) (s : Shared) (H : Hp) (E : XK), Ct (cxD P w K mg base N "law" st f cdv A outer s H E) (fun c d _ H => E c d H) k → DB (cxD P w K mg base N "law" st f cdv A outer s H E) ⟨M, cl, T, w⟩ (fun c d _ H => E c d H) rest fb) :
    FnG P w K mg base (k + 1) f fd ["script"] (spLaw K T N.length im fb) :=
  law_fnC F S hbody him h0 hfirst fun M cdv A outer s H E _ C => hd M cdv A outer s H E C
end DE
namespace DE
open PyProof.Rows PySem.Spec PySem L2
theorem blk_ok {P : Program} {w : World} {K : PySem.W.Frag} {mg : Str → Option Value} {base : Heap} {N : List Str} {qual : Str} {st : Stmt} {f : Addr} {cdv : Value} {A : Around} {outer : List Env} {s : Shared} {H : Hp} {E : XK} {scope : Scope} {own : List (Str × Nat)} (h : blkC N (defScope st) scope own = true) :
    BlkOk (cxD P w K mg base N qual st f cdv A outer s H E).N (cxD P w K mg base N qual st f cdv A outer s H E).env.scope scope own := blkOk_by h
/-! ### the end of a law -/
end DE
namespace DE
open PyProof.Rows PySem.Spec PySem L2
open NdefX (nscB nscope_by)
/-! ### what the written part must say, packed -/
/-- the facts of one error class -/
structure ErrF (P : Program) (K : PySem.W.Frag) (C fI : Addr) (fld par txt qual : Str) (fd : FuncData) : Prop where
  c : ErrC P K C fI fld par txt qual fd
  x : XfC K C
  e : ExcC K C
  s : (PySem.W.clsIn K C).isSome = true
/-! ### the own error classes by their names -/
def clL (l : List (Str × (Addr × Str))) : Str → Option (Addr × Str) := fun c => l.lookup c
theorem cl_all {l : List (Str × (Addr × Str))} {R : Str → Addr → Str → Prop} (h : ∀ p ∈ l, R p.1 p.2.1 p.2.2) : ∀ cn C f, clL l cn = some (C, f) → R cn C f := fun cn C f e => h (cn, (C, f)) (PySem.mem_of_lookup e)
theorem fa_nil {α : Type} {R : α → Prop} : ∀ p ∈ ([] : List α), R p := fun _ h => nomatch h
theorem fa_cons {α : Type} {R : α → Prop} {a : α} {l : List α} (h : R a) (t : ∀ p ∈ l, R p) : ∀ p ∈ a :: l, R p := fun p hp => by
  rcases List.mem_cons.mp hp with e | q
  · exact e ▸ h
  · exact t p q
def HdF (K : PySem.W.Frag) (C : Addr) (c : Value) (b : Bool) : Prop := PySem.W.exmOne K (.ref C) c = some b ∧ PySem.W.kitOne K (.ref C) c = some b
theorem hd_ref {K : PySem.W.Frag} {C D : Addr} {b : Bool} (h1 : PySem.W.subIn K (.ref D) (.type "BaseException") = some true) (h2 : PySem.W.isClsIn K D = true) (h3 : PySem.W.typeIn K (.ref D) = some (.type "type")) (h4 : PySem.W.subIn K (.ref C) (.ref D) = some b) (h5 : b = true ∨ C ≠ D) : HdF K C (.ref D) b := by
  have h2' : (PySem.W.clsIn K D).isSome = true := h2
  have e0 : PySem.W.kitCls K (.ref C) (.ref D) = some b := by
    unfold PySem.W.kitCls
    dsimp only
    rw [h2', h3, if_pos (by decide)]; exact h4
  constructor
  · unfold PySem.W.exmOne
    rw [h1, if_pos (by decide)]; exact e0
  · unfold PySem.W.kitOne
    by_cases c : (Value.ref C == Value.ref D) = true
    · rw [if_pos c]
      rcases h5 with rfl | h5
      · rfl
      · have : C = D := by simpa using c
        exact absurd this h5
    · rw [if_neg c]; exact e0
theorem hd_type {K : PySem.W.Frag} {C : Addr} {T : String} {b : Bool} (h1 : PySem.W.subIn K (.type T) (.type "BaseException") = some true) (h2 : PySem.W.kitMeta T = true) (h4 : PySem.W.subIn K (.ref C) (.type T) = some b) : HdF K C (.type T) b := by
  have e0 : PySem.W.kitCls K (.ref C) (.type T) = some b := by
    unfold PySem.W.kitCls
    dsimp only
    rw [if_pos h2]; exact h4
  constructor
  · unfold PySem.W.exmOne
    rw [h1, if_pos (by decide)]; exact e0
  · unfold PySem.W.kitOne
    rw [if_neg (by simp)]; exact e0
theorem hd_el {K : PySem.W.Frag} {C : Addr} {c : Value} {tb : List (Str × Bool)} {cn : Str} {b0 : Bool} (e : tb.lookup cn = some b0) (h : HdF K C c b0) : ∀ b, tb.lookup cn = some b → PySem.W.exmOne K (.ref C) c = some b ∧ PySem.W.kitOne K (.ref C) c = some b := fun b hb => by
  rw [e] at hb; cases hb; exact h
end DE
namespace DE
open PyProof.Rows PySem.Spec PySem L2
/-! ### d == () -/
/-! ### t * n -/
theorem DvA.rep {K : PySem.W.Frag} {Γ : Gam} {G : Hp} {vs : List V} {ds : List D} (h : DvA K Γ G vs ds) : ∀ n : Nat, DvA K Γ G (List.replicate n vs).flatten (List.replicate n ds).flatten
  | 0 => .nil
  | n + 1 => by
    rw [List.replicate_succ, List.replicate_succ, List.flatten_cons, List.flatten_cons]; exact h.append (h.rep n)
section
variable {X : Cx} {Γ : Gam} {W : WX} {k : Nat}
end
/-! ### enumerate(tuple) -/
set_option maxHeartbeats 1000001 in
theorem enum_new1 {v : Value} {o : Obj} {J : Heap → Prop} (B : Begins v o J) : Meets (Builtin.«enumerate.__new__» ⟨[.type "enumerate", v], []⟩) fun _ R s => J s.heap ∧
    R (.ok (.ret (.ref (s.heap.push o).objs.size))) { s with heap := (s.heap.push o).push { cls := .type "enumerate", data := .fields #[.none, .bool false, .ref s.heap.objs.size, rawInt 0, .none, .none] } } :=
  .of_wp fun prog w A R s hyp => by
    obtain ⟨hp, gl, dd, tt, os⟩ := s
    obtain ⟨j, fin⟩ := hyp
    have sub_e := sub_enumerate
    have go : ∀ {A' : Around} {E Q : Value → Shared → Prop}, Q (.ref hp.objs.size) ⟨hp.push o, gl, dd, tt, os⟩ → wpAny (model prog w) A' (pyIter v) Q E ⟨hp, gl, dd, tt, os⟩ := fun z => B.iter prog w _ _ ⟨hp, gl, dd, tt, os⟩ _ j z
    wp_walk using go
    refine wpAny_stack_any fun _ => wpAny_pure ?_
    split
    · rename_i cc _ _ _ _ _
      cases (cc == Value.type "enumerate") <;> (wp_walk using go; exact ⟨_, rfl, fin⟩)
    · wp_walk using go; exact ⟨_, rfl, fin⟩
theorem enum_begun {prog : Program} {w : World} {A : Around} {E Q : Value → Shared → Prop} {s : Shared} {v : Value} {o : Obj} {J : Heap → Prop} (B : Begins v o J) (j : J s.heap)
    (fin : ∀ h', IsEnum h' (s.heap.objs.size + 1) s.heap.objs.size 0 .none → h'.get? s.heap.objs.size = some o → (∀ b z, s.heap.get? b = some z → h'.get? b = some z) → Q (.ref (s.heap.objs.size + 1)) { s with heap := h' }) :
    wpAny (model prog w) A (call (.type "enumerate") [v]) Q E s := by
  refine callType_new F.called_enumerate (by decide) (F.typeCall_enumerate_1 _) (F.newCall_enumerate_1 _) (fun obj => F.args_object_init_2 obj _) F.entry_enumerate_new (enum_new1 B) ⟨j, ?_⟩
  have size1 : (s.heap.push o).objs.size = s.heap.objs.size + 1 := Heap.size_push ..
  have made := Heap.get?_push_size (s.heap.push o) (o := { cls := .type "enumerate", data := .fields #[.none, .bool false, .ref s.heap.objs.size, rawInt 0, .none, .none] }) rfl
  show _ ∧ _
  rw [size1] at made ⊢
  exact ⟨⟨_, made, rfl⟩, fin _ made (Heap.get?_push_of_some _ (Heap.get?_push_size _ B.free)) fun b z x => Heap.get?_push_of_some _ (Heap.get?_push_of_some _ x)⟩
/-- the tuple at a, each item in a new pair -/
def Itu (K : PySem.W.Frag) (a : Addr) : It where
  go i H := ∃ xs x, SqT K H a xs ∧ xs[i]? = some x
  yld i H v H' := ∃ q x, v = .ref q ∧ H q = none ∧ H' = upd H q (.tup [.int (i : Nat), x]) ∧ ∀ xs, SqT K H a xs → xs[i]? = some x
  stop i H := ∃ xs, SqT K H a xs ∧ xs.length = i
theorem apart {h : Heap} {a b : Addr} {o o' : Obj} (h1 : h.get? a = some o) (h2 : h.get? b = some o') (n : o.cls ≠ o'.cls) : a ≠ b := by
  rintro rfl
  rw [h1] at h2
  cases h2
  exact n rfl
theorem turn_enumT {P : Program} {w : World} {K : PySem.W.Frag} {elts : List Expr} {kk : Nat} {tpos : Pos} (a e it : Addr) :
    Turn P w K (.Tuple elts kk tpos) (Itu K a) [e, it] e (fun i h => (∃ old, IsEnum h e it ((i : Nat) : Int) old) ∧ h.IsTupleIter it a i ∧ e ≠ it) where
  mem := List.mem_cons_self
  obj i h st b hb := by
    obtain ⟨⟨old, he⟩, ⟨o, ho, _, hd⟩, _⟩ := st
    rcases (by simpa using hb : b = e ∨ b = it) with rfl | rfl
    · exact ⟨_, he, fun v q => nomatch q⟩
    · exact ⟨o, ho, fun v q => by rw [hd] at q; cases q⟩
  keep i h h' st k := by
    obtain ⟨⟨old, he⟩, hi, ne⟩ := st
    exact ⟨⟨old, k e (by simp) _ he⟩, hi.at fun o q => k it (by simp) o q, ne⟩
  item := by
    intro X hP hw hK hc i pins s σ H E I hf st hg; subst hP; subst hw; subst hK
    obtain ⟨⟨old, he⟩, hit, ne⟩ := st
    obtain ⟨xs, x, hq, hx⟩ := hg
    obtain ⟨its, rv, p, _⟩ := I.tuple hq
    obtain ⟨u, hu, ru⟩ := rv.get hx; have el := Heap.lt_size he
    have il : it < s.heap.objs.size := let ⟨_, q, _⟩ := hit; Heap.lt_size q
    have ai : a ≠ it := by
      obtain ⟨_, q1, c1, _⟩ := hit
      obtain ⟨_, q2, c2, _⟩ := p
      exact apart q2 q1 (by rw [c1, c2]; decide)
    have ae : e ≠ a := by
      obtain ⟨_, q2, c2, _⟩ := p
      exact apart he q2 (by rw [c2]; exact (show Value.type "enumerate" ≠ Value.type "tuple" by decide))
    have iu : i < its.toArray.size := by
      have z := (List.getElem?_eq_some_iff.mp hu).1
      simpa using z
    refine wpAny_pyNext_enum_itemD (Draws.tuple (A := X.A.in1) (I.ok.hd hc) it a ai its.toArray) he ⟨hit, p⟩ iu ne (by simp [ne, ae]) fun x' h' tk hp' ho hst hT hz hk => ?_
    obtain rfl : x' = u := by
      rw [show its.toArray[i]? = its[i]? by simp, hu] at hp'
      exact (Option.some.inj hp').symm
    refine ⟨_, rfl, wpAny_letOwnedTupleGo_enum (s := { s with heap := h', toks := tk + 1 }) ho fun h2 he2 sb => ?_⟩
    have hT2 : h2.get? s.heap.objs.size = some { cls := .type "tuple", data := .seq #[.int i tk, x'] } := (sb.2 _ (Nat.ne_of_gt el)).trans hT
    have I1 : Inv X pins σ (upd H s.heap.objs.size (.tup [.int (i : Nat), x])) { s with heap := h2, toks := tk + 1 } :=
      I.turnedNew (ch := [e, it]) (fun b z hb q => by
        rw [List.mem_cons, List.mem_singleton, not_or] at hb
        exact (sb.2 b hb.1).trans (hk b z hb.1 hb.2 q)) hf (Nat.le_refl _) ⟨by show 2 ≤ sizeLine; decide, [.int i tk, x'], .cons ⟨_, rfl⟩ (.cons ru .nil), ⟨_, hT2, rfl, _, rfl⟩⟩
    refine ⟨.ref s.heap.objs.size, _, I1, rfl, ⟨_, x, rfl, I.hok.fresh (Nat.le_refl _), rfl, fun ys hy => by rw [I.tuple_inj hy hq]; exact hx⟩, ⟨⟨x', ?_⟩, hst.1.at fun o q => (sb.2 it (Ne.symm ne)).trans q, ne⟩, fun b hb => ?_⟩
    · rw [show ((i + 1 : Nat) : Int) = (i : Int) + 1 by omega]; exact he2
    · have bl : b < s.heap.objs.size := by
        rcases (by simpa using hb : b = e ∨ b = it) with rfl | rfl
        · exact el
        · exact il
      rw [upd_ne (Nat.ne_of_lt bl)]
      exact (hf b hb).1
  done := by
    intro X hP hw hK hc i pins s σ H E I hf st hg; subst hP; subst hw; subst hK
    obtain ⟨⟨old, he⟩, hit, ne⟩ := st
    obtain ⟨xs, hq, hx⟩ := hg
    obtain ⟨its, rv, p, _⟩ := I.tuple hq
    have ai : a ≠ it := by
      obtain ⟨_, q1, c1, _⟩ := hit
      obtain ⟨_, q2, c2, _⟩ := p
      exact apart q2 q1 (by rw [c1, c2]; decide)
    have hl := rv.length
    obtain ⟨f0, f1, f2, f3, f4, f5⟩ := hf it (by simp); have en : its.toArray.size = i := by rw [List.size_toArray]; omega
    subst en
    exact wpAny_pyNext_enum_endD (Draws.tuple (A := X.A.in1) (I.ok.hd hc) it a ai its.toArray) he ⟨hit, p⟩ fun h' eb => ⟨rfl, I.turned (t' := s.toks) (fun b o hb q => eb b o hb q) f0 f1 f3 f4 f5⟩
  self A i s Q E st h := by
    obtain ⟨⟨_, he⟩, _⟩ := st
    exact wpAny_pyIter_enum he h
theorem pi_enumT {X : Cx} {e : Expr} {ta : TA} {p pos tpos : Pos} {elts : List Expr} {kk : Nat} (hg : Gl X "enumerate") (hm : X.mg "enumerate" = none) (ha : PA X [e] ta) (hs : starEach [e] X.env = [(false, eval e X.env)] := by rfl) :
    PI X (.Tuple elts kk tpos) (.Call (.Name "enumerate" p) [e] [] pos) fun σ H R => ta σ H fun vs H1 => ∃ a xs, vs = [.ref a] ∧ SqT X.K H1 a xs ∧ R (Itu X.K a) H1 := by
  refine ⟨fun pins s σ H R I h => Call_ (ld_blt I hg hm boot_enumerate (PyProof.Rows.callWith_type1 (thn (ha.run pos pins s σ H _ I h) ?_) hs rfl))⟩
  rintro us s1 ⟨vs, H1, I1, r1, a, xs, rfl, hq, q⟩
  rcases r1 with _ | ⟨r, rr⟩
  cases rr
  cases r
  obtain ⟨its, rv, p', _⟩ := I1.tuple hq
  refine enum_begun (begins_tuple a its.toArray) p' fun h' he hit hk => wpAny_pyIter_enum he ⟨s1.heap.objs.size + 1, [s1.heap.objs.size + 1, s1.heap.objs.size], _, _, H1, rfl, I1.kept (t' := s1.toks) hk, turn_enumT a (s1.heap.objs.size + 1) s1.heap.objs.size, ⟨⟨.none, he⟩, ⟨_, hit, rfl, rfl⟩, Nat.succ_ne_self _⟩, fun b hb => ?_, q⟩
  have le : s1.heap.objs.size ≤ b := by
    rcases (by simpa using hb : b = s1.heap.objs.size + 1 ∨ b = s1.heap.objs.size) with rfl | rfl
    · exact Nat.le_succ _
    · exact Nat.le_refl _
  exact I1.fpOk le (I1.hok.fresh le)
theorem walk_enumT {K : PySem.W.Frag} {a : Addr} {xs : List V} : Walk (Itu K a) xs.length (fun H => SqT K H a xs) (YPair (fun i => some (.int (i : Nat))) (fun i => xs[i]?)) where
  goes i _ hi q := ⟨xs, xs[i], q, by simp [hi]⟩
  stops _ q := ⟨xs, q, rfl⟩
  yields := by
    rintro i H v H' _ sq ⟨T1, x1, y1, y2, y3, y4⟩
    exact ⟨T1, .int (i : Nat), x1, y1, y2, y3, rfl, y4 xs sq⟩
/-- the pairs of an enumerate -/
def pairsD (xs : List D) : List D := (List.range xs.length).map fun (i : Nat) => D.tup [.int (i : Int), xs.getD i .non]
def fForEn (f : Mo (List D)) (t : Mt) (b : Ms) : Ms := sb f fun ds => match ds with
  | [.tup xs] => loop t b (pairsD xs)
  | [.lst xs] => loop t b (pairsD xs)
  | _ => sStop
section
variable {X : Cx} {Γ : Gam} {W : WX} {e : Expr} {pos : Pos} {body : List Stmt}
theorem pairsD_drop {xs : List D} {i : Nat} {d : D} (h : xs[i]? = some d) : (pairsD xs).drop i = D.tup [.int (i : Int), d] :: (pairsD xs).drop (i + 1) := by
  obtain ⟨il, e⟩ := List.getElem?_eq_some_iff.mp h
  have l : i < (pairsD xs).length := by unfold pairsD; simpa using il
  rw [List.drop_eq_getElem_cons l]
  have z : (pairsD xs)[i] = D.tup [.int (i : Int), d] := by
    unfold pairsD
    simp [List.getD_eq_getElem?_getD, h]
  rw [z]
theorem pairsD_end (xs : List D) : (pairsD xs).drop xs.length = [] := by
  apply List.drop_eq_nil_of_le
  unfold pairsD; simp
/-- one turn of an enumerate -/
theorem enum_turn {K : PySem.W.Frag} {t : Mt} {kk : Ms} {js : List Nat} {gt : TG} (kg : TgS K Γ gt js t) {H0 G0 G1 : Hp} {Ds : Ends} {xs : List D} {vs : List V} (h4 : DvA K Γ G1 vs xs) {i : Nat} {x : V} {σ : L2.St} {H H' : Hp}
    (hp : ∃ G g, Gr G1 G ∧ tSt K Γ W (loop t kk ((pairsD xs).drop i)) H0 G0 G g Ds σ H) (y : YPair (fun i => some (.int (i : Nat))) (fun i => vs[i]?) i H x H') :
    gt x σ H' fun σ2 H2 => tS K Γ W kk { Ds with nx := fun σ H => ∃ G g, Gr G1 G ∧ tSt K Γ W (loop t kk ((pairsD xs).drop (i + 1))) H0 G0 G g Ds σ H, ct := fun σ H => ∃ G g, Gr G1 G ∧ tSt K Γ W (loop t kk ((pairsD xs).drop (i + 1))) H0 G0 G g Ds σ H, bk := Ds.nx } σ2 H2 := by
  obtain ⟨G, g, gr, h⟩ := hp
  obtain ⟨q, a, b, rfl, hq, rfl, ea, eb⟩ := y
  obtain rfl := Option.some.inj ea
  obtain ⟨d, hd, dv⟩ := h4.get' i eb
  rw [pairsD_drop hd] at h
  have gq : G q = none := by
    cases z : G q with
    | none => rfl
    | some u => rw [h.1.sub _ _ z] at hq; cases hq
  have gr2 : Gr G (upd G q (.tup [.int (i : Nat), b])) := Gr.upd gq
  obtain ⟨E, o, g', ee, hh⟩ := h
  have h : tSt K Γ W (loop t kk (D.tup [.int (i : Int), d] :: (pairsD xs).drop (i + 1))) H0 G0 (upd G q (.tup [.int (i : Nat), b])) g Ds σ (upd H q (.tup [.int (i : Nat), b])) := ⟨E.new hq, o, g', ee, by
    cases o with
    | nx => exact fun σ3 G3 H3 gr3 => hh σ3 G3 H3 (gr2.trans gr3)
    | brk => exact fun σ3 G3 H3 gr3 => hh σ3 G3 H3 (gr2.trans gr3)
    | ct => exact fun σ3 G3 H3 gr3 => hh σ3 G3 H3 (gr2.trans gr3)
    | ret d3 => exact fun v3 σ3 G3 H3 gr3 => hh v3 σ3 G3 H3 (gr2.trans gr3)
    | exc x3 => exact fun C dd σ3 G3 H3 gr3 => hh C dd σ3 G3 H3 (gr2.trans gr3)⟩
  have dt : Dv K Γ (upd G q (.tup [.int (i : Nat), b])) (.ref q) (.tup [.int (i : Int), d]) := .tup (SqT.of upd_same) (.cons (.int _) (.cons ((dv.mono gr).mono gr2) .nil))
  exact loop_turn h dt (fun Q g'' e'' k => kg _ σ _ Q H0 G0 _ g g'' _ h.1 dt e'' fun σ' E' _ => k σ' E') fun σ3 G3 H3 g3 gr3 h3 => ⟨G3, g3, (gr.trans gr2).trans gr3, h3⟩
theorem s_forEn {elts : List Expr} {k2 : Nat} {tpos p2 p : Pos} {f : Mo (List D)} {t : Mt} {kk : Ms} {js : List Nat} {gt : TG} (hc : X.calm = true) (hp : PassesOwn (model X.prog X.w) X.A X.env X.xe) (hi : DA X Γ W [e] f) (hg : DG X Γ (.Tuple elts k2 tpos) gt js t) (hb : DB X Γ W body kk)
    (hgl : Gl X "enumerate") (hm : X.mg "enumerate" = none) (hs1 : starEach [e] X.env = [(false, eval e X.env)] := by rfl)
    (hs : ∀ x, foldedSetIterable (.Call (.Name "enumerate" p) [e] [] p2) X.env x = pure x := by intro _; rfl) : DS_ X Γ W (.For (.Tuple elts k2 tpos) (.Call (.Name "enumerate" p) [e] [] p2) body [] pos) (fForEn f t kk) := by
  obtain ⟨pg, kg⟩ := hg
  refine (ps_for hp hc (PI.or (pi_enum hgl hm hi hs1) (pi_enumT hgl hm hi hs1)) pg hb hs).imp fun Ds σ H h => ?_
  obtain ⟨H0, G0, G, g, h⟩ := h
  by_cases hl : ∃ xs g1, f g = some (.ok [D.lst xs], g1)
  · refine .inl ⟨H0, G0, G, g, h.bind (R1 := RA X.K Γ) fun ds vs g1 G1 H1 hfe gr r1 h1 => ?_⟩
    obtain ⟨xs, g2, hl⟩ := hl
    rw [hl] at hfe; cases hfe
    rcases r1 with _ | ⟨dv, r2⟩
    cases r2
    obtain ⟨l, ws, rfl, h3, h4⟩ := Dv.lst_inv dv
    have h1 : tSt X.K Γ W (loop t kk (pairsD xs)) H0 G0 G1 g1 Ds σ H1 := h1
    refine ⟨l, ws, rfl, SqL.of (h1.1.sub _ _ h3), for_it walk_enum (fun i σ2 H2 => ∃ G g, Gr G1 G ∧ tSt X.K Γ W (loop t kk ((pairsD xs).drop i)) H0 G0 G g Ds σ2 H2) ⟨G1, g1, Gr.refl _, h1⟩ (fun i σ2 H2 _ ⟨G2, g2, gr2, h2⟩ => SqL.of (h2.1.sub _ _ (gr2 _ _ h3))) (fun i x σ2 H2 H' hi hp' y => enum_turn kg h4 hp' y) ?_⟩
    rintro σ2 H2 ⟨G2, g3, gr2, h2⟩
    rw [h4.length, pairsD_end] at h2
    exact h2.next rfl (Gr.refl _) h2.1
  · refine .inr ⟨H0, G0, G, g, h.bind (R1 := RA X.K Γ) fun ds vs g1 G1 H1 hfe gr r1 h1 => ?_⟩
    split at h1
    · rename_i xs
      rcases r1 with _ | ⟨dv, r2⟩
      cases r2
      obtain ⟨l, ws, rfl, h3, h4⟩ := Dv.tup_inv dv
      refine ⟨l, ws, rfl, h1.1.sub.sqT h3, for_it walk_enumT (fun i σ2 H2 => ∃ G g, Gr G1 G ∧ tSt X.K Γ W (loop t kk ((pairsD xs).drop i)) H0 G0 G g Ds σ2 H2) ⟨G1, g1, Gr.refl _, h1⟩ (fun i σ2 H2 _ ⟨G2, g2, gr2, h2⟩ => h2.1.sub.sqT (gr2.sqT h3)) (fun i x σ2 H2 H' hi hp' y => enum_turn kg h4 hp' y) ?_⟩
      rintro σ2 H2 ⟨G2, g3, gr2, h2⟩
      rw [h4.length, pairsD_end] at h2
      exact h2.next rfl (Gr.refl _) h2.1
    · exact absurd ⟨_, _, hfe⟩ hl
    · exact h1.stop
end
end DE
namespace DE
open PyProof.Rows PySem.Spec PySem L2
end DE
namespace DE
open PyProof.Rows PySem.Spec PySem L2
open LamX (CodeO TabB Tabs lamEnv lamCx)
/-! ### a lambda is made -/
section
variable {X : Cx} {σ : L2.St} {H : Hp} {pins : List (Addr × Obj)} {s : Shared}
end
/-! ### the lambda's frame -/
/-- captured names, globals, and names of its own that the maker has not -/
structure LamN (N : List Str) (sc scope : Scope) : Prop where
  kind : scope.kind = .function
  plain : scope.isCoroutine = false ∧ scope.isGenerator = false
  nocell : ∀ y ∈ scope.names, y.2 ≠ .cell
  own : ∀ y ∈ N, scope.names.lookup y ≠ some .local
  caught : ∀ z ∈ scope.names, z.2 = .free → sc.names.lookup z.1 = some .cell ∨ sc.names.lookup z.1 = some .free
theorem LamN.has {X : Cx} {scope : Scope} (L : LamN X.N X.env.scope scope) (ok : X.Ok) : ∀ y ∈ scope.names, y.2 = .free → ∃ c, X.env.cells.lookup y.1 = some c := fun y hy e => (L.caught y hy e).elim (fun k => ok.has _ (.inl k)) fun k => ok.has _ (.inr k)
theorem LamN.kinds {N : List Str} {sc scope : Scope} (L : LamN N sc scope) {y : Str} (h : scope.names.lookup y = some .free) : sc.names.lookup y = some .cell ∨ sc.names.lookup y = some .free := L.caught _ (PySem.mem_of_lookup h) rfl
section
variable {X : Cx} {σ : L2.St} {H HZ : Hp} {s s1 : Shared} {pins : List (Addr × Obj)}
end
end DE
namespace DE
open PyProof.Rows PySem.Spec PySem L2
open LamX (CodeO TabB Tabs lamEnv lamCx)
section
variable {X : Cx} {σ : L2.St} {H HZ : Hp} {s s1 : Shared} {pins : List (Addr × Obj)}
end
end DE
namespace DE
open PyProof.Rows PySem.Spec PySem L2
open LamX (CodeO TabB Tabs lamEnv lamCx)
/-! ### the value of a lambda expression -/
section
variable {X : Cx} {T : List (Addr × Str)} {c P : Addr} {params : Arguments} {body : Expr} {scope : Scope} {lpos : Pos}
end
end DE
namespace DE
open PyProof.Rows PySem.Spec PySem L2
open LamX (CodeO TabB Tabs lamEnv lamCx)
/-! ### functions without arguments over data -/
abbrev Th := DS → Option (Except Exn D × DS)
section
variable {K : PySem.W.Frag} {Γ : Gam} {H0 G0 G H : Hp} {σ : L2.St} {g : Sg}
end
open Classical in
/-- a(), a the function at the slot i -/
noncomputable def fAct (i : Nat) (f c : Addr) (q : Str) (G1 : Hp) (th : Th) : Mo D := fun g => if g.r[i]? = some (.fn f c q G1) then (match th g.s with
    | some (x, s') => some (x, ⟨g.r, s'⟩)
    | none => none) else none
def fActU (th : Th) : Mo D := fun g => match th g.s with
  | some (x, s') => some (x, ⟨g.r, s'⟩)
  | none => none
/-- what a def makes of the function that it gets -/
def GivesTh (fb : Mo D → Ms) (N : Nat) (mT : Th → Th) : Prop := ∀ (f c : Addr) (q : Str) (G1 : Hp) (th : Th) (s : DS) (r : Except Exn D) (s' : DS), mT th s = some (r, s') → ∃ g', g'.s = s' ∧
  (fb (fAct 0 f c q G1 th) ⟨.fn f c q G1 :: List.replicate (N - 1) .no, s⟩ = some ((match r with | .ok d => .ret d | .error x => .exc x), g') ∨ (r = .ok .non ∧ fb (fAct 0 f c q G1 th) ⟨.fn f c q G1 :: List.replicate (N - 1) .no, s⟩ = some (.nx, g')))
section
variable {X : Cx} {Γ : Gam} {W : WX}
end
end DE
namespace DE
open PyProof.Rows PySem.Spec PySem L2
open LamX (CodeO TabB Tabs TabS lamEnv lamCx)
/-! ### the end of a law whose text makes lambdas -/
/-- a table of code objects, still empty -/
abbrev noCode : Obj := { cls := .none, data := .fields #[] }
end DE
namespace DE
open PyProof.Rows PySem.Spec PySem L2
/-! ### a dict of texts that the module holds: X.get(e, d) -/
section
variable {X : Cx} {Γ : Gam} {W : WX} {e f : Expr} {te tf : TE} {x : Str} {p apos cpos : Pos} {kvs : List (Str × Str)}
end
/-! ### list * int -/
def pRepL (d e : D) : Mo (List D) := match d, e with
  | .lst xs, .int k => if 0 ≤ k ∧ k ≤ 1000 ∧ xs.length ≤ 100 then rt (List.replicate k.toNat xs).flatten else stop
  | _, _ => stop
def fRepL (f h : Mo D) : Mo (List D) := bd f fun d => bd h fun e => pRepL d e
section
variable {X : Cx} {Γ : Gam} {W : WX} {a b : Expr} {pos : Pos}
end
/-- what a def makes of the function that it calls, by its body -/
def takeM (fb : Mo D → Ms) (N : Nat) : Th → Th := fun th s => match fb (fActU th) ⟨List.replicate N .no, s⟩ with
  | some (.ret d, g) => some (.ok d, g.s)
  | some (.nx, g) => some (.ok .non, g.s)
  | some (.exc x, g) => some (.error x, g.s)
  | _ => none
end DE
namespace DE
open PyProof.Rows PySem.Spec PySem L2
/-! ### x in a list of data -/
section
variable {X : Cx} {Γ : Gam} {W : WX} {a b e : Expr} {es : List Expr} {pos : Pos} {k : Nat}
/-! ### min, max, sorted of a list of ints -/
def minL : List Int → Int
  | [] => 0
  | [x] => x
  | x :: xs => if x ≤ minL xs then x else minL xs
def maxL : List Int → Int
  | [] => 0
  | [x] => x
  | x :: xs => if maxL xs ≤ x then x else maxL xs
theorem minL_is : ∀ (xs : List Int), xs ≠ [] → minL xs ∈ xs ∧ ∀ y ∈ xs, minL xs ≤ y
  | [], h => absurd rfl h
  | [x], _ => ⟨by simp [minL], by simp [minL]⟩
  | x :: y :: xs, _ => by
    obtain ⟨h1, h2⟩ := minL_is (y :: xs) (by simp)
    unfold minL
    split
    · rename_i c
      refine ⟨List.mem_cons_self, fun z hz => ?_⟩; rcases List.mem_cons.mp hz with rfl | hz
      · exact Int.le_refl _
      · exact Int.le_trans c (h2 z hz)
    · rename_i c
      refine ⟨List.mem_cons_of_mem _ h1, fun z hz => ?_⟩; rcases List.mem_cons.mp hz with rfl | hz
      · omega
      · exact h2 z hz
theorem maxL_is : ∀ (xs : List Int), xs ≠ [] → maxL xs ∈ xs ∧ ∀ y ∈ xs, y ≤ maxL xs
  | [], h => absurd rfl h
  | [x], _ => ⟨by simp [maxL], by simp [maxL]⟩
  | x :: y :: xs, _ => by
    obtain ⟨h1, h2⟩ := maxL_is (y :: xs) (by simp)
    unfold maxL
    split
    · rename_i c
      refine ⟨List.mem_cons_self, fun z hz => ?_⟩; rcases List.mem_cons.mp hz with rfl | hz
      · exact Int.le_refl _
      · exact Int.le_trans (h2 z hz) c
    · rename_i c
      refine ⟨List.mem_cons_of_mem _ h1, fun z hz => ?_⟩; rcases List.mem_cons.mp hz with rfl | hz
      · omega
      · exact h2 z hz
def insI (x : Int) : (List Int → List Int)
  | [] => [x]
  | y :: ys => if x ≤ y then x :: y :: ys else y :: insI x ys
def sortI : List Int → List Int
  | [] => []
  | x :: xs => insI x (sortI xs)
def fMin (f : Mo D) : Mo D := bd f fun d => match d with
  | .lst xs => match intsOf xs with
    | some (y :: ys) => rt (.int (minL (y :: ys)))
    | _ => stop
  | _ => stop
def fMax (f : Mo D) : Mo D := bd f fun d => match d with
  | .lst xs => match intsOf xs with
    | some (y :: ys) => rt (.int (maxL (y :: ys)))
    | _ => stop
  | _ => stop
def fSorted (f : Mo D) : Mo (List D) := bd f fun d => match d with
  | .lst xs => match intsOf xs with
    | some ys => rt ((sortI ys).map .int)
    | none => stop
  | _ => stop
/-! ### an item of a list that a name holds, by a number of the text -/
end
end DE
namespace DE
open PyProof.Rows PySem.Spec PySem L2
/-! ### dict displays with texts as keys -/
section
variable {K : PySem.W.Frag} {Γ : Gam} {G : Hp}
theorem DvK.any (k : Key) : ∀ {vs : List (Key × V)} {ds : List (Key × D)}, DvK K Γ G vs ds → (vs.any fun kv => decide (kv.1 = k)) = (ds.any fun kv => decide (kv.1 = k))
  | _, _, .nil => rfl
  | _, _, .cons h t => by simp only [List.any_cons, DvK.any k t]
theorem DvK.snoc {k : Key} {v : V} {d : D} (hv : Dv K Γ G v d) : ∀ {vs : List (Key × V)} {ds : List (Key × D)}, DvK K Γ G vs ds → DvK K Γ G (vs ++ [(k, v)]) (ds ++ [(k, d)])
  | _, _, .nil => .cons hv .nil
  | _, _, .cons h t => .cons h (DvK.snoc hv t)
theorem DvK.over {k : Key} {v : V} {d : D} (hv : Dv K Γ G v d) : ∀ {vs : List (Key × V)} {ds : List (Key × D)}, DvK K Γ G vs ds → DvK K Γ G (vs.map fun kv => if kv.1 = k then (kv.1, v) else kv) (ds.map fun kv => if kv.1 = k then (kv.1, d) else kv)
  | _, _, .nil => .nil
  | _, _, .cons (k := k1) h t => by
    simp only [List.map_cons]
    by_cases c : k1 = k
    · rw [if_pos c, if_pos c]; exact .cons hv (DvK.over hv t)
    · rw [if_neg c, if_neg c]; exact .cons h (DvK.over hv t)
theorem DvK.len : ∀ {vs : List (Key × V)} {ds : List (Key × D)}, DvK K Γ G vs ds → vs.length = ds.length
  | _, _, .nil => rfl
  | _, _, .cons _ t => congrArg Nat.succ (DvK.len t)
end
section
variable {X : Cx} {Γ : Gam} {W : WX} {e : Expr} {pos : Pos} {keys : List (Option Expr)} {values : List Expr}
/-! ### what a dict holds -/
end
end DE
namespace DE
open PyProof.Rows PySem.Spec PySem L2
/-! ### a comprehension over range(n) -/
def fCompR (vs : List Nat) (fi : Mo (List D)) (t : Mt) (c : Mo Bool) (e : Mo D) : Mo (List D) := bd fi fun ds => match ds with
  | [.int n] => if n ≤ 100000 ∧ -100000 ≤ n then compF vs t c e (intsD n) else stop
  | _ => stop
section
variable {X : Cx} {Γ : Gam} {W : WX} {a b elt tg : Expr} {ifs : List Expr} {scope : Scope} {own : List (Str × Nat)} {pos p2 : Pos}
end
/-! ### a, b = x, [..] and a, b, c = x, y, [..] -/
theorem Fre.set {K : PySem.W.Frag} {Γ : Gam} {H0 G H : Hp} {σ : L2.St} {g : Sg} {u : V} {ys : List D} (h : Fre K Γ H0 G H σ g u ys) (i : Nat) (v : V) (d : D) : Fre K Γ H0 G H (σ.set i (some v)) ⟨g.r.set i (.dat d), g.s⟩ u ys := by
  obtain ⟨p, vs, rfl, q1, q2, q3, q4, q5⟩ := h.at_
  refine ⟨p, vs, rfl, q1, q2, q3, q4, fun l zs hl hs => ?_⟩
  by_cases z : l = i
  · subst z
    have il : l < g.r.length := by have := (List.getElem?_eq_some_iff.mp hl).1; simpa using this
    rw [List.getElem?_set_self il] at hl; cases hl
  · rw [List.getElem?_set_ne (Ne.symm z)] at hl hs
    exact q5 l zs hl hs
section
variable {X : Cx} {Γ : Gam} {W : WX} {a b c : Expr} {pos pt pt2 px py pz : Pos} {kt k2 : Nat}
end
/-! ### constants of the module: tuples of all sorts -/
inductive Cv (K : PySem.W.Frag) : Value → V → D → Prop
  | bl (b : Bool) : Cv K (.bool b) (.bl b) (.bl b)
  | int (i : Int) (t : Tok) : Cv K (.int i t) (.int i) (.int i)
  | str (s : Str) (t : Tok) : Cv K (.str s t) (.str s) (.str s)
  | tup {r : Addr} {od : Option Addr} {it : Array Value} {n : Nat} {sl : Array (Option Value)} {vs : List V} {ds : List D} : K.lookup r = some ⟨.type "tuple", od, .seq it n, sl⟩ → it.size ≤ 1000 → Vals vs it.toList → (∀ Γ G, DvA K Γ G vs ds) → Cv K (.ref r) (.ref r) (.tup ds)
theorem Cv.rel {K : PySem.W.Frag} {u : Value} {v : V} {d : D} (h : Cv K u v d) : RelV v u := by
  cases h with
  | bl b => rfl
  | int i t => exact ⟨t, rfl⟩
  | str s t => exact ⟨t, rfl⟩
  | tup _ _ _ _ => rfl
theorem Cv.dv {K : PySem.W.Frag} {u : Value} {v : V} {d : D} (h : Cv K u v d) (Γ : Gam) (G : Hp) : Dv K Γ G v d := by
  cases h with
  | bl b => exact .bl b
  | int i t => exact .int i
  | str s t => exact .str s
  | tup h1 h2 h3 h4 => exact .tup (.inr ⟨_, _, _, h1, rfl, rfl, Nat.le_trans h2 (by decide), h3⟩) (h4 Γ G)
inductive CvA (K : PySem.W.Frag) : List Value → List D → Prop
  | nil : CvA K [] []
  | cons {u : Value} {v : V} {d : D} {us : List Value} {ds : List D} : Cv K u v d → CvA K us ds → CvA K (u :: us) (d :: ds)
theorem CvA.get {K : PySem.W.Frag} : ∀ {us : List Value} {ds : List D}, CvA K us ds → ∃ vs, Vals vs us ∧ ∀ Γ G, DvA K Γ G vs ds
  | _, _, .nil => ⟨[], .nil, fun _ _ => .nil⟩
  | _, _, .cons h t => by
    obtain ⟨vs, h1, h2⟩ := t.get
    exact ⟨_ :: vs, .cons h.rel h1, fun Γ G => .cons (h.dv Γ G) (h2 Γ G)⟩
end DE
namespace DE
open PyProof.Rows PySem.Spec PySem L2
/-! ### a, b, c, d = x, [..], [..], 0: a tuple is made and taken apart -/
theorem Fre.newO {K : PySem.W.Frag} {Γ : Gam} {H0 G H : Hp} {σ : L2.St} {g : Sg} {u : V} {ys : List D} (h : Fre K Γ H0 G H σ g u ys) {p : Addr} {o : HO} (hp : H p = none) : Fre K Γ H0 G (upd H p o) σ g u ys := by
  obtain ⟨a, vs, rfl, q1, q2, q3, q4, q5⟩ := h.at_
  exact ⟨a, vs, rfl, by rw [upd_ne (ne_of_none q1 hp)]; exact q1, q2, q3, q4, q5⟩
section
variable {Γ : Gam} {W : WX}
end
section
variable {X : Cx} {Γ : Gam} {W : WX} {a b c : Expr} {pos pt pt2 px py pz pw pn : Pos} {kt k2 jn : Nat}
end
end DE
namespace DE
open PyProof.Rows PySem.Spec PySem L2
/-! ### (*x, y) -/
def fStar (f : Mo D) (fs : Mo (List D)) : Mo (List D) := bd f fun d => match aSeq d with
  | some xs => bd fs fun ys => rt (xs ++ ys)
  | none => stop
section
variable {X : Cx} {Γ : Gam} {W : WX} {a b c e : Expr} {es : List Expr} {pos : Pos}
/-! ### min(x, y), max(x, y) -/
def pMin2 : D → D → Mo D := pI fun i j => .int (if j < i then j else i)
def pMax2 : D → D → Mo D := pI fun i j => .int (if j > i then j else i)
/-! ### x.remove(k), x one's own list of whole numbers -/
def fRem (i : Nat) (f : Mo D) : Mo D := fun g => match g.r[i]? with
  | some (.own _) => bd f (fun d g1 => match d, g1.r[i]? with
    | .int k, some (.own xs) => match intsOf xs with
      | some ns => if k ∈ ns then some (.ok .non, ⟨g1.r.set i (.own ((ns.erase k).map .int)), g1.s⟩) else none
      | none => none
    | _, _ => none) g
  | _ => none
end
/-! ### x = [.. for .. in range(n)] -/
section
variable {X : Cx} {Γ : Gam} {W : WX} {a b elt tg : Expr} {ifs : List Expr} {scope : Scope} {own : List (Str × Nat)} {pos p2 : Pos}
end
end DE
namespace DE
open PyProof.Rows PySem.Spec PySem L2
/-! ### lists as tests; x or y of lists -/
def trB : D → Option Bool
  | .bl b => some b
  | .non => some false
  | .lst xs => some (!xs.isEmpty)
  | .tup xs => some (!xs.isEmpty)
  | _ => none
def fTr (f : Mo D) : Mo Bool := bd f fun d => ofO (trB d)
def fOrT (f h : Mo D) : Mo D := bd f fun d => bd (ofO (trB d)) fun b => if b = true then rt d else h
section
variable {X : Cx} {Γ : Gam} {W : WX} {a b c e : Expr} {es rest : List Expr} {pos : Pos}
end
end DE
namespace DE
open PyProof.Rows PySem.Spec PySem L2
/-! ### deep in, of a list or a tuple -/
def pInT (neg : Bool) (d e : D) : Mo D := match pyd d, pyd e with
  | some p, some (.list ps) => if (SeqAt.shaped p && SeqAt.shaped (.list ps)) = true then rt (.bl (if neg then !(ps.any fun z => PyData.eqv z p) else ps.any fun z => PyData.eqv z p)) else stop
  | some p, some (.tuple ps) => if (SeqAt.shaped p && SeqAt.shaped (.tuple ps)) = true then rt (.bl (if neg then !(ps.any fun z => PyData.eqv z p) else ps.any fun z => PyData.eqv z p)) else stop
  | _, _ => stop
section
variable {X : Cx} {Γ : Gam} {W : WX} {k : Nat}
end
end DE
namespace DE
open PyProof.Rows PySem.Spec PySem L2
/-! ### chosen(keys, word): its list is looked at alone -/
def choO (w : Str) (ks : List Int) : Option Int := if w = "eldest" then ks.head? else if w = "latest" then ks.getLast? else if w = "lowest" then some (minL ks) else if w = "highest" then some (maxL ks) else none
def choD : Option Int → D
  | none => .non
  | some k => .int k
/-- chosen(x, y), x one's own list of whole numbers -/
def fCho (i j : Nat) : Mo D := fun g => match g.r[i]?, g.r[j]? with
  | some (.own xs), some (.dat (.str w)) => match intsOf xs with
    | some (k :: ks) => some (.ok (choD (choO w (k :: ks))), g)
    | _ => none
  | _, _ => none
section
variable {X : Cx} {Γ : Gam} {W : WX} {pos : Pos} {k : Nat}
end
end DE
namespace DE
open PyProof.Rows PySem.Spec PySem L2
/-! ### len(script) -/
def fLenS (i : Nat) : Mo D := fun g => match g.r[i]? with
  | some (.dat (.scr ns)) => some (.ok (.int ns.length), g)
  | _ => none
section
variable {X : Cx} {Γ : Gam} {W : WX} {pos : Pos}
end
end DE
namespace DE
open PyProof.Rows PySem.Spec PySem L2
/-! ### a, b, c = x, [..], [..]; a, b, c, d = x, y, z, [..] -/
section
variable {X : Cx} {Γ : Gam} {W : WX} {a b c d : Expr} {pos pt pt2 px py pz pw : Pos} {kt k2 : Nat}
/-! ### list(range(n)), for .. in range(a, b) -/
end
end DE
namespace DE
open PyProof.Rows PySem.Spec PySem L2
/-! ### xs[::-1] -/
section
variable {X : Cx} {Γ : Gam} {W : WX} {a : Expr} {pos : Pos}
end
end DE
namespace DE
open PyProof.Rows PySem.Spec PySem L2
/-! ### functions as values: x = [f, g][i]; x(..) -/
section
variable {P : Program} {w : World} {K : PySem.W.Frag} {mg : Str → Option Value} {base : Heap} {Γ : Gam} {k j n : Nat} {tab : List (Str × Nat × Fd)}
end
section
variable {X : Cx} {Γ : Gam} {W : WX} {e : Expr} {es : List Expr} {pos : Pos} {k : Nat}
end
end DE
namespace DE
open PyProof.Rows PySem.Spec PySem L2
/-! ### sorted(set(xs)), xs whole numbers -/
section
variable {P : Program} {w : World} {A : Around} {s : Shared} {E : Value → Shared → Prop}
end
end DE
namespace DE
open PyProof.Rows PySem.Spec PySem L2
section
variable {X : Cx} {Γ : Gam} {W : WX} {a : Expr} {pos : Pos}
end
end DE
namespace DE
open PyProof.Rows PySem.Spec PySem L2
/-! ### max(xs, default=k), xs whole numbers -/
section
variable {X : Cx} {Γ : Gam} {W : WX} {a : Expr} {pos : Pos}
end
end DE
namespace DE
open PyProof.Rows PySem.Spec PySem L2
open LamX (CodeO TabB Tabs TabS lamEnv lamCx)
/-! ### repr of data with {} in it -/
mutual
def pydE : D → Option PyData
  | .non => some .none
  | .bl b => some (.bool b)
  | .int i => some (.int i)
  | .str s => some (.str s)
  | .lst xs => (pydEA xs).map .list
  | .tup xs => (pydEA xs).map .tuple
  | .dic [] => some (.dict [])
  | .dic (_ :: _) => none
  | .m => none
  | .exc _ _ => none
  | .scr _ => none
  | .fn _ => none
  | .dkn _ => none
  | .fzt _ => none
def pydEA : List D → Option (List PyData)
  | [] => some []
  | d :: ds => match pydE d, pydEA ds with
    | some p, some ps => some (p :: ps)
    | _, _ => none
end
def showE (p : PyData) : Bool := p.showable && (decide (p.depth ≤ 50) && decide (p.shown.length ≤ 16000000))
def aReprE (d : D) : Mo D := match pydE d with
  | some p => if showE p = true then rt (.str p.shown) else stop
  | none => stop
def fReprE (f : Mo D) : Mo D := bd f aReprE
/-- where sys.modules stands there is no list -/
def SysM (h : Heap) : Prop := ∃ mm, h.Ns sysModules mm
section
variable {X : Cx} {Γ : Gam} {pins : List (Addr × Obj)} {σ : L2.St} {G H : Hp} {s : Shared}
theorem SysM.ne (S : SysM X.base) (I : L2.Inv X pins σ H s) {a : Addr} {o : Obj} {vs : Array Value} {n : Nat} (h : s.heap.get? a = some o) (hd : o.data = .seq vs n) : sysModules ≠ a := by
  rintro rfl
  obtain ⟨_, o', es, ep, h1, h2, _⟩ := S
  rw [I.bk _ _ h1] at h
  cases h
  rw [h2] at hd; cases hd
mutual
theorem Dv.readsE (S : SysM X.base) (I : L2.Inv X pins σ H s) (gr : Gr G H) : ∀ {v : V} {d : D} {p : PyData} {u : Value}, Dv X.K Γ G v d → pydE d = some p → RelV v u → ∃ as, Reads s.heap u p as ∧ sysModules ∉ as
  | _, _, _, _, .non, h, r => by simp [pydE] at h; subst h; cases r; exact ⟨_, .none, by simp⟩
  | _, _, _, _, .bl b, h, r => by simp [pydE] at h; subst h; cases r; exact ⟨_, .bool b, by simp⟩
  | _, _, _, _, .int i, h, r => by simp [pydE] at h; subst h; obtain ⟨t, rfl⟩ := r; exact ⟨_, .int i t, by simp⟩
  | _, _, _, _, .str x, h, r => by simp [pydE] at h; subst h; obtain ⟨t, rfl⟩ := r; exact ⟨_, .str x t, by simp⟩
  | _, _, _, _, .lst h1 t, h, r => by
    simp only [pydE, Option.map_eq_some_iff] at h
    obtain ⟨ps, hp, rfl⟩ := h
    cases r
    obtain ⟨its, rv, ⟨o, n, ho, hc, _, hd⟩, _⟩ := I.list (SqL.of (gr _ _ h1))
    obtain ⟨as, q, z⟩ := DvA.readsE S I gr t hp rv
    exact ⟨_, .list ho hc hd q, (fun q => (List.mem_cons.mp q).elim (S.ne I ho hd) z)⟩
  | _, _, _, _, .tup h1 t, h, r => by
    simp only [pydE, Option.map_eq_some_iff] at h
    obtain ⟨ps, hp, rfl⟩ := h
    cases r
    obtain ⟨its, rv, ⟨o, ho, hc, n, hd⟩, _⟩ := I.tuple (gr.sqT h1)
    obtain ⟨as, q, z⟩ := DvA.readsE S I gr t hp rv
    exact ⟨_, .tuple ho hc hd q, z⟩
  | _, _, _, _, .dic h1 .nil, h, r => by
    simp [pydE] at h; subst h; cases r
    have x : ObjOk X.prog X.w H s.heap _ (.dK []) := I.hok _ _ (gr _ _ h1)
    obtain ⟨_, hm, vs, kv, o, es, ep, ho, hx, hd, _, hp, _⟩ := x
    cases kv
    have he : es.toList = [] := by
      generalize es.toList = l at hp
      cases hp; rfl
    refine ⟨_, .dict (kvs := []) ho hx.1 hd (by rw [he]; exact .nil) (by rw [he]; exact .nil), ?_⟩
    simp only [List.append_nil, List.mem_singleton]
    exact fun z => absurd (by rw [z]; simp) (Bool.eq_false_iff.mp hm)
  | _, _, _, _, .dic h1 (.cons _ _), h, r => by simp [pydE] at h
  | _, _, _, _, .m, h, r => by simp [pydE] at h
  | _, _, _, _, .scr _, h, r => by simp [pydE] at h
  | _, _, _, _, .fn _, h, r => by simp [pydE] at h
  | _, _, _, _, .exc _ _ _ _, h, r => by simp [pydE] at h
  | _, _, _, _, .exc0 _ _, h, r => by simp [pydE] at h
  | _, _, _, _, .dkn _ _, h, r => by simp [pydE] at h
  | _, _, _, _, .fzt _ _ _ _, h, r => by simp [pydE] at h
theorem DvA.readsE (S : SysM X.base) (I : L2.Inv X pins σ H s) (gr : Gr G H) : ∀ {v : List V} {d : List D} {p : List PyData} {u : List Value}, DvA X.K Γ G v d → pydEA d = some p → Vals v u → ∃ as, ReadsAll s.heap u p as ∧ sysModules ∉ as
  | _, _, _, _, .nil, h, r => by simp [pydEA] at h; subst h; cases r; exact ⟨_, .nil, by simp⟩
  | _, _, _, _, .cons h1 t, h, r => by
    unfold pydEA at h
    split at h
    · rename_i p ps hp hps
      cases h
      cases r with
      | cons r1 r2 =>
        obtain ⟨as, q1, z1⟩ := Dv.readsE S I gr h1 hp r1
        obtain ⟨bs, q2, z2⟩ := DvA.readsE S I gr t hps r2
        exact ⟨_, .cons q1 q2, fun z => (List.mem_append.mp z).elim z1 z2⟩
    · cases h
end
end
section
variable {X : Cx} {Γ : Gam} {W : WX} {a b c e : Expr} {es : List Expr} {pos : Pos} {k : Nat}
theorem call_repr_dE (S : SysM X.base) (hu : X.A.units + 64 < cLine) (hg : X.A.guards = some []) : CallR X (.builtin "repr") (fun xs H Q => ∃ v d p G, xs = [v] ∧ Gr G H ∧ Dv X.K Γ G v d ∧ pydE d = some p ∧ showE p = true ∧ Q (.str p.shown) H) := by
  intro pins s σ H xs us Q I r h; obtain ⟨v, d, p, G, rfl, gr, hv, hp, hs, q⟩ := h
  cases r with
  | cons r0 rr =>
    cases rr
    unfold showE at hs
    simp only [Bool.and_eq_true, decide_eq_true_eq] at hs
    obtain ⟨h1, h2, h3⟩ := hs
    have sz : p.shown.length ≤ sizeLine := Nat.le_trans h3 (by decide)
    have go : ∀ (a : Addr) (u : Value), RelV v u → u = .ref a → wpAny (model X.prog X.w) X.A (call (.builtin "repr") [u]) (EP X pins σ Q) X.xe s := fun a u ru e => by
      subst e
      obtain ⟨as, rd, hsm⟩ := hv.readsE S I gr hp ru
      exact repr_of_reads' rd h1 (fun _ => hsm) hg (by omega) (fun _ _ z => z) (fun h' u tk k => ⟨.str p.shown, H, I.kept (t' := tk) k, ⟨u, rfl⟩, q⟩) sz
    cases hv with
    | non =>
      cases r0
      simp [pydE] at hp; subst hp
      exact PySem.P.repr_of_none ⟨.str _, H, I.tok _, ⟨_, rfl⟩, q⟩
    | bl b =>
      cases r0
      simp [pydE] at hp; subst hp
      exact PySem.P.repr_of_bool ⟨.str _, H, I.tok _, ⟨_, rfl⟩, by cases b <;> exact q⟩
    | int i =>
      obtain ⟨t, rfl⟩ := r0
      simp [pydE] at hp; subst hp
      exact PySem.P.repr_of_int (by simpa [PyData.showable] using h1) ⟨.str _, H, I.tok _, ⟨_, rfl⟩, q⟩
    | str x =>
      obtain ⟨t, rfl⟩ := r0
      simp [pydE] at hp; subst hp
      exact PySem.P.repr_of_str ⟨.str _, H, I.tok _, ⟨_, rfl⟩, q⟩ sz
    | lst h1 h2 => exact go _ _ r0 r0
    | tup h1 h2 => exact go _ _ r0 r0
    | dic h1 h2 => exact go _ _ r0 r0
    | m => simp [pydE] at hp
    | scr _ => simp [pydE] at hp
    | exc0 _ _ => simp [pydE] at hp
    | fn _ => simp [pydE] at hp
    | dkn _ _ => simp [pydE] at hp
    | fzt _ _ _ _ => simp [pydE] at hp
    | exc _ _ _ _ => simp [pydE] at hp
theorem d_reprE {x : Str} {p : Pos} {f : Mo D} (S : SysM X.base) (C : Ct X W k) (ha : DX X Γ W e f) (hg : Gl X x) (hm : X.mg x = none) (hv : bootBuiltins x = some (.builtin "repr")) (hn : x ≠ "__name__" := by decide) (hdb : (x == ("__debug__" : Str)) = false := by decide)
    (hs : starEach [e] X.env = (false, eval e X.env) :: starEach [] X.env := by rfl) (hpl : (backTo pos (starEach [] X.env)).any (·.1) = false := by rfl) : DX X Γ W (.Call (.Name x p) [e] [] pos) (fReprE f) :=
  (pe_callB (call_repr_dE (Γ := Γ) S C.room.units C.gua) hg hm hv (pa_cons ha pa_nil hs) hn hdb hs hpl).imp fun σ H Q h => h.bind fun H0 G0 d v g1 G1 H1 r1 h1 => by
    unfold aReprE at h1
    split at h1
    · rename_i p hp
      split at h1
      · rename_i hs
        exact ⟨v, d, p, _, rfl, h1.1.sub, r1, hp, hs, h1.here (.str _)⟩
      · exact h1.stop
    · exact h1.stop
end
/-! ### the end of a law that shows {} -/
theorem end_coreS {P : Program} {w : World} {K : PySem.W.Frag} {mg mb : Str → Option Value} {k n im : Nat} {fa a : Addr} {fd : FuncData} {fb : Ms} {s₁ : Shared} {items : Array Value} {ns : List Int} {H : Hp} {cs : List (Addr × Addr)} {T : List (Addr × Str)}
    (KX : K.In s₁.heap) (hns : s₁.heap.Ns mainGlobals mg) (hbn : s₁.heap.Ns builtinsNs mb) (hbb : ∀ y : Str, y ≠ "__name__" → mb y = bootBuiltins y) (hlim : s₁.heap.NoLimit) (hgen : s₁.gens = #[]) (hlen : ns.length ≤ 100000) (hr : Room k callerA)
    (bm : ∃ (bm : Addr) (ob : Obj), mg "__builtins__" = some (.ref bm) ∧ bm ≠ builtinsNs ∧ s₁.heap.get? bm = some ob ∧ ob.cls = .type "module" ∧ ob.dict = some builtinsNs ∧ ob.data = .plain)
    (tab : ∀ p ∈ cs, PySem.W.CodeHd s₁.heap p.1 p.2 ∧ s₁.heap.get? p.2 = some noCode) (tabK : ∀ p ∈ cs, K.lookup p.2 = none) (sub : ∀ p ∈ T, ∃ q ∈ cs, q.2 = p.1)
    (hobj : s₁.heap.get? a = some { cls := .type "list", data := .seq items }) (sm : ∃ mm, s₁.heap.Ns sysModules mm) (F : ∀ base : Heap, K.In base → base.Ns mainGlobals mg → (∀ p ∈ cs, TabB base mg p.1 p.2) → (∃ mm, base.Ns sysModules mm) → FnG P w K mg base k fa fd ["script"] (spLaw K T n im fb))
    (bnd : ∀ (s : Shared) (u : Value), BindsTo s fd ⟨[u], []⟩ [("script", u)]) (hfb : goesL fb n im ns)
    (only : ∀ b u, H b = some u → (b = a ∧ ∃ o xs, u = .frz o (.lst xs)) ∨ ((∃ q ∈ cs, q.2 = b) ∧ u = .tbl #[])) (isT : ∀ p ∈ cs, H p.2 = some (.tbl #[])) (hS : SqL K H a (ns.map V.int)) (hok : HOk P w H s₁.heap) (notK : ∀ u, H a = some u → K.lookup a = none) :
    codeAny (model P w) callerA (.call (.ref fa) ⟨[Value.ref a], []⟩) (fun r s' => r = .ok (.ret (.bool true)) ∧ OldK s₁.heap s'.heap ∧ s'.os = s₁.os ∧ AllBare s'.gens) s₁ := by
  have stays : ∀ {b : Addr} {o : Obj}, s₁.heap.get? b = some o → H b = none → (hidT s₁.heap H).get? b = some o := fun z e => hidT_get z e
  have free : ∀ {b : Addr} {o : Obj}, s₁.heap.get? b = some o → o.data ≠ .fields #[] → (∀ xs m, o.data ≠ .seq xs m) → H b = none := fun {b o} z d1 d2 => by
    cases q : H b with
    | none => rfl
    | some u =>
      rcases only b u q with ⟨rfl, _⟩ | ⟨⟨p, hp, rfl⟩, _⟩
      · rw [hobj] at z; cases z; exact absurd rfl (d2 _ _)
      · rw [(tab p hp).2] at z; cases z; exact absurd rfl d1
  have dictFree : ∀ {b : Addr} {o : Obj} {es : Array DictEntry} {ep : Nat}, s₁.heap.get? b = some o → o.data = .dict es ep → H b = none := fun {b o es ep} z e =>
    free z (fun w => by rw [e] at w; cases w) fun xs m w => by rw [e] at w; cases w
  have nsStays : ∀ {b : Addr} {m : Str → Option Value}, s₁.heap.Ns b m → (hidT s₁.heap H).Ns b m := fun ⟨o, es, ep, z, e, more⟩ => ⟨o, es, ep, stays z (dictFree z e), e, more⟩
  have KB : K.In (hidT s₁.heap H) := fun b o z => stays (KX b o z) (by
    cases q : H b with
    | none => rfl
    | some u =>
      rcases only b u q with ⟨rfl, _⟩ | ⟨⟨p, hp, rfl⟩, _⟩
      · rw [notK u q] at z; cases z
      · rw [tabK p hp] at z; cases z)
  have ground : Mod K mg (hidT s₁.heap H) := ⟨KB, nsStays hns, ⟨mb, nsStays hbn, hbb⟩, hlim.elim fun mc z => ⟨mc, nsStays z.1, z.2⟩⟩
  have env : Env0 P w K mg (hidT s₁.heap H) callerA [] s₁ H := ⟨rfl, ground, fun b o z => of_hidT z, Nat.le_of_eq (hidT_size _ _), trivial, fun b z => (nomatch z), hok, .of_eq hgen⟩
  have noG : ∀ {b : Addr} {o : Obj}, s₁.heap.get? b = some o → o.data = .plain → b ≠ mainGlobals := fun {b o} z e w => by
    obtain ⟨o', es, ep, z', e', _⟩ := hns
    rw [← w, z] at z'; cases z'
    rw [e] at e'; cases e'
  have tables : ∀ p ∈ cs, TabB (hidT s₁.heap H) mg p.1 p.2 := fun p hp => by
    obtain ⟨⟨o, us, file, tf, fl, tg, inF, tx, tt, z1, z2, z3, z4, zs⟩, z0⟩ := tab p hp
    refine ⟨⟨o, us, file, tf, fl, tg, inF, tx, tt, stays z1 (free z1 (fun w => ?_) fun xs m w => ?_), z2, z3, z4, zs⟩, ?_, fun w => ?_⟩
    · rw [z3] at w; cases w; simp at z4
    · rw [z3] at w; cases w
    · obtain ⟨b, ob, y1, y2, y3, y4, y5, y6⟩ := bm
      refine ⟨b, ob, y1, y2, noG y3 y6, fun w => ?_, stays y3 (free y3 (fun w => ?_) fun xs m w => ?_), y4, y5, y6⟩
      · rw [w, z0] at y3; cases y3; cases y6
      · rw [y6] at w; cases w
      · rw [y6] at w; cases w
    · obtain ⟨o', es, ep, y, e', _⟩ := hns
      rw [w, z0] at y; cases y; cases e'
  have tabsT : Tabs T H := fun p hp => by
    obtain ⟨q, hq, e⟩ := sub p hp
    rw [← e]
    exact TabS.nil (isT q hq)
  refine codeAny_mono ((F _ KB (nsStays hns) tables (sm.imp fun _ z => nsStays z)).run callerA [] s₁ H ⟨[.ref a], []⟩ [.ref a] [.ref a] (fun v _ => v = .bl true) (fun _ _ _ => False) hr rfl env (bnd s₁ (.ref a)) (.cons rfl .nil) ⟨a, ns, rfl, hS, hlen, tabsT, hfb, fun _ => rfl⟩) fun r s' z => ?_
  match r, z with
  | .error e, z =>
    obtain ⟨_, _, _, _, _, _, _, _, _, _, _, _, no⟩ := z
    exact no.elim
  | .ok (.ret u), ⟨v, H', hos, hbare, hun, hok', hrel, hv⟩ =>
    have hv : v = .bl true := hv
    subst hv
    obtain rfl : u = Value.bool true := hrel
    have grows : ∀ p ∈ cs, ∃ vs : Array Value, s'.heap.get? p.2 = some { cls := .none, data := .fields vs } := fun p hp => by
      obtain ⟨more, z⟩ := hun.tbls p.2 #[] (isT p hp)
      exact ⟨_, hok' p.2 _ z⟩
    have key : ∀ b o, s₁.heap.get? b = some o → (∃ p ∈ cs, p.2 = b) ∨ s'.heap.get? b = some o := fun b o z => by
      cases q : H b with
      | none => exact .inr (hun.keep b o z q (fun y => nomatch y) (fun y => nomatch y))
      | some u =>
        rcases only b u q with ⟨_, ob, xs, rfl⟩ | ⟨h, _⟩
        · have before := (hok b _ q).1
          have behind := (hok' b _ (hun.frzs b ob _ q)).1
          rw [z] at before; cases before
          exact .inr behind
        · exact .inl h
    refine ⟨rfl, ⟨fun b o z => ?_, fun b o z => ?_⟩, hos, hbare⟩
    · rcases key b o z with ⟨p, hp, rfl⟩ | k
      · obtain ⟨more, hm⟩ := grows p hp
        rw [(tab p hp).2] at z
        cases z
        refine .inr (.inl ⟨((tab p hp).1.tab (tab p hp).2).isCodeTable, rfl, #[], more, rfl, ?_⟩)
        rw [Array.empty_append]; exact hm
      · exact .inl k
    · rcases key b o z with ⟨p, hp, rfl⟩ | k
      · obtain ⟨more, hm⟩ := grows p hp
        exact ⟨_, hm⟩
      · exact ⟨o, k⟩
  | .ok .next, z => exact z.elim
  | .ok .brk, z => exact z.elim
  | .ok .cont, z => exact z.elim
theorem end_callS {P : Program} {w : World} {K : PySem.W.Frag} {mg mb : Str → Option Value} {k n im : Nat} {fa a : Addr} {fd : FuncData} {fb : Ms} {s₁ : Shared} {vs : List Value} {ns : List Int} {cs : List (Addr × Addr)} {T : List (Addr × Str)}
    (KX : K.In s₁.heap) (hns : s₁.heap.Ns mainGlobals mg) (hbn : s₁.heap.Ns builtinsNs mb) (hbb : ∀ y : Str, y ≠ "__name__" → mb y = bootBuiltins y) (hlim : s₁.heap.NoLimit) (hgen : s₁.gens = #[]) (hlen : ns.length ≤ 100000) (hr : Room k callerA)
    (bm : ∃ (bm : Addr) (ob : Obj), mg "__builtins__" = some (.ref bm) ∧ bm ≠ builtinsNs ∧ s₁.heap.get? bm = some ob ∧ ob.cls = .type "module" ∧ ob.dict = some builtinsNs ∧ ob.data = .plain)
    (tab : ∀ p ∈ cs, PySem.W.CodeHd s₁.heap p.1 p.2 ∧ s₁.heap.get? p.2 = some noCode) (tabK : ∀ p ∈ cs, K.lookup p.2 = none) (sub : ∀ p ∈ T, ∃ q ∈ cs, q.2 = p.1)
    (hobj : s₁.heap.get? a = some { cls := .type "list", data := .seq vs.toArray }) (hi : IntsAre vs ns) (sm : ∃ mm, s₁.heap.Ns sysModules mm) (F : ∀ base : Heap, K.In base → base.Ns mainGlobals mg → (∀ p ∈ cs, TabB base mg p.1 p.2) → (∃ mm, base.Ns sysModules mm) → FnG P w K mg base k fa fd ["script"] (spLaw K T n im fb))
    (bnd : ∀ (s : Shared) (u : Value), BindsTo s fd ⟨[u], []⟩ [("script", u)]) (hfb : goesL fb n im ns) :
    codeAny (model P w) callerA (.call (.ref fa) ⟨[Value.ref a], []⟩) (fun r s' => r = .ok (.ret (.bool true)) ∧ OldK s₁.heap s'.heap ∧ s'.os = s₁.os ∧ AllBare s'.gens) s₁ := by
  classical
  have rv := vals_ints hi
  have sz : ns.length ≤ sizeLine := sz5 hlen
  have aT : ¬ ∃ q ∈ cs, q.2 = a := fun ⟨q, hq, e⟩ => by
    have z := (tab q hq).2
    rw [e, hobj] at z
    have z' := congrArg Obj.data (Option.some.inj z)
    cases z'
  cases hk : K.lookup a with
  | some o =>
    have z := KX a o hk
    rw [hobj] at z
    cases z
    have at_ : ∀ {b : Addr} {u : HO}, (if ∃ q ∈ cs, q.2 = b then some (HO.tbl #[]) else none) = some u → (∃ q ∈ cs, q.2 = b) ∧ u = .tbl #[] := fun {b u} z => by
      by_cases c : ∃ q ∈ cs, q.2 = b
      · rw [if_pos c] at z; exact ⟨c, (Option.some.inj z).symm⟩
      · rw [if_neg c] at z; cases z
    have hS : SqL K (fun b => if ∃ q ∈ cs, q.2 = b then some (HO.tbl #[]) else none) a (ns.map V.int) := .inr ⟨_, vs.toArray, _, hk, rfl, rfl, rfl, by rw [List.size_toArray, hi.length]; exact sz, by simpa using rv⟩
    refine end_coreS KX hns hbn hbb hlim hgen hlen hr bm tab tabK sub hobj sm F bnd hfb (fun b u z => .inr (at_ z)) (fun p hp => if_pos ⟨p, hp, rfl⟩) hS (fun b u z => ?_) (fun u z => absurd (at_ z).1 aT)
    obtain ⟨⟨q, hq, rfl⟩, rfl⟩ := at_ z
    exact (tab q hq).2
  | none =>
    have at_ : ∀ {b : Addr} {u : HO}, (if b = a then some (HO.frz { cls := .type "list", data := .seq vs.toArray } (.lst (ns.map V.int))) else if ∃ q ∈ cs, q.2 = b then some (HO.tbl #[]) else none) = some u →
        (b = a ∧ u = .frz { cls := .type "list", data := .seq vs.toArray } (.lst (ns.map V.int))) ∨ ((∃ q ∈ cs, q.2 = b) ∧ u = .tbl #[]) := fun {b u} z => by
      by_cases c : b = a
      · rw [if_pos c] at z; exact .inl ⟨c, (Option.some.inj z).symm⟩
      · rw [if_neg c] at z
        by_cases d : ∃ q ∈ cs, q.2 = b
        · rw [if_pos d] at z; exact .inr ⟨d, (Option.some.inj z).symm⟩
        · rw [if_neg d] at z; cases z
    refine end_coreS (H := fun b => if b = a then some (HO.frz { cls := .type "list", data := .seq vs.toArray } (.lst (ns.map V.int))) else if ∃ q ∈ cs, q.2 = b then some (HO.tbl #[]) else none) KX hns hbn hbb hlim hgen hlen hr bm tab tabK sub hobj sm F bnd hfb
      (fun b u z => (at_ z).imp (fun q => ⟨q.1, _, _, q.2⟩) id) (fun p hp => ?_) (.inl (.inr ⟨_, if_pos rfl⟩)) (fun b u z => ?_) (fun _ _ => hk)
    · have n : p.2 ≠ a := fun e => aT ⟨p, hp, e⟩
      show (if p.2 = a then _ else _) = _
      rw [if_neg n, if_pos ⟨p, hp, rfl⟩]
    · rcases at_ z with ⟨rfl, rfl⟩ | ⟨⟨q, hq, rfl⟩, rfl⟩
      · exact ⟨hobj, by rw [List.length_map]; exact sz, vs, _, rv, hobj⟩
      · exact (tab q hq).2
/-- what k_head leaves, from the law's program over data; cs: the makers' code objects and tables -/
theorem walk_deS {l : PySem.W.OpenLaw} {k m im : Nat} {q : Program} {loose : List Str} {XP : (Str → Option Value) → Heap → Prop} {YP : World → Heap → Prop} {d : DefRec} {K : Params → PySem.W.Frag} {fb : Ms} (mk : List (Str × DefRec × Addr × Addr × Str))
    (hn : l.most = some 63) (hdf : d.params.defaults = []) (hr : Room k callerA) (hY : ∀ (w : World) (h : Heap), YP w h → (K w.params).In h)
    (hmk : ∀ p ∈ mk, (PyProof.Rows.recsOf q).find? (fun e => e.name == p.1) = some p.2.1 ∧ ∀ w : World, PySem.W.tabIn (K w.params) p.1 = some (p.2.2.1, p.2.2.2.1) ∧ (K w.params).lookup p.2.2.2.1 = none)
    (F : ∀ (w : World) (mg : Str → Option Value) (fa : Addr) (h : Heap), (K w.params).In h → h.Ns mainGlobals mg → mg d.name = some (Value.ref fa) →
      ∃ fd : FuncData, (∀ (s : Shared) (u : Value), BindsTo s fd ⟨[u], []⟩ [("script", u)]) ∧ ∀ base : Heap, (K w.params).In base → base.Ns mainGlobals mg → (∀ p ∈ mk, TabB base mg p.2.2.1 p.2.2.2.1) → (∃ mm, base.Ns sysModules mm) →
        FnG l.prog w (K w.params) mg base k fa fd ["script"] (spLaw (K w.params) (mk.map fun p => (p.2.2.2.1, p.2.2.2.2)) m im fb))
    (hin : PyProof.Rows.importsNone q = true) (hfb : ∀ ns : List Int, ns.length ≤ 63 → goesL fb m im ns) :
    PySem.W.WalkO q loose XP YP l.row.toRowW d [] (fun g us => PySem.call g us) := by
  refine Att.attach_call hn hdf fun w s₀ s₁ mg mb fa o pm cd doc a vs ns G Y ho hdt hcd hmg hobj hints hlen hg => ?_
  obtain ⟨fd, hb, hF⟩ := F w mg fa _ (hY w _ Y) G.T.g hmg
  refine end_callS (cs := mk.map fun p => (p.2.2.1, p.2.2.2.1)) (hY w _ Y) G.T.g G.T.b G.T.builtins G.T.nolimit hg (by omega) hr G.T.bmain (fun p hp => ?_) (fun p hp => ?_) (fun p hp => ?_) hobj hints ((G.T.seer hin).mods.imp fun _ z => z.1) (fun base k1 k2 k3 k4 => hF base k1 k2 (fun p hp => k3 _ (List.mem_map.mpr ⟨p, hp, rfl⟩)) k4) hb (hfb ns hlen)
  · obtain ⟨r, hr, rfl⟩ := List.mem_map.mp hp
    exact PySem.W.tab_of G.T (hY w _ Y) (hmk r hr).1 ((hmk r hr).2 w).1
  · obtain ⟨r, hr, rfl⟩ := List.mem_map.mp hp
    exact ((hmk r hr).2 w).2
  · obtain ⟨r, hr, rfl⟩ := List.mem_map.mp hp
    exact ⟨_, List.mem_map.mpr ⟨r, hr, rfl⟩, rfl⟩
end DE
namespace DE
open PyProof.Rows PySem.Spec PySem L2
/-! ### calls with keywords: they fill the last parameters -/
def KwB (fd : FuncData) (ps : List Str) (n : Nat) (ks : List Str) : Prop := ∀ (s : Shared) (us ws : List Value), us.length = n → ws.length = ks.length → BindsTo s fd ⟨us, ks.zip ws⟩ (ps.zip (us ++ ws))
def KfK (P : Program) (w : World) (K : PySem.W.Frag) (mg : Str → Option Value) (base : Heap) (k : Nat) (x : Str) (n : Nat) (ks : List Str) (sp : Sp) : Prop :=
  ∃ f fd ps, FnG P w K mg base k f fd ps sp ∧ mg x = some (.ref f) ∧ PySem.W.keepIn K (.ref f) = true ∧ KwB fd ps n ks
theorem KfK.mono {P : Program} {w : World} {K : PySem.W.Frag} {mg : Str → Option Value} {base : Heap} {j k n : Nat} {ks : List Str} {x : Str} {sp : Sp} (h : KfK P w K mg base j x n ks sp) (hk : j ≤ k) : KfK P w K mg base k x n ks sp :=
  let ⟨f, fd, ps, a, b⟩ := h
  ⟨f, fd, ps, a.mono hk, b⟩
section
variable {X : Cx} {Γ : Gam} {W : WX} {e : Expr} {es : List Expr} {kws : List Keyword} {pos kpos : Pos} {k : Nat} {nm : Option Str}
/-! ### [f, g][i](e, .., k = v, ..) -/
/-! ### what is not told -/
/-! ### x is not True, x anything -/
end
end DE
namespace DE
open PyProof.Rows PySem.Spec PySem L2
/-! ### sorted(xs), xs tuples that are told one from another as Python does -/
section
variable {X : Cx} {Γ : Gam} {pins : List (Addr × Obj)} {σ : L2.St} {G H : Hp} {s : Shared}
end
section
variable {X : Cx} {Γ : Gam} {W : WX} {e : Expr} {es : List Expr} {kws : List Keyword} {pos kpos p : Pos} {k : Nat}
/-! ### defaults of the last parameters -/
def Dfl (K : PySem.W.Frag) (fd : FuncData) (ps : List Str) (ds : List D) : Prop := ∃ (vs : List V) (us : List Value), Vals vs us ∧ (∀ Γ G, DvA K Γ G vs ds) ∧ Binds K fd ps us
/-! ### f(b = v, a = u), keywords alone, in the other order -/
def KwS (fd : FuncData) (ps ks : List Str) : Prop := ∀ (s : Shared) (u v : Value), BindsTo s fd ⟨[], ks.zip [u, v]⟩ (ps.zip [v, u])
def KfS (P : Program) (w : World) (K : PySem.W.Frag) (mg : Str → Option Value) (base : Heap) (k : Nat) (x : Str) (ks : List Str) (sp : Sp) : Prop :=
  ∃ f fd ps, FnG P w K mg base k f fd ps sp ∧ mg x = some (.ref f) ∧ PySem.W.keepIn K (.ref f) = true ∧ KwS fd ps ks
theorem KfS.mono {P : Program} {w : World} {K : PySem.W.Frag} {mg : Str → Option Value} {base : Heap} {j k : Nat} {ks : List Str} {x : Str} {sp : Sp} (h : KfS P w K mg base j x ks sp) (hk : j ≤ k) : KfS P w K mg base k x ks sp :=
  let ⟨f, fd, ps, a, b⟩ := h
  ⟨f, fd, ps, a.mono hk, b⟩
def aSwap (m : Nat) (gm : Fd) (ds : List D) : Mo D := match ds with
  | [a, b] => if m = 2 then lift gm [b, a] else stop
  | _ => stop
def fCallSw (m : Nat) (gm : Fd) (fk : Mo (List D)) : Mo D := bd fk (aSwap m gm)
end
end DE
namespace DE
open PyProof.Rows PySem.Spec PySem L2
/-! ### defs that return a list of the caller's own -/
section
variable (K : PySem.W.Frag) (Γ : Gam) (W : WX)
end
def fSeqF (f k : Ms) : Ms := fun g => match f g with
  | some (.nx, g1) => k g1
  | some (.exc x, g1) => some (.exc x, g1)
  | _ => none
def fRetL (f : Mo (List D)) : Ms := sb f fun ds => sOut (.ret (.lst ds))
section
variable {X : Cx} {Γ : Gam} {W : WX} {e : Expr} {es : List Expr} {kws : List Keyword} {pos kpos p : Pos} {k : Nat} {st : Stmt} {rest : List Stmt}
/-- what the call gives, from what stands at the call -/
def liftL (gm : Fd) (ds : List D) : Mo (List D) := fun g => match gm ds g.s with
  | some (.ok (.lst xs), s') => some (.ok xs, ⟨g.r, s'⟩)
  | some (.error x, s') => some (.error x, ⟨g.r, s'⟩)
  | _ => none
def fCallL (n : Nat) (gm : Fd) (fa : Mo (List D)) : Mo (List D) := bd fa fun ds => if ds.length = n then liftL gm ds else stop
def aCallKwL (n q m : Nat) (gm : Fd) (ds es : List D) : Mo (List D) := if ds.length = n ∧ es.length = q ∧ ds.length + es.length = m then liftL gm (ds ++ es) else stop
def fCallKwL (n q m : Nat) (gm : Fd) (fa fk : Mo (List D)) : Mo (List D) := bd fa fun ds => bd fk fun es => aCallKwL n q m gm ds es
/-- the last parameters left to their defaults -/
def fCallDL (n : Nat) (dfl : List D) (m : Nat) (gm : Fd) (fa : Mo (List D)) : Mo (List D) := bd fa fun ds => if ds.length = n ∧ ds.length + dfl.length = m then liftL gm (ds ++ dfl) else stop
end
/-! ### THE RULE for such a def -/
section
variable {P : Program} {w : World} {K : PySem.W.Frag} {mg : Str → Option Value} {base : Heap} {x qual : Str} {st : Stmt} {f : Addr} {fd : FuncData} {N ps ks : List Str} {k n : Nat} {Γ : Gam} {fb : Ms} {y : Str}
/-- the same def, its last parameters left to their defaults -/
theorem KfK.dfl {sp : Sp} {dfl : List D} (h : KfK P w K mg base k y n ks sp) (hm : mg y = some (.ref f)) (hd : ∀ (g : Addr) (fd : FuncData) (ps : List Str), True) : True := trivial
end
end DE
namespace DE
open PyProof.Rows PySem.Spec PySem L2
/-! ### one def, called in two ways -/
/-- its last parameters by keyword, or left to their defaults -/
def KfB (P : Program) (w : World) (K : PySem.W.Frag) (mg : Str → Option Value) (base : Heap) (k : Nat) (x : Str) (n : Nat) (ks : List Str) (dfl : List D) (sp : Sp) : Prop :=
  ∃ f fd ps, FnG P w K mg base k f fd ps sp ∧ mg x = some (.ref f) ∧ PySem.W.keepIn K (.ref f) = true ∧ KwB fd ps n ks ∧ Dfl K fd ps dfl ∧ n + dfl.length = ps.length
/-- by position, or by keywords in the other order -/
def KfP (P : Program) (w : World) (K : PySem.W.Frag) (mg : Str → Option Value) (base : Heap) (k : Nat) (x : Str) (ks : List Str) (sp : Sp) : Prop :=
  ∃ f fd ps, FnG P w K mg base k f fd ps sp ∧ mg x = some (.ref f) ∧ PySem.W.keepIn K (.ref f) = true ∧ Binds K fd ps [] ∧ KwS fd ps ks
section
variable {P : Program} {w : World} {K : PySem.W.Frag} {mg : Str → Option Value} {base : Heap} {x y qual nm : Str} {st : Stmt} {f : Addr} {fd : FuncData} {N ps ks : List Str} {k n : Nat} {Γ : Gam} {fb : Ms} {dfl : List D} {sp : Sp}
theorem KfP.by (h : KfP P w K mg base k x ks sp) : Kf P w K mg base k x sp := let ⟨f, fd, ps, a, b, c, d, _⟩ := h; ⟨f, fd, ps, a, b, c, d⟩
theorem KfP.sw (h : KfP P w K mg base k x ks sp) : KfS P w K mg base k x ks sp := let ⟨f, fd, ps, a, b, c, _, d⟩ := h; ⟨f, fd, ps, a, b, c, d⟩
end
/-! ### repr(xs), xs a list of one's own -/
def fPeekO (i : Nat) : Mo (List D) := fun g => match g.r[i]? with
  | some (.own xs) => some (.ok xs, g)
  | _ => none
def fReprO (i : Nat) : Mo D := bd (fPeekO i) fun ds => aReprE (.lst ds)
section
variable {X : Cx} {Γ : Gam} {W : WX} {pos p2 p : Pos} {k : Nat}
end
end DE
namespace DE
open PyProof.Rows PySem.Spec PySem L2 RZ
/-! ### all(xs), xs a list of truths -/
def blsOf : List D → Option (List Bool)
  | [] => some []
  | .bl b :: ds => match blsOf ds with
    | some bs => some (b :: bs)
    | none => none
  | _ :: _ => none
def fAll (f : Mo D) : Mo D := bd f fun d => match d with
  | .lst xs => match blsOf xs with
    | some bs => rt (.bl (bs.all id))
    | none => stop
  | _ => stop
/-! ### the pairs of a zip -/
def zipD (xs ys : List D) : List D := List.zipWith (fun a b => D.tup [a, b]) xs ys
theorem pairsD_at {xs : List D} {i : Nat} {d : D} (h : xs[i]? = some d) : (pairsD xs)[i]? = some (.tup [.int (i : Int), d]) := by
  obtain ⟨il, e⟩ := List.getElem?_eq_some_iff.mp h
  unfold pairsD
  simp [il, List.getD_eq_getElem?_getD, e]
theorem pairsD_len (xs : List D) : (pairsD xs).length = xs.length := by unfold pairsD; simp
def enP : List D → Option (List D)
  | [.tup xs] => some (pairsD xs)
  | [.lst xs] => some (pairsD xs)
  | _ => none
def zpP : List D → Option (List D)
  | [.tup xs, .tup ys] => some (zipD xs ys)
  | [.lst xs, .lst ys] => some (zipD xs ys)
  | _ => none
def fCompP (vs : List Nat) (mk : List D → Option (List D)) (fi : Mo (List D)) (t : Mt) (c : Mo Bool) (e : Mo D) : Mo (List D) := bd fi fun ds => match mk ds with
  | some ps => compF vs t c e ps
  | none => stop
section
variable {X : Cx} {Γ : Gam} {W : WX} {a : Expr} {pos : Pos}
end
/-! ### comprehensions over new pairs -/
theorem comp_turn2 {K : PySem.W.Frag} {Γ : Gam} {H0 G0 G1 Gb : Hp} {σ : L2.St} {vs : List Nat} {t : Mt} {c : Mo Bool} {e : Mo D} {out : List D} {ge : Sg} {Dl : Addr} {d : D} {ds : List D} {m : Nat} {H : Hp} {v : V} {gt : TG} {js : List Nat}
    (gb : Gr Gb G1) (hm : m ≤ 100000) (hj : ∀ j ∈ js, j ∈ vs) (C : CI K Γ H0 G0 G1 (L2.wipe σ vs) vs t c e out ge Dl (d :: ds) m H) (dv : Dv K Γ G1 v d)
    (kg : ∀ (v : V) (σ : L2.St) (H : Hp) (Q : L2.St → Hp → Prop) (H0 G0 G : Hp) (g g' : Sg) (d : D), En K Γ H0 G0 G H σ g → Dv K Γ G v d → t d g = some g' → (∀ σ', En K Γ H0 G0 G H σ' g' → (σ'.length = σ.length ∧ ∀ i, i ∉ js → σ'[i]? = σ[i]?) → Q σ' H) → gt v σ H Q) :
    gt v (L2.wipe σ vs) H fun σ2 H2 => L2.wipe σ2 vs = L2.wipe σ vs ∧ tG K Γ Wn RB c σ2 H2 fun b H3 =>
      if b = true then tG K Γ Wn (RD K Γ) e σ2 H3 fun y H4 => ∃ acc, H4 Dl = some (.lst acc) ∧ acc.length < sizeLine ∧ CI K Γ H0 G0 Gb (L2.wipe σ vs) vs t c e out ge Dl ds m (upd H4 Dl (.lst (acc ++ [y])))
      else CI K Γ H0 G0 Gb (L2.wipe σ vs) vs t c e out ge Dl ds m H3 := by
  obtain ⟨G, g, acc, as, r, gr, E, hD, da, gD, h0, mD, ow, hc, ho, hl⟩ := C.ex
  unfold compL at hc
  cases ht : t d g with
  | none => simp only [ht] at hc; cases hc
  | some g1 =>
    simp only [ht] at hc
    obtain ⟨H1, up, dn, F0, back⟩ := E.rebase
    have hD1 : H1 Dl = some (.lst acc) := dn Dl _ hD mD ow
    refine kg v _ H _ H1 G G g g1 d F0 (dv.mono gr) ht fun σ2 F f2 => ?_
    have ew : L2.wipe σ2 vs = L2.wipe σ vs := by
      refine wipe_congr (f2.1.trans (wipe_length _ _)) fun i hi => ?_
      rw [f2.2 i fun z => hi (hj i z), wipe_at hi]
    refine ⟨ew, ?_⟩
    have own_ne : ∀ {G0' G' H' : Hp} {σ' : L2.St} {g' : Sg} {H1 : Hp}, En K Γ H1 G0' G' H' σ' g' → H1 Dl = some (.lst acc) → ∀ (i : Nat) xs, g'.r[i]? = some (Sl.own xs) → σ'[i]? ≠ some (some (V.ref Dl)) := fun {G0' G' H' σ' g' H1} F hF i xs hi hs => by
      obtain ⟨l, _, k1, _, _, k4, _⟩ := F.own i xs hi
      rw [hs] at k1; cases k1; rw [hF] at k4; cases k4
    cases hcf : c g1 with
    | none => simp only [hcf] at hc; cases hc
    | some p =>
      obtain ⟨rc, g2⟩ := p
      cases rc with
      | error x => simp only [hcf] at hc; cases hc
      | ok b =>
        refine ⟨H1, G, G, g1, F, .ok b, g2, hcf, fun b' G2 H2 gr2 F2 rb => ?_⟩
        obtain rfl : b' = b := rb
        have hD2 : H2 Dl = some (.lst acc) := F2.base Dl _ (F.ok_lst hD) hD1
        have gD2 : G2 Dl = none := F2.gfr Dl _ hD1 gD
        cases b' with
        | false =>
          simp only [hcf] at hc
          rw [if_neg Bool.false_ne_true]; have W2 := (back _ _ _ _ F2).wipe vs
          rw [ew] at W2
          refine ⟨G2, _, acc, as, r, gb.trans (gr.trans gr2), W2, hD2, da.mono gr2, gD2, h0, mD, fun i xs hi => ?_, hc, ho, by simp at hl; omega⟩
          obtain ⟨hi, n⟩ := wipeR_get (by intro z; cases z) hi
          rw [← ew, wipe_at n]
          exact own_ne F2 hD1 i xs hi
        | true =>
          simp only [hcf] at hc
          rw [if_pos rfl]
          cases hef : e g2 with
          | none => simp only [hef] at hc; cases hc
          | some p =>
            obtain ⟨re, g3⟩ := p
            cases re with
            | error x => simp only [hef] at hc; cases hc
            | ok x =>
              simp only [hef] at hc
              obtain ⟨q, hq, eq⟩ := Option.map_eq_some_iff.mp hc
              cases eq
              refine ⟨H1, G, G2, g2, F2, .ok x, g3, hef, fun y G3 H3 gr3 F3 dy => ⟨acc, F3.base Dl _ (F.ok_lst hD) hD1, ?_, ?_⟩⟩
              · have := da.length
                simp at hl
                exact Nat.lt_of_lt_of_le (show acc.length < 100001 by omega) (by decide)
              · have gD3 : G3 Dl = none := F3.gfr Dl _ hD1 gD
                have B3 := back _ _ _ _ F3
                have W3 := (B3.touch (o := .lst (acc ++ [y])) gD3 h0 mD (sf_lst (F3.base Dl _ (F.ok_lst hD) hD1)) (own_ne F3 hD1)).wipe vs
                rw [ew] at W3
                refine ⟨G3, _, acc ++ [y], as ++ [x], q.1, gb.trans ((gr.trans gr2).trans gr3), W3, upd_same, ((da.mono gr2).mono gr3).append (.cons dy .nil), gD3, h0, mD, fun i xs hi => ?_, hq, by rw [ho]; simp, by simp at hl ⊢; omega⟩
                obtain ⟨hi, n⟩ := wipeR_get (by intro z; cases z) hi
                rw [← ew, wipe_at n]
                exact own_ne F3 hD1 i xs hi
/-- a new pair ahead of a turn -/
theorem CI.pair {K : PySem.W.Frag} {Γ : Gam} {H0 G0 G1 : Hp} {σw : L2.St} {vs : List Nat} {t : Mt} {c : Mo Bool} {e : Mo D} {out : List D} {ge : Sg} {Dl : Addr} {ds : List D} {m : Nat} {H : Hp} {T : Addr} {x y : V} {a b : D}
    (C : CI K Γ H0 G0 G1 σw vs t c e out ge Dl ds m H) (hT : H T = none) (dx : Dv K Γ G1 x a) (dy : Dv K Γ G1 y b) :
    ∃ G2, Gr G1 G2 ∧ CI K Γ H0 G0 G2 σw vs t c e out ge Dl ds m (upd H T (.tup [x, y])) ∧ Dv K Γ G2 (.ref T) (.tup [a, b]) := by
  obtain ⟨G, g, acc, as, r, gr, E, hD, da, gD, h0, mD, ow, hc, ho, hl⟩ := C.ex
  have gT : G T = none := by
    cases z : G T with
    | none => rfl
    | some u => rw [E.sub _ _ z] at hT; cases hT
  have ne : Dl ≠ T := ne_of_none hD hT
  have g2 : Gr G (upd G T (.tup [x, y])) := Gr.upd gT
  refine ⟨upd G T (.tup [x, y]), gr.trans g2, ⟨upd G T (.tup [x, y]), g, acc, as, r, Gr.refl _, E.new hT, by rw [upd_ne ne]; exact hD, da.mono g2, by rw [upd_ne ne]; exact gD, h0, mD, ow, hc, ho, hl⟩, .tup (SqT.of upd_same) (.cons ((dx.mono gr).mono g2) (.cons ((dy.mono gr).mono g2) .nil))⟩
theorem lc_pair {K : PySem.W.Frag} {Γ : Gam} {W : WX} {J : It} {n : Nat} {GG : Hp → Prop} {fx fy : Nat → Option V} (w : Walk J n GG (YPair fx fy)) {t : Mt} {c : Mo Bool} {e : Mo D} {gt : TG} {js vs : List Nat} (hj : ∀ j ∈ js, j ∈ vs)
    (kg : ∀ (v : V) (σ : L2.St) (H : Hp) (Q : L2.St → Hp → Prop) (H0 G0 G : Hp) (g g' : Sg) (d : D), En K Γ H0 G0 G H σ g → Dv K Γ G v d → t d g = some g' → (∀ σ', En K Γ H0 G0 G H σ' g' → (σ'.length = σ.length ∧ ∀ i, i ∉ js → σ'[i]? = σ[i]?) → Q σ' H) → gt v σ H Q)
    {H0 G0 G1 H1 : Hp} {g1 : Sg} {σ : L2.St} {ps : List D} {Q : VK} (hn : ps.length = n) (hp : ∀ i x y, fx i = some x → fy i = some y → ∃ a b, ps[i]? = some (.tup [a, b]) ∧ Dv K Γ G1 x a ∧ Dv K Γ G1 y b)
    (hG : ∀ H G, Gr G1 G → Gr G H → GG H) (h1 : tAt K Γ W (RF K Γ) (compF vs t c e ps) H0 G0 G1 g1 σ H1 Q) (Dl : Addr) (hD : H1 Dl = none) :
    ∃ W : Nat → Nat → Hp → Prop, (∃ m, W 0 m (upd H1 Dl (.lst []))) ∧ ∀ i m H, W i m H →
      (J.stop i H ∧ Q (.ref Dl) H) ∨ (J.go i H ∧ ∃ Nx : Hp → Prop, (∀ H', Nx H' → ∃ m', m' < m ∧ W (i + 1) m' H') ∧ ∀ x H', J.yld i H x H' → gt x (L2.wipe σ vs) H' fun σ2 H2 => L2.wipe σ2 vs = L2.wipe σ vs ∧ tG K Γ Wn RB c σ2 H2 fun b H3 =>
        if b = true then tG K Γ Wn (RD K Γ) e σ2 H3 fun y H4 => ∃ acc, H4 Dl = some (.lst acc) ∧ acc.length < sizeLine ∧ Nx (upd H4 Dl (.lst (acc ++ [y]))) else Nx H3) := by
  obtain ⟨out, ge, hm, c0, fin⟩ := comp_start h1 hD
  refine lc_it w (fun i H2 => CI K Γ H0 G0 G1 (L2.wipe σ vs) vs t c e out ge Dl (ps.drop i) ps.length H2) c0 (fun i H2 _ C => ?_) (fun i x H2 H' hi C y => ?_) (fun H2 C => ?_)
  · obtain ⟨G2, _, _, _, _, gr2, E2, _⟩ := C.ex
    exact hG H2 G2 gr2 E2.sub
  · obtain ⟨q, u, v, rfl, hq, rfl, ea, eb⟩ := y
    obtain ⟨a, b, hd, da, db⟩ := hp i u v ea eb
    have ed : ps.drop i = D.tup [a, b] :: ps.drop (i + 1) := by
      obtain ⟨il, e⟩ := List.getElem?_eq_some_iff.mp hd
      rw [← e]; exact List.drop_eq_getElem_cons il
    rw [ed] at C
    obtain ⟨G2, gr2, C2, dv⟩ := C.pair hq da db
    exact comp_turn2 gr2 hm hj C2 dv kg
  · rw [← hn, List.drop_length] at C
    exact fin H2 C
section
variable {K : PySem.W.Frag} {Γ : Gam} {W : WX}
theorem lcE_read {fi : Mo (List D)} {t : Mt} {c : Mo Bool} {e : Mo D} {gt : TG} {js vs : List Nat} (hj : ∀ j ∈ js, j ∈ vs)
    (kg : ∀ (v : V) (σ : L2.St) (H : Hp) (Q : L2.St → Hp → Prop) (H0 G0 G : Hp) (g g' : Sg) (d : D), En K Γ H0 G0 G H σ g → Dv K Γ G v d → t d g = some g' → (∀ σ', En K Γ H0 G0 G H σ' g' → (σ'.length = σ.length ∧ ∀ i, i ∉ js → σ'[i]? = σ[i]?) → Q σ' H) → gt v σ H Q)
    {σ : L2.St} {H : Hp} {Q : VK} (h : tG K Γ W (RF K Γ) (fCompP vs enP fi t c e) σ H Q) :
    tLc (fun σ H R => iEnum K (tG K Γ W (RA K Γ) fi) σ H R ∨ tG K Γ W (RA K Γ) fi σ H fun vs H1 => ∃ a xs, vs = [.ref a] ∧ SqT K H1 a xs ∧ R (Itu K a) H1) gt (tG K Γ Wn RB c) (tG K Γ Wn (RD K Γ) e) vs σ H Q := by
  obtain ⟨H0, G0, G, g, h⟩ := h
  by_cases hl : ∃ xs g1, fi g = some (.ok [D.lst xs], g1)
  · refine .inl ⟨H0, G0, G, g, h.bindE (R1 := RA K Γ) fun ds us g1 G1 H1 hfe gr r1 h1 => ?_⟩
    obtain ⟨xs, g2, hl⟩ := hl
    rw [hl] at hfe; cases hfe
    rcases r1 with _ | ⟨dv, r2⟩
    cases r2
    obtain ⟨l, ws, rfl, h3, h4⟩ := Dv.lst_inv dv
    have h1 : tAt K Γ W (RF K Γ) (compF vs t c e (pairsD xs)) H0 G0 G1 g1 σ H1 Q := h1
    refine ⟨l, ws, rfl, SqL.of (h1.1.sub _ _ h3), fun Dl hD => lc_pair (n := ws.length) walk_enum hj kg (by rw [pairsD_len, h4.length]) (fun i x y ea eb => ?_) (fun H G gr gs => SqL.of (gs _ _ (gr _ _ h3))) h1 Dl hD⟩
    obtain rfl := Option.some.inj ea
    obtain ⟨d, hd, dv⟩ := h4.get' i eb
    exact ⟨_, d, pairsD_at hd, .int _, dv⟩
  · refine .inr ⟨H0, G0, G, g, h.bindE (R1 := RA K Γ) fun ds us g1 G1 H1 hfe gr r1 h1 => ?_⟩
    split at h1
    · rename_i ps hps
      unfold enP at hps
      split at hps
      · rename_i xs
        cases hps
        rcases r1 with _ | ⟨dv, r2⟩
        cases r2
        obtain ⟨l, ws, rfl, h3, h4⟩ := Dv.tup_inv dv
        refine ⟨l, ws, rfl, h1.1.sub.sqT h3, fun Dl hD => lc_pair (n := ws.length) walk_enumT hj kg (by rw [pairsD_len, h4.length]) (fun i x y ea eb => ?_) (fun H G gr gs => gs.sqT (gr.sqT h3)) h1 Dl hD⟩
        obtain rfl := Option.some.inj ea
        obtain ⟨d, hd, dv⟩ := h4.get' i eb
        exact ⟨_, d, pairsD_at hd, .int _, dv⟩
      · exact absurd ⟨_, _, hfe⟩ hl
      · cases hps
    · exact h1.stop
end
section
variable {X : Cx} {Γ : Gam} {W : WX} {elt a b : Expr} {ifs : List Expr} {scope : Scope} {own : List (Str × Nat)} {pos p p2 tpos : Pos} {elts : List Expr} {kk : Nat}
theorem d_compE {fi : Mo (List D)} {t : Mt} {c : Mo Bool} {e : Mo D} {gt : TG} {js : List Nat} (hc : X.calm = true) (hN : X.N.Nodup) (hi : DA X Γ W [a] fi) (ok : BlkOk X.N X.env.scope scope own) (hj : ∀ j ∈ js, j ∈ own.map (·.2)) (k : CompOk X Γ elt (.Tuple elts kk tpos) ifs scope gt js t c e) (hg : Gl X "enumerate") (hm : X.mg "enumerate" = none)
    (hs : ∀ x, foldedSetIterable (.Call (.Name "enumerate" p) [a] [] p2) X.env x = pure x := by intro _; rfl) (h1 : starEach [a] X.env = [(false, eval a X.env)] := by rfl) : DF X Γ W (.ListComp elt [⟨.Tuple elts kk tpos, .Call (.Name "enumerate" p) [a] [] p2, ifs, 0⟩] scope pos) (fCompP (own.map (·.2)) enP fi t c e) := by
  have kg := k.sem
  obtain ⟨pg, kt, ke⟩ := k
  exact (pe_lc hc hN (PI.or (pi_enum hg hm hi h1) (pi_enumT hg hm hi h1)) ok (fun s H C cl fp => (pg s H C cl fp).1) kt ke hs).imp fun σ H Q h => lcE_read hj kg h
end
end DE
namespace DE
open PyProof.Rows PySem.Spec PySem L2 RZ
/-! ### for a, b in zip(x, y) -/
section
variable {X : Cx} {Γ : Gam} {W : WX} {e e2 : Expr} {pos : Pos} {body : List Stmt}
end
end DE
namespace DE
open PyProof.Rows PySem.Spec PySem L2 RZ
/-! ### xs.index(e), flat items -/
section
variable {X : Cx}
end
section
variable {X : Cx} {Γ : Gam} {W : WX} {a b e o : Expr} {pos apos p : Pos}
/-! ### min(xs, default=e), whole numbers -/
/-! ### tuple(range(a)), tuple(range(a, b)) -/
end
end DE
namespace DE
open PyProof.Rows PySem.Spec PySem L2 RZ
/-! ### t * k, also once -/
section
variable {X : Cx} {Γ : Gam} {W : WX}
end
end DE
namespace DE
open PyProof.Rows PySem.Spec PySem L2 RZ
/-! ### t * k, also not at all -/
section
variable {X : Cx} {Γ : Gam} {W : WX}
end
end DE
namespace DE
open PyProof.Rows PySem.Spec PySem L2
/-! ### dicts whose keys are nested tuples -/
section
variable {X : Cx} {Γ : Gam} {pins : List (Addr × Obj)} {σ : L2.St} {G H : Hp} {s : Shared}
/-- a tuple as it stands -/
theorem tup_at (I : L2.Inv X pins σ H s) {a : Addr} {xs : List V} (h : SqT X.K H a xs) : ∃ (its : List Value) (o : Obj) (n : Nat), Vals xs its ∧ s.heap.get? a = some o ∧ o.cls = .type "tuple" ∧ o.data = .seq its.toArray n := by
  rcases h with h | ⟨o, its, n, hk, hc, hd, hs, r⟩
  · obtain ⟨_, its, r, o, h1, h2, n, h3⟩ := (show ObjOk X.prog X.w H s.heap a (.tup xs) from h.ok I.hok)
    exact ⟨its, o, n, r, h1, h2, h3⟩
  · exact ⟨its.toList, o, n, r, I.kIn a o hk, hc, by simpa using hd⟩
mutual
theorem nk_at (I : L2.Inv X pins σ H s) (e : Gr G H) : ∀ {v : V} {d : D} {k : NestedKey} {u : Value}, Dv X.K Γ G v d → keyD d = some k → RelV v u → NestedIs s.heap k u
  | _, _, _, _, .non, h, r => by simp [keyD] at h; subst h; cases r; exact .none
  | _, _, _, _, .bl b, h, r => by simp [keyD] at h; subst h; cases r; exact .bool rfl
  | _, _, _, _, .int i, h, r => by simp [keyD] at h; subst h; obtain ⟨t, rfl⟩ := r; exact .int _ _
  | _, _, _, _, .str x, h, r => by simp [keyD] at h; subst h; obtain ⟨t, rfl⟩ := r; exact .text _ _
  | _, _, _, _, .tup h1 h2, h, r => by
    simp only [keyD, Option.map_eq_some_iff] at h
    obtain ⟨ks, hk, rfl⟩ := h
    cases r
    obtain ⟨its, o, n, rv, ho, hc, hd⟩ := tup_at I (e.sqT h1)
    exact .tup ho hc hd (by simpa using nk_all I e h2 hk rv)
  | _, _, _, _, .lst _ _, h, _ => by simp [keyD] at h
  | _, _, _, _, .dic _ _, h, _ => by simp [keyD] at h
  | _, _, _, _, .m, h, _ => by simp [keyD] at h
  | _, _, _, _, .scr _, h, _ => by simp [keyD] at h
  | _, _, _, _, .fn _, h, _ => by simp [keyD] at h
  | _, _, _, _, .exc _ _ _ _, h, _ => by simp [keyD] at h
  | _, _, _, _, .exc0 _ _, h, _ => by simp [keyD] at h
  | _, _, _, _, .dkn _ _, h, _ => by simp [keyD] at h
  | _, _, _, _, .fzt h1 _ _ h2, h, r => by
    simp only [keyD, Option.map_eq_some_iff] at h
    obtain ⟨ks, hk, rfl⟩ := h
    cases r
    obtain ⟨its, o, n, rv, ho, hc, hd⟩ := tup_at I (.inl (.inr ⟨_, e _ _ h1⟩))
    exact .tup ho hc hd (by simpa using nk_all I e h2 hk rv)
theorem nk_all (I : L2.Inv X pins σ H s) (e : Gr G H) : ∀ {vs : List V} {ds : List D} {ks : List NestedKey} {us : List Value}, DvA X.K Γ G vs ds → keyA ds = some ks → Vals vs us → NestedAll s.heap ks us
  | _, _, _, _, .nil, h, r => by simp [keyA] at h; subst h; cases r; exact .nil
  | _, d :: ds, _, _, .cons h1 h2, h, r => by
    simp only [keyA] at h
    cases hk : keyD d with
    | none => rw [hk] at h; cases h
    | some k =>
      cases hks : keyA ds with
      | none => rw [hk, hks] at h; cases h
      | some ks =>
        rw [hk, hks] at h; cases h
        cases r with
        | cons r rs => exact .cons (nk_at I e h1 hk r) (nk_all I e h2 hks rs)
end
end
section
variable {K : PySem.W.Frag} {Γ : Gam} {G : Hp}
end
section
variable {X : Cx} {Γ : Gam} {pins : List (Addr × Obj)} {σ : L2.St} {G H : Hp} {s : Shared} {l : Addr} {xs : NKV} {kvs : List (D × D)}
/-- such a dict, one's own or known to all -/
def IsDn (w : World) (H : Hp) (l : Addr) (xs : NKV) : Prop := H l = some (dnO w l xs) ∨ ∃ o, H l = some (dfO w l o xs)
variable {A : Around} {E : Value → Shared → Prop} {b : Addr} {d : D} {k : NestedKey}
end
end DE
namespace DE
open PyProof.Rows PySem.Spec PySem L2
/-! ### statements about a dict whose keys are tuples -/
def tupK : D → Option NestedKey
  | .tup xs => match keyD (.tup xs) with
    | some k => if decide (k.depth ≤ 8) = true then some k else none
    | none => none
  | _ => none
def dictAt (r : List Sl) (i : Nat) : Option (List (D × D)) := match r[i]? with
  | some (.odk _ kvs) => some kvs
  | some (.dat (.dkn kvs)) => some kvs
  | _ => none
def noOd : Sl → Bool
  | .odk _ _ => false
  | .odi _ => false
  | _ => true
section
variable {K : PySem.W.Frag} {Γ : Gam} {H0 G0 G H : Hp} {σ : L2.St} {g : Sg}
theorem En.dn (E : En K Γ H0 G0 G H σ g) {i : Nat} {kvs : List (D × D)} (h : dictAt g.r i = some kvs) : ∃ l xs, σ[i]? = some (some (V.ref l)) ∧ IsDn Γ.w H l xs ∧ DvN K Γ G xs kvs := by
  unfold dictAt at h
  split at h
  · rename_i t k e
    cases h
    obtain ⟨⟨l, xs, a1, _, a3, _, _, a6⟩, _⟩ := E.odk.k i _ _ e
    exact ⟨l, xs, a1, .inl a3, a6⟩
  · rename_i k e
    cases h
    obtain ⟨v, h1, h2⟩ := E.dat i _ e
    cases h2 with
    | dkn h3 h4 => exact ⟨_, _, h1, .inr ⟨_, E.sub _ _ h3⟩, h4⟩
  · cases h
/-- a new dict of one's own -/
theorem En.newK (E : En K Γ H0 G0 G H σ g) {p : Addr} {i : Nat} (hp : H p = none) (no : g.r.all noOd = true) : En K Γ H0 G0 G (upd H p (dnO Γ.w p [])) (σ.set i (some (V.ref p))) ⟨g.r.set i (.odk none []), g.s⟩ := by
  have E1 := E.newO (o := dnO Γ.w p []) hp
  have gp : G p = none := by
    cases z : G p with
    | none => rfl
    | some u => rw [E.sub _ _ z] at hp; cases hp
  have h0 : H0 p = none := by
    cases z : H0 p with
    | none => rfl
    | some u =>
      obtain ⟨u', z'⟩ := E.there z
      rw [hp] at z'; cases z'
  have nod : ∀ (j : Nat) z, isOd z = true → g.r[j]? ≠ some z := fun j z hz e => by
    have := List.all_eq_true.mp no _ (List.mem_of_getElem? e)
    cases z <;> simp [isOd, noOd] at hz this
  have other : ∀ (j : Nat) z, (∀ t kvs, z ≠ Sl.odk t kvs) → (g.r.set i (.odk none []))[j]? = some z → j ≠ i ∧ g.r[j]? = some z := fun j z hz h' => by
    by_cases e : j = i
    · subst e
      have il : j < g.r.length := by have := (List.getElem?_eq_some_iff.mp h').1; simpa using this
      rw [List.getElem?_set_self il] at h'; exact absurd (Option.some.inj h').symm (hz _ _)
    · rw [List.getElem?_set_ne (Ne.symm e)] at h'; exact ⟨e, h'⟩
  have only : ∀ (j : Nat) z, isOd z = true → (g.r.set i (.odk none []))[j]? = some z → j = i ∧ z = .odk none [] ∧ i < g.r.length := fun j z hz h' => by
    by_cases e : j = i
    · subst e
      have il : j < g.r.length := by have := (List.getElem?_eq_some_iff.mp h').1; simpa using this
      rw [List.getElem?_set_self il] at h'; cases h'; exact ⟨rfl, rfl, il⟩
    · rw [List.getElem?_set_ne (Ne.symm e)] at h'; exact absurd h' (nod _ _ hz)
  refine ⟨E1.base, E1.gfr, E1.g0, E1.sub, E1.gm, E1.st, by simpa using E1.len, fun j d h => ?_, fun j xs h => ?_, fun j k xs ys l h1 h2 h3 h4 => ?_, E1.tb, E1.gt, fun j f c q G1 h => ?_, fun j t kvs h => ?_, fun j kvs h => ?_⟩
  · obtain ⟨n, h⟩ := other j _ (fun _ _ z => by cases z) h
    rw [List.getElem?_set_ne (Ne.symm n)]; exact E1.dat j d h
  · obtain ⟨n, h⟩ := other j _ (fun _ _ z => by cases z) h
    rw [List.getElem?_set_ne (Ne.symm n)]; exact E1.own j xs h
  · obtain ⟨n1, h1⟩ := other j _ (fun _ _ z => by cases z) h1
    obtain ⟨n2, h2⟩ := other k _ (fun _ _ z => by cases z) h2
    rw [List.getElem?_set_ne (Ne.symm n1)] at h3
    rw [List.getElem?_set_ne (Ne.symm n2)] at h4
    exact E1.dis j k xs ys l h1 h2 h3 h4
  · obtain ⟨n, h⟩ := other j _ (fun _ _ z => by cases z) h
    rw [List.getElem?_set_ne (Ne.symm n)]; exact E1.fn j f c q G1 h
  · obtain ⟨rfl, e, il⟩ := only j _ rfl h
    cases e
    exact ⟨⟨p, [], by rw [List.getElem?_set_self (by rw [← E.len]; exact il)], (fun _ z => by cases z), upd_same, gp, h0, DvN.nil⟩, fun k z hz q => (only k z hz q).1⟩
  · obtain ⟨_, e, _⟩ := only j _ rfl h
    cases e
/-- a dict of one's own is written -/
theorem En.putK (E : En K Γ H0 G0 G H σ g) {i : Nat} {t : Option Addr} {kvs kvs' : List (D × D)} {l : Addr} {xs' : NKV} (hi : g.r[i]? = some (.odk t kvs)) (hl : σ[i]? = some (some (V.ref l))) (hd : DvN K Γ G xs' kvs') (nc : ∀ c q, H c = some (LamX.CodeO c q) → c ≠ l) :
    En K Γ H0 G0 G (upd H l (dnO Γ.w l xs')) σ ⟨g.r.set i (.odk t kvs'), g.s⟩ := by
  obtain ⟨⟨l', xs, a1, a2, a3, a4, a5, a6⟩, uni⟩ := E.odk.k i _ _ hi
  rw [hl] at a1; cases a1
  have il : i < g.r.length := (List.getElem?_eq_some_iff.mp hi).1
  obtain ⟨lm, hM, hG⟩ := E.st
  have ml : Γ.M ≠ l := fun z => (E.ok_dn a3).1 z.symm
  have other : ∀ (j : Nat) z, (∀ t kvs, z ≠ Sl.odk t kvs) → (g.r.set i (.odk t kvs'))[j]? = some z → j ≠ i ∧ g.r[j]? = some z := fun j z hz h' => by
    by_cases e : j = i
    · subst e
      rw [List.getElem?_set_self il] at h'; exact absurd (Option.some.inj h').symm (hz _ _)
    · rw [List.getElem?_set_ne (Ne.symm e)] at h'; exact ⟨e, h'⟩
  have only : ∀ (j : Nat) z, isOd z = true → (g.r.set i (.odk t kvs'))[j]? = some z → j = i ∧ z = .odk t kvs' := fun j z hz h' => by
    by_cases e : j = i
    · subst e
      rw [List.getElem?_set_self il] at h'; cases h'; exact ⟨rfl, rfl⟩
    · rw [List.getElem?_set_ne (Ne.symm e)] at h'; exact absurd (uni j _ hz h') e
  refine ⟨fun a u n h => ?_, E.gfr, E.g0, fun a u h => ?_, E.gm, ⟨lm, by rw [upd_ne ml]; exact hM, hG⟩, by simpa using E.len, fun j d h => ?_, fun j zs h => ?_, fun j k zs us q h1 h2 h3 h4 => ?_, fun p hp => ?_, E.gt, fun j f c q G1 h => ?_, fun j t' k' h => ?_, fun j k' h => ?_⟩
  · have : a ≠ l := by rintro rfl; rw [a5] at h; cases h
    rw [upd_ne this]; exact E.base a u n h
  · have : a ≠ l := by rintro rfl; rw [a4] at h; cases h
    rw [upd_ne this]; exact E.sub a u h
  · exact E.dat j d (other j _ (fun _ _ z => by cases z) h).2
  · obtain ⟨l2, v2, k1, k2, k3, k4, k5⟩ := E.own j zs (other j _ (fun _ _ z => by cases z) h).2
    have : l2 ≠ l := (dn_ne a3 k2 fun _ z => by cases z).symm
    exact ⟨l2, v2, k1, by rw [upd_ne this]; exact k2, k3, k4, k5⟩
  · exact E.dis j k zs us q (other j _ (fun _ _ z => by cases z) h1).2 (other k _ (fun _ _ z => by cases z) h2).2 h3 h4
  · obtain ⟨ps, h1, h2, h3⟩ := E.tb p hp
    refine ⟨ps, by rw [upd_ne (Ne.symm ((E.ok_dn a3).2 p hp))]; exact h1, h2, fun pos cv hcv => ?_⟩
    obtain ⟨c, e1, e2⟩ := h3 pos cv hcv
    refine ⟨c, e1, ?_⟩
    rw [upd_ne (nc c _ e2)]; exact e2
  · obtain ⟨x, y, z⟩ := E.fn j f c q G1 (other j _ (fun _ _ z => by cases z) h).2
    refine ⟨x, ?_, z⟩
    rw [upd_ne (nc c _ y)]; exact y
  · obtain ⟨rfl, e⟩ := only j _ rfl h
    cases e
    exact ⟨⟨l, xs', hl, a2, upd_same, a4, a5, hd⟩, fun k z hz q => (only k z hz q).1⟩
  · obtain ⟨_, e⟩ := only j _ rfl h
    cases e
end
section
variable {X : Cx} {Γ : Gam} {W : WX} {a e : Expr} {pos pos' p pt : Pos} {k : Nat}
end
end DE
namespace DE
open PyProof.Rows PySem.Spec PySem L2
open LamX (CodeO TabB Tabs lamEnv lamCx)
/-! ### an item of a list of one's own -/
section
variable {X : Cx} {Γ : Gam} {W : WX} {a b e : Expr} {pos p : Pos} {k : Nat}
end
/-! ### functions of one argument, handed to a def -/
/-- what a call of f does, at any state that comes of (H1, h1) -/
structure Cb (P : Program) (w : World) (K : PySem.W.Frag) (mg : Str → Option Value) (base : Heap) (Γ : Gam) (k : Nat) (H1 : Hp) (h1 : Heap) (fs : Addr → Prop) (f c : Addr) (q : Str) (G1 : Hp) (nx : D → DS → Option (D × DS)) : Prop where
  fn : (PySem.W.FnAt f h1 ∧ H1 f = none ∧ ¬ fs f) ∨ PySem.W.keepIn K (.ref f) = true
  run : ∀ (A : Around) (outer : List Env) (s : Shared) (H : Hp) (u : Value) (v : V) (Q : VK) (E : XK), Room k A → A.guards = some [] → Env0 P w K mg base A outer s H → (∃ fs', (∀ b ∈ fs', fs b) ∧ Un fs' [] H1 H h1 s.heap) → RelV v u →
    (∃ G st d e st', H c = some (CodeO c q) ∧ Gr G1 G ∧ Gr G H ∧ (G Γ.M = none ∧ Tabs Γ.T H ∧ ∀ p ∈ Γ.T, G p.1 = none) ∧ StM Γ G H st ∧ Dv K Γ G v d ∧ nx d st = some (e, st') ∧ ∀ v' G' H', Aft Γ G H G' H' → StM Γ G' H' st' → Dv K Γ G' v' e → Q v' H') →
    codeAny (model P w) A (.call (.ref f) ⟨[u], []⟩) (CR (L2.CX P w) outer P w H s Q E) s
theorem Cb.mono {P : Program} {w : World} {K : PySem.W.Frag} {mg : Str → Option Value} {base : Heap} {Γ : Gam} {j k : Nat} {H1 : Hp} {h1 : Heap} {fs : Addr → Prop} {f c : Addr} {q : Str} {G1 : Hp} {nx : D → DS → Option (D × DS)} (h : Cb P w K mg base Γ j H1 h1 fs f c q G1 nx) (hk : j ≤ k) : Cb P w K mg base Γ k H1 h1 fs f c q G1 nx :=
  ⟨h.fn, fun A outer s H u v Q E hr => h.run A outer s H u v Q E (hr.mono hk)⟩
/-- the state comes of (H1, h1) -/
abbrev Cm (H1 : Hp) (h1 : Heap) (fs : Addr → Prop) (H : Hp) (h : Heap) : Prop := ∃ fs', (∀ b ∈ fs', fs b) ∧ Un fs' [] H1 H h1 h
theorem Cm.then {H1 H2 H3 : Hp} {h1 h2 h3 : Heap} {fs : Addr → Prop} (a : Cm H1 h1 fs H2 h2) {f2 : List Addr} (hf : ∀ b ∈ f2, fs b) (u : Un f2 [] H2 H3 h2 h3) : Cm H1 h1 fs H3 h3 := by
  obtain ⟨f1, a1, a2⟩ := a
  refine ⟨f1 ++ f2, fun b hb => (List.mem_append.mp hb).elim (a1 b) (hf b), (a2.mono (fun b hb => List.mem_append_left _ hb) fun b hb => hb).trans (u.mono (fun b hb => List.mem_append_right _ hb) fun b hb => hb)⟩
section
variable {X : Cx} {Γ : Gam} {W : WX} {a b e : Expr} {pos p : Pos} {k : Nat}
end
end DE
namespace DE
open PyProof.Rows PySem.Spec PySem L2
open LamX (CodeO TabB Tabs lamEnv lamCx)
/-! ### a lambda of one parameter -/
structure LamY (X : Cx) (y : Str) (scope : Scope) : Prop where
  lam : LamN X.N X.env.scope scope
  loc : scope.names.lookup y = some .local
  new : y ∉ X.N
  nd : X.N.Nodup
theorem LamY.nodup {X : Cx} {y : Str} {scope : Scope} (L : LamY X y scope) : (X.N ++ [y]).Nodup := List.nodup_append.mpr ⟨L.nd, by simp, fun a ha b hb => by rw [List.mem_singleton.mp hb]; rintro rfl; exact L.new ha⟩
section
variable {X : Cx} {σ : L2.St} {H HZ : Hp} {s s1 : Shared} {pins : List (Addr × Obj)}
end
/-- a further slot -/
theorem En.snoc {K : PySem.W.Frag} {Γ : Gam} {H0 G0 G H : Hp} {σ : L2.St} {g : Sg} (E : En K Γ H0 G0 G H σ g) {v : V} {d : D} (h : Dv K Γ G v d) : En K Γ H0 G0 G H (σ ++ [some v]) ⟨g.r ++ [.dat d], g.s⟩ := by
  have at_ : ∀ (i : Nat) z, (g.r ++ [.dat d])[i]? = some z → (g.r[i]? = some z ∧ (σ ++ [some v])[i]? = σ[i]?) ∨ (z = .dat d ∧ (σ ++ [some v])[i]? = some (some v)) := fun i z hz => by
    by_cases il : i < g.r.length
    · rw [List.getElem?_append_left il] at hz
      exact .inl ⟨hz, List.getElem?_append_left (by rw [← E.len]; exact il)⟩
    · rw [List.getElem?_append_right (by omega)] at hz
      have z0 : i - g.r.length = 0 := by
        by_cases z : i - g.r.length = 0
        · exact z
        · exfalso
          obtain ⟨j, hj⟩ := Nat.exists_eq_succ_of_ne_zero z
          rw [hj] at hz; simp at hz
      rw [z0] at hz
      simp at hz
      refine .inr ⟨hz.symm, ?_⟩
      rw [List.getElem?_append_right (by rw [← E.len]; omega), ← E.len, z0]; rfl
  refine ⟨E.base, E.gfr, E.g0, E.sub, E.gm, E.st, by simp [E.len], fun i d' h' => ?_, fun i xs h' => ?_, fun i j xs ys l h1 h2 h3 h4 => ?_, E.tb, E.gt, fun i f c q G1 h' => ?_, E.odk.tr (fun i y hy e => ?_) (Gr.refl _) fun _ _ e e1 e2 => ⟨e, e1, e2⟩⟩
  · rcases at_ i _ h' with ⟨z1, z2⟩ | ⟨z1, z2⟩
    · rw [z2]; exact E.dat i d' z1
    · cases z1; exact ⟨v, z2, h⟩
  · rcases at_ i _ h' with ⟨z1, z2⟩ | ⟨z1, z2⟩
    · rw [z2]; exact E.own i xs z1
    · cases z1
  · rcases at_ i _ h1 with ⟨z1, z2⟩ | ⟨z1, z2⟩
    · rcases at_ j _ h2 with ⟨z3, z4⟩ | ⟨z3, z4⟩
      · rw [z2] at h3; rw [z4] at h4; exact E.dis i j xs ys l z1 z3 h3 h4
      · cases z3
    · cases z1
  · rcases at_ i _ h' with ⟨z1, z2⟩ | ⟨z1, z2⟩
    · rw [z2]; exact E.fn i f c q G1 z1
    · cases z1
  · rcases at_ i _ e with ⟨z1, z2⟩ | ⟨z1, z2⟩
    · exact ⟨z1, z2⟩
    · rw [z1] at hy; cases hy
end DE
namespace DE
open PyProof.Rows PySem.Spec PySem L2
/-! ### any(xs), xs a list of truths -/
def fAny (f : Mo D) : Mo D := bd f fun d => match d with
  | .lst xs => match blsOf xs with
    | some bs => rt (.bl (bs.any id))
    | none => stop
  | _ => stop
section
variable {X : Cx} {Γ : Gam} {W : WX} {a : Expr} {pos : Pos}
end
end DE
namespace DE
open PyProof.Rows PySem.Spec PySem L2
open LamX (CodeO TabB Tabs TabS lamEnv lamCx)
end DE
namespace DE
open PyProof.Rows PySem.Spec PySem L2
open LamX
/-- walk_deS where no def makes a lambda -/
theorem walk_deN {l : PySem.W.OpenLaw} {k m im : Nat} {q : Program} {loose : List Str} {XP : (Str → Option Value) → Heap → Prop} {YP : World → Heap → Prop} {d : DefRec} {K : Params → PySem.W.Frag} {fb : Ms}
    (hn : l.most = some 63) (hdf : d.params.defaults = []) (hr : Room k callerA) (hY : ∀ (w : World) (h : Heap), YP w h → (K w.params).In h)
    (F : ∀ (w : World) (mg : Str → Option Value) (fa : Addr) (h : Heap), (K w.params).In h → h.Ns mainGlobals mg → mg d.name = some (Value.ref fa) →
      ∃ fd : FuncData, (∀ (s : Shared) (u : Value), BindsTo s fd ⟨[u], []⟩ [("script", u)]) ∧ ∀ base : Heap, (K w.params).In base → base.Ns mainGlobals mg → SysM base →
        FnG l.prog w (K w.params) mg base k fa fd ["script"] (spLaw (K w.params) [] m im fb))
    (hin : PyProof.Rows.importsNone q = true) (hfb : ∀ ns : List Int, ns.length ≤ 63 → goesL fb m im ns) :
    PySem.W.WalkO q loose XP YP l.row.toRowW d [] (fun g us => PySem.call g us) :=
  walk_deS [] hn hdf hr hY (fun p hp => nomatch hp) (fun w mg fa h a b c => let ⟨fd, hb, hF⟩ := F w mg fa h a b c; ⟨fd, hb, fun base k1 k2 _ k4 => hF base k1 k2 k4⟩) hin hfb
end DE
namespace S
open PyProof.Rows PySem.Spec PySem L2 DE
def c_ENDS : D := .tup [.str "eldest", .str "latest", .str "lowest", .str "highest", .str "refuse"]
def c_FILTERS : D := .tup [.str "kept", .str "inner", .str "notlow", .str "nothigh", .str "below", .str "above", .str "under", .str "over"]
def c_MOST_CRITERIA : D := .int 6
def c_MOST_VOICES : D := .int 8
def c_RETURNS : D := .tup [.str "none", .str "eldest", .str "latest", .str "lowest", .str "highest"]
def tb_BadBoard : List (Str × Bool) := [("BadMachine", false), ("BadPlay", false), ("BadState", false), ("BadTrace", false), ("BadText", false), ("BadEvent", false), ("BadKey", false), ("BadBoard", true), ("Missing", false)]
def tb_BadEvent : List (Str × Bool) := [("BadMachine", false), ("BadPlay", false), ("BadState", false), ("BadTrace", false), ("BadText", false), ("BadEvent", true), ("BadKey", false), ("BadBoard", false), ("Missing", false)]
def tb_BadKey : List (Str × Bool) := [("BadMachine", false), ("BadPlay", false), ("BadState", false), ("BadTrace", false), ("BadText", false), ("BadEvent", false), ("BadKey", true), ("BadBoard", false), ("Missing", false)]
def tb_BadMachine : List (Str × Bool) := [("BadMachine", true), ("BadPlay", false), ("BadState", false), ("BadTrace", false), ("BadText", false), ("BadEvent", false), ("BadKey", false), ("BadBoard", false), ("Missing", false)]
def tb_BadPlay : List (Str × Bool) := [("BadMachine", false), ("BadPlay", true), ("BadState", false), ("BadTrace", false), ("BadText", false), ("BadEvent", false), ("BadKey", false), ("BadBoard", false), ("Missing", false)]
def tb_BadQuestion : List (Str × Bool) := [("BadMachine", false), ("BadPlay", false), ("BadState", false), ("BadTrace", false), ("BadText", false), ("BadEvent", false), ("BadKey", false), ("BadBoard", false), ("Missing", false)]
def tb_BadState : List (Str × Bool) := [("BadMachine", false), ("BadPlay", false), ("BadState", true), ("BadTrace", false), ("BadText", false), ("BadEvent", false), ("BadKey", false), ("BadBoard", false), ("Missing", false)]
def tb_ValueError : List (Str × Bool) := [("BadMachine", true), ("BadPlay", true), ("BadState", true), ("BadTrace", true), ("BadText", true), ("BadEvent", true), ("BadKey", true), ("BadBoard", true), ("Missing", false)]
def tb_VoiceError : List (Str × Bool) := [("BadMachine", true), ("BadPlay", true), ("BadState", true), ("BadTrace", true), ("BadText", true), ("BadEvent", true), ("BadKey", true), ("BadBoard", true), ("Missing", false)]
def cs_event : List Str := ["BadEvent"]
def cs_key : List Str := ["BadKey"]
def cs_many : List Str := ["BadBoard"]
def cs_place : List Str := ["BadMachine", "BadPlay", "BadState", "BadTrace", "BadText"]
def fb_is_whole : Ms := fSeq (fIf (fOr (fT (fIsi "bool" (fName 0))) (fNot (fT (fIsi "int" (fName 0))))) (fRet (rt (.bl false))) (sOut .nx))
  (fRet (fChain pLe pLe (fName 1) (fName 0) (fName 2)))
def m_is_whole : Fd := runB fb_is_whole 3 3
def fb_is_word : Ms := fRet (fAndV (fIsi "str" (fName 0)) (f2 (pIn false) (fName 0) (fName 1)))
def m_is_word : Fd := runB fb_is_word 2 2
def fb_can_stand : Ms := fSeq (fSet 2 (fIxD (fName 0) (fName 1)))
  (fSeq (fIf (fT (f2 pEq (fName 1) (f2 pSub (fLen (fPeek 0)) (rt (.int 1))))) (fRet (fCallN 2 m_is_word (fCons (fName 2) (fCons (rt c_ENDS) (rt []))))) (sOut .nx))
  (fRet (fAndV (fCallN 2 m_is_word (fCons (fName 2) (fCons (rt c_FILTERS) (rt [])))) (f2 (pIn true) (fName 2) (fSl (fName 0) (rt none) (fPart (fName 1)))))))
def m_can_stand : Fd := runB fb_can_stand 3 2
def fb_criteria_fault : Ms := fSeq (fIf (fOr (fNot (fT (fIsi "tuple" (fName 0)))) (fNot (fT (fChain pLe pLe (rt (.int 1)) (fLen (fPeek 0)) (rt c_MOST_CRITERIA))))) (fRet (fTup (fCons (rt (.str "criteria")) (rt [])))) (sOut .nx))
  (fSeq (fForR (fCons (fLen (fPeek 0)) (rt [])) (gN 1) (fIf (fNot (fT (fCallN 2 m_can_stand (fCons (fName 0) (fCons (fName 1) (rt [])))))) (fRet (fTup (fCons (rt (.str "criteria")) (fCons (fName 1) (rt []))))) (sOut .nx)))
  (fRet (rt .non)))
def m_criteria_fault : Fd := runB fb_criteria_fault 2 1
def fb_machine_fault : Ms := fSeq (fIf (fOr (fNot (fT (fIsi "tuple" (fName 0)))) (fT (f2 pNe (fLen (fPeek 0)) (rt (.int 3))))) (fRet (fTup (rt []))) (sOut .nx))
  (fSeq (fAsg (fName 0) (gT 3 (gsCons (gN 2) (gsCons (gN 3) (gsCons (gN 4) gsNil)))))
  (fSeq (fIf (fNot (fT (fCallN 3 m_is_whole (fCons (fName 2) (fCons (rt (.int 1)) (fCons (rt c_MOST_VOICES) (rt []))))))) (fRet (fTup (fCons (rt (.str "voices")) (rt [])))) (sOut .nx))
  (fSeq (fSet 1 (fCallN 1 m_criteria_fault (fCons (fName 3) (rt []))))
  (fSeq (fIf (fAnd (fT (f2 pIs (fName 1) (rt .non))) (fNot (fT (fCallN 2 m_is_word (fCons (fName 4) (fCons (rt c_RETURNS) (rt []))))))) (fRet (fTup (fCons (rt (.str "return")) (rt [])))) (sOut .nx))
  (fRet (fName 1))))))
def m_machine_fault : Fd := runB fb_machine_fault 5 1
def fb_loud_keys : Ms := fRet (fLet (fComp [1, 2] (fName 0) (gT 2 (gsCons (gN 1) (gsCons (gN 2) gsNil))) (fT (f2 pNe (fName 2) (rt (.str "waits")))) (fName 1)))
def m_loud_keys : Fd := runB fb_loud_keys 3 1
def fb_marked : Ms := fRet (fTupOf (fComp [3] (fName 0) (gN 3) ((rt true)) (fIfE (fT (f2 (pIn false) (fIxD (fName 3) (rt (.int 0))) (fName 1))) (fTup (fCons (fIxD (fName 3) (rt (.int 0))) (fCons (fName 2) (rt [])))) (fName 3))))
def m_marked : Fd := runB fb_marked 4 3
def fb_chosen : Ms := fSeq (fIf (fT (f2 pEq (fName 1) (rt (.str "eldest")))) (fRet (fIxD (fName 0) (rt (.int 0)))) (sOut .nx))
  (fSeq (fIf (fT (f2 pEq (fName 1) (rt (.str "latest")))) (fRet (fIxD (fName 0) (fNeg (rt (.int 1))))) (sOut .nx))
  (fSeq (fIf (fT (f2 pEq (fName 1) (rt (.str "lowest")))) (fRet (fMin (fName 0))) (sOut .nx))
  (fSeq (fIf (fT (f2 pEq (fName 1) (rt (.str "highest")))) (fRet (fMax (fName 0))) (sOut .nx))
  (fRet (rt .non)))))
def m_chosen : Fd := runB fb_chosen 2 2
def fb_outer_keys : Ms := fSeq (fSetO 3 (fComp [2] (fName 1) (gN 2) ((rt true)) (fIxD (fName 2) (rt (.int 0)))))
  (fSeq (fSetO 4 (fLst (rt [])))
  (fSeq (fIf (fT (f2 pNe (fName 0) (rt (.str "nothigh")))) (fExp (fApp 4 (fMin (fName 3)))) (sOut .nx))
  (fSeq (fIf (fT (f2 pNe (fName 0) (rt (.str "notlow")))) (fExp (fApp 4 (fMax (fName 3)))) (sOut .nx))
  (fRet (fName 4)))))
def m_outer_keys : Fd := runB fb_outer_keys 5 2
def fb_left_by : Ms := fSeq (fIf (fT (f2 pEq (fName 0) (rt (.str "kept")))) (fRet (fLet (fComp [4] (fName 1) (gN 4) (fT (f2 pEq (fIxD (fName 4) (rt (.int 1))) (rt (.str "kept")))) (fName 4)))) (sOut .nx))
  (fSeq (fIf (fT (f2 (pIn false) (fName 0) (fTup (fCons (rt (.str "below")) (fCons (rt (.str "under")) (rt [])))))) (fRet (fLet (fComp [4] (fName 1) (gN 4) (fT (f2 pLt (fIxD (fName 4) (rt (.int 0))) (fName 3))) (fName 4)))) (sOut .nx))
  (fSeq (fIf (fT (f2 (pIn false) (fName 0) (fTup (fCons (rt (.str "above")) (fCons (rt (.str "over")) (rt [])))))) (fRet (fLet (fComp [4] (fName 1) (gN 4) (fT (f2 pGt (fIxD (fName 4) (rt (.int 0))) (fName 3))) (fName 4)))) (sOut .nx))
  (fSeq (fSet 5 (fCallN 2 m_outer_keys (fCons (fName 0) (fCons (fName 2) (rt [])))))
  (fRet (fLet (fComp [4] (fName 1) (gN 4) (fT (f2 (pIn true) (fIxD (fName 4) (rt (.int 0))) (fName 5))) (fName 4)))))))
def m_left_by : Fd := runB fb_left_by 6 4
def fb_victim_among : Ms := fSeq (fSet 3 (fName 1))
  (fSeq (fFor (fSl (fName 0) (rt none) (fPart (fNeg (rt (.int 1))))) (gN 4) (fSeq (fSet 5 (fCallN 4 m_left_by (fCons (fName 4) (fCons (fName 3) (fCons (fName 1) (fCons (fName 2) (rt [])))))))
  (fSeq (fIf (fAnd (fNot (fTr (fName 5))) (fT (f2 (pIn false) (fName 4) (fTup (fCons (rt (.str "under")) (fCons (rt (.str "over")) (rt []))))))) (fRet (rt .non)) (sOut .nx))
  (fSet 3 (fOrT (fName 5) (fName 3))))))
  (fRet (fCallN 2 m_chosen (fCons (fLet (fComp [6] (fName 3) (gN 6) ((rt true)) (fIxD (fName 6) (rt (.int 0))))) (fCons (fIxD (fName 0) (fNeg (rt (.int 1)))) (rt []))))))
def m_victim_among : Fd := runB fb_victim_among 7 3
def fb_without : Ms := fRet (fTupOf (fComp [2] (fName 0) (gN 2) (fT (f2 pNe (fIxD (fName 2) (rt (.int 0))) (fName 1))) (fName 2)))
def m_without : Fd := runB fb_without 3 2
def fb_go_down : Ms := fSeq (fAsg (fName 0) (gT 3 (gsCons (gN 3) (gsCons (gN 4) (gsCons (gN 5) gsNil)))))
  (fSeq (fIf (fT (f2 (pInT false) (fTup (fCons (fName 2) (fCons (rt (.str "kept")) (rt [])))) (fName 1))) (fRet (fTup (fCons (fTup (fStar (fCallN 2 m_without (fCons (fName 1) (fCons (fName 2) (rt [])))) (fCons (fTup (fCons (fName 2) (fCons (rt (.str "sounds")) (rt [])))) (rt [])))) (fCons (fTup (fCons (fTup (fCons (rt (.str "again")) (fCons (fName 2) (rt [])))) (rt []))) (rt []))))) (sOut .nx))
  (fSeq (fSetO 7 (fComp [6] (fName 1) (gN 6) (fT (f2 pNe (fIxD (fName 6) (rt (.int 1))) (rt (.str "waits")))) (fName 6)))
  (fSeq (fIf (fT (f2 pLt (fLen (fPeek 7)) (fName 3))) (fRet (fTup (fCons (fTup (fStar (fName 1) (fCons (fTup (fCons (fName 2) (fCons (rt (.str "sounds")) (rt [])))) (rt [])))) (fCons (fTup (fCons (fTup (fCons (rt (.str "begin")) (fCons (fName 2) (rt [])))) (rt []))) (rt []))))) (sOut .nx))
  (fSeq (fSet 8 (fCallN 3 m_victim_among (fCons (fName 4) (fCons (fName 7) (fCons (fName 2) (rt []))))))
  (fSeq (fIf (fT (f2 pIs (fName 8) (rt .non))) (fRet (fTup (fCons (fTup (fStar (fName 1) (fCons (fTup (fCons (fName 2) (fCons (rt (.str "waits")) (rt [])))) (rt [])))) (fCons (fTup (fCons (fTup (fCons (rt (.str "refuse")) (fCons (fName 2) (rt [])))) (rt []))) (rt []))))) (sOut .nx))
  (fSeq (fSet 9 (fIfE (fT (f2 (pInT false) (fTup (fCons (fName 8) (fCons (rt (.str "kept")) (rt [])))) (fName 1))) (fCallN 2 m_without (fCons (fName 1) (fCons (fName 8) (rt [])))) (fCallN 3 m_marked (fCons (fName 1) (fCons (fLet (fLst (fCons (fName 8) (rt [])))) (fCons (rt (.str "waits")) (rt [])))))))
  (fRet (fTup (fCons (fTup (fStar (fName 9) (fCons (fTup (fCons (fName 2) (fCons (rt (.str "sounds")) (rt [])))) (rt [])))) (fCons (fTup (fCons (fTup (fCons (rt (.str "cut")) (fCons (fName 8) (rt [])))) (fCons (fTup (fCons (rt (.str "begin")) (fCons (fName 2) (rt [])))) (rt [])))) (rt [])))))))))))
def m_go_down : Fd := runB fb_go_down 10 3
def fb_come_back : Ms := fSeq (fAsg (fName 0) (gT 3 (gsCons (gN 3) (gsCons (gN 4) (gsCons (gN 5) gsNil)))))
  (fSeq (fIf (fT (f2 pEq (fName 5) (rt (.str "none")))) (fRet (fTup (fCons (fName 1) (fCons (fName 2) (rt []))))) (sOut .nx))
  (fSeq (fSetO 8 (fComp [6, 7] (fName 1) (gT 2 (gsCons (gN 6) (gsCons (gN 7) gsNil))) (fT (f2 pEq (fName 7) (rt (.str "waits")))) (fName 6)))
  (fSeq (fSet 9 (f2 pSub (fName 3) (f2 pSub (fLen (fPeek 1)) (fLen (fPeek 8)))))
  (fSeq (fSet 10 (f2 pMin2 (fName 9) (fLen (fPeek 8))))
  (fSeq (fSetO 11 (fLst (rt [])))
  (fSeq (fForR (fCons (fName 10) (rt [])) (gN 4) (fSeq (fSet 6 (fCho 8 5))
  (fSeq (fExp (fRem 8 (fName 6)))
  (fExp (fApp 11 (fName 6))))))
  (fRet (fTup (fCons (fCallN 3 m_marked (fCons (fName 1) (fCons (fName 11) (fCons (rt (.str "sounds")) (rt []))))) (fCons (f2 pAdd (fName 2) (fTupOf (fComp [6] (fName 11) (gN 6) ((rt true)) (fTup (fCons (rt (.str "back")) (fCons (fName 6) (rt []))))))) (rt [])))))))))))
def m_come_back : Fd := runB fb_come_back 12 3
def fb_go_up : Ms := fSeq (fAsg (fName 1) (gT 2 (gsCons (gN 3) (gsCons (gN 4) gsNil))))
  (fSeq (fIf (fT (f2 (pInT false) (fTup (fCons (fName 2) (fCons (rt (.str "waits")) (rt [])))) (fName 4))) (fRet (fCallN 3 m_come_back (fCons (fName 0) (fCons (fCallN 2 m_without (fCons (fName 4) (fCons (fName 2) (rt [])))) (fCons (fTup (fCons (fTup (fCons (rt (.str "leave")) (fCons (fName 2) (rt [])))) (rt []))) (rt [])))))) (sOut .nx))
  (fSeq (fIf (fT (fName 3)) (fRet (fTup (fCons (fCallN 3 m_marked (fCons (fName 4) (fCons (fLet (fLst (fCons (fName 2) (rt [])))) (fCons (rt (.str "kept")) (rt []))))) (fCons (fTup (fCons (fTup (fCons (rt (.str "keep")) (fCons (fName 2) (rt [])))) (rt []))) (rt []))))) (sOut .nx))
  (fRet (fCallN 3 m_come_back (fCons (fName 0) (fCons (fCallN 2 m_without (fCons (fName 4) (fCons (fName 2) (rt [])))) (fCons (fTup (fCons (fTup (fCons (rt (.str "end")) (fCons (fName 2) (rt [])))) (rt []))) (rt []))))))))
def m_go_up : Fd := runB fb_go_up 5 3
def fb_lift : Ms := fSeq (fSet 3 (fTupOf (fComp [2] (fName 1) (gN 2) (fT (f2 pNe (fIxD (fName 2) (rt (.int 1))) (rt (.str "kept")))) (fName 2))))
  (fSeq (fSetO 6 (fComp [4, 5] (fName 1) (gT 2 (gsCons (gN 4) (gsCons (gN 5) gsNil))) (fT (f2 pEq (fName 5) (rt (.str "kept")))) (fTup (fCons (rt (.str "end")) (fCons (fName 4) (rt []))))))
  (fRet (fCallN 3 m_come_back (fCons (fName 0) (fCons (fName 3) (fCons (fTupOf (fPeek 6)) (rt [])))))))
def m_lift : Fd := runB fb_lift 7 2
def fb_perform : Ms := fSeq (fAsg (fName 1) (gT 2 (gsCons (gN 4) (gsCons (gN 5) gsNil))))
  (fSeq (fSet 3 (fIxD (fName 2) (rt (.int 0))))
  (fSeq (fIf (fT (f2 pEq (fName 3) (rt (.str "press")))) (fRet (fTup (fCons (fTup (fCons (rt (.bl true)) (fCons (fName 5) (rt [])))) (fCons (fTup (rt [])) (rt []))))) (sOut .nx))
  (fSeq (fIf (fT (f2 pEq (fName 3) (rt (.str "lift")))) (fSeq (fAsg (fCallN 2 m_lift (fCons (fName 0) (fCons (fName 5) (rt [])))) (gT 2 (gsCons (gN 6) (gsCons (gN 7) gsNil))))
  (fRet (fTup (fCons (fTup (fCons (rt (.bl false)) (fCons (fName 6) (rt [])))) (fCons (fName 7) (rt [])))))) (sOut .nx))
  (fSeq (fIf (fT (f2 pEq (fName 3) (rt (.str "down")))) (fAsg (fCallN 3 m_go_down (fCons (fName 0) (fCons (fName 5) (fCons (fIxD (fName 2) (rt (.int 1))) (rt []))))) (gT 2 (gsCons (gN 6) (gsCons (gN 7) gsNil)))) (fAsg (fCallN 3 m_go_up (fCons (fName 0) (fCons (fName 1) (fCons (fIxD (fName 2) (rt (.int 1))) (rt []))))) (gT 2 (gsCons (gN 6) (gsCons (gN 7) gsNil)))))
  (fRet (fTup (fCons (fTup (fCons (fName 4) (fCons (fName 6) (rt [])))) (fCons (fName 7) (rt [])))))))))
def m_perform : Fd := runB fb_perform 8 3
def fb__law_draw : Ms := fSeq (fWhl (fun g => g.s.great.length + 1) (fAnd (fT (f2 pNe (fMg .great (fName 0)) (fLet (fLst (rt []))))) (fT (f2 pEq (fIxD (fMg .great (fName 0)) (rt (.int 0))) (rt (.int 0))))) (fMp .great 0 (fSl (fMg .great (fName 0)) (fPart (rt (.int 1))) (rt none))))
  (fSeq (fIf (fT (f2 pNe (fMg .great (fName 0)) (fLet (fLst (rt []))))) (fSeq (fSet 3 (fIxD (fMg .great (fName 0)) (rt (.int 0))))
  (fSeq (fMp .great 0 (fLet (fCat (fLet (fLst (fCons (f2 pDiv (fName 3) (fName 1)) (rt [])))) (fSl (fMg .great (fName 0)) (fPart (rt (.int 1))) (rt none)))))
  (fRet (f2 pMod (fInt (fName 3)) (fName 1))))) (sOut .nx))
  (fSeq (fMp .turns 0 (f2 pAdd (fMg .turns (fName 0)) (rt (.int 1))))
  (fSeq (fSet 2 (f2 pMod (fInt (f2 pAdd (f2 pAdd (f2 pMul (fMg .seed (fName 0)) (rt (.int 48271))) (f2 pMul (f2 pMul (fMg .turns (fName 0)) (fMg .turns (fName 0))) (rt (.int 16807)))) (fMg .turns (fName 0)))) (rt (.int 2147483647))))
  (fSeq (fSet 2 (f2 pMod (fInt (f2 pAdd (f2 pMul (fName 2) (rt (.int 69621))) (rt (.int 12345)))) (rt (.int 2147483629))))
  (fRet (f2 pMod (f2 pDiv (f2 pMod (fInt (f2 pAdd (f2 pMul (fName 2) (rt (.int 40014))) (fMg .turns (fName 0)))) (rt (.int 2147483563))) (rt (.int 64))) (fName 1)))))))
def m__law_draw : Fd := runB fb__law_draw 4 2
def fb__law_of : Ms := fRet (fIxD (fName 1) (fCallN 2 m__law_draw (fCons (fName 0) (fCons (fLen (fPeek 1)) (rt [])))))
def m__law_of : Fd := runB fb__law_of 2 2
def fb_sound_of : Ms := fRet (fTupOf (fSorted (fCallN 1 m_loud_keys (fCons (fIxD (fName 0) (rt (.int 1))) (rt [])))))
def m_sound_of : Fd := runB fb_sound_of 1 1
end S
namespace S
open PyProof.Rows PySem.Spec PySem L2 DE
end S
namespace DE
open PyProof.Rows PySem.Spec PySem L2 RZ
/-! ### [e for t in xs for t1 in ys] -/
def compL2 (lim : Nat) (vs vs1 : List Nat) (t : Mt) (c : Mo Bool) (fi : Mo D) (t1 : Mt) (c1 : Mo Bool) (e : Mo D) : List D → Sg → Option (List D × Sg)
  | [], g => some ([], g)
  | d :: ds, g => match t d g with
    | none => none
    | some g1 => match c g1 with
      | some (.ok true, g2) => match fi g2 with
        | some (.ok dl, g3) => match aSeq dl with
          | some xs => if xs.length ≤ lim then match compL vs1 t1 c1 e xs ⟨wipeR g3.r vs1, g3.s⟩ with
            | some (ys, g4) => (compL2 lim vs vs1 t c fi t1 c1 e ds ⟨wipeR g4.r vs, g4.s⟩).map fun p => (ys ++ p.1, p.2)
            | none => none
            else none
          | none => none
        | _ => none
      | some (.ok false, g2) => compL2 lim vs vs1 t c fi t1 c1 e ds ⟨wipeR g2.r vs, g2.s⟩
      | _ => none
structure CI2 (lim : Nat) (K : PySem.W.Frag) (Γ : Gam) (H0 G0 G1 : Hp) (σw : L2.St) (vs vs1 : List Nat) (t : Mt) (c : Mo Bool) (fi : Mo D) (t1 : Mt) (c1 : Mo Bool) (e : Mo D) (out : List D) (ge : Sg) (Dl : Addr) (ds : List D) (m : Nat) (H : Hp) : Prop where
  ex : ∃ G g acc as r, Gr G1 G ∧ En K Γ H0 G0 G H σw g ∧ H Dl = some (.lst acc) ∧ DvA K Γ G acc as ∧ G Dl = none ∧ H0 Dl = none ∧ Dl ≠ Γ.M ∧ (∀ (i : Nat) xs, g.r[i]? = some (Sl.own xs) → σw[i]? ≠ some (some (V.ref Dl))) ∧
    compL2 lim vs vs1 t c fi t1 c1 e ds g = some (r, ge) ∧ out = as ++ r ∧ as.length + lim * ds.length ≤ m
section
variable {K : PySem.W.Frag} {Γ : Gam} {W : WX}
end
section
variable {X : Cx} {Γ : Gam} {W : WX} {elt tg iter tg1 iter1 : Expr} {ifs ifs1 : List Expr} {scope : Scope} {own : List (Str × Nat)} {pos : Pos} {vs1 : List Nat}
end
end DE
namespace DE
open PyProof.Rows PySem.Spec PySem L2 RZ
/-! ### a statement that no way reaches -/
section
variable {X : Cx} {Γ : Gam} {W : WX} {a : Expr} {st : Stmt} {pos p : Pos}
/-! ### sum(xs), whole numbers -/
/-! ### len(set(t)), t whole numbers, each once -/
end
end DE
namespace S
open PyProof.Rows PySem.Spec PySem L2 DE
end S
namespace DE
open PyProof.Rows PySem.Spec PySem L2
/-! ### evaluating programs over data -/
theorem kb_tuple_tuple : kitB "tuple" "tuple" = some true := by kernel_rfl
theorem runB_ret {f : Ms} {N n : Nat} {ds : List D} {s : DS} {d : D} {r : List Sl} {s' : DS} (hn : ds.length = n) (h : f ⟨ds.map .dat ++ List.replicate (N - n) .no, s⟩ = some (.ret d, ⟨r, s'⟩)) : runB f N n ds s = some (.ok d, s') := by
  unfold runB; rw [if_pos hn, h]
section
variable {α β : Type} {f : Mo α} {g g1 g2 : Sg} {a : α} {x : Exn}
theorem bd_ok {k : α → Mo β} (h : f g = some (.ok a, g1)) : bd f k g = k a g1 := by unfold bd; rw [h]
theorem sb_ok {k : α → Ms} (h : f g = some (.ok a, g1)) : sb f k g = k a g1 := by unfold sb; rw [h]
end
section
variable {f k t u : Ms} {g g1 g2 : Sg} {d : D} {x : Exn} {c : Mo Bool} {e : Mo D}
theorem seq_nx (h : f g = some (.nx, g1)) : fSeq f k g = k g1 := by unfold fSeq; rw [h]
theorem seq_ret (h : f g = some (.ret d, g1)) : fSeq f k g = some (.ret d, g1) := by unfold fSeq; rw [h]
theorem if_t (h : c g = some (.ok true, g1)) : fIf c t u g = t g1 := by unfold fIf; rw [sb_ok h]; rfl
theorem if_f (h : c g = some (.ok false, g1)) : fIf c t u g = u g1 := by unfold fIf; rw [sb_ok h]; rfl
theorem ret_ok (h : e g = some (.ok d, g1)) : fRet e g = some (.ret d, g1) := by unfold fRet; rw [sb_ok h]; rfl
theorem set_ok {i : Nat} (h : e g = some (.ok d, g1)) : fSet i e g = some (.nx, ⟨g1.r.set i (.dat d), g1.s⟩) := by unfold fSet; rw [sb_ok h]
theorem name_ok {i : Nat} (h : g.r[i]? = some (.dat d)) : fName i g = some (.ok d, g) := by unfold fName; rw [h]
theorem cons_ok {fs : Mo (List D)} {ds : List D} (h1 : e g = some (.ok d, g1)) (h2 : fs g1 = some (.ok ds, g2)) : fCons e fs g = some (.ok (d :: ds), g2) := by unfold fCons; rw [bd_ok h1, bd_ok h2]; rfl
theorem call_ok {n : Nat} {gm : Fd} {fa : Mo (List D)} {ds : List D} {r : Except Exn D} {s' : DS} (h1 : fa g = some (.ok ds, g1)) (h2 : ds.length = n) (h3 : gm ds g1.s = some (r, s')) : fCallN n gm fa g = some (r, ⟨g1.r, s'⟩) := by
  unfold fCallN; rw [bd_ok h1, if_pos h2]; unfold lift; rw [h3]
end
def inW : D → List Str → Bool
  | .str s, ws => ws.contains s
  | _, _ => false
theorem flat_strs : ∀ ws : List Str, flatA (ws.map D.str) = some (ws.map V.str)
  | [] => rfl
  | w :: ws => by simp [flatA, flat1, flat_strs ws]
theorem inV_strs (x : Str) (ws : List Str) : inV (.str x) (ws.map V.str) = ws.contains x := by
  rw [Bool.eq_iff_iff]
  unfold inV
  simp only [List.any_eq_true, List.mem_map, List.contains_iff_mem]
  constructor
  · rintro ⟨_, ⟨w, hw, rfl⟩, e⟩
    have : w = x := by simpa [eqV] using e
    exact this ▸ hw
  · intro h
    exact ⟨_, ⟨x, h, rfl⟩, by simp [eqV]⟩
end DE
namespace DE
open PyProof.Rows PySem.Spec PySem L2
section
variable {α β : Type} {g g1 g2 g3 : Sg} {d d' r : D} {x : Exn} {e f h : Mo D} {b : Bool} {c : Mo Bool}
theorem t_ok (he : e g = some (.ok (.bl b), g1)) : fT e g = some (.ok b, g1) := by unfold fT; rw [bd_ok he]; rfl
theorem not_ok (he : c g = some (.ok b, g1)) : fNot c g = some (.ok (!b), g1) := by unfold fNot; rw [bd_ok he]; rfl
theorem or_f {c' : Mo Bool} (he : c g = some (.ok false, g1)) : fOr c c' g = c' g1 := by unfold fOr; rw [bd_ok he]; rfl
theorem and_t {c' : Mo Bool} (he : c g = some (.ok true, g1)) : fAnd c c' g = c' g1 := by unfold fAnd; rw [bd_ok he]; rfl
theorem and_f {c' : Mo Bool} (he : c g = some (.ok false, g1)) : fAnd c c' g = some (.ok false, g1) := by unfold fAnd; rw [bd_ok he]; rfl
theorem andV_t (he : e g = some (.ok (.bl true), g1)) : fAndV e f g = f g1 := by unfold fAndV; rw [bd_ok he]; rfl
theorem f2_ok {p : D → D → Mo D} (h1 : e g = some (.ok d, g1)) (h2 : f g1 = some (.ok d', g2)) : f2 p e f g = p d d' g2 := by unfold f2; rw [bd_ok h1, bd_ok h2]
theorem ix_ok {i : Int} {cs : List D} (h1 : e g = some (.ok d, g1)) (h2 : f g1 = some (.ok (.int i), g2)) (hs : aSeq d = some cs) (ha : atI cs i = some r) : fIxD e f g = some (.ok r, g2) := by
  unfold fIxD; rw [bd_ok h1, bd_ok h2, hs]; unfold pIx; simp only [ha]; rfl
theorem lst_ok {fs : Mo (List D)} {ds : List D} (h1 : fs g = some (.ok ds, g1)) (hl : ds.length ≤ 100000) : fLst fs g = some (.ok ds, g1) := by unfold fLst; rw [bd_ok h1, if_pos hl]; rfl
theorem let_ok {fs : Mo (List D)} {ds : List D} (h1 : fs g = some (.ok ds, g1)) : fLet fs g = some (.ok (.lst ds), g1) := by unfold fLet; rw [bd_ok h1]; rfl
theorem len_ok {fs : Mo (List D)} {ds : List D} (h1 : fs g = some (.ok ds, g1)) : fLen fs g = some (.ok (.int ds.length), g1) := by unfold fLen; rw [bd_ok h1]; rfl
theorem peek_t {i : Nat} {ds : List D} (h1 : g.r[i]? = some (.dat (.tup ds))) : fPeek i g = some (.ok ds, g) := by unfold fPeek; rw [h1]
theorem peek_l {i : Nat} {ds : List D} (h1 : g.r[i]? = some (.dat (.lst ds))) : fPeek i g = some (.ok ds, g) := by unfold fPeek; rw [h1]
theorem sl_t {l u : Mo (Option Int)} {lo hi : Option Int} {cs : List D} (h1 : e g = some (.ok (.tup cs), g1)) (h2 : l g1 = some (.ok lo, g2)) (h3 : u g2 = some (.ok hi, g3)) : fSl e l u g = some (.ok (.tup (cutD cs lo hi)), g3) := by
  unfold fSl; rw [bd_ok h1, bd_ok h2, bd_ok h3]; rfl
theorem part_ok {i : Int} (h1 : e g = some (.ok (.int i), g1)) : fPart e g = some (.ok (some i), g1) := by unfold fPart; rw [bd_ok h1]; rfl
theorem forR_ok {fs : Mo (List D)} {t : Mt} {k : Ms} {n : Int} (h1 : fs g = some (.ok [.int n], g1)) (h2 : n ≤ 1000000 ∧ -1000000 ≤ n) : fForR fs t k g = loop t k (intsD n) g1 := by unfold fForR; rw [sb_ok h1]; dsimp only; rw [if_pos h2]
end
theorem loop_cons {t : Mt} {b : Ms} {d : D} {ds : List D} {g g1 g2 : Sg} (h1 : t d g = some g1) (h2 : b g1 = some (.nx, g2)) : loop t b (d :: ds) g = loop t b ds g2 := by
  show (match t d g with | none => none | some g1 => match b g1 with | some (.nx, g2) => loop t b ds g2 | some (.ct, g2) => loop t b ds g2 | some (.brk, g2) => some (.nx, g2) | o => o) = _
  rw [h1]; dsimp only; rw [h2]
theorem loop_ret {t : Mt} {b : Ms} {d r : D} {ds : List D} {g g1 g2 : Sg} (h1 : t d g = some g1) (h2 : b g1 = some (.ret r, g2)) : loop t b (d :: ds) g = some (.ret r, g2) := by
  show (match t d g with | none => none | some g1 => match b g1 with | some (.nx, g2) => loop t b ds g2 | some (.ct, g2) => loop t b ds g2 | some (.brk, g2) => some (.nx, g2) | o => o) = _
  rw [h1]; dsimp only; rw [h2]
/-- a loop all of whose turns go on -/
theorem loop_all {t : Mt} {b : Ms} (Q : Sg → Prop) : ∀ {ds : List D} {g : Sg}, (∀ d ∈ ds, ∀ g, Q g → ∃ g1 g2, t d g = some g1 ∧ b g1 = some (.nx, g2) ∧ Q g2) → Q g → ∃ g', loop t b ds g = some (.nx, g') ∧ Q g'
  | [], g, _, q => ⟨g, rfl, q⟩
  | d :: ds, g, h, q => by
    obtain ⟨g1, g2, h1, h2, q2⟩ := h d List.mem_cons_self g q
    rw [loop_cons h1 h2]
    exact loop_all Q (fun d' hd => h d' (List.mem_cons_of_mem _ hd)) q2
theorem atI_nat {α : Type} (cs : List α) (i : Nat) (h : i < cs.length) : atI cs (i : Int) = cs[i]? := by
  unfold atI ixN
  have h1 : (0 : Int) ≤ (i : Int) := by omega
  have h2 : ((i : Int)) < (cs.length : Int) := by omega
  simp [h1, h2, Int.toNat_natCast, h]
theorem cut_take {α : Type} (cs : List α) (i : Nat) (h : i ≤ cs.length) : cutD cs none (some (i : Int)) = cs.take i := by
  unfold cutD
  have e1 : HT.sIx cs.length 0 none = 0 := rfl
  have e2 : HT.sIx cs.length cs.length (some (i : Int)) = i := by
    rw [HT.sIx_nat]; omega
  rw [e1, e2]; simp
end DE
namespace DE
open PyProof.Rows PySem.Spec PySem L2
/-! ### comprehensions, texts, lambdas: equations -/
theorem comp_ok {vs : List Nat} {fi : Mo D} {t : Mt} {c : Mo Bool} {e : Mo D} {d : D} {ds es : List D} {g g1 g2 : Sg} (h1 : fi g = some (.ok d, g1)) (h2 : aSeq d = some ds) (h3 : ds.length ≤ 100000) (h4 : compL vs t c e ds ⟨wipeR g1.r vs, g1.s⟩ = some (es, g2)) : fComp vs fi t c e g = some (.ok es, g2) := by
  unfold fComp
  rw [bd_ok h1, h2]
  unfold compF
  dsimp only
  rw [if_pos h3, h4]; rfl
end DE
namespace DE
open PyProof.Rows PySem.Spec PySem L2
/-! ### rows of keys and marks -/
abbrev Pr := Int × Str
def prD (p : Pr) : D := .tup [.int p.1, .str p.2]
abbrev rowD (r : List Pr) : List D := r.map prD
def loudP (p : Pr) : Bool := !decide (p.2 = "waits")
abbrev keysOf (r : List Pr) : List Int := r.map (·.1)
theorem compL_on {α : Type} {vs : List Nat} {t : Mt} {c : Mo Bool} {e : Mo D} {E F : α → D} {P : α → Bool} {S : List Sl} {s : DS} : ∀ (l : List α), (∀ x ∈ l, ∃ g1 g2, t (E x) ⟨S, s⟩ = some g1 ∧ c g1 = some (.ok (P x), g2) ∧ (P x = true → ∃ g3, e g2 = some (.ok (F x), g3) ∧ wipeR g3.r vs = S ∧ g3.s = s) ∧ (P x = false → wipeR g2.r vs = S ∧ g2.s = s)) →
    compL vs t c e (l.map E) ⟨S, s⟩ = some ((l.filter P).map F, ⟨S, s⟩)
  | [], _ => rfl
  | x :: l, h => by
    obtain ⟨g1, g2, h1, h2, h3, h4⟩ := h x List.mem_cons_self
    have ih := compL_on l fun y hy => h y (List.mem_cons_of_mem _ hy)
    rw [List.map_cons]
    unfold compL
    rw [h1]; dsimp only; rw [h2]
    cases hp : P x with
    | true =>
      obtain ⟨g3, k1, k2, k3⟩ := h3 hp; rw [List.filter_cons_of_pos hp, List.map_cons]
      try dsimp only
      rw [k1]; dsimp only; rw [k2, k3, ih]; rfl
    | false =>
      obtain ⟨k2, k3⟩ := h4 hp
      rw [List.filter_cons_of_neg (by rw [hp]; exact Bool.false_ne_true)]
      try dsimp only
      rw [k2, k3, ih]
section
variable {g g1 : Sg} {i : Nat} {p : Pr}
end
theorem ne_str {e f : Mo D} {a b : Str} {g g1 g2 : Sg} (h1 : e g = some (.ok (.str a), g1)) (h2 : f g1 = some (.ok (.str b), g2)) : fT (f2 pNe e f) g = some (.ok (!decide (a = b)), g2) := t_ok ((f2_ok h1 h2).trans rfl)
theorem flat_ints : ∀ xs : List Int, flatA (xs.map D.int) = some (xs.map V.int)
  | [] => rfl
  | x :: xs => by simp [flatA, flat1, flat_ints xs]
theorem inV_ints (x : Int) (xs : List Int) : inV (.int x) (xs.map V.int) = xs.contains x := by
  rw [Bool.eq_iff_iff]
  unfold inV
  simp only [List.any_eq_true, List.mem_map, List.contains_iff_mem]
  constructor
  · rintro ⟨_, ⟨w, hw, rfl⟩, e⟩
    have : w = x := by simpa [eqV] using e
    exact this ▸ hw
  · intro h
    exact ⟨_, ⟨x, h, rfl⟩, by simp [eqV]⟩
theorem intsOf_map : ∀ xs : List Int, intsOf (xs.map D.int) = some xs
  | [] => rfl
  | x :: xs => by simp [intsOf, intsOf_map xs]
end DE
namespace DE
open PyProof.Rows PySem.Spec PySem L2
/-! ### rows as plain data -/
def MKS : List Str := ["sounds", "kept", "waits"]
def okR (r : List Pr) : Prop := ∀ p ∈ r, p.2 ∈ MKS
def prP (p : Pr) : PyData := .tuple [.int p.1, .str p.2]
theorem okR.tail {p : Pr} {r : List Pr} (h : okR (p :: r)) : okR r := fun q hq => h q (List.mem_cons_of_mem _ hq)
theorem okR.filter {r : List Pr} (h : okR r) (P : Pr → Bool) : okR (r.filter P) := fun p hp => h p (List.mem_filter.mp hp).1
theorem okR.app {r q : List Pr} (h : okR r) (k : okR q) : okR (r ++ q) := fun p hp => (List.mem_append.mp hp).elim (h p) (k p)
theorem pyd_pr (p : Pr) : pyd (prD p) = some (prP p) := rfl
theorem pyd_row : ∀ r : List Pr, pydA (rowD r) = some (r.map prP)
  | [] => rfl
  | p :: r => by
    show pydA (prD p :: rowD r) = _
    unfold pydA
    rw [pyd_pr, pyd_row r]; rfl
theorem mks_ok : ∀ m ∈ MKS, PyData.canLay0 (.str m) = true := by
  unfold MKS
  exact fun m hm => by
    simp only [List.mem_cons, List.not_mem_nil, or_false] at hm; rcases hm with rfl | rfl | rfl <;> kernel_rfl
theorem lay_row : ∀ {r : List Pr}, okR r → PyData.canLayAll0 (r.map prP) = true
  | [], _ => rfl
  | p :: r, h => by
    have := mks_ok p.2 (h p List.mem_cons_self)
    simp only [List.map_cons, prP, PyData.canLayAll0, PyData.canLay0, this, Bool.true_and, Bool.and_true] at *
    rw [this]
    exact lay_row h.tail
theorem dep_row : ∀ r : List Pr, PyData.depthAll (r.map prP) ≤ 1
  | [] => by (simp [PyData.depthAll])
  | p :: r => by
    have := dep_row r
    simp only [List.map_cons, prP, PyData.depthAll, PyData.depth]
    omega
theorem shaped_pr {p : Pr} (h : p.2 ∈ MKS) : SeqAt.shaped (prP p) = true := by
  have := mks_ok p.2 h
  unfold SeqAt.shaped prP
  rw [Bool.and_eq_true, decide_eq_true_eq]
  refine ⟨?_, ?_⟩
  · simp only [PyData.canLay0, PyData.canLayAll0, Bool.true_and, Bool.and_true]
    simpa [PyData.canLay0] using this
  · simp only [PyData.depth, PyData.depthAll]; decide
theorem eqv_pr (p q : Pr) : PyData.eqv (prP p) (prP q) = decide (p = q) := by
  obtain ⟨a, b⟩ := p
  obtain ⟨c, d⟩ := q
  have e : PyData.eqv (prP (a, b)) (prP (c, d)) = ((a == c) && ((b == d) && true)) := by kernel_rfl
  rw [e, Bool.and_true, Bool.eq_iff_iff]
  simp
theorem any_pr (r : List Pr) (p : Pr) : ((r.map prP).any fun z => PyData.eqv z (prP p)) = r.contains p := by
  rw [List.any_map, Bool.eq_iff_iff]
  simp only [List.any_eq_true, Function.comp_apply, eqv_pr, decide_eq_true_eq, List.contains_iff_mem]
  constructor
  · rintro ⟨q, hq, rfl⟩; exact hq
  · intro h; exact ⟨p, h, rfl⟩
end DE
namespace DE
open PyProof.Rows PySem.Spec PySem L2
open LamX (CodeO TabB Tabs lamEnv lamCx)
/-! ### the search over data -/
abbrev Nx := D → DS → Option (D × DS)
section
variable {f1 c1 f2 c2 : Addr} {q1 q2 : Str} {G1 G2 : Hp} {nx wn : Nx} {t : Option Addr} {d0 : D}
end
end DE
namespace DE
open PyProof.Rows PySem.Spec PySem L2
open LamX (CodeO TabB Tabs lamEnv lamCx)
/-! ### found_from, called with a dict of the caller's -/
/-- what its call may have done to the heap: the dict at l is another one -/
structure AftL (Γ : Gam) (l : Addr) (G H G' H' : Hp) : Prop where
  keep : ∀ a o, Γ.Ok a → a ≠ l → H a = some o → H' a = some o
  gr : Gr G G'
  sub : Gr G' H'
  gm : G' Γ.M = none
  fr : ∀ a o, H a = some o → G a = none → G' a = none
  tb : Tabs Γ.T H'
  gt : ∀ p ∈ Γ.T, G' p.1 = none
end DE
namespace DE
open PyProof.Rows PySem.Spec PySem L2
open LamX (CodeO TabB Tabs lamEnv lamCx)
/-! ### shortest -/
section
variable {X : Cx} {Γ : Gam} {W : WX} {pos p p0 p1 p2 p3 : Pos} {k : Nat}
end
end DE
namespace DE
open PyProof.Rows PySem.Spec PySem L2
open LamX (CodeO TabB Tabs lamEnv lamCx)
/-! ### shortest, called -/
/-! ### functions as arguments -/
/-- what stands stays: all but the tables -/
structure Lat (T : List (Addr × Str)) (H : Hp) (h : Heap) (H' : Hp) (h' : Heap) : Prop where
  tr : ∀ b o, (∀ p ∈ T, b ≠ p.1) → H b = some o → H' b = some o
  ob : ∀ b o, (∀ p ∈ T, b ≠ p.1) → h.get? b = some o → h'.get? b = some o
  no : ∀ b, H b = none → b < h.objs.size → H' b = none
theorem Lat.refl {T : List (Addr × Str)} (H : Hp) (h : Heap) : Lat T H h H h := ⟨fun _ _ _ z => z, fun _ _ _ z => z, fun _ z _ => z⟩
/-- an expression that is a function; mk: what it comes to, by the slots -/
def FnE (X : Cx) (Γ : Gam) (k : Nat) (e : Expr) (mk : List Sl → Nx) : Prop := ∀ (pins : List (Addr × Obj)) (s : Shared) (σ : L2.St) (H H0 G0 G : Hp) (g : Sg) (Q : Value → Shared → Prop) (c0 : Addr) (q0 : Str), L2.Inv X pins σ H s → En X.K Γ H0 G0 G H σ g → H c0 = some (CodeO c0 q0) →
  (∀ (f c : Addr) (q : Str) (H1 : Hp) (s1 : Shared), L2.Inv X pins σ H1 s1 → En X.K Γ H0 G0 G H1 σ g → Lat Γ.T H s.heap H1 s1.heap → H1 c = some (CodeO c q) →
    (∀ (H2 : Hp) (s2 : Shared), L2.Inv X pins σ H2 s2 → En X.K Γ H0 G0 G H2 σ g → Lat Γ.T H1 s1.heap H2 s2.heap → Cb X.prog X.w X.K X.mg X.base Γ k H2 s2.heap (fun b => b ∈ frs X.stack ∨ s2.heap.objs.size ≤ b) f c q G (mk g.r)) → Q (.ref f) s1) →
  wpAny (model X.prog X.w) X.A (eval e X.env) Q X.xe s
/-- .. a lambda -/
def FnL (X : Cx) (Γ : Gam) (k : Nat) (e : Expr) (mk : List Sl → Nx) : Prop := ∀ (pins : List (Addr × Obj)) (s : Shared) (σ : L2.St) (H H0 G0 G : Hp) (g : Sg) (Q : Value → Shared → Prop), L2.Inv X pins σ H s → En X.K Γ H0 G0 G H σ g →
  (∀ (f c : Addr) (q : Str) (H1 : Hp) (s1 : Shared), L2.Inv X pins σ H1 s1 → En X.K Γ H0 G0 G H1 σ g → Lat Γ.T H s.heap H1 s1.heap → H1 c = some (CodeO c q) →
    (∀ (H2 : Hp) (s2 : Shared), L2.Inv X pins σ H2 s2 → En X.K Γ H0 G0 G H2 σ g → Lat Γ.T H1 s1.heap H2 s2.heap → Cb X.prog X.w X.K X.mg X.base Γ k H2 s2.heap (fun b => b ∈ frs X.stack ∨ s2.heap.objs.size ≤ b) f c q G (mk g.r)) → Q (.ref f) s1) →
  wpAny (model X.prog X.w) X.A (eval e X.env) Q X.xe s
theorem FnL.e {X : Cx} {Γ : Gam} {k : Nat} {e : Expr} {mk : List Sl → Nx} (h : FnL X Γ k e mk) : FnE X Γ k e mk := fun pins s σ H H0 G0 G g Q _ _ I E _ go => h pins s σ H H0 G0 G g Q I E go
section
variable {X : Cx} {Γ : Gam} {W : WX} {pos p : Pos} {k : Nat} {e0 e1 e2 : Expr}
end
end DE
namespace DE
open PyProof.Rows PySem.Spec PySem L2
open LamX (CodeO TabB Tabs lamEnv lamCx)
section
variable {X : Cx} {Γ : Gam} {W : WX} {pos p : Pos}
end
end DE
namespace S
open PyProof.Rows PySem.Spec PySem L2 DE
end S
namespace DE
open PyProof.Rows PySem.Spec PySem L2
/-! ### a dict with tuple keys that is known to all, walked -/
section
variable {K : PySem.W.Frag} {Γ : Gam} {G : Hp}
end
section
variable {X : Cx} {Γ : Gam} {W : WX} {elt tg iter : Expr} {ifs : List Expr} {scope : Scope} {own : List (Str × Nat)} {pos : Pos} {body : List Stmt}
end
end DE
namespace DE
open PyProof.Rows PySem.Spec PySem L2
/-! ### a, b = [..], x -/
section
variable {X : Cx} {Γ : Gam} {W : WX} {a b c : Expr} {pos pt pt2 px py pz p2 : Pos} {kt k2 : Nat}
/-! ### d = {xs[0]: n} -/
end
end DE
namespace DE
open PyProof.Rows PySem.Spec PySem L2
/-! ### f(e, ..), its last parameters left to their defaults -/
section
variable {X : Cx} {Γ : Gam} {W : WX} {e : Expr} {es : List Expr} {pos : Pos} {k : Nat} {p : Pos}
end
section
variable {P : Program} {w : World} {K : PySem.W.Frag} {mg : Str → Option Value} {base : Heap} {x y qual : Str} {st : Stmt} {f : Addr} {fd : FuncData} {N ps ks : List Str} {k n : Nat} {Γ : Gam} {fb : Ms} {dfl : List D}
end
end DE
namespace DE
open PyProof.Rows PySem.Spec PySem L2
section
variable {X : Cx} {Γ : Gam} {W : WX} {e : Expr} {es : List Expr} {kws : List Keyword} {pos : Pos} {k : Nat}
end
end DE
namespace S
open PyProof.Rows PySem.Spec PySem L2 DE
end S
namespace DE
open PyProof.Rows PySem.Spec PySem L2
/-! ### a dict of one's own whose keys are whole numbers -/
section
variable {X : Cx} {pins : List (Addr × Obj)} {σ : L2.St} {H : Hp} {s : Shared} {l : Addr} {xs : List (Key × V)}
end
section
variable {K : PySem.W.Frag} {Γ : Gam} {H0 G0 G H : Hp} {σ : L2.St} {g : Sg}
end
section
variable {X : Cx} {Γ : Gam} {W : WX} {a b e f : Expr} {pos pos' p pt pt2 px py pd : Pos} {k kt k2 : Nat}
end
end DE
namespace DE
open PyProof.Rows PySem.Spec PySem L2 RZ
/-! ### tuples that are known to have no dict: t.index(x) -/
mutual
/-- .. taken for any tuple, however deep -/
def decD : D → D
  | .non => .non
  | .bl b => .bl b
  | .int i => .int i
  | .str s => .str s
  | .lst xs => .lst (decA xs)
  | .tup xs => .tup (decA xs)
  | .dic kvs => .dic kvs
  | .m => .m
  | .exc c v => .exc c v
  | .scr ns => .scr ns
  | .fn x => .fn x
  | .dkn kvs => .dkn kvs
  | .fzt xs => .tup (decA xs)
def decA : List D → List D
  | [] => []
  | d :: ds => decD d :: decA ds
end
section
variable {K : PySem.W.Frag} {Γ : Gam} {G : Hp}
mutual
theorem Dv.dec : ∀ {v : V} {d : D}, Dv K Γ G v d → Dv K Γ G v (decD d)
  | _, _, .non => .non
  | _, _, .bl b => .bl b
  | _, _, .int i => .int i
  | _, _, .str s => .str s
  | _, _, .lst h t => .lst h (DvA.dec t)
  | _, _, .tup h t => .tup h (DvA.dec t)
  | _, _, .dic h t => .dic h t
  | _, _, .m => .m
  | _, _, .scr h => .scr h
  | _, _, .fn h => .fn h
  | _, _, .exc h1 h2 h3 t => .exc h1 h2 h3 t
  | _, _, .exc0 h1 h2 => .exc0 h1 h2
  | _, _, .dkn h t => .dkn h t
  | _, _, .fzt h _ _ t => .tup (.inl (.inr ⟨_, h⟩)) (DvA.dec t)
theorem DvA.dec : ∀ {v : List V} {d : List D}, DvA K Γ G v d → DvA K Γ G v (decA d)
  | _, _, .nil => .nil
  | _, _, .cons h t => .cons (Dv.dec h) (DvA.dec t)
end
end
section
variable {X : Cx} {Γ : Gam} {W : WX} {a b e : Expr} {es : List Expr} {pos p : Pos}
/-! ### such tuples made -/
/-! ### t.index(k) -/
end
end DE
namespace DE
open PyProof.Rows PySem.Spec PySem L2
/-! ### list(d), d a dict with tuple keys that is known to all -/
section
variable {K : PySem.W.Frag} {Γ : Gam} {G : Hp}
end
section
variable {X : Cx} {Γ : Gam} {W : WX} {e : Expr} {pos : Pos}
end
end DE
namespace DE
open PyProof.Rows PySem.Spec PySem L2 HT
/-! ### t[::-1] of a tuple -/
section
variable {prog : Program} {w : World} {A : Around} {E : Value → Shared → Prop} {s : Shared}
end
section
variable {X : Cx} {Γ : Gam} {W : WX} {a : Expr} {pos : Pos}
end
end DE
namespace S
open PyProof.Rows PySem.Spec PySem L2 DE
end S
namespace DE
open PyProof.Rows PySem.Spec PySem L2
/-! ### raise X('m'), X an own error class without an __init__ of its own -/
/-- such a class under its name -/
def ErrX0 (K : PySem.W.Frag) (mg : Str → Option Value) (Γ : Gam) (x : Str) : Prop :=
  ∃ (C : Addr) (bmB : List Value) (B newId initId : String), ExcBaseFacts B newId initId bmB ∧ PySem.W.excIn K C bmB newId = true ∧ mg x = some (.ref C) ∧ PySem.W.keepIn K (.ref C) = true ∧
    PySem.W.subIn K (.ref C) (.type "BaseException") = some true ∧ PySem.W.typeIn K (.ref C) = some (.type "type") ∧ Γ.cl x = some (C, ("" : Str))
section
variable {X : Cx} {Γ : Gam} {W : WX} {pos pos2 p2 p : Pos} {k : Nat}
end
/-- the facts of such a class -/
structure ErrF0 (K : PySem.W.Frag) (C : Addr) : Prop where
  ex : PySem.W.excIn K C [.type "ValueError", .type "Exception", .type "BaseException", .type "object"] "ValueError.__new__" = true
  x : XfC K C
  e : ExcC K C
  s : (PySem.W.clsIn K C).isSome = true
  kC : PySem.W.keepIn K (.ref C) = true
  exC : PySem.W.subIn K (.ref C) (.type "BaseException") = some true
  tyC : PySem.W.typeIn K (.ref C) = some (.type "type")
  noF : PySem.W.findIn K (.ref C) "" = some none
theorem err0_mk {K : PySem.W.Frag} {C : Addr} (ex : PySem.W.excIn K C [.type "ValueError", .type "Exception", .type "BaseException", .type "object"] "ValueError.__new__" = true)
    (exC : PySem.W.subIn K (.ref C) (.type "BaseException") = some true) (tyC : PySem.W.typeIn K (.ref C) = some (.type "type")) (kC : PySem.W.keepIn K (.ref C) = true) (noF : PySem.W.findIn K (.ref C) "" = some none)
    (ga : PySem.W.findIn K (.ref C) "__getattribute__" = some (some (.builtin "BaseException.__getattribute__"))) (gg : PySem.W.findIn K (.ref C) "__getattr__" = some none) (hdC : PySem.W.hasDictIn K C = true) (ha : PySem.W.findIn K (.ref C) "__class__" = some (some (.builtin "object.__class__")))
    (hn : PySem.W.specialIn K (.builtin "object.__class__") "__get__" = some (some (.builtin "getset_descriptor.__get__"))) (ht : PySem.W.takesIn K (.builtin "object.__class__") = some true) (hm : PySem.W.mroIn K C (.type "object") = some true) (hs : PySem.W.isClsIn K C = true) : ErrF0 K C :=
  ⟨ex, ⟨ga, gg, exC, hdC⟩, ⟨ga, gg, exC, hdC, ha, hn, ht, hm⟩, hs, kC, exC, tyC, noF⟩
end DE
namespace DE
open PyProof.Rows PySem.Spec PySem L2 HT
/-! ### min(xs, key=len, default=None), xs a list of tuples: the first of the shortest -/
section
variable {prog : Program} {w : World} {A : Around} {E : Value → Shared → Prop} {s : Shared}
end
section
variable {X : Cx} {Γ : Gam} {W : WX} {a : Expr} {pos p kp k1 k2 dp : Pos} {ta : TE}
end
end DE
namespace DE
open PyProof.Rows PySem.Spec PySem L2 HT
/-! ### texts: str(n), sep.join(xs), f'{a}{b}', [a, *b] -/
section
variable {X : Cx} {Γ : Gam} {W : WX} {a b e o : Expr} {es : List Expr} {pos apos p k1 k2 sp_ : Pos}
end
end DE
namespace DE
open PyProof.Rows PySem.Spec PySem L2 HT
/-! ### X[e], X a dict of texts that the module holds -/
section
variable {X : Cx} {Γ : Gam} {W : WX} {e : Expr} {x : Str} {p pos : Pos} {kvs : List (Str × Str)}
end
end DE
namespace DE
open PyProof.Rows PySem.Spec PySem L2 HT
/-! ### x or y, x a text -/
section
variable {X : Cx} {Γ : Gam} {W : WX} {a b c e : Expr} {es rest : List Expr} {pos : Pos}
end
end DE
namespace DE
open PyProof.Rows PySem.Spec PySem L2 HT
/-! ### texts read: t.split(s), t[i], t[i:j], a in t, int(t), len(t), x in X, bool(t) -/
section
variable {X : Cx} {Γ : Gam} {W : WX} {a b e o : Expr} {es : List Expr} {pos apos p p2 : Pos} {x : Str} {kvs : List (Str × Str)}
end
end DE
namespace DE
open PyProof.Rows PySem.Spec PySem L2 HT
/-! ### [.. for letter in text] -/
section
variable {X : Cx} {Γ : Gam} {W : WX} {elt tg iter : Expr} {ifs : List Expr} {scope : Scope} {own : List (Str × Nat)} {pos : Pos}
end
end DE
namespace DE
open PyProof.Rows PySem.Spec PySem L2
/-! ### x(e, ..) and x(e, .., k = v, ..), x a name that holds a def with a default -/
section
variable {P : Program} {w : World} {K : PySem.W.Frag} {mg : Str → Option Value} {base : Heap} {Γ : Gam} {j k n : Nat} {ks : List Str} {dfl : List D}
theorem KfB.mono {x : Str} {sp : Sp} (h : KfB P w K mg base j x n ks dfl sp) (hk : j ≤ k) : KfB P w K mg base k x n ks dfl sp :=
  let ⟨f, fd, ps, a, b⟩ := h
  ⟨f, fd, ps, a.mono hk, b⟩
end
section
variable {X : Cx} {Γ : Gam} {W : WX} {e : Expr} {es : List Expr} {kws : List Keyword} {pos : Pos} {k : Nat}
end
end DE
namespace DE
open PyProof.Rows PySem.Spec PySem L2
/-! ### {e for t in xs for t1 in ys if c}: a set of whole numbers -/
section walk
variable {X : Cx} {pins : List (Addr × Obj)} {σ : L2.St} {tg : Expr} {J : It} {fp : List Addr} {it : Addr} {tn : Nat → Heap → Prop} {W : Nat → Nat → Hp → Prop} {Fin : Hp → Prop} {Step : V → Hp → (Hp → Prop) → Prop}
end walk
/-! #### the loops -/
section loops
variable {prog : Program} {w : World} {A : Around} {R : Result → Shared → Prop} {s : Shared} {elt t0 i0 t1 i1 : Expr} {f0 f1 : List Expr} {scope : Scope} {pos : Pos} {it acc : Value} {env : Env}
/-- the tests of a clause -/
@[reducible] def tst (fs : List Expr) (env : Env) : Sem Bool := forIn fs true fun c r => if r = true then do
    let ok ← isTrue c env (eval c env)
    pure (ForInStep.yield ok) else pure (ForInStep.yield r)
end loops
section core
variable {X : Cx} {elt tg iter tg1 iter1 : Expr} {ifs ifs1 : List Expr} {scope : Scope} {own : List (Str × Nat)} {vs1 : List Nat} {pos : Pos} {wi wi1 : TI} {g g1 : TG} {tt tt1 : TT} {te : TE}
end core
end DE
namespace DE
open PyProof.Rows PySem.Spec PySem L2
/-! ### sorted({p + 1 for row in rows for p, held in enumerate(row) if held is not None}) -/
abbrev SL (w : World) (D : Addr) (L : List Int) : HO := SetO w D (fun j => decide (j ∈ L)) L.length
theorem few60 {L : List Int} (h : L.Nodup) (b : ∀ z ∈ L, 1 ≤ z ∧ z ≤ 60) : L.length ≤ 60 := by
  have : L.length ≤ ((List.range 60).map fun (i : Nat) => (i : Int) + 1).length := List.Nodup.length_le_of_subset h fun z hz => by
    have := b z hz
    exact List.mem_map.mpr ⟨(z - 1).toNat, List.mem_range.mpr (by omega), by omega⟩
  rwa [List.length_map, List.length_range] at this
theorem upd_swap {H : Hp} {a b : Addr} {o u : HO} (n : a ≠ b) : upd (upd H a o) b u = upd (upd H b u) a o := by
  funext c
  unfold upd
  by_cases h1 : c = a
  · by_cases h2 : c = b
    · exact absurd (h1.symm.trans h2) n
    · simp [h1, n]
  · by_cases h2 : c = b
    · simp [h2, Ne.symm n]
    · simp [h1, h2]
section walk
variable {K : PySem.W.Frag} {Γ : Gam} {H0 G0 G1 : Hp} {σ : L2.St} {g1 : Sg} {w : World} {Dl : Addr}
/-- the heap as it is, but for the set -/
def AtL (K : PySem.W.Frag) (Γ : Gam) (H0 G0 G1 : Hp) (σ : L2.St) (g1 : Sg) (w : World) (Dl : Addr) (H : Hp) (L : List Int) : Prop :=
  ∃ G H', Gr G1 G ∧ En K Γ H0 G0 G H' σ g1 ∧ H' Dl = none ∧ H = upd H' Dl (SL w Dl L) ∧ L.Nodup ∧ ∀ z ∈ L, 1 ≤ z ∧ z ≤ 60
theorem AtL.sq {H : Hp} {L : List Int} (h : AtL K Γ H0 G0 G1 σ g1 w Dl H L) {a : Addr} {xs : List V} (q : SqT K G1 a xs) : SqT K H a xs := by
  obtain ⟨G, H', gr, E, hn, rfl, _, _⟩ := h
  exact (Gr.upd hn).sqT (E.sub.sqT (gr.sqT q))
theorem AtL.pair {H : Hp} {L : List Int} (h : AtL K Γ H0 G0 G1 σ g1 w Dl H L) {T : Addr} (o : HO) (hT : H T = none) : AtL K Γ H0 G0 G1 σ g1 w Dl (upd H T o) L := by
  obtain ⟨G, H', gr, E, hn, rfl, nd, b⟩ := h
  have ne : T ≠ Dl := by rintro rfl; rw [upd_same] at hT; cases hT
  have hT' : H' T = none := by rwa [upd_ne ne] at hT
  exact ⟨G, upd H' T o, gr, E.newO hT', by rw [upd_ne (Ne.symm ne)]; exact hn, upd_swap (Ne.symm ne), nd, b⟩
theorem AtL.set {H : Hp} {L : List Int} (h : AtL K Γ H0 G0 G1 σ g1 w Dl H L) : H Dl = some (SL w Dl L) ∧ L.length + 1 < scanBound := by
  obtain ⟨G, H', gr, E, hn, rfl, nd, b⟩ := h
  refine ⟨upd_same, ?_⟩
  have := few60 nd b
  exact Nat.lt_of_le_of_lt (Nat.succ_le_succ this) (by unfold scanBound; decide)
variable {i0 i1 i2 : Nat} {vs vs1 : List Nat}
end walk
section
variable {X : Cx} {Γ : Gam} {W : WX} {elt tg iter tg1 iter1 : Expr} {ifs ifs1 : List Expr} {scope : Scope} {own : List (Str × Nat)} {vs1 : List Nat} {pos pos2 p : Pos}
end
end DE
namespace DE
open PyProof.Rows PySem.Spec PySem L2
/-! ### x, y = a, b by a tuple that is made, y's list one's own -/
section
variable {X : Cx} {Γ : Gam} {W : WX} {a b : Expr} {pos pt pt2 px py : Pos} {kt k2 : Nat}
end
end DE
namespace DE
open PyProof.Rows PySem.Spec PySem L2
/-! ### tuple(xs) of a list, known to have no dict -/
section
variable {X : Cx}
end
section
variable {X : Cx} {Γ : Gam} {W : WX} {e : Expr} {pos : Pos}
end
/-! ### sorted(set(xs)), few different ones -/
section
variable {X : Cx} {Γ : Gam} {W : WX} {a : Expr} {pos : Pos}
end
end DE
namespace DE
open PyProof.Rows PySem.Spec PySem L2
/-! ### X(e) as a value: an error that nobody raises -/
section
variable {X : Cx} {Γ : Gam} {W : WX} {e : Expr} {pos p : Pos} {k : Nat}
theorem pe_made {t : L2.St → Hp → XK → Prop} (hex : X.ex = []) (he : PMk X e t) : PE X e (fun σ H Q => t σ H fun cls d H' => ∃ C, cls = .ref C ∧ ∀ a, H' a = none → Q (.ref a) (upd H' a (xob a C d))) := by
  refine ⟨fun pins s σ H Q I h => ?_⟩; refine thn (he pins s σ H _ I h) fun u s1 ⟨a, oe, vs, sI, H', cls, d, eu, J, kp, sIn, ha, hz, hd, h1, na, os, ag, r, C, ec, q⟩ => ?_
  subst eu ec
  have J1 : L2.Inv X pins σ H' s1 := J.landed (B := sI.heap) (fun b o e _ => e) (fun b o e => kp b o e) (fun b o e _ => ⟨o.slots, kp b o e⟩) os ag
  have new0 : X.s_0.heap.get? a = none := by
    cases e : (X.s_0.heap).get? a with
    | none => rfl
    | some o =>
      obtain ⟨o', z⟩ := J.base.there a o e (by rw [hex]; exact fun z => nomatch z)
      rw [sIn] at z; cases z
  have offL : a ≠ X.env.locals := fun z => by
    obtain ⟨m, hns, _⟩ := J.loc
    have hlt := J.lt
    rw [← z] at hlt
    obtain ⟨o, ho⟩ : ∃ o, sI.heap.get? a = some o := by
      obtain ⟨o, es, ep, ho, _⟩ := hns
      exact ⟨o, by rw [z]; exact ho⟩
    rw [sIn] at ho; cases ho
  have nP : ∀ p ∈ X.pn ++ pins, p.1 ≠ a := fun p hp z => by
    have q := (J.pin p hp).1
    rw [z, sIn] at q; cases q
  have T := inv_track (o := xob a C d) J1 na new0 offL (fun y cy ey z => by
    obtain ⟨w, ow, z1, z2⟩ := J.cell y cy ey
    have z1' : sI.heap.get? cy = some ow := z1
    rw [z, sIn] at z1'; cases z1') nP (xob_ok ha hz hd)
  exact ⟨.ref a, _, T, rfl, q a na⟩
def fMkE (c : Str) (f : Mo D) : Mo D := bd f fun d => rt (.exc c d)
theorem d_mkE {x : Str} {f : Mo D} (R : ErrX X.prog X.w X.K X.mg X.base Γ x) (C : Ct X W k) (hk : 2 ≤ k) (hg : Gl X x) (ha : DX X Γ W e f) (hex : X.ex = [] := by rfl) (hdb : (x == ("__debug__" : Str)) = false := by decide)
    (he : starEach [e] X.env = (false, eval e X.env) :: starEach [] X.env := by rfl) (hpl : (backTo pos (starEach [] X.env)).any (·.1) = false := by rfl) : DX X Γ W (.Call (.Name x p) [e] [] pos) (fMkE x f) := by
  obtain ⟨Cl, fI, fld, par, txt, qual, fd, hm, hcl, hsup, R⟩ := R
  refine (pe_made hex (pmk_oex (k := 1) R.T R.iC R.tI (fn_init R hsup) (C.room.mono hk) R.bnd (dvs := []) (ds := []) .nil ?_ hg hm (pa_cons ha pa_nil he) hdb he hpl)).imp fun σ H Q h => ?_
  · intro pins σ H s u s' _ cx
    obtain ⟨_, _, _, _, _, _, _, _, _, _, _, _, z⟩ := cx
    exact z.elim
  · refine h.bind fun H0 G0 d v g1 G1 H1 r1 h1 => ⟨by show 1 ≤ 1000; decide, fun a0 ha0 => ?_⟩
    refine ⟨a0, v, rfl, upd_same, fun dx hdx hne => ⟨rfl, dx, [(fld, v)], upd_same, ?_, ?_, ?_⟩⟩
    · rw [upd_ne hne, upd_same]
    · rw [upd_ne hne] at hdx; exact hdx
    · rw [upd_ne hne] at hdx
      rw [upd_two ha0 hne]
      refine ⟨Cl, rfl, fun a na => ?_⟩
      obtain ⟨E, o, g', e, q⟩ := h1
      cases e
      have g1 : G1 dx = none := by
        cases z : G1 dx with
        | none => rfl
        | some u => rw [E.sub _ _ z] at hdx; cases hdx
      have E2 := E.new (o := .xd [(fld, v)]) hdx
      have g2 : upd G1 dx (.xd [(fld, v)]) a = none := by
        cases z : upd G1 dx (.xd [(fld, v)]) a with
        | none => rfl
        | some u => rw [E2.sub _ _ z] at na; cases na
      have E3 := E2.new (o := xob a Cl (some dx)) na
      have hda : dx ≠ a := fun z => by rw [← z, upd_same] at na; cases na
      exact q _ _ _ ((Gr.upd g1).trans (Gr.upd g2)) E3 (Dv.exc hcl upd_same (by rw [upd_ne hda, upd_same]) (Dv.mono ((Gr.upd g1).trans (Gr.upd g2)) r1))
/-- .. of a class without an __init__ of its own -/
def fMkE0 (c : Str) : Mo D := rt (.exc c .non)
end
end DE
namespace DE
open PyProof.Rows PySem.Spec PySem PySem.W PySem.Calls PySem.HandSPX
/-! ### X(k = v): an own error, its argument by name -/
section
variable {prog : Program} {w : World} {A : Around} {E : Value → Shared → Prop} {R : Result → Shared → Prop} {h : Heap} {g : Array GenState} {d : Drawn} {t : Nat} {os : OsState}
variable {nm q : Str} {C N : Addr} {bs bm bmB : List Value} {hdct : Bool} {sn : List Str} {sub : List Value} {ab : Bool} {col : Option Bool} {dd : Option Addr} {k0 k1 k2 k3 k5 : Option Value} {B newId initId : String} {ky : Str} {kv : Value}
theorem chkK (F : ExcBaseFacts B newId initId bmB) (hT : ∀ X : String, bm.contains (.type X) = bmB.contains (.type X)) {M : Model} {Q : Unit → Shared → Prop}
    (hC : h.get? C = some (excClassObj nm q C N bs bm hdct sn sub ab col dd k0 k1 k2 k3 k5 newId)) (hq : Q () ⟨h, g, d, t, os⟩) : wpAny M A (checkBuiltinCall newId ⟨[.ref C], [(ky, kv)]⟩) Q E ⟨h, g, d, t, os⟩ := by
  have hB : (Value.ref C :: bm).contains (.type B) = true := by rw [List.contains_cons, hT, F.hasB, Bool.or_true]
  have hs := F.noStar; simp only [checkBuiltinCall, F.newKind, F.newSplit, F.newRow]
  repeat (first | refine wpAny_loadPart_at hC ?_ | (refine wpAny_isSubtype_exc hC ?_; rw [hB]) | refine wpAny_staticBase_exc hC ?_ | refine wpAny_madeBy_exc hC ?_ | simp only [bne_self_eq_false, Bool.false_eq_true, if_false] | wp_step)
  exact hq
theorem newK (F : ExcBaseFacts B newId initId bmB) (hT : ∀ X : String, bm.contains (.type X) = bmB.contains (.type X))
    (hC : h.get? C = some (excClassObj nm q C N bs bm hdct sn sub ab col dd k0 k1 k2 k3 k5 newId))
    (hq : R (.ok (.ret (.ref (h.objs.size + 1)))) ⟨(h.push (kdv_tup [])).push (excO C h.objs.size), g, d, t, os⟩) :
    codeAny (model prog w) A (.builtin newId ⟨[.ref C], [(ky, kv)]⟩) R ⟨h, g, d, t, os⟩ := by
  have he := F.ends
  have c1 : (Value.ref C :: bm).contains (.type B) = true := by rw [List.contains_cons, hT, F.hasB, Bool.or_true]
  have c2 : (Value.ref C :: bm).contains (.type "AttributeError") = false := by rw [List.contains_cons, hT, F.noAttr]; rfl
  have c3 : (Value.ref C :: bm).contains (.type "NameError") = false := by rw [List.contains_cons, hT, F.noName]; rfl
  have hrest : ([] : List Value).length ≤ sizeLine := Nat.zero_le _
  refine codeAny_builtinAt F.entry ?_; unfold Builtin.«BaseException.__new__»
  refine PySem.wpAt_bind ?_; show PySem.wpAt _ _ _ (stack >>= _) _ _ _
  refine PySem.wpAt_bind (PySem.wpAt_stack fun p below => PySem.wpAt_of_wpAny ?_)
  wp_walk
  refine PySem.wpAt_of_wpAny ?_; rw [F.owner]
  repeat (first | with_reducible refine wpAny_madeHere_exc F.canon hC ?_ | with_reducible refine wpAny_loadPart_at hC ?_ | (with_reducible refine wpAny_isSubtype_exc hC ?_; first | rw [c1] | rw [c2] | rw [c3]) | wp_step)
  show R _ _
  rw [Heap.size_push]; exact hq
theorem typeK (F : ExcBaseFacts B newId initId bmB) (hT : ∀ X : String, bm.contains (.type X) = bmB.contains (.type X)) {fI : Addr} {Q : PySem.Fin → Shared → Prop}
    (hC : h.get? C = some (excClassObj nm q C N bs bm hdct sn sub ab col dd k0 k1 k2 k3 k5 newId))
    (hi : PySem.W.Looks (model prog w) h (typeLookup (.ref C) "__init__") (some (.ref fI))) (hb : ∀ self, PySem.W.Looks (model prog w) h (bindSpecial (.ref fI) self) (.ref fI, [self]))
    (hq : codeAny (model prog w) A (.call (.ref fI) ⟨[.ref (h.objs.size + 1)], [(ky, kv)]⟩)
      (fun r s' => match r with | .ok (.ret v) => v = .none ∧ Q (.done (.ret (.ref (h.objs.size + 1)))) s' | .ok _ => False | .error e => E e s')
      ⟨(h.push (kdv_tup [])).push (excO C h.objs.size), g, d, t, os⟩) :
    wpAny (model prog w) A (Builtin.«type.__call__» ⟨[.ref C], [(ky, kv)]⟩) Q E ⟨h, g, d, t, os⟩ := by
  repeat (first | with_reducible refine wpAny_loadPart_at hC ?_ | with_reducible refine wpAny_madeBy_exc hC ?_ | wp_step)
  refine codeAny_call_builtin_code (Code.quiet_builtin _ F.quiet) (chkK F hT hC ?_)
  refine newK F hT hC ?_; show wpAny _ _ _ _ _ _
  have kk : ∀ b o, h.get? b = some o → ((h.push (kdv_tup [])).push (excO C h.objs.size)).get? b = some o := fun b o e => Heap.get?_push_of_some _ (Heap.get?_push_of_some _ e)
  have hC2 := kk _ _ hC
  have hg2 : ((h.push (kdv_tup [])).push (excO C h.objs.size)).get? (h.objs.size + 1) = some (excO C h.objs.size) := by heap_get
  have hcC : (Value.ref C :: bm).contains (.ref C) = true := by simp
  have i2 := hi.keeps kk; have b2 := (hb (.ref (h.objs.size + 1))).keeps kk
  unfold isInstance
  repeat (first | with_reducible refine wpAny_loadPart_at hg2 ?_ | (with_reducible refine wpAny_isSubtype_exc hC2 ?_; rw [hcC]) | wp_step)
  show wpAny _ _ (typeLookup (.ref C) _) _ _ _; refine i2.at ?_
  refine wpAny_holding (wpAny_bind (b2.at ?_))
  refine wpAny_bind (wpAny_call (codeAny_mono hq fun r s' z => ?_)); rcases r with e | (v | _ | _ | _) <;> first | exact z | exact z.elim | skip
  obtain ⟨rfl, z⟩ := z
  first
    | exact wpAny_pure (wpAny_pure z)
    | (wp_walk; exact z)
theorem callK (F : ExcBaseFacts B newId initId bmB) (hT : ∀ X : String, bm.contains (.type X) = bmB.contains (.type X)) {fI : Addr}
    (hC : h.get? C = some (excClassObj nm q C N bs bm hdct sn sub ab col dd k0 k1 k2 k3 k5 newId))
    (hi : PySem.W.Looks (model prog w) h (typeLookup (.ref C) "__init__") (some (.ref fI))) (hb : ∀ self, PySem.W.Looks (model prog w) h (bindSpecial (.ref fI) self) (.ref fI, [self]))
    (hq : codeAny (model prog w) (A.under (.builtin "type.__call__" ⟨[.ref C], [(ky, kv)]⟩)) (.call (.ref fI) ⟨[.ref (h.objs.size + 1)], [(ky, kv)]⟩) (PySem.W.InitBack (h.objs.size + 1) R)
      ⟨(h.push (kdv_tup [])).push (excO C h.objs.size), g, d, t, os⟩) :
    codeAny (model prog w) A (.call (.ref C) ⟨[], [(ky, kv)]⟩) R ⟨h, g, d, t, os⟩ := by
  have f1 := tc_lookup
  have f2 := tc_bind (.ref C)
  have hTy : (⟨h, g, d, t, os⟩ : Shared).TypeIs (.ref C) "type" := ⟨_, hC, rfl⟩; refine codeAny_of_tree ?_; show wpAny _ _ (callAny (.ref C) _) _ _ _
  repeat (any_goals (first | assumption | with_reducible refine wpAny_loadPart_at hC ?_ | wp_step))
  refine ⟨rfl, ?_⟩
  refine codeAny_call_builtin_at (Code.quiet_builtin _ (by decide +kernel)) entry_typeCall (wpAny_check_type_call_sub hC (typeK F hT hC hi hb ?_))
  refine codeAny_mono hq fun r s' z => ?_; rcases r with e | (v | _ | _ | _) <;> exact z
end
end DE
namespace DE
open PyProof.Rows PySem.Spec PySem L2
/-! ### X(k = e) as a value -/
/-- an own error class, its field also by name -/
def ErrXK (P : Program) (w : World) (K : PySem.W.Frag) (mg : Str → Option Value) (base : Heap) (Γ : Gam) (x par : Str) : Prop :=
  ∃ (C fI : Addr) (fld txt qual : Str) (fd : FuncData), mg x = some (.ref C) ∧ Γ.cl x = some (C, fld) ∧ mg "super" = none ∧ ErrC P K C fI fld par txt qual fd ∧ (∀ u z : Value, bindArgs fd ⟨[u], [(par, z)]⟩ = pure ((["self", par] : List Str).zip [u, z]))
theorem ErrXK.x {P : Program} {w : World} {K : PySem.W.Frag} {mg : Str → Option Value} {base : Heap} {Γ : Gam} {x par : Str} (h : ErrXK P w K mg base Γ x par) : ErrX P w K mg base Γ x :=
  let ⟨C, fI, fld, txt, qual, fd, a, b, c, d, _⟩ := h
  ⟨C, fI, fld, par, txt, qual, fd, a, b, c, d⟩
def tMkK (C : Addr) (sp : Sp) (te : TE) : L2.St → Hp → XK → Prop := fun σ H Q => te σ H fun v H1 => ∀ a, H1 a = none → sp [.ref a, v] (upd H1 a (exo a C none))
  (fun v H2 => v = .non ∧ ∃ (d : Addr) (fs : List (Str × V)), H2 a = some (exo a C (some d)) ∧ H2 d = some (exd d fs) ∧ H1 d = none ∧ Q (.ref C) (some d) (upd (del H2 a) d (.xd fs))) (fun _ _ _ => False)
section
variable {X : Cx} {Γ : Gam} {W : WX} {e : Expr} {pos p kpos : Pos} {k : Nat}
theorem pmk_kw {CX : CXT} {x par : Str} {C fI : Addr} {fd : FuncData} {sp : Sp} {te : TE} (T : OexC X.K C) (iC : PySem.W.findIn X.K (.ref C) "__init__" = some (some (.ref fI))) (tI : PySem.W.typeIn X.K (.ref fI) = some (.type "function"))
    (F1 : FnOk X.prog X.w X.K X.mg X.base CX k fI fd ["self", par] sp) (hr : Room (k + 1) X.A) (hbk : ∀ u z : Value, bindArgs fd ⟨[u], [(par, z)]⟩ = pure ((["self", par] : List Str).zip [u, z])) (hx : Passes CX X (fun _ _ _ => False)) (hg : Gl X x) (hm : X.mg x = some (.ref C)) (ha : PE X e te)
    (hdb : (x == ("__debug__" : Str)) = false := by decide) (hall : (backToKw pos (keywordEach [⟨some par, e, kpos⟩] X.env)).all (·.1.isSome) = true := by rfl) (hks : (backToKw pos (keywordEach [⟨some par, e, kpos⟩] X.env)).filterMap (·.1) = [par] := by rfl)
    (hpl : ((backTo pos (starEach [] X.env)).any (·.1) || (backToKw pos (keywordEach [⟨some par, e, kpos⟩] X.env)).any (·.1.isNone)) = false := by rfl) :
    PMk X (.Call (.Name x p) [] [⟨some par, e, kpos⟩] pos) (tMkK C sp te) := by
  intro pins s σ H Q I h
  obtain ⟨nm, q, N, bs, bm, sn, sub, ab, col, dd, k0, k1, k2, k3, k5, hC, hbm⟩ := T.cls; refine wpAny_Call_Name_kw (ld_glob I hg hm ?_ hdb)
  refine PySem.W.callWith_KW0 (h₀ := X.base) I.ok.mod.kin T.kC hall ?_ hpl
  let T1 : V → Hp → Prop := fun v H1 => ∀ a, H1 a = none → sp [.ref a, v] (upd H1 a (exo a C none))
    (fun v H2 => v = .non ∧ ∃ (d : Addr) (fs : List (Str × V)), H2 a = some (exo a C (some d)) ∧ H2 d = some (exd d fs) ∧ H1 d = none ∧ Q (.ref C) (some d) (upd (del H2 a) d (.xd fs))) (fun _ _ _ => False)
  refine thn ((pk_cons (nm := some par) (kpos := kpos) ha pk_nil).run pos pins s σ H (fun vs H1 => match vs with | [v] => T1 v H1 | _ => False) I h) fun us s1 ⟨vs, H1, I1, r1, q1⟩ => ⟨I1.kIn, ?_⟩
  rw [hks]
  obtain ⟨v, u, rfl, rfl, rv⟩ : ∃ v u, vs = [v] ∧ us = [u] ∧ RelV v u := by
    cases r1 with
    | nil => exact q1.elim
    | cons r0 rr =>
      cases rr with
      | nil => exact ⟨_, _, rfl, rfl, r0⟩
      | cons _ _ => exact q1.elim
  have q1 : T1 v H1 := q1
  show wpAny _ _ (call (.ref C) [] [(par, u)]) _ _ _
  obtain ⟨hp, g, dr, tk, os⟩ := s1; have hsz : hp.objs.size ≤ hp.objs.size + 1 := Nat.le_succ _
  have hn : H1 (hp.objs.size + 1) = none := I1.hok.fresh hsz; have hq := q1 (hp.objs.size + 1) hn
  have kk : ∀ b o, hp.get? b = some o → ((hp.push (PySem.W.kdv_tup [])).push (PySem.HandSPX.excO C hp.objs.size)).get? b = some o := fun b o e => Heap.get?_push_of_some _ (Heap.get?_push_of_some _ e)
  have hget : ((hp.push (PySem.W.kdv_tup [])).push (PySem.HandSPX.excO C hp.objs.size)).get? (hp.objs.size + 1) = some (PySem.HandSPX.excO C hp.objs.size) := by heap_get
  have I2 : L2.Inv X pins σ (upd H1 (hp.objs.size + 1) (exo (hp.objs.size + 1) C none)) ⟨(hp.push (PySem.W.kdv_tup [])).push (PySem.HandSPX.excO C hp.objs.size), g, dr, tk, os⟩ :=
    I1.laid (t' := tk) (a := hp.objs.size + 1) (o := exo (hp.objs.size + 1) C none) (h' := (hp.push (PySem.W.kdv_tup [])).push (PySem.HandSPX.excO C hp.objs.size)) kk hsz (exo_ok hget)
  have r2 : Vals [V.ref (hp.objs.size + 1), v] [Value.ref (hp.objs.size + 1), u] := .cons rfl (.cons rv .nil)
  refine wpAny_call (callK PySem.F.excBase_ValueError (fun Y => PySem.HandSPX.refsVE_contains Y bm hbm) (I1.kIn _ _ hC) (PySem.W.looks_findIn I1.kIn iC) (fun self => PySem.W.bind_fn I1.kIn self tI)
    (codeAny_mono (F1.run _ X.stack _ _ ⟨[Value.ref (hp.objs.size + 1)], [(par, u)]⟩ [Value.ref (hp.objs.size + 1), u] _ _ (fun _ _ _ => False) (hr.make C [] [(par, u)]) (I2.env0.make C [] [(par, u)]) (.of_eq (hbk _ _)) r2 hq) fun r s' hq' => ?_))
  cases r with
  | error er => exact hx pins σ _ _ er s' I2 hq'
  | ok fl =>
    cases fl with
    | ret u' =>
      obtain ⟨v', H2, os2, bare2, un2, hok2, rv', ev, d, fs, ea, ed, hd1, q2⟩ := hq'
      subst ev
      obtain ⟨h2, g2, d2, t2, os'⟩ := s'; exact ⟨rv', mk_end (raises_own T.exC T.tyC) I1 hsz kk un2 hok2 os2 bare2 ea ed hd1 q2⟩
    | next => exact False.elim hq'
    | brk => exact False.elim hq'
    | cont => exact False.elim hq'
end
end DE
/-! ### own error classes below LookupError -/
namespace DE
open PyProof.Rows PySem.Spec PySem L2
open NdefX (NF envF ncx startF NScope CellsAt inv_startN)
abbrev leTail : List Value := [.type "LookupError", .type "Exception", .type "BaseException", .type "object"]
structure OexL (K : PySem.W.Frag) (C : Addr) : Prop where
  cls : ∃ nm q N bs sn sub ab col dd k0 k1 k2 k3 k5, K.lookup C = some (excClassObj nm q C N bs leTail true sn sub ab col dd k0 k1 k2 k3 k5 "LookupError.__new__")
  sa : PySem.W.findIn K (.ref C) "__setattr__" = some (some (.builtin "object.__setattr__"))
  exC : PySem.W.subIn K (.ref C) (.type "BaseException") = some true
  tyC : PySem.W.typeIn K (.ref C) = some (.type "type")
  kC : PySem.W.keepIn K (.ref C) = true
section
open PySem.Calls PySem.HandSPX PySem.Builtin PySem.Builtin.ObjectAttr
variable {prog : Program} {w : World} {A : Around} {E : Value → Shared → Prop} {R : Result → Shared → Prop} {hp : Heap} {g : Array GenState} {d : Drawn} {t : Nat} {os : OsState}
theorem osaL {K : PySem.W.Frag} {name : Str} {tk : Tok} {v : Value} {x C : Addr} {fv : Array Value} {cd : ClassData} (X : K.In hp) (hx : hp.get? x = some { cls := .ref C, data := .fields fv }) (hcd : PySem.W.clsIn K C = some cd) (hm : cd.mro = .ref C :: leTail) (hh : cd.hasDict = true) (ha : PySem.W.findIn K (.ref C) name = some none)
    (hq : ∀ h' tk' dx, (∀ b o, b ≠ x → hp.get? b = some o → h'.get? b = some o) → hp.objs.size ≤ dx → dx ≠ x → h'.get? x = some { cls := .ref C, dict := some dx, data := .fields fv } → h'.Ns1 dx (fun y => if y = name then some v else none) → R (.ok (.ret .none)) ⟨h', g, d, tk', os⟩) :
    codeAny (model prog w) A (.call (.builtin "object.__setattr__") ⟨[.ref x, .str name tk, v], []⟩) R ⟨hp, g, d, t, os⟩ := by
  have J : PySem.W.InstAt hp x { cls := .ref C, data := .fields fv } C none := ⟨hx, rfl, rfl, trivial⟩
  have SF := PySem.F.store_object; have n0 : cd.mro.isEmpty = false := by rw [hm]; rfl
  have ob : cd.mro.contains (.type "object") = true := by rw [hm]; rfl
  have xs : x ≠ hp.objs.size := Nat.ne_of_lt (Heap.lt_size hx)
  have sub : PySem.W.Looks (model prog w) hp (isInstance (.ref x) (.type "object")) true := J.type.andThen (PySem.W.looks_mroIn X (by unfold PySem.W.mroIn; rw [hcd, Option.bind_some, if_neg (by rw [n0]; decide), ob]))
  refine codeAny_call_builtin SF.slot.plain SF.entry (@PySem.W.check_slot (model prog w) _ _ ⟨hp, g, d, t, os⟩ "object.__setattr__" "object" "__setattr__" (.ref x) [.str name tk, v] [] _ SF.kind SF.split sub (SF.args (.ref x) (.str name tk) v) ?_)
  have mr : PySem.W.Looks (model prog w) hp (mroOf (.ref C)) cd.mro := (PySem.W.looks_clsIn X hcd).andThen .now
  have L3 : PySem.W.Looks (model prog w) hp (storeTaker? none) none := .now
  have hcls : PySem.W.Looks (model prog w) hp (classData C) cd := PySem.W.looks_clsIn X hcd
  rw [PySem.W.osa_eq, refuse_eq]; refine wpAny_bind (wpAny_bind (J.type.at (wpAny_bind (mr.at ?_))))
  rw [hm, refuseLoop_ref, PySem.F.store_LookupError.passes]
  refine wpAny_pure (wpAny_bind (J.type.at (wpAny_bind ((PySem.W.looks_findIn X ha).at (wpAny_bind (L3.at ?_)))))); show wpAny _ _ (storeInOwnDict (.ref x) (.ref C) (.str name tk) name v false) _ _ _; obtain ⟨nm, bs, mro, ns, qn, hd, sn, sb, ab, col, del⟩ := cd
  dsimp only at hh; subst hh
  unfold storeInOwnDict ownDictForStores
  repeat (first | with_reducible refine store_in_new ?_ ?_ | with_reducible refine wpAny_loadPart_at hx ?_ | with_reducible refine hcls.at ?_ | wp_step)
  · exact ⟨_, #[], _, (Heap.get?_update_ne _ _ _ _ xs.symm).trans (Heap.get?_push_at rfl rfl), rfl, fun e he => absurd he (by simp), fun _ => rfl⟩
  · intro h' tk' hn' hs; have hx2 : (hp.push { cls := .type "dict", data := .dict #[] }).get? x = some { cls := .ref C, data := .fields fv } := Heap.get?_push_of_some _ hx
    refine hq h' tk' hp.objs.size (fun b o hb ho => ?_) (Nat.le_refl _) xs.symm ?_ hn'
    · exact (hs.2 b (Nat.ne_of_lt (Heap.lt_size ho))).trans ((Heap.get?_update_ne _ _ _ _ hb).trans (Heap.get?_push_of_some _ ho))
    · exact (hs.2 x xs).trans (Heap.get?_update_self _ hx2 rfl)
end
end DE
namespace DE
open PyProof.Rows PySem.Spec PySem L2
open NdefX (NF envF ncx startF NScope CellsAt inv_startN)
section
variable {X : Cx} {pins : List (Addr × Obj)} {σ : L2.St} {H : Hp} {s : Shared} {a C dx : Addr} {f : Str} {y : V} {u : Value} {Q : Unit → Shared → Prop} {E : Value → Shared → Prop} {A : Around} {o e : Expr} {to te : TE} {p' pos : Pos}
/-- self.f = y on such an error -/
theorem ost_newL (T : OexL X.K C) (I : L2.Inv X pins σ H s) (ea : H a = some (exo a C none)) (hno : PySem.W.findIn X.K (.ref C) f = some none) (ry : RelV y u)
    (h : ∀ dx s', H dx = none → dx ≠ a → L2.Inv X pins σ (upd (upd H dx (exd dx [(f, y)])) a (exo a C (some dx))) s' → Q () s') : wpAny (model X.prog X.w) A (setAttr (.ref a) f u) Q E s := by
  obtain ⟨nm, q, N, bs, sn, sub, ab, col, dd, k0, k1, k2, k3, k5, hC⟩ := T.cls
  have hcl : PySem.W.clsIn X.K C = some { name := nm, bases := bs, mro := .ref C :: leTail, ns := N, qualname := q, hasDict := true, slotNames := sn, subclasses := sub, abstract := ab, collection := col, hasDel := false } := by unfold PySem.W.clsIn; rw [hC] <;> rfl
  obtain ⟨t1, ho⟩ := exo_at I.hok ea
  obtain ⟨hp, g, d, t, os⟩ := s
  refine PySem.W.set_plain I.kIn (ox := { cls := .ref C, dict := none, data := .fields #[.ref t1, .none, .none, .none, .bool false, .none] }) (od := none) ⟨ho, rfl, rfl, trivial⟩ T.sa ?_; refine osaL I.kIn ho hcl rfl rfl hno (fun h' tk' dx k dn dne hx hn => ?_)
  have hnd : H dx = none := I.hok.fresh dn; have nd : ∀ {b : Addr} {o : Obj}, hp.get? b = some o → b ≠ dx := fun {b o} q => Nat.ne_of_lt (Nat.lt_of_lt_of_le (Heap.lt_size q) dn)
  have na : ∀ {b : Addr}, H b = none → b ≠ a := fun {b} n z => by rw [z, ea] at n; cases n
  have U : Un X.fs [] H (upd (upd H dx (exd dx [(f, y)])) a (exo a C (some dx))) hp h' := {
    keep := fun b o q n _ _ => k b o (na n) q
    slot := fun b o q n _ _ => ⟨o.slots, k b o (na n) q⟩
    free := fun b o q n _ => by rw [upd_ne (na n), upd_ne (nd q)]; exact n
    there := fun b o q _ => by
      by_cases hb : b = a
      · exact ⟨_, by rw [hb]; exact hx⟩
      · exact ⟨o, k b o hb q⟩
    tups := fun b xs q => by rw [upd_ne (at_ne ea q exo_tup), upd_ne (ne_of_none q hnd)]; exact q
    frzs := fun b o v q => by rw [upd_ne (at_ne ea q exo_frz), upd_ne (ne_of_none q hnd)]; exact q
    tbls := fun b ps q => ⟨#[], by rw [upd_ne (at_ne ea q exo_tbl), upd_ne (ne_of_none q hnd), q]; simp⟩ }
  refine h dx _ hnd dne (I.un (t' := tk') U fun b o q => ?_)
  by_cases hb : b = a
  · subst hb; rw [upd_same] at q; cases q; exact exo_ok hx
  · rw [upd_ne hb] at q
    by_cases hd : b = dx
    · subst hd; rw [upd_same] at q; cases q; exact exd_ok hn (relO_put (fs := []) ry fun g => True.intro)
    · rw [upd_ne hd] at q
      exact (I.hok b o q).stay (fun c v hc z => k c v (by
          rcases hc with hc | hc
          · rw [hc]; exact hb
          · exact at_ne ea hc exo_own) z)
        (fun c hc => by rw [upd_ne (at_ne ea hc exo_own), upd_ne (ne_of_none hc hnd)]; exact hc) (fun c xs hc => by rw [upd_ne (at_ne ea hc exo_tup), upd_ne (ne_of_none hc hnd)]; exact hc)
def tOstL (K : PySem.W.Frag) (f : Str) (to te : TE) : TS := fun D σ H => te σ H fun y H1 => to σ H1 fun x H2 => ∃ a C : Addr, x = .ref a ∧ OexL K C ∧ PySem.W.findIn K (.ref C) f = some none ∧ H2 a = some (exo a C none) ∧ ∀ dx, H2 dx = none → dx ≠ a → D.nx σ (upd (upd H2 dx (exd dx [(f, y)])) a (exo a C (some dx)))
theorem ps_ostL (ho : PE X o to) (he : PE X e te) (hs : swapsWith e (some (.Attribute o f p')) pos.line X.env = pure false := by rfl) : PS X (.Assign [.Attribute o f p'] e pos) (tOstL X.K f to te) := by
  refine ⟨fun pins s σ H D I h => ?_⟩; refine plainObj_wpAny_Assign_Attribute (thn (he.run pins s σ H _ I h) fun v s1 ⟨y, H1, I1, r1, q1⟩ => thn (ho.run pins s1 σ H1 _ I1 q1) fun u s2 ⟨x, H2, I2, r2, a, C, ex, T, hno, ea, q⟩ => ?_) hs
  subst ex
  obtain rfl : u = Value.ref a := r2; exact ost_newL T I2 ea hno r1 fun dx s' n ne J => ⟨σ, _, J, q dx n ne⟩
end
/-! ### own error classes: super().__init__(text), then self.f = p -/
structure ErrL (P : Program) (K : PySem.W.Frag) (C fI : Addr) (fld par txt qual : Str) (fd : FuncData) : Prop where
  T : OexL K C
  iC : PySem.W.findIn K (.ref C) "__init__" = some (some (.ref fI))
  tI : PySem.W.typeIn K (.ref fI) = some (.type "function")
  noF : PySem.W.findIn K (.ref C) fld = some none
  sup : PySem.W.ks_superIn K C C "__init__" = some (some (.builtin "LookupError.__init__"))
  sLE : PySem.W.subIn K (.ref C) (.type "LookupError") = some true
  mroC : PySem.W.mroIn K C (.ref C) = some true
  noAny : PySem.W.nsIn K cStatics "thirdparty.any" = some none
  noSup : PySem.W.nsIn K mainGlobals "super" = some none
  top : (P.main.scope.names.lookup ("super" : Str)).isSome = false
  fn : ∃ (oc : Value) (od : Option Addr) (osl : Array (Option Value)) (params : Arguments) (body : List Stmt) (scope : Scope) (dV kV doc pm : Value) (an : Option Addr) (cda : Addr) (ct : Value) (cc : Addr) (ccl : Value) (cdd : Option Addr) (vs : Array Value) (ccs : Array (Option Value)) (file : Str) (tf : Tok) (cl : Value) (cld : Option Addr) (csl : Array (Option Value)) (p0 p1 p2 p3 p4 p5 q1 q2 q3 q4 : Pos) (j : Nat) (ar : Arg),
    fd = PySem.W.ksFn "__init__" qual params body scope dV kV doc pm an (.ref cda) ct cc ∧ K.lookup fI = some ⟨oc, od, .func fd, osl⟩ ∧ PySem.W.codeIn K (.ref cda) qual = true ∧ K.lookup cda = some ⟨ccl, cdd, .fields vs, ccs⟩ ∧ vs[2]? = some (.str file tf) ∧ ((P.main.file : Str) == file) = true ∧
      K.lookup cc = some ⟨cl, cld, .cell (some (.ref C)), csl⟩ ∧ NScope (["self", par, "__class__"] : List Str) (["self", par] : List Str) (["__class__"] : List Str) scope ∧ scope.names.lookup ("super" : Str) = some .globalImplicit ∧ (params.posonlyargs ++ params.args).head? = some ar ∧ ar.arg = "self" ∧
      (∃ pl : Env → Sem Bool, ∀ env : Env, eval (.Call (.Attribute (.Call (.Name "super" p0) [] [] p1) "__init__" p2) [.Constant (.str txt) j p3] [] p4) env = (do
        let ov ← attributeBase (.Call (.Name "super" p0) [] [] p1) "__init__" env (eval (.Call (.Name "super" p0) [] [] p1) env)
        standAt p2.atName
        let (f, first) ← holding [ov] (getMethod ov "__init__" (pl env))
        callWith p4 f first (backTo p4 (starEach [.Constant (.str txt) j p3] env)) [])) ∧ (par == ("__debug__" : Str)) = false ∧ (par == ("__classdict__" : Str)) = false ∧
      (∀ env : Env, swapsWith (.Call (.Attribute (.Call (.Name "super" p0) [] [] p1) "__init__" p2) [.Constant (.str txt) j p3] [] p4) none p5.line env = pure false) ∧ (∀ env : Env, swapsWith (.Name par q3) (some (.Attribute (.Name "self" q1) fld q2)) q4.line env = pure false) ∧
      body = [.Expr (.Call (.Attribute (.Call (.Name "super" p0) [] [] p1) "__init__" p2) [.Constant (.str txt) j p3] [] p4) p5, .Assign [.Attribute (.Name "self" q1) fld q2] (.Name par q3) q4] ∧
      (∀ us : List Value, us.length = 2 → bindArgs fd ⟨us, []⟩ = pure ((["self", par] : List Str).zip us))
section
variable {w : World} {prog : Program} {A : Around} {E : Value → Shared → Prop} {h : Heap} {g : Array GenState} {d : Drawn} {t : Nat} {os : OsState}
variable {q nm : Str} {C N : Addr} {bs bm : List Value} {hdct : Bool} {sn : List Str} {sub : List Value} {ab : Bool} {col : Option Bool} {dd : Option Addr} {k0 k1 k2 k3 k5 : Option Value}
/-- LookupError.__init__, bound to the exception at e, called -/
theorem call_mwL {u e t0 : Addr} {rest : List Value} {Q : Value → Shared → Prop}
    (hC : h.get? C = some (excClassObj nm q C N bs bm hdct sn sub ab col dd k0 k1 k2 k3 k5 "LookupError.__new__")) (he : h.get? e = some (HandSPX.excO C t0)) (hu : h.get? u = some (PySem.W.kxs_mw "LookupError.__init__" e)) (hrest : rest.length ≤ sizeLine)
    (done : ∀ h' t1, (∀ b o, b ≠ e → h.get? b = some o → h'.get? b = some o) → h'.get? e = some (HandSPX.excO C t1) → Q .none ⟨h', g, d, t, os⟩) :
    wpAny (model prog w) A (call (Value.ref u) rest) Q E ⟨h, g, d, t, os⟩ := by
  refine wpAny_call (codeAny_of_tree ?_); show wpAny _ A.in1 (callAny (.ref u) ⟨rest, []⟩) _ _ _
  simp only [callAny]
  refine wpAny_bind (wpAny_load hu ?_); simp only [PySem.W.kxs_mw, show (Value.type "method-wrapper" == Value.type "method" || Value.type "method-wrapper" == Value.type "builtin_function_or_method" || Value.type "method-wrapper" == Value.type "method-wrapper") = true by decide, if_true]
  refine PySem.W.KFB.if_so (by decide) ?_; refine wpAny_bind (PySem.ESX.check_bound PySem.F.excBase_LookupError hC he rfl ?_)
  refine wpAny_bind (wpAny_pure (wpAny_pure ?_)); refine ⟨Code.quiet_builtin _ (by decide +kernel), codeAny_builtin PySem.F.excBase_LookupError.initEntry ?_⟩
  rw [Around.under_plainId PySem.F.excBase_LookupError.init.plain _]
  wp_walk
  exact done _ h.objs.size (fun b o hb ho => (Heap.get?_update_other _ _ (Ne.symm hb)).trans (Heap.get?_push_of_some _ ho)) ((Heap.get?_update_self _ (Heap.get?_push_of_some _ he) rfl).trans rfl)
end
/-- super().__init__(text), self an exception that is being made -/
theorem super_initL {X : Cx} {σ : L2.St} {H : Hp} {s : Shared} {a C f cc cda : Addr} {fd : FuncData} {oc ccl cl : Value} {od cdd cld : Option Addr} {osl ccs csl : Array (Option Value)} {vs : Array Value} {file : Str} {tf : Tok} {ar : Arg} {body : List Stmt} {p0 p1 p2 p3 p4 : Pos} {j : Nat} {txt : Str}
    (I : Inv X [] σ H s) (T : OexL X.K C) (hks : X.env.kindOf "super" = some .globalImplicit) (hkc : X.env.kindOf "__class__" = some .free) (hka : X.env.kindOf "self" = some .local) (hfu : X.env.func = some f) (hco : X.env.code = .ref cda) (hcell : X.env.cells.lookup ("__class__" : Str) = some cc)
    (hN : X.N[0]? = some ("self" : Str)) (hσ : σ[0]? = some (some (.ref a))) (ha : H a = some (exo a C none)) (lk : X.K.lookup f = some ⟨oc, od, .func fd, osl⟩) (hp : (fd.params.posonlyargs ++ fd.params.args).head? = some ar) (hself : ar.arg = "self")
    (lcda : X.K.lookup cda = some ⟨ccl, cdd, .fields vs, ccs⟩) (hvs : vs[2]? = some (.str file tf)) (hfile : ((X.prog.main.file : Str) == file) = true) (htop : (X.prog.main.scope.names.lookup ("super" : Str)).isSome = false) (lcc : X.K.lookup cc = some ⟨cl, cld, .cell (some (.ref C)), csl⟩)
    (hm : X.mg "super" = none) (mroC : PySem.W.mroIn X.K C (.ref C) = some true) (noAny : PySem.W.nsIn X.K cStatics "thirdparty.any" = some none) (sup : PySem.W.ks_superIn X.K C C "__init__" = some (some (.builtin "LookupError.__init__"))) (sLE : PySem.W.subIn X.K (.ref C) (.type "LookupError") = some true)
    {pl : Sem Bool} (hev : eval (.Call (.Attribute (.Call (.Name "super" p0) [] [] p1) "__init__" p2) [.Constant (.str txt) j p3] [] p4) X.env = (do
      let ov ← attributeBase (.Call (.Name "super" p0) [] [] p1) "__init__" X.env (eval (.Call (.Name "super" p0) [] [] p1) X.env)
      standAt p2.atName
      let (f, first) ← (holding [ov] (getMethod ov "__init__" pl))
      callWith p4 f first (backTo p4 (starEach [.Constant (.str txt) j p3] X.env)) [])) :
    PySem.wpAt (model X.prog X.w) X.A (.func body X.env) (eval (.Call (.Attribute (.Call (.Name "super" p0) [] [] p1) "__init__" p2) [.Constant (.str txt) j p3] [] p4) X.env) (fun _ s' => Inv X [] σ H s') X.xe s := by
  obtain ⟨nm, q, N, bs, sn, sub, ab, col, dd, k0, k1, k2, k3, k5, hC⟩ := T.cls; have KX := I.kIn
  obtain ⟨cdC, hcd⟩ : ∃ cd, PySem.W.clsIn X.K C = some cd := by
    cases e : PySem.W.clsIn X.K C with
    | none => unfold PySem.W.ks_superIn at sup; rw [e] at sup; cases sup
    | some cd => exact ⟨cd, rfl⟩
  obtain ⟨oD, hD1, hD2⟩ : ∃ oD, s.heap.get? C = some oD ∧ oD.data = .cls cdC := by
    unfold PySem.W.clsIn at hcd
    split at hcd
    · rename_i c d cd' sl ho
      cases hcd
      exact ⟨_, KX _ _ ho, rfl⟩
    · cases hcd
  obtain ⟨t1, hoa⟩ := exo_at I.hok ha
  obtain ⟨m, hns, hlk⟩ := I.loc
  obtain ⟨u, ru, lku⟩ := hlk 0 "self" (.ref a) hN hσ (.inl hka); obtain rfl : u = Value.ref a := ru
  have hms : m "self" = some (.ref a) := by
    rcases lku with ⟨_, e⟩ | ⟨k | k, _⟩
    · exact e
    · rw [hka] at k; cases k
    · rw [hka] at k; cases k
  refine ks_wpAt_MethodCall ?_ hev
  refine ks_wpAt_super_base hks hkc (by decide) hfu (KX _ _ lk) rfl hp hco (KX _ _ lcda) rfl hvs hfile htop ?_
  obtain ⟨mb, hb1, hb2⟩ := I.mod.blt
  refine PySem.W.ks_loadName_global I.ok.kind hks (Calls.loadGlobal_builtin (by rw [I.ok.glob]; exact I.mod.glob.keeps I.bk) hm (by rw [I.ok.blt]; exact hb1.keeps I.bk) ((hb2 _ (by decide)).trans (show bootBuiltins "super" = some (.type "super") from by decide +kernel)) ⟨rfl, ?_⟩)
  refine wpAny_loadName_free I.ok.kind hkc hcell ⟨_, KX _ _ lcc, rfl⟩ ?_
  rw [hself]
  refine wpAny_loadName_local I.ok.kind hka hns hms ?_
  refine ks_wpAny_isType_cls hD1 hD2 ⟨rfl, ?_⟩; refine ks_wpAny_call_super hD1 hD2 hoa rfl (fun c e => by cases e) (PySem.W.looks_mroIn KX mroC) (fun h1 e1 k1' => ?_)
  -- the bound __init__
  have I1 : Inv X [] σ H { s with heap := h1 } := I.kept (t' := s.toks) k1'
  have hoa1 := k1' _ _ hoa
  have IA : PySem.W.InstAt h1 a (HandSPX.excO C t1) C none := ⟨hoa1, rfl, rfl, trivial⟩
  unfold PySem.W.ks_superIn at sup
  rw [hcd] at sup
  refine PySem.W.kxs_getMethod PySem.W.kxs_LookupError e1 (PySem.W.looks_opaque I1.kIn noAny) (l₀ := cdC.mro) (fun A Q E s k q => wpAny_bind ((PySem.W.looks_clsIn I1.kIn hcd) A _ E s k (wpAny_pure q))) rfl I1.kIn sup (IA.type.andThen (PySem.W.looks_subIn I1.kIn sLE)) (PySem.W.ks_ne I1.kIn IA hcd) (by decide) ?_
  have k2' : ∀ b o, h1.get? b = some o → (h1.push (PySem.W.kxs_mw "LookupError.__init__" a)).get? b = some o := fun b o e => Heap.get?_push_of_some _ e
  have I2 : Inv X [] σ H { s with heap := h1.push (PySem.W.kxs_mw "LookupError.__init__" a), toks := s.toks + 1 } := I1.kept (t' := s.toks + 1) k2'
  have hu : (h1.push (PySem.W.kxs_mw "LookupError.__init__" a)).get? h1.objs.size = some (PySem.W.kxs_mw "LookupError.__init__" a) := Heap.get?_push_at rfl rfl
  have nH : H h1.objs.size = none := I1.hok.fresh (Nat.le_refl _)
  have nL : h1.objs.size ≠ X.env.locals := Ne.symm (Nat.ne_of_lt I1.lt)
  have nF : h1.objs.size ∉ X.fs := fun hb => by
    obtain ⟨_, o, e, _⟩ := I1.ok.funs.mem hb
    exact absurd (Nat.lt_of_lt_of_le (Heap.lt_size e) I1.sz) (Nat.lt_irrefl _)
  have I3 : Inv X [(h1.objs.size, PySem.W.kxs_mw "LookupError.__init__" a)] σ H { s with heap := h1.push (PySem.W.kxs_mw "LookupError.__init__" a), toks := s.toks + 1 } :=
    ⟨I2.ok, I2.os, I2.bare, I2.base, I2.loc, I2.cell, I2.free, I2.freeC, fun p hp => by
      rcases List.mem_append.mp hp with hp' | hp'
      · exact I2.pin p (List.mem_append_left _ hp')
      · obtain rfl := List.mem_singleton.mp hp'
        exact ⟨hu, nH, nL, nF, fun v e => by cases e⟩, I2.hok, I2.len⟩
  refine PySem.W.kxs_callWith (i := "LookupError.__init__") (x := a) rfl (Calls.evalArgs_plain ?_)
  refine thn ((pa_cons (X := X) (pe_str (X := X)) (pa_nil (X := X))).run p4 [(h1.objs.size, PySem.W.kxs_mw "LookupError.__init__" a)] _ σ H (fun vs' H1 => vs' = [V.str txt] ∧ H = H1) I3 ⟨rfl, rfl⟩) fun us s4 hh => ?_
  obtain ⟨vs', H1, I4, r4, ev, eH⟩ := hh
  subst ev
  rw [← eH] at I4
  have hpin := I4.pin (h1.objs.size, PySem.W.kxs_mw "LookupError.__init__" a) (List.mem_append_right _ List.mem_cons_self)
  refine ⟨hpin.1, ?_⟩
  have I5 : Inv X [] σ H s4 := ⟨I4.ok, I4.os, I4.bare, I4.base, I4.loc, I4.cell, I4.free, I4.freeC, fun p hp => I4.pin p (by rw [List.append_nil] at hp; exact List.mem_append_left _ hp), I4.hok, I4.len⟩
  obtain ⟨t4, ho4⟩ := exo_at I5.hok ha
  have hz : us.length ≤ sizeLine := by rw [← Paired.length r4, sizeLine_eq]; show 1 ≤ _; decide
  obtain ⟨hp4, g4, d4, tk4, os4⟩ := s4
  refine call_mwL (I5.kIn _ _ hC) ho4 hpin.1 hz fun h' t2 k hx => ?_
  have J := I5.write (t' := tk4) (x := a) (e := a) (o := exo a C none) (by rw [ha]; exact True.intro) (.inl rfl) k ⟨_, hx⟩ (exo_ok hx)
  have same : upd H a (exo a C none) = H := by
    funext b
    by_cases hb : b = a
    · rw [hb, upd_same, ha]
    · rw [upd_ne hb]
  rw [same] at J
  exact J
theorem fn_initL {P : Program} {w : World} {K : PySem.W.Frag} {mg : Str → Option Value} {base : Heap} {C fI : Addr} {fld par txt qual : Str} {fd : FuncData} (R : ErrL P K C fI fld par txt qual fd) (hmg : mg "super" = none) :
    FnOk P w K mg base (L2.CX P w) 1 fI fd ["self", par] (spI C fld) := by
  obtain ⟨oc, od, osl, params, body, scope, dV, kV, doc, pm, an, cda, ct, cc, ccl, cdd, vs, ccs, file, tf, cl, cld, csl, p0, p1, p2, p3, p4, p5, q1, q2, q3, q4, j, ar, efd, lk, hcd, lcda, hvs, hfile, lcc, S, hsup, har, hself, ⟨pl, hev⟩, hpdb, hpcd, hsw1, hsw2, ebody, hbind⟩ := R.fn
  refine ⟨fun vs H Q E h => ?_, fun A outer s H args us vs' Q E hr e0 hb r hsp => ?_⟩
  · obtain ⟨a, y, rfl, _⟩ := h; rfl
  · obtain ⟨a, y, rfl, ha, hq⟩ := hsp
    have KX : K.In s.heap := e0.mod.kin.keeps fun b o e => (e0.bs b o e).1; have lim : s.heap.NoLimit := e0.mod.nolimit.keeps fun b o e => (e0.bs b o e).1
    have hnocell : ∀ x ∈ scope.names, x.2 ≠ .cell := S.nocell
    have hscope : fd.scope = scope := by rw [efd]
    refine ks_codeAny_call_defAt (fd := fd) (body := body) (binds := (["self", par] : List Str).zip us) hr.depth (KX _ _ lk) rfl lim (by rw [efd]; exact PySem.W.codeRec_of KX hcd) (by rw [efd]) hb (by rw [hscope]; exact hnocell) (fun x hx => by rw [hscope]; exact S.par x.1 (List.of_mem_zip hx).1) (fun h₀ hns hk => ?_) (by rw [hscope]; exact S.co) (by rw [hscope]; exact S.gen) (by rw [hscope]; exact S.kind)
    have C0 : CellsAt [("__class__", cc)] ["__class__"] [none] s.heap H := by
      have hcc : s.heap.get? cc = some ⟨cl, cld, .cell (some (.ref C)), csl⟩ := KX _ _ lcc
      have hbase := e0.bs cc _ (e0.mod.kin _ _ lcc)
      have lk1 : ∀ {y c}, ([(("__class__" : Str), cc)] : List (Str × Addr)).lookup y = some c → y = "__class__" ∧ c = cc := fun {y c} e => by
        by_cases hy : y = "__class__"
        · subst hy; simp [List.lookup] at e; exact ⟨rfl, e.symm⟩
        · have : (y == ("__class__" : Str)) = false := by simpa using hy
          simp [List.lookup, this] at e
      refine ⟨rfl, fun y c e => ?_, fun x y c e1 e2 => (lk1 e1).1.trans (lk1 e2).1.symm, fun i y hi => ?_⟩
      · obtain ⟨_, rfl⟩ := lk1 e
        exact ⟨hbase.2, _, _, hcc, rfl⟩
      · cases i with
        | zero =>
          simp at hi; subst hi
          exact ⟨cc, by simp [List.lookup], fun v hv => by simp at hv⟩
        | succ i => simp at hi
    obtain ⟨F, hF⟩ : ∃ F : NF, F = ⟨"__init__", qual, params, body, scope, [("__class__", cc)], cda⟩ := ⟨_, rfl⟩
    have I0 : L2.Inv (ncx (L2.CX P w) P w K mg base (["self", par, "__class__"] : List Str) F fI A outer s H E) [] (startF (["self", par, "__class__"] : List Str) [.ref a, y] [none]) H { s with heap := h₀, toks := s.toks + ((["self", par] : List Str).zip us).length } :=
      inv_startN (F := F) (by rw [hF]; exact S) hr.hd e0 rfl r (by rw [hF]; exact C0) hns hk
    have henv : callEnv fd s.heap.objs.size fI = envF F fI s.heap.objs.size := by rw [efd, hF]; rfl
    rw [henv]
    obtain ⟨X, hX⟩ : ∃ X : Cx, X = ncx (L2.CX P w) P w K mg base (["self", par, "__class__"] : List Str) F fI A outer s H E := ⟨_, rfl⟩
    have e1 : envF F fI s.heap.objs.size = X.env := by rw [hX]; rfl
    have eA : A.deeper (envF F fI s.heap.objs.size) = X.A := by rw [hX]; rfl
    rw [← hX] at I0
    have kself : scope.names.lookup ("self" : Str) = some .local := S.par _ (by simp)
    have kpar : scope.names.lookup par = some .local := S.par _ (by simp)
    have kcls : scope.names.lookup ("__class__" : Str) = some .free := S.frk _ (by simp)
    have EE : ∀ u s', X.xe u s' ↔ wpAny (model P w) (A.deeper (envF F fI s.heap.objs.size)) (leaving (envF F fI s.heap.objs.size) u) (fun _ s'' => L2.CX P w outer H s E u s'') (fun e' s'' => L2.CX P w outer H s E e' s'') s' := fun u s' => by rw [hX]; exact Iff.rfl
    have base : ∀ {σ' : L2.St} {H' : Hp} {s' : Shared}, L2.Inv X [] σ' H' s' → Q .non H' → CE outer P w H s Q .none s' := fun {σ' H' s'} J q => by
      rw [hX] at J
      exact ⟨.non, H', J.os, J.bare, J.base, J.hok, rfl, q⟩
    rw [eA, e1]
    have hXs : X.env.scope = scope := by rw [hX, hF]; rfl
    have hint : interactive X.env = false := by
      unfold interactive
      rw [hXs, S.kind]; rfl
    have hXp : X.prog = P := by rw [hX]; rfl
    have hXw : X.w = w := by rw [hX]; rfl
    have hXK : X.K = K := by rw [hX]; rfl
    have hXm : X.mg = mg := by rw [hX]; rfl
    have hXN : X.N = (["self", par, "__class__"] : List Str) := by rw [hX]; rfl
    have hkind : ∀ x, X.env.kindOf x = scope.names.lookup x := fun x => by rw [hX, hF]; rfl
    have hinit := super_initL (X := X) (σ := startF (["self", par, "__class__"] : List Str) [.ref a, y] [none]) (H := H) (a := a) (C := C) (f := fI) (cc := cc) (cda := cda) (body := body) (txt := txt) (j := j) (p0 := p0) (p1 := p1) (p2 := p2) (p3 := p3) (p4 := p4) (pl := pl X.env) I0 (by rw [hXK]; exact R.T) (by rw [hkind]; exact hsup) (by rw [hkind]; exact kcls) (by rw [hkind]; exact kself) (by rw [hX, hF]; rfl) (by rw [hX, hF]; rfl) (by rw [hX, hF]; simp [ncx, envF, List.lookup]) (by rw [hXN]; rfl) rfl ha (by rw [hXK]; exact lk) (by rw [efd]; exact har) hself
      (by rw [hXK]; exact lcda) hvs (by rw [hXp]; exact hfile) (by rw [hXp]; exact R.top) (by rw [hXK]; exact lcc) (by rw [hXm]; exact hmg) (by rw [hXK]; exact R.mroC) (by rw [hXK]; exact R.noAny) (by rw [hXK]; exact R.sup) (by rw [hXK]; exact R.sLE) (hev X.env)
    have hrest : PSs X [.Assign [.Attribute (.Name "self" q1) fld q2] (.Name par q3) q4] _ := pss_one (ps_ostL (X := X) (pe_var (i := 0) (by rw [hXN]; rfl) (.inl (by rw [hXs]; exact kself)) (by decide) (by decide)) (pe_var (i := 1) (by rw [hXN]; rfl) (.inl (by rw [hXs]; exact kpar)) hpdb hpcd) (hsw2 X.env))
    rw [hXp, hXw] at hinit
    have key : PySem.wpAt (model P w) X.A (.func body X.env) (execs [.Expr (.Call (.Attribute (.Call (.Name "super" p0) [] [] p1) "__init__" p2) [.Constant (.str txt) j p3] [] p4) p5, .Assign [.Attribute (.Name "self" q1) fld q2] (.Name par q3) q4] X.env)
        (fun f s' => CR (L2.CX P w) outer P w H s Q E (.ok (.ret (match f with | .ret v => v | _ => .none))) s') X.xe { s with heap := h₀, toks := s.toks + ((["self", par] : List Str).zip us).length } := by
      refine ks_wpAt_execs_cons (ks_wpAt_Expr_any (ks_wpAt_mono hinit (fun v s' J => ?_) fun _ _ z => z) hint (hsw1 X.env))
      refine wpAt_of_wpAny ?_
      have run := hrest.run [] s' _ H { nx := fun _ H' => Q .non H', rt := fun _ _ => False } J
        ⟨y, rfl, .ref a, rfl, a, C, rfl, by rw [hXK]; exact R.T, by rw [hXK]; exact R.noF, ha, fun dx hd hne => hq dx hd hne⟩
      rw [hXp, hXw] at run
      refine wpAny_mono run (fun f s2 hs2 => ?_) fun _ _ z => z
      cases f with
      | next =>
        obtain ⟨σ', H', J', q⟩ := hs2
        exact base J' q
      | brk => obtain ⟨_, _, _, q⟩ := hs2; exact q.elim
      | cont => obtain ⟨_, _, _, q⟩ := hs2; exact q.elim
      | ret u => obtain ⟨_, _, _, _, _, q⟩ := hs2; exact q.elim
    rw [← ebody] at key
    refine ks_wpAt_mono key (fun f s' z => z) fun u s' z => ?_
    have z := (EE u s').mp z
    rw [eA, e1] at z
    exact z
end DE
namespace DE
open PyProof.Rows PySem.Spec PySem L2
section
variable {X : Cx} {Γ : Gam} {W : WX} {e : Expr} {pos p kpos : Pos} {k : Nat}
theorem pmk_kwL {CX : CXT} {x par : Str} {C fI : Addr} {fd : FuncData} {sp : Sp} {te : TE} (T : OexL X.K C) (iC : PySem.W.findIn X.K (.ref C) "__init__" = some (some (.ref fI))) (tI : PySem.W.typeIn X.K (.ref fI) = some (.type "function"))
    (F1 : FnOk X.prog X.w X.K X.mg X.base CX k fI fd ["self", par] sp) (hr : Room (k + 1) X.A) (hbk : ∀ u z : Value, bindArgs fd ⟨[u], [(par, z)]⟩ = pure ((["self", par] : List Str).zip [u, z])) (hx : Passes CX X (fun _ _ _ => False)) (hg : Gl X x) (hm : X.mg x = some (.ref C)) (ha : PE X e te)
    (hdb : (x == ("__debug__" : Str)) = false := by decide) (hall : (backToKw pos (keywordEach [⟨some par, e, kpos⟩] X.env)).all (·.1.isSome) = true := by rfl) (hks : (backToKw pos (keywordEach [⟨some par, e, kpos⟩] X.env)).filterMap (·.1) = [par] := by rfl)
    (hpl : ((backTo pos (starEach [] X.env)).any (·.1) || (backToKw pos (keywordEach [⟨some par, e, kpos⟩] X.env)).any (·.1.isNone)) = false := by rfl) :
    PMk X (.Call (.Name x p) [] [⟨some par, e, kpos⟩] pos) (tMkK C sp te) := by
  intro pins s σ H Q I h
  obtain ⟨nm, q, N, bs, sn, sub, ab, col, dd, k0, k1, k2, k3, k5, hC⟩ := T.cls
  refine wpAny_Call_Name_kw (ld_glob I hg hm ?_ hdb); refine PySem.W.callWith_KW0 (h₀ := X.base) I.ok.mod.kin T.kC hall ?_ hpl
  let T1 : V → Hp → Prop := fun v H1 => ∀ a, H1 a = none → sp [.ref a, v] (upd H1 a (exo a C none))
    (fun v H2 => v = .non ∧ ∃ (d : Addr) (fs : List (Str × V)), H2 a = some (exo a C (some d)) ∧ H2 d = some (exd d fs) ∧ H1 d = none ∧ Q (.ref C) (some d) (upd (del H2 a) d (.xd fs))) (fun _ _ _ => False)
  refine thn ((pk_cons (nm := some par) (kpos := kpos) ha pk_nil).run pos pins s σ H (fun vs H1 => match vs with | [v] => T1 v H1 | _ => False) I h) fun us s1 ⟨vs, H1, I1, r1, q1⟩ => ⟨I1.kIn, ?_⟩
  rw [hks]
  obtain ⟨v, u, rfl, rfl, rv⟩ : ∃ v u, vs = [v] ∧ us = [u] ∧ RelV v u := by
    cases r1 with
    | nil => exact q1.elim
    | cons r0 rr =>
      cases rr with
      | nil => exact ⟨_, _, rfl, rfl, r0⟩
      | cons _ _ => exact q1.elim
  have q1 : T1 v H1 := q1
  show wpAny _ _ (call (.ref C) [] [(par, u)]) _ _ _
  obtain ⟨hp, g, dr, tk, os⟩ := s1; have hsz : hp.objs.size ≤ hp.objs.size + 1 := Nat.le_succ _
  have hn : H1 (hp.objs.size + 1) = none := I1.hok.fresh hsz; have hq := q1 (hp.objs.size + 1) hn
  have kk : ∀ b o, hp.get? b = some o → ((hp.push (PySem.W.kdv_tup [])).push (PySem.HandSPX.excO C hp.objs.size)).get? b = some o := fun b o e => Heap.get?_push_of_some _ (Heap.get?_push_of_some _ e)
  have hget : ((hp.push (PySem.W.kdv_tup [])).push (PySem.HandSPX.excO C hp.objs.size)).get? (hp.objs.size + 1) = some (PySem.HandSPX.excO C hp.objs.size) := by heap_get
  have I2 : L2.Inv X pins σ (upd H1 (hp.objs.size + 1) (exo (hp.objs.size + 1) C none)) ⟨(hp.push (PySem.W.kdv_tup [])).push (PySem.HandSPX.excO C hp.objs.size), g, dr, tk, os⟩ :=
    I1.laid (t' := tk) (a := hp.objs.size + 1) (o := exo (hp.objs.size + 1) C none) (h' := (hp.push (PySem.W.kdv_tup [])).push (PySem.HandSPX.excO C hp.objs.size)) kk hsz (exo_ok hget)
  have r2 : Vals [V.ref (hp.objs.size + 1), v] [Value.ref (hp.objs.size + 1), u] := .cons rfl (.cons rv .nil)
  refine wpAny_call (callK PySem.F.excBase_LookupError (fun _ => rfl) (I1.kIn _ _ hC) (PySem.W.looks_findIn I1.kIn iC) (fun self => PySem.W.bind_fn I1.kIn self tI)
    (codeAny_mono (F1.run _ X.stack _ _ ⟨[Value.ref (hp.objs.size + 1)], [(par, u)]⟩ [Value.ref (hp.objs.size + 1), u] _ _ (fun _ _ _ => False) (hr.make C [] [(par, u)]) (I2.env0.make C [] [(par, u)]) (.of_eq (hbk _ _)) r2 hq) fun r s' hq' => ?_))
  cases r with
  | error er => exact hx pins σ _ _ er s' I2 hq'
  | ok fl =>
    cases fl with
    | ret u' =>
      obtain ⟨v', H2, os2, bare2, un2, hok2, rv', ev, d, fs, ea, ed, hd1, q2⟩ := hq'
      subst ev
      obtain ⟨h2, g2, d2, t2, os'⟩ := s'; exact ⟨rv', mk_end (raises_own T.exC T.tyC) I1 hsz kk un2 hok2 os2 bare2 ea ed hd1 q2⟩
    | next => exact False.elim hq'
    | brk => exact False.elim hq'
    | cont => exact False.elim hq'
theorem pmk_posL {CX : CXT} {x par : Str} {C fI : Addr} {fd : FuncData} {sp : Sp} {te : TE} (T : OexL X.K C) (iC : PySem.W.findIn X.K (.ref C) "__init__" = some (some (.ref fI))) (tI : PySem.W.typeIn X.K (.ref fI) = some (.type "function"))
    (F1 : FnOk X.prog X.w X.K X.mg X.base CX k fI fd ["self", par] sp) (hr : Room (k + 1) X.A) (hb : Binds X.K fd ["self", par] []) (hx : Passes CX X (fun _ _ _ => False)) (hg : Gl X x) (hm : X.mg x = some (.ref C)) (ha : PE X e te)
    (hdb : (x == ("__debug__" : Str)) = false := by decide) (he : starEach [e] X.env = (false, eval e X.env) :: starEach [] X.env := by rfl) (hpl : (backTo pos (starEach [] X.env)).any (·.1) = false := by rfl) :
    PMk X (.Call (.Name x p) [e] [] pos) (tMkK C sp te) := by
  intro pins s σ H Q I h
  obtain ⟨nm, q, N, bs, sn, sub, ab, col, dd, k0, k1, k2, k3, k5, hC⟩ := T.cls; refine wpAny_Call_Name_kw (ld_glob I hg hm ?_ hdb)
  let T1 : V → Hp → Prop := fun v H1 => ∀ a, H1 a = none → sp [.ref a, v] (upd H1 a (exo a C none))
    (fun v H2 => v = .non ∧ ∃ (d : Addr) (fs : List (Str × V)), H2 a = some (exo a C (some d)) ∧ H2 d = some (exd d fs) ∧ H1 d = none ∧ Q (.ref C) (some d) (upd (del H2 a) d (.xd fs))) (fun _ _ _ => False)
  refine PySem.W.callWith_K (h₀ := X.base) I.ok.mod.kin T.kC (thn ((pa_cons ha pa_nil he).run pos pins s σ H (fun vs H1 => match vs with | [v] => T1 v H1 | _ => False) I h) fun us s1 ⟨vs, H1, I1, r1, q1⟩ => ⟨I1.kIn, ?_⟩) he hpl
  obtain ⟨v, u, rfl, rfl, rv⟩ : ∃ v u, vs = [v] ∧ us = [u] ∧ RelV v u := by
    cases r1 with
    | nil => exact q1.elim
    | cons r0 rr =>
      cases rr with
      | nil => exact ⟨_, _, rfl, rfl, r0⟩
      | cons _ _ => exact q1.elim
  have q1 : T1 v H1 := q1
  show wpAny _ _ (call (.ref C) [u]) _ _ _; obtain ⟨hp, g, dr, tk, os⟩ := s1
  have hsz : hp.objs.size ≤ hp.objs.size + 1 := Nat.le_succ _; have hn : H1 (hp.objs.size + 1) = none := I1.hok.fresh hsz
  have hq := q1 (hp.objs.size + 1) hn; have kk : ∀ b o, hp.get? b = some o → ((hp.push (PySem.W.kdv_tup [u])).push (PySem.HandSPX.excO C hp.objs.size)).get? b = some o := fun b o e => Heap.get?_push_of_some _ (Heap.get?_push_of_some _ e)
  have hget : ((hp.push (PySem.W.kdv_tup [u])).push (PySem.HandSPX.excO C hp.objs.size)).get? (hp.objs.size + 1) = some (PySem.HandSPX.excO C hp.objs.size) := by heap_get
  have I2 : L2.Inv X pins σ (upd H1 (hp.objs.size + 1) (exo (hp.objs.size + 1) C none)) ⟨(hp.push (PySem.W.kdv_tup [u])).push (PySem.HandSPX.excO C hp.objs.size), g, dr, tk, os⟩ :=
    I1.laid (t' := tk) (a := hp.objs.size + 1) (o := exo (hp.objs.size + 1) C none) (h' := (hp.push (PySem.W.kdv_tup [u])).push (PySem.HandSPX.excO C hp.objs.size)) kk hsz (exo_ok hget)
  have r2 : Vals [V.ref (hp.objs.size + 1), v] [Value.ref (hp.objs.size + 1), u] := .cons rfl (.cons rv .nil)
  refine wpAny_call (PySem.HandSPX.call_own PySem.F.excBase_LookupError (fun _ => rfl) (I1.kIn _ _ hC) (PySem.W.looks_findIn I1.kIn iC) (fun self => PySem.W.bind_fn I1.kIn self tI) (by rw [sizeLine_eq]; show 1 ≤ _; decide)
    (codeAny_mono (F1.run _ X.stack _ _ ⟨[Value.ref (hp.objs.size + 1), u], []⟩ [Value.ref (hp.objs.size + 1), u] _ _ (fun _ _ _ => False) (hr.make C [u] []) (I2.env0.make C [u] []) (hb _ [Value.ref (hp.objs.size + 1), u] I2.kIn rfl) r2 hq) fun r s' hq' => ?_))
  cases r with
  | error er => exact hx pins σ _ _ er s' I2 hq'
  | ok fl =>
    cases fl with
    | ret u' =>
      obtain ⟨v', H2, os2, bare2, un2, hok2, rv', ev, d, fs, ea, ed, hd1, q2⟩ := hq'
      subst ev
      obtain ⟨h2, g2, d2, t2, os'⟩ := s'; exact ⟨rv', mk_end (raises_own T.exC T.tyC) I1 hsz kk un2 hok2 os2 bare2 ea ed hd1 q2⟩
    | next => exact False.elim hq'
    | brk => exact False.elim hq'
    | cont => exact False.elim hq'

/-- an own error class below LookupError -/
def ErrXL (P : Program) (w : World) (K : PySem.W.Frag) (mg : Str → Option Value) (base : Heap) (Γ : Gam) (x par : Str) : Prop :=
  ∃ (C fI : Addr) (fld txt qual : Str) (fd : FuncData), mg x = some (.ref C) ∧ Γ.cl x = some (C, fld) ∧ mg "super" = none ∧ ErrL P K C fI fld par txt qual fd ∧ (∀ u z : Value, bindArgs fd ⟨[u], [(par, z)]⟩ = pure ((["self", par] : List Str).zip [u, z]))
theorem ErrL.bnd {P : Program} {K : PySem.W.Frag} {C fI : Addr} {fld par txt qual : Str} {fd : FuncData} (R : ErrL P K C fI fld par txt qual fd) : Binds K fd ["self", par] [] := by
  obtain ⟨oc, od, osl, params, body, scope, dV, kV, doc, pm, an, cda, ct, cc, ccl, cdd, vs, ccs, file, tf, cl, cld, csl, p0, p1, p2, p3, p4, p5, q1, q2, q3, q4, j, ar, efd, lk, hcd, lcda, hvs, hfile, lcc, S, hsup, har, hself, ⟨pl, hev⟩, hpdb, hpcd, hsw1, hsw2, ebody, hbind⟩ := R.fn
  exact Binds.all fun us hl => hbind us hl
/-- the end of X(e), X(k = e) -/
theorem mk_new {f : Mo D} {x fld : Str} {Cl : Addr} (hcl : Γ.cl x = some (Cl, fld)) {σ : L2.St} {H : Hp} {Q : VK} (h : tG X.K Γ W (RD X.K Γ) (fMkE x f) σ H Q) :
    tG X.K Γ W (RD X.K Γ) f σ H fun v H1 => ∀ dx a, H1 dx = none → upd H1 dx (.xd [(fld, v)]) a = none → Q (.ref a) (upd (upd H1 dx (.xd [(fld, v)])) a (xob a Cl (some dx))) :=
  h.bind fun H0 G0 d v g1 G1 H1 r1 h1 dx a hdx na => by
    obtain ⟨E, o, g', e, q⟩ := h1
    cases e
    have g1 : G1 dx = none := by
      cases z : G1 dx with
      | none => rfl
      | some u => rw [E.sub _ _ z] at hdx; cases hdx
    have E2 := E.new (o := .xd [(fld, v)]) hdx
    have g2 : upd G1 dx (.xd [(fld, v)]) a = none := by
      cases z : upd G1 dx (.xd [(fld, v)]) a with
      | none => rfl
      | some u => rw [E2.sub _ _ z] at na; cases na
    have E3 := E2.new (o := xob a Cl (some dx)) na
    have hda : dx ≠ a := fun z => by rw [← z, upd_same] at na; cases na
    exact q _ _ _ ((Gr.upd g1).trans (Gr.upd g2)) E3 (Dv.exc hcl upd_same (by rw [upd_ne hda, upd_same]) (Dv.mono ((Gr.upd g1).trans (Gr.upd g2)) r1))
/-- what an own __init__ leaves, seen from the call -/
theorem spI_end {C : Addr} {fld : Str} {v : V} {H1 : Hp} {Q : VK} (q : ∀ dx a, H1 dx = none → upd H1 dx (.xd [(fld, v)]) a = none → Q (.ref a) (upd (upd H1 dx (.xd [(fld, v)])) a (xob a C (some dx)))) : ∀ a0, H1 a0 = none → spI C fld [.ref a0, v] (upd H1 a0 (exo a0 C none))
    (fun u H2 => u = .non ∧ ∃ (d : Addr) (fs : List (Str × V)), H2 a0 = some (exo a0 C (some d)) ∧ H2 d = some (exd d fs) ∧ H1 d = none ∧ (∃ C', (Value.ref C) = .ref C' ∧ ∀ a, upd (del H2 a0) d (.xd fs) a = none → Q (.ref a) (upd (upd (del H2 a0) d (.xd fs)) a (xob a C' (some d))))) (fun _ _ _ => False) := fun a0 ha0 =>
  ⟨a0, v, rfl, upd_same, fun dx hdx hne => by
    rw [upd_ne hne] at hdx
    refine ⟨rfl, dx, [(fld, v)], upd_same, by rw [upd_ne hne, upd_same], hdx, C, rfl, fun a na => ?_⟩
    rw [upd_two ha0 hne] at na ⊢
    exact q dx a hdx na⟩
theorem tG_imp {α β : Type} {R : Rel β α} {f : Mo α} {σ : L2.St} {H : Hp} {Q Q' : β → Hp → Prop} (h : tG X.K Γ W R f σ H Q) (hq : ∀ v H1, Q v H1 → Q' v H1) : tG X.K Γ W R f σ H Q' := by
  obtain ⟨H0, G0, G, g, E, r, g', e, q⟩ := h
  refine ⟨H0, G0, G, g, E, r, g', e, ?_⟩
  cases r with
  | ok d => exact fun v G' H' a b c => hq _ _ (q v G' H' a b c)
  | error x => exact q
theorem d_mkEK {x par : Str} {f : Mo D} (R : ErrXK X.prog X.w X.K X.mg X.base Γ x par) (C : Ct X W k) (hk : 2 ≤ k) (hg : Gl X x) (ha : DX X Γ W e f) (hex : X.ex = [] := by rfl) (hdb : (x == ("__debug__" : Str)) = false := by decide)
    (hall : (backToKw pos (keywordEach [⟨some par, e, kpos⟩] X.env)).all (·.1.isSome) = true := by rfl) (hks : (backToKw pos (keywordEach [⟨some par, e, kpos⟩] X.env)).filterMap (·.1) = [par] := by rfl)
    (hpl : ((backTo pos (starEach [] X.env)).any (·.1) || (backToKw pos (keywordEach [⟨some par, e, kpos⟩] X.env)).any (·.1.isNone)) = false := by rfl) : DX X Γ W (.Call (.Name x p) [] [⟨some par, e, kpos⟩] pos) (fMkE x f) := by
  obtain ⟨Cl, fI, fld, txt, qual, fd, hm, hcl, hsup, R, hbk⟩ := R
  refine (pe_made hex (pmk_kw (k := 1) R.T R.iC R.tI (fn_init R hsup) (C.room.mono hk) hbk ?_ hg hm ha hdb hall hks hpl)).imp fun σ H Q h => ?_
  · intro pins σ H s u s' _ cx
    obtain ⟨_, _, _, _, _, _, _, _, _, _, _, _, z⟩ := cx
    exact z.elim
  · exact tG_imp (mk_new hcl h) fun v H1 q => spI_end q
theorem d_mkLK {x par : Str} {f : Mo D} (R : ErrXL X.prog X.w X.K X.mg X.base Γ x par) (C : Ct X W k) (hk : 2 ≤ k) (hg : Gl X x) (ha : DX X Γ W e f) (hex : X.ex = [] := by rfl) (hdb : (x == ("__debug__" : Str)) = false := by decide)
    (hall : (backToKw pos (keywordEach [⟨some par, e, kpos⟩] X.env)).all (·.1.isSome) = true := by rfl) (hks : (backToKw pos (keywordEach [⟨some par, e, kpos⟩] X.env)).filterMap (·.1) = [par] := by rfl)
    (hpl : ((backTo pos (starEach [] X.env)).any (·.1) || (backToKw pos (keywordEach [⟨some par, e, kpos⟩] X.env)).any (·.1.isNone)) = false := by rfl) : DX X Γ W (.Call (.Name x p) [] [⟨some par, e, kpos⟩] pos) (fMkE x f) := by
  obtain ⟨Cl, fI, fld, txt, qual, fd, hm, hcl, hsup, R, hbk⟩ := R
  refine (pe_made hex (pmk_kwL (k := 1) R.T R.iC R.tI (fn_initL R hsup) (C.room.mono hk) hbk ?_ hg hm ha hdb hall hks hpl)).imp fun σ H Q h => ?_
  · intro pins σ H s u s' _ cx
    obtain ⟨_, _, _, _, _, _, _, _, _, _, _, _, z⟩ := cx
    exact z.elim
  · exact tG_imp (mk_new hcl h) fun v H1 q => spI_end q
theorem d_mkL {x par : Str} {f : Mo D} (R : ErrXL X.prog X.w X.K X.mg X.base Γ x par) (C : Ct X W k) (hk : 2 ≤ k) (hg : Gl X x) (ha : DX X Γ W e f) (hex : X.ex = [] := by rfl) (hdb : (x == ("__debug__" : Str)) = false := by decide)
    (he : starEach [e] X.env = (false, eval e X.env) :: starEach [] X.env := by rfl) (hpl : (backTo pos (starEach [] X.env)).any (·.1) = false := by rfl) : DX X Γ W (.Call (.Name x p) [e] [] pos) (fMkE x f) := by
  obtain ⟨Cl, fI, fld, txt, qual, fd, hm, hcl, hsup, R, hbk⟩ := R
  refine (pe_made hex (pmk_posL (k := 1) R.T R.iC R.tI (fn_initL R hsup) (C.room.mono hk) R.bnd ?_ hg hm ha hdb he hpl)).imp fun σ H Q h => ?_
  · intro pins σ H s u s' _ cx
    obtain ⟨_, _, _, _, _, _, _, _, _, _, _, _, z⟩ := cx
    exact z.elim
  · exact tG_imp (mk_new hcl h) fun v H1 q => spI_end q
/-- .. of a class without an __init__ of its own -/
theorem d_mk0 {x m : Str} {j : Nat} {p2 : Pos} (R : ErrX0 X.K X.mg Γ x) (C : Ct X W k) (hg : Gl X x) (hex : X.ex = [] := by rfl) (hdb : (x == ("__debug__" : Str)) = false := by decide) : DX X Γ W (.Call (.Name x p) [.Constant (.str m) j p2] [] pos) (fMkE0 x) := by
  obtain ⟨Cl, bmB, B, newId, initId, F, q, hm, kC, sB, tT, hcl⟩ := R
  refine (pe_made hex (pmk_own F q hm kC (raises_own sB tT) hg hdb)).imp fun σ H Q h => ?_
  refine ⟨Cl, rfl, fun a na => ?_⟩
  obtain ⟨H0, G0, G, g, E, o, g', e, q⟩ := h
  cases e
  have g1 : G a = none := by
    cases z : G a with
    | none => rfl
    | some u => rw [E.sub _ _ z] at na; cases na
  exact q _ _ _ (Gr.upd g1) (E.new (o := xob a Cl none) na) (.exc0 hcl upd_same)
end
end DE
namespace DE
open PyProof.Rows PySem.Spec PySem L2
open NdefX (nscB nscope_by)
/-! ### the facts of error classes whose errors are values -/
structure ErrFL (P : Program) (K : PySem.W.Frag) (C fI : Addr) (fld par txt qual : Str) (fd : FuncData) : Prop where
  c : ErrL P K C fI fld par txt qual fd
  x : XfC K C
  e : ExcC K C
  s : (PySem.W.clsIn K C).isSome = true
theorem err_mkK {P : Program} {K : PySem.W.Frag} {C fI N : Addr} {fld par txt qual nm q : Str} {bs bm : List Value} {sn : List Str} {sub : List Value} {ab : Bool} {col : Option Bool} {dd : Option Addr} {k0 k1 k2 k3 k5 : Option Value}
    {oc : Value} {od : Option Addr} {osl : Array (Option Value)} {params : Arguments} {scope : Scope} {dV kV doc pm : Value} {an : Option Addr} {cda : Addr} {ct : Value} {cc : Addr} {ccl : Value} {cdd : Option Addr} {vs : Array Value} {ccs : Array (Option Value)} {file : Str} {tf : Tok} {cl : Value} {cld : Option Addr} {csl : Array (Option Value)} {p0 p1 p2 p3 p4 p5 q1 q2 q3 q4 : Pos} {j : Nat}
    (xL : K.lookup C = some (excClassObj nm q C N bs bm true sn sub ab col dd k0 k1 k2 k3 k5 "ValueError.__new__")) (rb : HandSPX.refsVE bm = true) (sa : PySem.W.findIn K (.ref C) "__setattr__" = some (some (.builtin "object.__setattr__"))) (exC : PySem.W.subIn K (.ref C) (.type "BaseException") = some true) (tyC : PySem.W.typeIn K (.ref C) = some (.type "type")) (kC : PySem.W.keepIn K (.ref C) = true)
    (iC : PySem.W.findIn K (.ref C) "__init__" = some (some (.ref fI))) (tI : PySem.W.typeIn K (.ref fI) = some (.type "function")) (noF : PySem.W.findIn K (.ref C) fld = some none) (sup : PySem.W.ks_superIn K C C "__init__" = some (some (.builtin "ValueError.__init__"))) (sVE : PySem.W.subIn K (.ref C) (.type "ValueError") = some true) (mroC : PySem.W.mroIn K C (.ref C) = some true) (noAny : PySem.W.nsIn K cStatics "thirdparty.any" = some none) (noSup : PySem.W.nsIn K mainGlobals "super" = some none)
    (top : (P.main.scope.names.lookup ("super" : Str)).isSome = false)
    (lI : K.lookup fI = some ⟨oc, od, .func (PySem.W.ksFn "__init__" qual params [.Expr (.Call (.Attribute (.Call (.Name "super" p0) [] [] p1) "__init__" p2) [.Constant (.str txt) j p3] [] p4) p5, .Assign [.Attribute (.Name "self" q1) fld q2] (.Name par q3) q4] scope dV kV doc pm an (.ref cda) ct cc), osl⟩)
    (cI : PySem.W.codeIn K (.ref cda) qual = true) (lcda : K.lookup cda = some ⟨ccl, cdd, .fields vs, ccs⟩) (hvs : vs[2]? = some (.str file tf)) (hfile : ((P.main.file : Str) == file) = true) (lcc : K.lookup cc = some ⟨cl, cld, .cell (some (.ref C)), csl⟩)
    (ga : PySem.W.findIn K (.ref C) "__getattribute__" = some (some (.builtin "BaseException.__getattribute__"))) (gg : PySem.W.findIn K (.ref C) "__getattr__" = some none) (hdC : PySem.W.hasDictIn K C = true) (ha : PySem.W.findIn K (.ref C) "__class__" = some (some (.builtin "object.__class__")))
    (hn : PySem.W.specialIn K (.builtin "object.__class__") "__get__" = some (some (.builtin "getset_descriptor.__get__"))) (ht : PySem.W.takesIn K (.builtin "object.__class__") = some true) (hm : PySem.W.mroIn K C (.type "object") = some true) (hs : PySem.W.isClsIn K C = true)
    (S : nscB ["self", par, "__class__"] ["self", par] ["__class__"] scope = true) (hsup : scope.names.lookup ("super" : Str) = some .globalImplicit) (har : ∃ ar : Arg, (params.posonlyargs ++ params.args).head? = some ar ∧ ar.arg = "self")
    (hev : ∃ pl : Env → Sem Bool, ∀ env : Env, eval (.Call (.Attribute (.Call (.Name "super" p0) [] [] p1) "__init__" p2) [.Constant (.str txt) j p3] [] p4) env = (do
        let ov ← attributeBase (.Call (.Name "super" p0) [] [] p1) "__init__" env (eval (.Call (.Name "super" p0) [] [] p1) env)
        standAt p2.atName
        let (f, first) ← holding [ov] (getMethod ov "__init__" (pl env))
        callWith p4 f first (backTo p4 (starEach [.Constant (.str txt) j p3] env)) []))
    (hp1 : (par == ("__debug__" : Str)) = false) (hp2 : (par == ("__classdict__" : Str)) = false)
    (hw1 : ∀ env : Env, swapsWith (.Call (.Attribute (.Call (.Name "super" p0) [] [] p1) "__init__" p2) [.Constant (.str txt) j p3] [] p4) none p5.line env = pure false) (hw2 : ∀ env : Env, swapsWith (.Name par q3) (some (.Attribute (.Name "self" q1) fld q2)) q4.line env = pure false)
    (hb : ∀ (us : List Value), us.length = 2 → bindArgs (PySem.W.ksFn "__init__" qual params [.Expr (.Call (.Attribute (.Call (.Name "super" p0) [] [] p1) "__init__" p2) [.Constant (.str txt) j p3] [] p4) p5, .Assign [.Attribute (.Name "self" q1) fld q2] (.Name par q3) q4] scope dV kV doc pm an (.ref cda) ct cc) ⟨us, []⟩ = pure ((["self", par] : List Str).zip us))
    (hbk : ∀ u z : Value, bindArgs (PySem.W.ksFn "__init__" qual params [.Expr (.Call (.Attribute (.Call (.Name "super" p0) [] [] p1) "__init__" p2) [.Constant (.str txt) j p3] [] p4) p5, .Assign [.Attribute (.Name "self" q1) fld q2] (.Name par q3) q4] scope dV kV doc pm an (.ref cda) ct cc) ⟨[u], [(par, z)]⟩ = pure ((["self", par] : List Str).zip [u, z])) :
    ∃ fd, ErrF P K C fI fld par txt qual fd ∧ ∀ u z : Value, bindArgs fd ⟨[u], [(par, z)]⟩ = pure ((["self", par] : List Str).zip [u, z]) :=
  let ⟨ar, h1, h2⟩ := har
  ⟨_, (⟨⟨⟨⟨nm, q, N, bs, bm, sn, sub, ab, col, dd, k0, k1, k2, k3, k5, xL, rb⟩, sa, exC, tyC, kC⟩, iC, tI, noF, sup, sVE, mroC, noAny, noSup, top,
    ⟨oc, od, osl, params, _, scope, dV, kV, doc, pm, an, cda, ct, cc, ccl, cdd, vs, ccs, file, tf, cl, cld, csl, p0, p1, p2, p3, p4, p5, q1, q2, q3, q4, j, ar, rfl, lI, cI, lcda, hvs, hfile, lcc, nscope_by S, hsup, h1, h2, hev, hp1, hp2, hw1, hw2, rfl, hb⟩⟩,
    ⟨ga, gg, exC, hdC⟩, ⟨ga, gg, exC, hdC, ha, hn, ht, hm⟩, hs⟩), hbk⟩
theorem err_mkL {P : Program} {K : PySem.W.Frag} {C fI N : Addr} {fld par txt qual nm q : Str} {bs : List Value} {sn : List Str} {sub : List Value} {ab : Bool} {col : Option Bool} {dd : Option Addr} {k0 k1 k2 k3 k5 : Option Value}
    {oc : Value} {od : Option Addr} {osl : Array (Option Value)} {params : Arguments} {scope : Scope} {dV kV doc pm : Value} {an : Option Addr} {cda : Addr} {ct : Value} {cc : Addr} {ccl : Value} {cdd : Option Addr} {vs : Array Value} {ccs : Array (Option Value)} {file : Str} {tf : Tok} {cl : Value} {cld : Option Addr} {csl : Array (Option Value)} {p0 p1 p2 p3 p4 p5 q1 q2 q3 q4 : Pos} {j : Nat}
    (xL : K.lookup C = some (excClassObj nm q C N bs leTail true sn sub ab col dd k0 k1 k2 k3 k5 "LookupError.__new__")) (sa : PySem.W.findIn K (.ref C) "__setattr__" = some (some (.builtin "object.__setattr__"))) (exC : PySem.W.subIn K (.ref C) (.type "BaseException") = some true) (tyC : PySem.W.typeIn K (.ref C) = some (.type "type")) (kC : PySem.W.keepIn K (.ref C) = true)
    (iC : PySem.W.findIn K (.ref C) "__init__" = some (some (.ref fI))) (tI : PySem.W.typeIn K (.ref fI) = some (.type "function")) (noF : PySem.W.findIn K (.ref C) fld = some none) (sup : PySem.W.ks_superIn K C C "__init__" = some (some (.builtin "LookupError.__init__"))) (sLE : PySem.W.subIn K (.ref C) (.type "LookupError") = some true) (mroC : PySem.W.mroIn K C (.ref C) = some true) (noAny : PySem.W.nsIn K cStatics "thirdparty.any" = some none) (noSup : PySem.W.nsIn K mainGlobals "super" = some none)
    (top : (P.main.scope.names.lookup ("super" : Str)).isSome = false)
    (lI : K.lookup fI = some ⟨oc, od, .func (PySem.W.ksFn "__init__" qual params [.Expr (.Call (.Attribute (.Call (.Name "super" p0) [] [] p1) "__init__" p2) [.Constant (.str txt) j p3] [] p4) p5, .Assign [.Attribute (.Name "self" q1) fld q2] (.Name par q3) q4] scope dV kV doc pm an (.ref cda) ct cc), osl⟩)
    (cI : PySem.W.codeIn K (.ref cda) qual = true) (lcda : K.lookup cda = some ⟨ccl, cdd, .fields vs, ccs⟩) (hvs : vs[2]? = some (.str file tf)) (hfile : ((P.main.file : Str) == file) = true) (lcc : K.lookup cc = some ⟨cl, cld, .cell (some (.ref C)), csl⟩)
    (ga : PySem.W.findIn K (.ref C) "__getattribute__" = some (some (.builtin "BaseException.__getattribute__"))) (gg : PySem.W.findIn K (.ref C) "__getattr__" = some none) (hdC : PySem.W.hasDictIn K C = true) (ha : PySem.W.findIn K (.ref C) "__class__" = some (some (.builtin "object.__class__")))
    (hn : PySem.W.specialIn K (.builtin "object.__class__") "__get__" = some (some (.builtin "getset_descriptor.__get__"))) (ht : PySem.W.takesIn K (.builtin "object.__class__") = some true) (hm : PySem.W.mroIn K C (.type "object") = some true) (hs : PySem.W.isClsIn K C = true)
    (S : nscB ["self", par, "__class__"] ["self", par] ["__class__"] scope = true) (hsup : scope.names.lookup ("super" : Str) = some .globalImplicit) (har : ∃ ar : Arg, (params.posonlyargs ++ params.args).head? = some ar ∧ ar.arg = "self")
    (hev : ∃ pl : Env → Sem Bool, ∀ env : Env, eval (.Call (.Attribute (.Call (.Name "super" p0) [] [] p1) "__init__" p2) [.Constant (.str txt) j p3] [] p4) env = (do
        let ov ← attributeBase (.Call (.Name "super" p0) [] [] p1) "__init__" env (eval (.Call (.Name "super" p0) [] [] p1) env)
        standAt p2.atName
        let (f, first) ← holding [ov] (getMethod ov "__init__" (pl env))
        callWith p4 f first (backTo p4 (starEach [.Constant (.str txt) j p3] env)) []))
    (hp1 : (par == ("__debug__" : Str)) = false) (hp2 : (par == ("__classdict__" : Str)) = false)
    (hw1 : ∀ env : Env, swapsWith (.Call (.Attribute (.Call (.Name "super" p0) [] [] p1) "__init__" p2) [.Constant (.str txt) j p3] [] p4) none p5.line env = pure false) (hw2 : ∀ env : Env, swapsWith (.Name par q3) (some (.Attribute (.Name "self" q1) fld q2)) q4.line env = pure false)
    (hb : ∀ (us : List Value), us.length = 2 → bindArgs (PySem.W.ksFn "__init__" qual params [.Expr (.Call (.Attribute (.Call (.Name "super" p0) [] [] p1) "__init__" p2) [.Constant (.str txt) j p3] [] p4) p5, .Assign [.Attribute (.Name "self" q1) fld q2] (.Name par q3) q4] scope dV kV doc pm an (.ref cda) ct cc) ⟨us, []⟩ = pure ((["self", par] : List Str).zip us))
    (hbk : ∀ u z : Value, bindArgs (PySem.W.ksFn "__init__" qual params [.Expr (.Call (.Attribute (.Call (.Name "super" p0) [] [] p1) "__init__" p2) [.Constant (.str txt) j p3] [] p4) p5, .Assign [.Attribute (.Name "self" q1) fld q2] (.Name par q3) q4] scope dV kV doc pm an (.ref cda) ct cc) ⟨[u], [(par, z)]⟩ = pure ((["self", par] : List Str).zip [u, z])) :
    ∃ fd, ErrFL P K C fI fld par txt qual fd ∧ ∀ u z : Value, bindArgs fd ⟨[u], [(par, z)]⟩ = pure ((["self", par] : List Str).zip [u, z]) :=
  let ⟨ar, h1, h2⟩ := har
  ⟨_, (⟨⟨⟨⟨nm, q, N, bs, sn, sub, ab, col, dd, k0, k1, k2, k3, k5, xL⟩, sa, exC, tyC, kC⟩, iC, tI, noF, sup, sLE, mroC, noAny, noSup, top,
    ⟨oc, od, osl, params, _, scope, dV, kV, doc, pm, an, cda, ct, cc, ccl, cdd, vs, ccs, file, tf, cl, cld, csl, p0, p1, p2, p3, p4, p5, q1, q2, q3, q4, j, ar, rfl, lI, cI, lcda, hvs, hfile, lcc, nscope_by S, hsup, h1, h2, hev, hp1, hp2, hw1, hw2, rfl, hb⟩⟩,
    ⟨ga, gg, exC, hdC⟩, ⟨ga, gg, exC, hdC, ha, hn, ht, hm⟩, hs⟩), hbk⟩
end DE
namespace DE
open PyProof.Rows PySem.Spec PySem L2
/-! ### what a search over data finds -/
/-- nodes, events, what follows and what is wanted, as data -/
structure Srch {N E : Type} (enc : N → D) (key : N → NestedKey) (evE : E → D) (I : N → Prop) (sc : N → List (E × N)) (wd : N → Bool) (nx wn : Nx) (B : Nat) : Prop where
  tk : ∀ n, I n → tupK (enc n) = some (key n)
  inj : ∀ n m, I n → I m → key n = key m → n = m
  nx : ∀ n, I n → ∀ s, nx (enc n) s = some (.lst ((sc n).map fun p => .tup [evE p.1, enc p.2]), s)
  wn : ∀ n, I n → ∀ s, wn (enc n) s = some (.bl (wd n), s)
  cl : ∀ n, I n → ∀ p ∈ sc n, I p.2
  bd : ∀ l : List N, l.Nodup → (∀ n ∈ l, I n) → l.length ≤ B
  b5 : B ≤ 100000
/-- reached by so many events -/
inductive RchK {N E : Type} (sc : N → List (E × N)) (n0 : N) : List E → N → Prop
  | nil : RchK sc n0 [] n0
  | snoc {es : List E} {n m : N} {e : E} : RchK sc n0 es n → (e, m) ∈ sc n → RchK sc n0 (es ++ [e]) m
section
variable {N E : Type} {enc : N → D} {key : N → NestedKey} {evE : E → D} {I : N → Prop} {sc : N → List (E × N)} {wd : N → Bool} {nx wn : Nx} {B : Nat}
/-- an entry: a node, how it was found, after how many events -/
abbrev Wy (N E : Type) := N × Option (N × E) × Nat
structure Jw (sc : N → List (E × N)) (wd : N → Bool) (I : N → Prop) (n0 : N) (ws : List (Wy N E)) : Prop where
  nd : (ws.map (·.1)).Nodup
  ok : ∀ a ∈ ws, I a.1
  un : ∀ a ∈ ws, wd a.1 = false
  tree : ∀ a ∈ ws, (a.1 = n0 ∧ a.2.1 = none ∧ a.2.2 = 0) ∨ ∃ q e w k, a.2.1 = some (q, e) ∧ (e, a.1) ∈ sc q ∧ (q, w, k) ∈ ws ∧ a.2.2 = k + 1
  mono : ws.Pairwise fun a b => a.2.2 ≤ b.2.2
  ix : ∀ (i : Nat) a, ws[i]? = some a → a.2.2 ≤ i
/-- a new entry -/
theorem Jw.snoc {n0 : N} {ws : List (Wy N E)} (J : Jw sc wd I n0 ws) {a : Wy N E} (ha : a ∈ ws) (d3 : ∀ b ∈ ws, b.2.2 ≤ a.2.2 + 1) {m : N} {e : E} (hm : (e, m) ∈ sc a.1) (hI : I m) (hw : wd m = false) (hne : ∀ b ∈ ws, b.1 ≠ m) : Jw sc wd I n0 (ws ++ [(m, some (a.1, e), a.2.2 + 1)]) := by
  refine ⟨?_, fun b hb => ?_, fun b hb => ?_, fun b hb => ?_, ?_, fun i b hb => ?_⟩
  · rw [List.map_append]
    refine List.nodup_append.mpr ⟨J.nd, by simp, fun x hx y hy => ?_⟩
    obtain ⟨b, hb, rfl⟩ := List.mem_map.mp hx; simp only [List.map_cons, List.map_nil, List.mem_singleton] at hy
    rw [hy]; exact hne b hb
  · rcases List.mem_append.mp hb with hb | hb
    · exact J.ok b hb
    · rw [List.mem_singleton.mp hb]; exact hI
  · rcases List.mem_append.mp hb with hb | hb
    · exact J.un b hb
    · rw [List.mem_singleton.mp hb]; exact hw
  · rcases List.mem_append.mp hb with hb | hb
    · rcases J.tree b hb with z | ⟨q, e', w, k, z1, z2, z3, z4⟩
      · exact .inl z
      · exact .inr ⟨q, e', w, k, z1, z2, List.mem_append_left _ z3, z4⟩
    · rw [List.mem_singleton.mp hb]
      exact .inr ⟨a.1, e, a.2.1, a.2.2, rfl, hm, List.mem_append_left _ ha, rfl⟩
  · refine List.pairwise_append.mpr ⟨J.mono, List.pairwise_singleton _ _, fun b hb c hc => ?_⟩
    rw [List.mem_singleton.mp hc]; exact d3 b hb
  · by_cases il : i < ws.length
    · rw [List.getElem?_append_left il] at hb
      exact J.ix i b hb
    · obtain ⟨j, hj⟩ := List.mem_iff_getElem?.mp ha
      have := J.ix j a hj
      have jl : j < ws.length := (List.getElem?_eq_some_iff.mp hj).1
      rw [List.getElem?_append_right (by omega)] at hb
      have z0 : i - ws.length = 0 := by
        by_cases z : i - ws.length = 0
        · exact z
        · obtain ⟨j, hj⟩ := Nat.exists_eq_succ_of_ne_zero z
          rw [hj] at hb; simp at hb
      rw [z0] at hb
      simp at hb
      subst hb
      show a.2.2 + 1 ≤ i
      omega
end
end DE
namespace DE
open PyProof.Rows PySem.Spec PySem L2
/-! ### programs over data, evaluated by simp -/
section
variable {α β : Type}
def bdO (r : Res α) (k : α → Mo β) : Res β := match r with
  | none => none
  | some (.error x, g) => some (.error x, g)
  | some (.ok a, g) => k a g
@[simp] theorem bd_v (f : Mo α) (k : α → Mo β) (g : Sg) : bd f k g = bdO (f g) k := by unfold bd bdO; rfl
@[simp] theorem bdO_k (a : α) (g : Sg) (k : α → Mo β) : bdO (some (.ok a, g)) k = k a g := rfl
@[simp] theorem bdO_e (x : Exn) (g : Sg) (k : α → Mo β) : bdO (some (.error x, g)) k = some (.error x, g) := rfl
@[simp] theorem rt_v (a : α) (g : Sg) : rt a g = some (.ok a, g) := rfl
@[simp] theorem stop_v (g : Sg) : (stop : Mo α) g = none := rfl
@[simp] theorem ofO_k (a : α) : ofO (some a) = rt a := rfl
def sbO (r : Res α) (k : α → Ms) : Option (Out × Sg) := match r with
  | none => none
  | some (.error x, g) => some (.exc x, g)
  | some (.ok a, g) => k a g
@[simp] theorem sb_v (f : Mo α) (k : α → Ms) (g : Sg) : sb f k g = sbO (f g) k := by unfold sb sbO; cases f g with
  | none => rfl
  | some p => obtain ⟨r, g'⟩ := p; cases r <;> rfl
@[simp] theorem sbO_k (a : α) (g : Sg) (k : α → Ms) : sbO (some (.ok a, g)) k = k a g := rfl
@[simp] theorem sbO_e (x : Exn) (g : Sg) (k : α → Ms) : sbO (some (.error x, g)) k = some (.exc x, g) := rfl
@[simp] theorem ite_ap (c : Prop) [Decidable c] (f h : Sg → α) (g : Sg) : (if c then f else h) g = if c then f g else h g := by split <;> rfl
end
@[simp] theorem sOut_v (o : Out) (g : Sg) : sOut o g = some (o, g) := rfl
@[simp] theorem sStop_v (g : Sg) : sStop g = none := rfl
def seqO (r : Option (Out × Sg)) (k : Ms) : Option (Out × Sg) := match r with
  | some (.nx, g) => k g
  | o => o
@[simp] theorem seq_v (f k : Ms) (g : Sg) : fSeq f k g = seqO (f g) k := rfl
@[simp] theorem seqO_nx (g : Sg) (k : Ms) : seqO (some (.nx, g)) k = k g := rfl
@[simp] theorem seqO_ret (d : D) (g : Sg) (k : Ms) : seqO (some (.ret d, g)) k = some (.ret d, g) := rfl
@[simp] theorem seqO_exc (d : Exn) (g : Sg) (k : Ms) : seqO (some (.exc d, g)) k = some (.exc d, g) := rfl
@[simp] theorem seqO_ite (c : Prop) [Decidable c] (a b : Option (Out × Sg)) (k : Ms) : seqO (if c then a else b) k = if c then seqO a k else seqO b k := by split <;> rfl
def ifO (r : Res Bool) (t u : Ms) : Option (Out × Sg) := match r with
  | none => none
  | some (.error x, g) => some (.exc x, g)
  | some (.ok true, g) => t g
  | some (.ok false, g) => u g
@[simp] theorem if_v (c : Mo Bool) (t u : Ms) (g : Sg) : fIf c t u g = ifO (c g) t u := by
  unfold fIf; rw [sb_v]; unfold sbO ifO
  cases c g with
  | none => rfl
  | some p => obtain ⟨r, g'⟩ := p; cases r with
    | error x => rfl
    | ok b => cases b <;> rfl
@[simp] theorem ifO_t (g : Sg) (t u : Ms) : ifO (some (.ok true, g)) t u = t g := rfl
@[simp] theorem ifO_f (g : Sg) (t u : Ms) : ifO (some (.ok false, g)) t u = u g := rfl
@[simp] theorem ifO_e (x : Exn) (g : Sg) (t u : Ms) : ifO (some (.error x, g)) t u = some (.exc x, g) := rfl
theorem ifO_b (b : Bool) (g : Sg) (t u : Ms) : ifO (some (.ok b, g)) t u = if b = true then t g else u g := by cases b <;> rfl
@[simp] theorem ret_v (e : Mo D) (g : Sg) : fRet e g = sbO (e g) fun d => sOut (.ret d) := by unfold fRet; rw [sb_v]
@[simp] theorem exp_v (e : Mo D) (g : Sg) : fExp e g = sbO (e g) fun _ => sOut .nx := by unfold fExp; rw [sb_v]
@[simp] theorem set_v (i : Nat) (e : Mo D) (g : Sg) : fSet i e g = sbO (e g) fun d g => some (.nx, ⟨g.r.set i (.dat d), g.s⟩) := by unfold fSet; rw [sb_v]
@[simp] theorem setOwn_v (i : Nat) (e : Mo (List D)) (g : Sg) : fSetO i e g = sbO (e g) fun d g => some (.nx, ⟨g.r.set i (.own d), g.s⟩) := by unfold fSetO; rw [sb_v]
def nameO (i : Nat) (x : Option Sl) (g : Sg) : Res D := match x with
  | some (.dat d) => some (.ok d, g)
  | some (.own xs) => some (.ok (.lst xs), ⟨g.r.set i (.dat (.lst xs)), g.s⟩)
  | some (.odk _ kvs) => some (.ok (.dkn kvs), ⟨g.r.set i (.dat (.dkn kvs)), g.s⟩)
  | _ => none
@[simp] theorem name_v (i : Nat) (r : List Sl) (s : DS) : fName i ⟨r, s⟩ = nameO i r[i]? ⟨r, s⟩ := rfl
@[simp] theorem nameO_d (i : Nat) (d : D) (g : Sg) : nameO i (some (.dat d)) g = some (.ok d, g) := rfl
@[simp] theorem nameO_o (i : Nat) (xs : List D) (r : List Sl) (s : DS) : nameO i (some (.own xs)) ⟨r, s⟩ = some (.ok (.lst xs), ⟨r.set i (.dat (.lst xs)), s⟩) := rfl
def peekO (x : Option Sl) (g : Sg) : Res (List D) := match x with
  | some (.dat (.lst xs)) => some (.ok xs, g)
  | some (.dat (.tup xs)) => some (.ok xs, g)
  | some (.own xs) => some (.ok xs, g)
  | _ => none
@[simp] theorem peek_v (i : Nat) (r : List Sl) (s : DS) : fPeek i ⟨r, s⟩ = peekO r[i]? ⟨r, s⟩ := rfl
@[simp] theorem peekO_l (xs : List D) (g : Sg) : peekO (some (.dat (.lst xs))) g = some (.ok xs, g) := rfl
@[simp] theorem peekO_t (xs : List D) (g : Sg) : peekO (some (.dat (.tup xs))) g = some (.ok xs, g) := rfl
@[simp] theorem peekO_o (xs : List D) (g : Sg) : peekO (some (.own xs)) g = some (.ok xs, g) := rfl
@[simp] theorem cons_v (f : Mo D) (fs : Mo (List D)) (g : Sg) : fCons f fs g = bdO (f g) fun d => bd fs fun ds => rt (d :: ds) := by unfold fCons; rw [bd_v]
@[simp] theorem star_v (f : Mo D) (fs : Mo (List D)) (g : Sg) : fStar f fs g = bdO (f g) fun d => match aSeq d with
  | some xs => bd fs fun ys => rt (xs ++ ys)
  | none => stop := by unfold fStar; rw [bd_v] <;> rfl
@[simp] theorem aSeq_l (xs : List D) : aSeq (.lst xs) = some xs := rfl
@[simp] theorem aSeq_t (xs : List D) : aSeq (.tup xs) = some xs := rfl
@[simp] theorem tup_v (f : Mo (List D)) (g : Sg) : fTup f g = bdO (f g) fun ds => if ds.length ≤ 100000 then rt (.tup ds) else stop := by unfold fTup; rw [bd_v]
@[simp] theorem lst_v (f : Mo (List D)) (g : Sg) : fLst f g = bdO (f g) fun ds => if ds.length ≤ 100000 then rt ds else stop := by unfold fLst; rw [bd_v]
@[simp] theorem let_v (f : Mo (List D)) (g : Sg) : fLet f g = bdO (f g) fun ds => rt (.lst ds) := by unfold fLet; rw [bd_v]
@[simp] theorem tupOf_v (f : Mo (List D)) (g : Sg) : fTupOf f g = bdO (f g) fun ds => rt (.tup ds) := by unfold fTupOf; rw [bd_v]
@[simp] theorem len_v (f : Mo (List D)) (g : Sg) : fLen f g = bdO (f g) fun ds => rt (.int ds.length) := by unfold fLen; rw [bd_v]
@[simp] theorem aLst_l (xs : List D) : aLst (.lst xs) = rt xs := rfl
@[simp] theorem aLst_t (xs : List D) : aLst (.tup xs) = rt xs := rfl
@[simp] theorem pk_v (f : Mo D) (g : Sg) : fPk f g = bdO (f g) aLst := by unfold fPk; rw [bd_v]
def catD : D → D → Mo (List D)
  | .lst xs, .lst ys => if xs.length + ys.length ≤ 100000 then rt (xs ++ ys) else stop
  | _, _ => stop
@[simp] theorem cat_v (f h : Mo D) (g : Sg) : fCat f h g = bdO (f g) fun d => bd h fun e => catD d e := by
  unfold fCat; rw [bd_v] <;> congr 1
@[simp] theorem catD_l (xs ys : List D) : catD (.lst xs) (.lst ys) = if xs.length + ys.length ≤ 100000 then rt (xs ++ ys) else stop := rfl
def callO (n : Nat) (gm : Fd) (r : Res (List D)) : Res D := match r with
  | none => none
  | some (.error x, g) => some (.error x, g)
  | some (.ok ds, g) => if ds.length = n then (gm ds g.s).map fun p => (p.1, ⟨g.r, p.2⟩) else none
@[simp] theorem call_v (n : Nat) (gm : Fd) (fa : Mo (List D)) (g : Sg) : fCallN n gm fa g = callO n gm (fa g) := by
  unfold fCallN; rw [bd_v]; unfold bdO callO
  cases fa g with
  | none => rfl
  | some p =>
    obtain ⟨r, g'⟩ := p
    cases r with
    | error x => rfl
    | ok ds =>
      dsimp only
      split
      · unfold lift; cases gm ds g'.s <;> rfl
      · rfl
@[simp] theorem callO_k (n : Nat) (gm : Fd) (ds : List D) (r : List Sl) (s : DS) : callO n gm (some (.ok ds, ⟨r, s⟩)) = if ds.length = n then (gm ds s).map fun p => (p.1, ⟨r, p.2⟩) else none := rfl
@[simp] theorem callO_e (n : Nat) (gm : Fd) (x : Exn) (g : Sg) : callO n gm (some (.error x, g)) = some (.error x, g) := rfl
@[simp] theorem ixD_v (f h : Mo D) (g : Sg) : fIxD f h g = bdO (f g) fun d => bd h fun e => match aSeq d with
  | some ds => pIx ds e
  | none => stop := by unfold fIxD; rw [bd_v] <;> rfl
@[simp] theorem pIx_v (ds : List D) (i : Int) (g : Sg) : pIx ds (.int i) g = (match atI ds i with | some d => some (.ok d, g) | none => none) := by
  unfold pIx; dsimp only; cases atI ds i <;> rfl
@[simp] theorem at0 (d : D) (ds : List D) : atI (d :: ds) 0 = some d := (atI_nat (d :: ds) 0 (by simp)).trans rfl
@[simp] theorem at1 (d e : D) (ds : List D) : atI (d :: e :: ds) 1 = some e := (atI_nat (d :: e :: ds) 1 (by simp)).trans rfl
@[simp] theorem at2 (d e f : D) (ds : List D) : atI (d :: e :: f :: ds) 2 = some f := (atI_nat (d :: e :: f :: ds) 2 (by simp)).trans rfl
@[simp] theorem fT_v (f : Mo D) (g : Sg) : fT f g = bdO (f g) aB := by unfold fT; rw [bd_v]
@[simp] theorem aB_v (b : Bool) : aB (.bl b) = rt b := rfl
@[simp] theorem not_v (f : Mo Bool) (g : Sg) : fNot f g = bdO (f g) fun b => rt (!b) := by unfold fNot; rw [bd_v]
@[simp] theorem and_v (f h : Mo Bool) (g : Sg) : fAnd f h g = bdO (f g) fun b => if b = true then h else rt false := by unfold fAnd; rw [bd_v]
@[simp] theorem or_v (f h : Mo Bool) (g : Sg) : fOr f h g = bdO (f g) fun b => if b = true then rt true else h := by unfold fOr; rw [bd_v]
@[simp] theorem notV_v (f : Mo D) (g : Sg) : fNotV f g = bdO (f g) fun d => bd (aB d) fun b => rt (.bl (!b)) := by unfold fNotV; rw [bd_v]
@[simp] theorem andV_v (f h : Mo D) (g : Sg) : fAndV f h g = bdO (f g) fun d => bd (aB d) fun b => if b = true then h else rt (.bl false) := by unfold fAndV; rw [bd_v]
@[simp] theorem orV_v (f h : Mo D) (g : Sg) : fOrV f h g = bdO (f g) fun d => bd (aB d) fun b => if b = true then rt (.bl true) else h := by unfold fOrV; rw [bd_v]
@[simp] theorem ifE_v {α : Type} (c : Mo Bool) (f h : Mo α) (g : Sg) : fIfE c f h g = bdO (c g) fun b => if b = true then f else h := by unfold fIfE; rw [bd_v]
@[simp] theorem f2_v (p : D → D → Mo D) (f h : Mo D) (g : Sg) : f2 p f h g = bdO (f g) fun d => bd h fun e => p d e := by unfold f2; rw [bd_v]
@[simp] theorem pEq_s (a b : Str) : pEq (.str a) (.str b) = rt (.bl (decide (a = b))) := rfl
@[simp] theorem pEq_i (a b : Int) : pEq (.int a) (.int b) = rt (.bl (decide (a = b))) := rfl
@[simp] theorem pNe_s (a b : Str) : pNe (.str a) (.str b) = rt (.bl (!decide (a = b))) := rfl
@[simp] theorem pNe_i (a b : Int) : pNe (.int a) (.int b) = rt (.bl (!decide (a = b))) := rfl
@[simp] theorem pI_v (f : Int → Int → D) (a b : Int) : pI f (.int a) (.int b) = rt (f a b) := rfl
@[simp] theorem pMin2_v (a b : Int) : pMin2 (.int a) (.int b) = rt (.int (if b < a then b else a)) := rfl
@[simp] theorem pMax2_v (a b : Int) : pMax2 (.int a) (.int b) = rt (.int (if b > a then b else a)) := rfl
@[simp] theorem pAdd_i (a b : Int) : pAdd (.int a) (.int b) = rt (.int (a + b)) := rfl
@[simp] theorem pAdd_t (a b : List D) : pAdd (.tup a) (.tup b) = if a.length + b.length ≤ 100000 then rt (.tup (a ++ b)) else stop := rfl
@[simp] theorem isNon_n : isNon .non = true := rfl
@[simp] theorem isNon_i (i : Int) : isNon (.int i) = false := rfl
@[simp] theorem isNon_s (i : Str) : isNon (.str i) = false := rfl
@[simp] theorem isNon_t (i : List D) : isNon (.tup i) = false := rfl
@[simp] theorem isNon_l (i : List D) : isNon (.lst i) = false := rfl
@[simp] theorem isNon_b (i : Bool) : isNon (.bl i) = false := rfl
@[simp] theorem pIs_n (d : D) : pIs d .non = rt (.bl (isNon d)) := rfl
@[simp] theorem pNis_n (d : D) : pNis d .non = rt (.bl (!isNon d)) := rfl
@[simp] theorem neg_v (f : Mo D) (g : Sg) : fNeg f g = bdO (f g) fun d => match d with
  | .int i => rt (.int (-i))
  | _ => stop := by unfold fNeg; rw [bd_v] <;> rfl
@[simp] theorem part_v (f : Mo D) (g : Sg) : fPart f g = bdO (f g) fun d => match d with
  | .int i => rt (some i)
  | _ => stop := by unfold fPart; rw [bd_v] <;> rfl
@[simp] theorem sl_v (f : Mo D) (l u : Mo (Option Int)) (g : Sg) : fSl f l u g = bdO (f g) fun d => bd l fun lo => bd u fun hi => match d with
  | .tup ds => rt (.tup (cutD ds lo hi))
  | .lst ds => rt (.lst (cutD ds lo hi))
  | _ => stop := by unfold fSl; rw [bd_v] <;> congr 1
@[simp] theorem gN_v (i : Nat) (d : D) (r : List Sl) (s : DS) : gN i d ⟨r, s⟩ = some ⟨r.set i (.dat d), s⟩ := rfl
@[simp] theorem gsNil_v (g : Sg) : gsNil [] g = some g := rfl
@[simp] theorem gsCons_v (t : Mt) (u : Mts) (d : D) (ds : List D) (g : Sg) : gsCons t u (d :: ds) g = (t d g).bind (u ds) := rfl
@[simp] theorem gT_v (n : Nat) (u : Mts) (ds : List D) (g : Sg) : gT n u (.tup ds) g = if ds.length = n then u ds g else none := rfl
@[simp] theorem asg_v (f : Mo D) (t : Mt) (g : Sg) : fAsg f t g = sbO (f g) fun d g => (t d g).map fun g' => (.nx, g') := by unfold fAsg; rw [sb_v]
def appO (i : Nat) (x : Option Sl) (r : List Sl) (s : DS) (f : Mo D) : Res D := match x with
  | some (.own _) => bdO (f ⟨r, s⟩) (fun d g1 => match g1.r[i]? with
    | some (.own xs) => if xs.length < 100000 then some (.ok .non, ⟨g1.r.set i (.own (xs ++ [d])), g1.s⟩) else none
    | _ => none)
  | _ => none
@[simp] theorem app_v (i : Nat) (f : Mo D) (r : List Sl) (s : DS) : fApp i f ⟨r, s⟩ = appO i r[i]? r s f := by
  unfold fApp appO; dsimp only
  cases r[i]? with
  | none => rfl
  | some y => cases y <;> first | rfl | exact bd_v _ _ _
@[simp] theorem appO_o (i : Nat) (xs : List D) (r : List Sl) (s : DS) (f : Mo D) : appO i (some (.own xs)) r s f = bdO (f ⟨r, s⟩) (fun d g1 => match g1.r[i]? with
    | some (.own xs) => if xs.length < 100000 then some (.ok .non, ⟨g1.r.set i (.own (xs ++ [d])), g1.s⟩) else none
    | _ => none) := rfl
def remO (i : Nat) (x : Option Sl) (r : List Sl) (s : DS) (f : Mo D) : Res D := match x with
  | some (.own _) => bdO (f ⟨r, s⟩) (fun d g1 => match d, g1.r[i]? with
    | .int k, some (.own xs) => match intsOf xs with
      | some ns => if k ∈ ns then some (.ok .non, ⟨g1.r.set i (.own ((ns.erase k).map .int)), g1.s⟩) else none
      | none => none
    | _, _ => none)
  | _ => none
@[simp] theorem rem_v (i : Nat) (f : Mo D) (r : List Sl) (s : DS) : fRem i f ⟨r, s⟩ = remO i r[i]? r s f := by
  unfold fRem remO; dsimp only
  cases r[i]? with
  | none => rfl
  | some y => cases y <;> first | rfl | exact bd_v _ _ _
@[simp] theorem remO_o (i : Nat) (xs : List D) (r : List Sl) (s : DS) (f : Mo D) : remO i (some (.own xs)) r s f = bdO (f ⟨r, s⟩) (fun d g1 => match d, g1.r[i]? with
    | .int k, some (.own xs) => match intsOf xs with
      | some ns => if k ∈ ns then some (.ok .non, ⟨g1.r.set i (.own ((ns.erase k).map .int)), g1.s⟩) else none
      | none => none
    | _, _ => none) := rfl
@[simp] theorem for_v (f : Mo D) (t : Mt) (b : Ms) (g : Sg) : fFor f t b g = sbO (f g) fun d => match aSeq d with
  | some ds => loop t b ds
  | none => sStop := by unfold fFor; rw [sb_v] <;> rfl
@[simp] theorem forR_v (f : Mo (List D)) (t : Mt) (b : Ms) (g : Sg) : fForR f t b g = sbO (f g) fun ds => match ds with
  | [.int n] => if n ≤ 1000000 ∧ -1000000 ≤ n then loop t b (intsD n) else sStop
  | _ => sStop := by unfold fForR; rw [sb_v] <;> rfl
@[simp] theorem loop_nil (t : Mt) (b : Ms) (g : Sg) : loop t b [] g = some (.nx, g) := rfl
@[simp] theorem comp_v (vs : List Nat) (fi : Mo D) (t : Mt) (c : Mo Bool) (e : Mo D) (g : Sg) : fComp vs fi t c e g = bdO (fi g) fun d => match aSeq d with
  | some ds => compF vs t c e ds
  | none => stop := by unfold fComp; rw [bd_v] <;> rfl
@[simp] theorem compF_v (vs : List Nat) (t : Mt) (c : Mo Bool) (e : Mo D) (ds : List D) (r : List Sl) (s : DS) : compF vs t c e ds ⟨r, s⟩ = if ds.length ≤ 100000 then (compL vs t c e ds ⟨wipeR r vs, s⟩).map fun p => (.ok p.1, p.2) else none := rfl
@[simp] theorem wipeR_nil (r : List Sl) : wipeR r [] = r := rfl
@[simp] theorem wipeR_cons (r : List Sl) (v : Nat) (vs : List Nat) : wipeR r (v :: vs) = (wipeR r vs).set v .no := rfl
@[simp] theorem parDD_v (i j : Nat) (f h : Mo D) (g : Sg) : fParDD i j f h g = sbO (f g) fun d => sb h fun e g => some (.nx, ⟨(g.r.set i (.dat d)).set j (.dat e), g.s⟩) := by unfold fParDD; rw [sb_v]
@[simp] theorem fMin_v (f : Mo D) (g : Sg) : fMin f g = bdO (f g) fun d => match d with
  | .lst xs => match intsOf xs with
    | some ys => if ys = [] then stop else rt (.int (minL ys))
    | none => stop
  | _ => stop := by
  unfold fMin; rw [bd_v]; congr 1; funext d
  cases d <;> first | rfl | skip
  dsimp only
  rename_i xs
  cases intsOf xs with
  | none => rfl
  | some ys => cases ys <;> rfl
@[simp] theorem fMax_v (f : Mo D) (g : Sg) : fMax f g = bdO (f g) fun d => match d with
  | .lst xs => match intsOf xs with
    | some ys => if ys = [] then stop else rt (.int (maxL ys))
    | none => stop
  | _ => stop := by
  unfold fMax; rw [bd_v]; congr 1; funext d
  cases d <;> first | rfl | skip
  dsimp only
  rename_i xs
  cases intsOf xs with
  | none => rfl
  | some ys => cases ys <;> rfl
@[simp] theorem intsOf_m (xs : List Int) : intsOf (xs.map D.int) = some xs := intsOf_map xs
def runO (r : Option (Out × Sg)) : Option (Except Exn D × DS) := match r with
  | some (.ret d, g') => some (.ok d, g'.s)
  | some (.nx, g') => some (.ok .non, g'.s)
  | some (.exc x, g') => some (.error x, g'.s)
  | _ => none
theorem runB_v (f : Ms) (N n : Nat) (ds : List D) (s : DS) (h : ds.length = n) : runB f N n ds s = runO (f ⟨ds.map .dat ++ List.replicate (N - n) .no, s⟩) := by
  unfold runB; rw [if_pos h]; rfl
theorem run_v {f : Ms} {N n : Nat} {ds : List D} {s : DS} {x : Option (Except Exn D × DS)} (h : ds.length = n) (e : runO (f ⟨ds.map .dat ++ List.replicate (N - n) .no, s⟩) = x) : runB f N n ds s = x := (runB_v f N n ds s h).trans e
@[simp] theorem runO_ret (d : D) (g : Sg) : runO (some (.ret d, g)) = some (.ok d, g.s) := rfl
@[simp] theorem runO_nx (g : Sg) : runO (some (.nx, g)) = some (.ok .non, g.s) := rfl
@[simp] theorem runO_exc (d : Exn) (g : Sg) : runO (some (.exc d, g)) = some (.error d, g.s) := rfl
@[simp] theorem runO_ite (c : Prop) [Decidable c] (a b : Option (Out × Sg)) : runO (if c then a else b) = if c then runO a else runO b := by split <;> rfl
@[simp] theorem trB_l (xs : List D) : trB (.lst xs) = some (!xs.isEmpty) := rfl
@[simp] theorem trB_t (xs : List D) : trB (.tup xs) = some (!xs.isEmpty) := rfl
@[simp] theorem trB_b (b : Bool) : trB (.bl b) = some b := rfl
@[simp] theorem trB_n : trB .non = some false := rfl
@[simp] theorem fTr_v (f : Mo D) (g : Sg) : fTr f g = bdO (f g) fun d => ofO (trB d) := by unfold fTr; rw [bd_v]
@[simp] theorem fOrT_v (f h : Mo D) (g : Sg) : fOrT f h g = bdO (f g) fun d => bd (ofO (trB d)) fun b => if b = true then rt d else h := by unfold fOrT; rw [bd_v]
def lenSO (x : Option Sl) (g : Sg) : Res D := match x with
  | some (.dat (.scr ns)) => some (.ok (.int ns.length), g)
  | _ => none
@[simp] theorem lenS_v (i : Nat) (r : List Sl) (s : DS) : fLenS i ⟨r, s⟩ = lenSO r[i]? ⟨r, s⟩ := rfl
@[simp] theorem lenSO_v (ns : List Int) (g : Sg) : lenSO (some (.dat (.scr ns))) g = some (.ok (.int ns.length), g) := rfl
@[simp] theorem compR_v (vs : List Nat) (fi : Mo (List D)) (t : Mt) (c : Mo Bool) (e : Mo D) (g : Sg) : fCompR vs fi t c e g = bdO (fi g) fun ds => match ds with
  | [.int n] => if n ≤ 100000 ∧ -100000 ≤ n then compF vs t c e (intsD n) else stop
  | _ => stop := by unfold fCompR; rw [bd_v] <;> rfl
theorem intsD_nat (n : Nat) : intsD (n : Int) = (List.range n).map (fun (i : Nat) => D.int (i : Int)) := by unfold intsD; rw [Int.toNat_natCast]
/-- a comprehension over encoded things -/
theorem comp_gen {α : Type} {E F : α → D} {P : α → Bool} {j : Nat} {S : List Sl} {s : DS} {c : Mo Bool} {e : Mo D} (l : List α) (hb : ∀ x : α, (S.set j (.dat (E x))).set j .no = S)
    (hc : ∀ x ∈ l, c ⟨S.set j (.dat (E x)), s⟩ = some (.ok (P x), ⟨S.set j (.dat (E x)), s⟩)) (he : ∀ x ∈ l, P x = true → e ⟨S.set j (.dat (E x)), s⟩ = some (.ok (F x), ⟨S.set j (.dat (E x)), s⟩)) : compL [j] (gN j) c e (l.map E) ⟨S, s⟩ = some ((l.filter P).map F, ⟨S, s⟩) :=
  compL_on l fun x hx => ⟨_, _, rfl, hc x hx, fun hp => ⟨_, he x hx hp, hb x, rfl⟩, fun _ => ⟨hb x, rfl⟩⟩
theorem comp_two {i j : Nat} {F : Pr → D} {P : Pr → Bool} {S : List Sl} {s : DS} {c : Mo Bool} {e : Mo D} (l : List Pr) (hb : ∀ x : Pr, (((S.set i (.dat (.int x.1))).set j (.dat (.str x.2))).set j .no).set i .no = S)
    (hc : ∀ x ∈ l, c ⟨(S.set i (.dat (.int x.1))).set j (.dat (.str x.2)), s⟩ = some (.ok (P x), ⟨(S.set i (.dat (.int x.1))).set j (.dat (.str x.2)), s⟩)) (he : ∀ x ∈ l, P x = true → e ⟨(S.set i (.dat (.int x.1))).set j (.dat (.str x.2)), s⟩ = some (.ok (F x), ⟨(S.set i (.dat (.int x.1))).set j (.dat (.str x.2)), s⟩)) : compL [i, j] (gT 2 (gsCons (gN i) (gsCons (gN j) gsNil))) c e (rowD l) ⟨S, s⟩ = some ((l.filter P).map F, ⟨S, s⟩) :=
  compL_on l fun x hx => ⟨_, _, rfl, hc x hx, fun hp => ⟨_, he x hx hp, hb x, rfl⟩, fun _ => ⟨hb x, rfl⟩⟩
end DE
namespace DE
open PyProof.Rows PySem.Spec PySem L2 S
section
variable {N E : Type} {enc : N → D} {key : N → NestedKey} {evE : E → D} {I : N → Prop} {sc : N → List (E × N)} {wd : N → Bool} {nx wn : Nx} {B : Nat}
/-- entries that lead back -/
structure Tw (sc : N → List (E × N)) (I : N → Prop) (n0 : N) (ws : List (Wy N E)) : Prop where
  nd : (ws.map (·.1)).Nodup
  ok : ∀ a ∈ ws, I a.1
  tree : ∀ a ∈ ws, (a.1 = n0 ∧ a.2.1 = none ∧ a.2.2 = 0) ∨ ∃ q e w k, a.2.1 = some (q, e) ∧ (e, a.1) ∈ sc q ∧ (q, w, k) ∈ ws ∧ a.2.2 = k + 1
theorem Tw.snoc {n0 : N} {ws : List (Wy N E)} (J : Tw sc I n0 ws) {a : Wy N E} (ha : a ∈ ws) {m : N} {e : E} (hm : (e, m) ∈ sc a.1) (hI : I m) (hne : ∀ b ∈ ws, b.1 ≠ m) : Tw sc I n0 (ws ++ [(m, some (a.1, e), a.2.2 + 1)]) := by
  refine ⟨?_, fun b hb => ?_, fun b hb => ?_⟩
  · rw [List.map_append]
    refine List.nodup_append.mpr ⟨J.nd, by simp, fun x hx y hy => ?_⟩
    obtain ⟨b, hb, rfl⟩ := List.mem_map.mp hx; simp only [List.map_cons, List.map_nil, List.mem_singleton] at hy
    rw [hy]; exact hne b hb
  · rcases List.mem_append.mp hb with hb | hb
    · exact J.ok b hb
    · rw [List.mem_singleton.mp hb]; exact hI
  · rcases List.mem_append.mp hb with hb | hb
    · rcases J.tree b hb with z | ⟨q, e', w, k, z1, z2, z3, z4⟩
      · exact .inl z
      · exact .inr ⟨q, e', w, k, z1, z2, List.mem_append_left _ z3, z4⟩
    · rw [List.mem_singleton.mp hb]
      exact .inr ⟨a.1, e, a.2.1, a.2.2, rfl, hm, List.mem_append_left _ ha, rfl⟩
end
end DE
namespace DE
open PyProof.Rows PySem.Spec PySem L2
open LamX (CodeO TabB Tabs lamEnv lamCx)
/-! ### all_nodes -/
section
variable {X : Cx} {Γ : Gam} {W : WX} {pos p p0 p1 p2 : Pos} {k : Nat} {eL : Expr}
end
end DE
namespace DE
open PyProof.Rows PySem.Spec PySem L2
open LamX (CodeO TabB Tabs lamEnv lamCx)
section
variable {X : Cx} {Γ : Gam} {W : WX} {pos p : Pos} {k : Nat} {e0 e1 : Expr}
end
section
variable {N E : Type} {enc : N → D} {key : N → NestedKey} {evE : E → D} {I : N → Prop} {sc : N → List (E × N)} {nx : Nx} {B : Nat}
end
end DE
namespace K01
open PyProof.Rows PySem.Spec PySem L2 DE S
def top (i : Nat) : Stmt := PySem.Challenge.pw_stolenvoices_k01_errors.main.body.getD i (.Pass ⟨0, 0, 0, 0⟩)
def tb_BadBoard : List (Str × Bool) := [("BadMachine", false), ("BadPlay", false), ("BadState", false), ("BadTrace", false), ("BadText", false), ("BadEvent", false), ("BadKey", false), ("BadBoard", true), ("Missing", false), ("BadQuestion", false)]
def tb_BadEvent : List (Str × Bool) := [("BadMachine", false), ("BadPlay", false), ("BadState", false), ("BadTrace", false), ("BadText", false), ("BadEvent", true), ("BadKey", false), ("BadBoard", false), ("Missing", false), ("BadQuestion", false)]
def tb_BadKey : List (Str × Bool) := [("BadMachine", false), ("BadPlay", false), ("BadState", false), ("BadTrace", false), ("BadText", false), ("BadEvent", false), ("BadKey", true), ("BadBoard", false), ("Missing", false), ("BadQuestion", false)]
def tb_BadMachine : List (Str × Bool) := [("BadMachine", true), ("BadPlay", false), ("BadState", false), ("BadTrace", false), ("BadText", false), ("BadEvent", false), ("BadKey", false), ("BadBoard", false), ("Missing", false), ("BadQuestion", false)]
def tb_BadPlay : List (Str × Bool) := [("BadMachine", false), ("BadPlay", true), ("BadState", false), ("BadTrace", false), ("BadText", false), ("BadEvent", false), ("BadKey", false), ("BadBoard", false), ("Missing", false), ("BadQuestion", false)]
def tb_BadQuestion : List (Str × Bool) := [("BadMachine", false), ("BadPlay", false), ("BadState", false), ("BadTrace", false), ("BadText", false), ("BadEvent", false), ("BadKey", false), ("BadBoard", false), ("Missing", false), ("BadQuestion", true)]
def tb_BadState : List (Str × Bool) := [("BadMachine", false), ("BadPlay", false), ("BadState", true), ("BadTrace", false), ("BadText", false), ("BadEvent", false), ("BadKey", false), ("BadBoard", false), ("Missing", false), ("BadQuestion", false)]
def tb_BadText : List (Str × Bool) := [("BadMachine", false), ("BadPlay", false), ("BadState", false), ("BadTrace", false), ("BadText", true), ("BadEvent", false), ("BadKey", false), ("BadBoard", false), ("Missing", false), ("BadQuestion", false)]
def tb_BadTrace : List (Str × Bool) := [("BadMachine", false), ("BadPlay", false), ("BadState", false), ("BadTrace", true), ("BadText", false), ("BadEvent", false), ("BadKey", false), ("BadBoard", false), ("Missing", false), ("BadQuestion", false)]
def tb_LookupError : List (Str × Bool) := [("BadMachine", false), ("BadPlay", false), ("BadState", false), ("BadTrace", false), ("BadText", false), ("BadEvent", false), ("BadKey", false), ("BadBoard", false), ("Missing", true), ("BadQuestion", false)]
def tb_Missing : List (Str × Bool) := [("BadMachine", false), ("BadPlay", false), ("BadState", false), ("BadTrace", false), ("BadText", false), ("BadEvent", false), ("BadKey", false), ("BadBoard", false), ("Missing", true), ("BadQuestion", false)]
def tb_ValueError : List (Str × Bool) := [("BadMachine", true), ("BadPlay", true), ("BadState", true), ("BadTrace", true), ("BadText", true), ("BadEvent", true), ("BadKey", true), ("BadBoard", true), ("Missing", false), ("BadQuestion", true)]
def tb_VoiceError : List (Str × Bool) := [("BadMachine", true), ("BadPlay", true), ("BadState", true), ("BadTrace", true), ("BadText", true), ("BadEvent", true), ("BadKey", true), ("BadBoard", true), ("Missing", false), ("BadQuestion", true)]
def cs_number : List Str := ["Missing"]
structure Ty (mg : Str → Option Value) : Prop where
  z_int : mg "int" = none
structure Tx (P : Program) (w : World) (K : PySem.W.Frag) (mg : Str → Option Value) (base : Heap) (Γ : Gam) : Prop where
  z_enumerate : mg "enumerate" = none
  z_int : mg "int" = none
  z_isinstance : mg "isinstance" = none
  z_len : mg "len" = none
  z_range : mg "range" = none
  z_repr : mg "repr" = none
  xk_BadBoard : ErrXK P w K mg base Γ "BadBoard" "many"
  xk_BadEvent : ErrXK P w K mg base Γ "BadEvent" "event"
  xk_BadKey : ErrXK P w K mg base Γ "BadKey" "key"
  xk_BadMachine : ErrXK P w K mg base Γ "BadMachine" "place"
  xk_BadPlay : ErrXK P w K mg base Γ "BadPlay" "place"
  xk_BadState : ErrXK P w K mg base Γ "BadState" "place"
  xk_BadText : ErrXK P w K mg base Γ "BadText" "place"
  xk_BadTrace : ErrXK P w K mg base Γ "BadTrace" "place"
  xl_Missing : ErrXL P w K mg base Γ "Missing" "number"
  q_BadQuestion : ErrX0 K mg Γ "BadQuestion"
  h_BadBoard : HdX K mg Γ "BadBoard" tb_BadBoard
  h_BadEvent : HdX K mg Γ "BadEvent" tb_BadEvent
  h_BadKey : HdX K mg Γ "BadKey" tb_BadKey
  h_BadMachine : HdX K mg Γ "BadMachine" tb_BadMachine
  h_BadPlay : HdX K mg Γ "BadPlay" tb_BadPlay
  h_BadQuestion : HdX K mg Γ "BadQuestion" tb_BadQuestion
  h_BadState : HdX K mg Γ "BadState" tb_BadState
  h_BadText : HdX K mg Γ "BadText" tb_BadText
  h_BadTrace : HdX K mg Γ "BadTrace" tb_BadTrace
  h_LookupError : HdX K mg Γ "LookupError" tb_LookupError
  h_Missing : HdX K mg Γ "Missing" tb_Missing
  h_ValueError : HdX K mg Γ "ValueError" tb_ValueError
  h_VoiceError : HdX K mg Γ "VoiceError" tb_VoiceError
  fo_event : FldOk Γ "event" cs_event
  fo_key : FldOk Γ "key" cs_key
  fo_many : FldOk Γ "many" cs_many
  fo_number : FldOk Γ "number" cs_number
  fo_place : FldOk Γ "place" cs_place
  k : ErrK K Γ
section
variable {P : Program} {w : World} {K : PySem.W.Frag} {mg : Str → Option Value} {base : Heap} {Γ : Gam}
/-! ### _law_draw -/
abbrev s__law_draw : Stmt := top 14
theorem sc__law_draw : FnScope ["m", "limit", "mixed", "cell"] ["m", "limit"] (defScope s__law_draw) := ⟨rfl, rfl, rfl, by decide +kernel, rfl, by decide +kernel, by decide +kernel⟩
theorem kf__law_draw {f : Addr} {fd : FuncData} (T : Tx P w K mg base Γ) (F : Fun K "_law_draw" "_law_draw" s__law_draw f fd) (hm : mg "_law_draw" = some (.ref f))  : Kf P w K mg base 1 "_law_draw" (dsp K Γ 2 m__law_draw) :=
  kf_of (ps := ["m", "limit"]) (N := ["m", "limit", "mixed", "cell"]) F hm sc__law_draw (F.binds (ps := ["m", "limit"]) fun _ _ _ _ _ _ us hl => match us, hl with | [_, _], _ => rfl) (fun cdv A outer s H E C =>
  b_cons (s_while (fun g => g.s.great.length + 1) C.pas (t_w (w_and (t_cmp (o_ne C.room.units) (d_mget .great (hu_of C.room) (dv_ 0)) (d_let (d_lstO da_nil)) (nomark _)) (w_and1 (t_cmp (o_eq C.room.units) (d_ix (d_mget .great (hu_of C.room) (dv_ 0)) d_int (fun _ _ => rfl)) d_int (nomark _)))))
  (b_one (s_mput .great 0 (hu_of C.room) (dv_ 0) (d_sl (d_mget .great (hu_of C.room) (dv_ 0)) (do_some d_int) do_none))))
  (b_cons (s_if (t_cmp (o_ne C.room.units) (d_mget .great (hu_of C.room) (dv_ 0)) (d_let (d_lstO da_nil)) (nomark _))
  (b_cons (s_set 3 sc__law_draw.nd (d_ix (d_mget .great (hu_of C.room) (dv_ 0)) d_int (fun _ _ => rfl)))
  (b_cons (s_mput .great 0 (hu_of C.room) (dv_ 0) (d_let (d_catO (d_let (d_lstO (da_cons (d_bin o_div (dv_ 3) (dv_ 1)) da_nil))) (d_sl (d_mget .great (hu_of C.room) (dv_ 0)) (do_some d_int) do_none))))
  (b_one (s_ret (d_bin o_mod (d_intOf (dv_ 3) (by rfl) T.z_int (by decide +kernel)) (dv_ 1))))))
  b_nil)
  (b_cons (s_mput .turns 0 (hu_of C.room) (dv_ 0) (d_bin o_add (d_mget .turns (hu_of C.room) (dv_ 0)) d_int))
  (b_cons (s_set 2 sc__law_draw.nd (d_bin o_mod (d_intOf (d_bin o_add (d_bin o_add (d_bin o_mul (d_mget .seed (hu_of C.room) (dv_ 0)) d_int) (d_bin o_mul (d_bin o_mul (d_mget .turns (hu_of C.room) (dv_ 0)) (d_mget .turns (hu_of C.room) (dv_ 0))) d_int)) (d_mget .turns (hu_of C.room) (dv_ 0))) (by rfl) T.z_int (by decide +kernel)) d_int))
  (b_cons (s_set 2 sc__law_draw.nd (d_bin o_mod (d_intOf (d_bin o_add (d_bin o_mul (dv_ 2) d_int) d_int) (by rfl) T.z_int (by decide +kernel)) d_int))
  (b_one (s_ret (d_bin o_mod (d_bin o_div (d_bin o_mod (d_intOf (d_bin o_add (d_bin o_mul (dv_ 2) d_int) (d_mget .turns (hu_of C.room) (dv_ 0))) (by rfl) T.z_int (by decide +kernel)) d_int) d_int) (dv_ 1)))))))))

/-! ### _law_of -/
abbrev s__law_of : Stmt := top 15
theorem sc__law_of : FnScope ["m", "some"] ["m", "some"] (defScope s__law_of) := ⟨rfl, rfl, rfl, by decide +kernel, rfl, by decide +kernel, by decide +kernel⟩
theorem kf__law_of {f : Addr} {fd : FuncData} (T : Tx P w K mg base Γ) (F : Fun K "_law_of" "_law_of" s__law_of f fd) (hm : mg "_law_of" = some (.ref f)) (K__law_draw : Kf P w K mg base 1 "_law_draw" (dsp K Γ 2 m__law_draw)) : Kf P w K mg base 2 "_law_of" (dsp K Γ 2 m__law_of) :=
  kf_of (ps := ["m", "some"]) (N := ["m", "some"]) F hm sc__law_of (F.binds (ps := ["m", "some"]) fun _ _ _ _ _ _ us hl => match us, hl with | [_, _], _ => rfl) (fun cdv A outer s H E C =>
  b_one (s_ret (d_ix (dv_ 1) (d_callK K__law_draw (by decide) C (by rfl) (da_cons (dv_ 0) (da_cons (d_len (dp_ 1) (by rfl) T.z_len PySem.boot_len) da_nil))) (fun _ _ => rfl))))

/-! ### _law_marks -/
abbrev s__law_marks : Stmt := top 16
theorem sc__law_marks : FnScope ["e", "some", "at", "is_so"] ["e"] (defScope s__law_marks) := ⟨rfl, rfl, rfl, by decide +kernel, rfl, by decide +kernel, by decide +kernel⟩
def fb__law_marks : Ms := fSeq (fSet 1 (fLet (fLst (fCons (fIsE tb_BadMachine (fName 0)) (fCons (fIsE tb_BadPlay (fName 0)) (fCons (fIsE tb_BadState (fName 0)) (fCons (fIsE tb_BadTrace (fName 0)) (rt []))))))))
  (fSeq (fSet 1 (fLet (fCat (fName 1) (fLet (fLst (fCons (fIsE tb_BadText (fName 0)) (fCons (fIsE tb_BadEvent (fName 0)) (fCons (fIsE tb_BadKey (fName 0)) (fCons (fIsE tb_BadBoard (fName 0)) (rt []))))))))))
  (fSeq (fSet 1 (fLet (fCat (fName 1) (fLet (fLst (fCons (fIsE tb_BadQuestion (fName 0)) (fCons (fIsE tb_Missing (fName 0)) (rt []))))))))
  (fRet (fLet (fCompP [2, 3] enP (fCons (fName 1) (rt [])) (gT 2 (gsCons (gN 2) (gsCons (gN 3) gsNil))) (fT (fName 3)) (fName 2))))))
def m__law_marks : Fd := runB fb__law_marks 4 1
theorem kf__law_marks {f : Addr} {fd : FuncData} (T : Tx P w K mg base Γ) (F : Fun K "_law_marks" "_law_marks" s__law_marks f fd) (hm : mg "_law_marks" = some (.ref f))  : Kf P w K mg base 1 "_law_marks" (dsp K Γ 1 m__law_marks) :=
  kf_of (ps := ["e"]) (N := ["e", "some", "at", "is_so"]) F hm sc__law_marks (F.binds (ps := ["e"]) fun _ _ _ _ _ _ us hl => match us, hl with | [_], _ => rfl) (fun cdv A outer s H E C =>
  b_cons (s_set 1 sc__law_marks.nd (d_let (d_lstO (da_cons (d_isE T.k T.h_BadMachine (by rfl) (dv_ 0) (by rfl) T.z_isinstance (by decide +kernel)) (da_cons (d_isE T.k T.h_BadPlay (by rfl) (dv_ 0) (by rfl) T.z_isinstance (by decide +kernel)) (da_cons (d_isE T.k T.h_BadState (by rfl) (dv_ 0) (by rfl) T.z_isinstance (by decide +kernel)) (da_cons (d_isE T.k T.h_BadTrace (by rfl) (dv_ 0) (by rfl) T.z_isinstance (by decide +kernel)) da_nil)))))))
  (b_cons (s_set 1 sc__law_marks.nd (d_let (d_catO (dv_ 1) (d_let (d_lstO (da_cons (d_isE T.k T.h_BadText (by rfl) (dv_ 0) (by rfl) T.z_isinstance (by decide +kernel)) (da_cons (d_isE T.k T.h_BadEvent (by rfl) (dv_ 0) (by rfl) T.z_isinstance (by decide +kernel)) (da_cons (d_isE T.k T.h_BadKey (by rfl) (dv_ 0) (by rfl) T.z_isinstance (by decide +kernel)) (da_cons (d_isE T.k T.h_BadBoard (by rfl) (dv_ 0) (by rfl) T.z_isinstance (by decide +kernel)) da_nil)))))))))
  (b_cons (s_set 1 sc__law_marks.nd (d_let (d_catO (dv_ 1) (d_let (d_lstO (da_cons (d_isE T.k T.h_BadQuestion (by rfl) (dv_ 0) (by rfl) T.z_isinstance (by decide +kernel)) (da_cons (d_isE T.k T.h_Missing (by rfl) (dv_ 0) (by rfl) T.z_isinstance (by decide +kernel)) da_nil)))))))
  (b_one (s_ret (d_let (d_compE (own := [("at", 2), ("is_so", 3)]) (js := ([2] ++ ([3] ++ []))) (gt := (gTup K 2 (gCons (gName 2) (gCons (gName 3) gNil)))) C.calm sc__law_marks.nd (da_cons (dv_ 1) da_nil) (blk_ok (by decide +kernel)) (by decide) ⟨fun _ _ _ _ _ => g_tup (by rfl) (gs_cons (g_name 2 sc__law_marks.nd) (gs_cons (g_name 3 sc__law_marks.nd) gs_nil)), fun _ _ _ _ _ => pts_1 (t_val (dv_ 3)), fun _ _ _ _ _ => dv_ 2⟩ (by rfl) T.z_enumerate)))))))

/-! ### _law_fields -/
abbrev s__law_fields : Stmt := top 17
theorem sc__law_fields : FnScope ["thing", "found"] ["thing"] (defScope s__law_fields) := ⟨rfl, rfl, rfl, by decide +kernel, rfl, by decide +kernel, by decide +kernel⟩
def fb__law_fields : Ms := fSeq (fSet 1 (fLet (fLst (fCons (fFld cs_place (fMkE "BadMachine" (fName 0))) (fCons (fFld cs_place (fMkE "BadMachine" (fName 0))) (fCons (fFld cs_place (fMkE "BadPlay" (fName 0))) (fCons (fFld cs_place (fMkE "BadPlay" (fName 0))) (rt []))))))))
  (fSeq (fSet 1 (fLet (fCat (fName 1) (fLet (fLst (fCons (fFld cs_place (fMkE "BadState" (fName 0))) (fCons (fFld cs_place (fMkE "BadState" (fName 0))) (fCons (fFld cs_place (fMkE "BadTrace" (fName 0))) (rt [])))))))))
  (fSeq (fSet 1 (fLet (fCat (fName 1) (fLet (fLst (fCons (fFld cs_place (fMkE "BadTrace" (fName 0))) (fCons (fFld cs_place (fMkE "BadText" (fName 0))) (fCons (fFld cs_place (fMkE "BadText" (fName 0))) (rt [])))))))))
  (fSeq (fSet 1 (fLet (fCat (fName 1) (fLet (fLst (fCons (fFld cs_event (fMkE "BadEvent" (fName 0))) (fCons (fFld cs_event (fMkE "BadEvent" (fName 0))) (fCons (fFld cs_key (fMkE "BadKey" (fName 0))) (fCons (fFld cs_key (fMkE "BadKey" (fName 0))) (rt []))))))))))
  (fSeq (fSet 1 (fLet (fCat (fName 1) (fLet (fLst (fCons (fFld cs_many (fMkE "BadBoard" (fName 0))) (fCons (fFld cs_many (fMkE "BadBoard" (fName 0))) (rt []))))))))
  (fRet (fLet (fCat (fName 1) (fLet (fLst (fCons (fFld cs_number (fMkE "Missing" (fName 0))) (fCons (fFld cs_number (fMkE "Missing" (fName 0))) (rt []))))))))))))
def m__law_fields : Fd := runB fb__law_fields 2 1
theorem kf__law_fields {f : Addr} {fd : FuncData} (T : Tx P w K mg base Γ) (F : Fun K "_law_fields" "_law_fields" s__law_fields f fd) (hm : mg "_law_fields" = some (.ref f))  : Kf P w K mg base 3 "_law_fields" (dsp K Γ 1 m__law_fields) :=
  kf_of (ps := ["thing"]) (N := ["thing", "found"]) F hm sc__law_fields (F.binds (ps := ["thing"]) fun _ _ _ _ _ _ us hl => match us, hl with | [_], _ => rfl) (fun cdv A outer s H E C =>
  b_cons (s_set 1 sc__law_fields.nd (d_let (d_lstO (da_cons (d_fld T.k T.fo_place (d_mkE T.xk_BadMachine.x C (by decide) (by rfl) (dv_ 0))) (da_cons (d_fld T.k T.fo_place (d_mkEK T.xk_BadMachine C (by decide) (by rfl) (dv_ 0))) (da_cons (d_fld T.k T.fo_place (d_mkE T.xk_BadPlay.x C (by decide) (by rfl) (dv_ 0))) (da_cons (d_fld T.k T.fo_place (d_mkEK T.xk_BadPlay C (by decide) (by rfl) (dv_ 0))) da_nil)))))))
  (b_cons (s_set 1 sc__law_fields.nd (d_let (d_catO (dv_ 1) (d_let (d_lstO (da_cons (d_fld T.k T.fo_place (d_mkE T.xk_BadState.x C (by decide) (by rfl) (dv_ 0))) (da_cons (d_fld T.k T.fo_place (d_mkEK T.xk_BadState C (by decide) (by rfl) (dv_ 0))) (da_cons (d_fld T.k T.fo_place (d_mkE T.xk_BadTrace.x C (by decide) (by rfl) (dv_ 0))) da_nil))))))))
  (b_cons (s_set 1 sc__law_fields.nd (d_let (d_catO (dv_ 1) (d_let (d_lstO (da_cons (d_fld T.k T.fo_place (d_mkEK T.xk_BadTrace C (by decide) (by rfl) (dv_ 0))) (da_cons (d_fld T.k T.fo_place (d_mkE T.xk_BadText.x C (by decide) (by rfl) (dv_ 0))) (da_cons (d_fld T.k T.fo_place (d_mkEK T.xk_BadText C (by decide) (by rfl) (dv_ 0))) da_nil))))))))
  (b_cons (s_set 1 sc__law_fields.nd (d_let (d_catO (dv_ 1) (d_let (d_lstO (da_cons (d_fld T.k T.fo_event (d_mkE T.xk_BadEvent.x C (by decide) (by rfl) (dv_ 0))) (da_cons (d_fld T.k T.fo_event (d_mkEK T.xk_BadEvent C (by decide) (by rfl) (dv_ 0))) (da_cons (d_fld T.k T.fo_key (d_mkE T.xk_BadKey.x C (by decide) (by rfl) (dv_ 0))) (da_cons (d_fld T.k T.fo_key (d_mkEK T.xk_BadKey C (by decide) (by rfl) (dv_ 0))) da_nil)))))))))
  (b_cons (s_set 1 sc__law_fields.nd (d_let (d_catO (dv_ 1) (d_let (d_lstO (da_cons (d_fld T.k T.fo_many (d_mkE T.xk_BadBoard.x C (by decide) (by rfl) (dv_ 0))) (da_cons (d_fld T.k T.fo_many (d_mkEK T.xk_BadBoard C (by decide) (by rfl) (dv_ 0))) da_nil)))))))
  (b_one (s_ret (d_let (d_catO (dv_ 1) (d_let (d_lstO (da_cons (d_fld T.k T.fo_number (d_mkL T.xl_Missing C (by decide) (by rfl) (dv_ 0))) (da_cons (d_fld T.k T.fo_number (d_mkLK T.xl_Missing C (by decide) (by rfl) (dv_ 0))) da_nil)))))))))))))

/-! ### _law_begun -/
abbrev s__law_begun : Stmt := top 13
theorem sc__law_begun : FnScope ["script", "seed", "cell"] ["script"] (defScope s__law_begun) := ⟨rfl, rfl, rfl, by decide +kernel, rfl, by decide +kernel, by decide +kernel⟩
theorem kf__law_begun {f : Addr} {fd : FuncData} (T : Ty mg) (F : Fun K "_law_begun" "_law_begun" s__law_begun f fd) (hm : mg "_law_begun" = some (.ref f)) : Kf P w K mg base 1 "_law_begun" (spBeg K) := by
  refine ⟨f, fd, ["script"], fnG_of F sc__law_begun (fun vs H Q E h => ?_) (fun cdv A outer s H vs Q E C h => ⟨tBeg K, ?_, ?_⟩), hm, F.kp, F.binds (ps := ["script"]) fun _ _ _ _ _ _ us hl => match us, hl with | [_], _ => rfl⟩
  · obtain ⟨l, ns, rfl, _⟩ := h; rfl
  · exact pss_cons (ps_set (i := 1) sc__law_begun.nd rfl (.inl rfl) pe_int) (pss_cons (ps_for C.pas C.calm (pi_list (pe_var (i := 0) rfl (.inl rfl))) (pg_name (i := 2) sc__law_begun.nd rfl (.inl rfl)) (pss_one (ps_set (i := 1) sc__law_begun.nd rfl (.inl rfl) (pe_op op_mod (pe_callTy call_int1 (by rfl) T.z_int (by decide +kernel) (pa_cons (pe_op op_add (pe_op op_add (pe_op op_mul (pe_var (i := 1) rfl (.inl rfl)) pe_int) (pe_op op_mod (pe_callTy call_int1 (by rfl) T.z_int (by decide +kernel) (pa_cons (pe_var (i := 2) rfl (.inl rfl)) pa_nil)) pe_int)) pe_int) pa_nil)) pe_int))))
      (pss_one (ps_ret (pe_disp (pps_cons pe_str (pe_lc (own := [("cell", 2)]) (g := gName 2) (te := tVar 2) C.calm sc__law_begun.nd (pi_list (pe_var (i := 0) rfl (.inl rfl))) (blk_ok (by decide +kernel)) (fun _ _ _ _ _ => (g_name (Γ := ⟨0, fun _ => none, [], w⟩) 2 sc__law_begun.nd).1) (fun _ _ _ _ _ => pts_one (pt_cmpR op_ge (pe_var (i := 2) rfl (.inl rfl)) (pe_op op_pow pe_int pe_int) (nomark _))) (fun _ _ _ _ _ => pe_var (i := 2) rfl (.inl rfl))) (pps_cons pe_str (pe_var (i := 1) rfl (.inl rfl)) (pps_cons pe_str pe_int pps_nil))) rfl rfl (by intro z; cases z) (by decide)))))
  · obtain ⟨l, ns, rfl, hl, hn, q⟩ := h
    exact beg_run rfl rfl hl hn q

/-! ### law -/
abbrev s_law : Stmt := top 18
theorem sc_law : FnScope ["script", "m", "turn", "near", "some", "thing", "one", "errors", "at", "e"] ["script"] (defScope s_law) := ⟨rfl, rfl, rfl, by decide +kernel, rfl, by decide +kernel, by decide +kernel⟩
def fb_law : Ms := fSeq (fForR (fCons (rt (.int 2)) (rt [])) (gN 2) (fSeq (fSet 3 (fCallN 2 m__law_draw (fCons (fName 1) (fCons (f2 pPow (rt (.int 10)) (rt (.int 6))) (rt [])))))
  (fSeq (fSet 4 (fLet (fLst (fCons (fTup (rt [])) (fCons (fTup (fCons (rt (.str "criteria")) (fCons (fName 3) (rt [])))) (fCons (rt .non) (fCons (rt (.str "d5")) (fCons (fName 3) (fCons (fNeg (fName 3)) (fCons (fLet (fLst (fCons (fName 3) (rt [])))) (fCons (rt (.dic [])) (fCons (rt (.bl true)) (fCons (fTup (fCons (fName 3) (fCons (rt (.str "kept")) (rt [])))) (fCons (f2 pPow (rt (.int 10)) (rt (.int 30))) (rt [])))))))))))))))
  (fSeq (fSet 5 (fCallN 2 m__law_of (fCons (fName 1) (fCons (fName 4) (rt [])))))
  (fSeq (fIf (fT (f2 pNe (fLet (fComp [6] (fCallN 1 m__law_fields (fCons (fName 5) (rt []))) (gN 6) (fT (f2 pNe (fReprE (fName 6)) (fReprE (fName 5)))) (fName 6))) (fLet (fLst (rt []))))) (fRet (rt (.bl false))) (sOut .nx))
  (fSeq (fSet 7 (fLet (fLst (fCons (fMkE "BadMachine" (fName 5)) (fCons (fMkE "BadPlay" (fName 5)) (fCons (fMkE "BadState" (fName 5)) (fCons (fMkE "BadTrace" (fName 5)) (fCons (fMkE "BadText" (fName 5)) (fCons (fMkE "BadEvent" (fName 5)) (rt []))))))))))
  (fSeq (fSet 7 (fLet (fCat (fName 7) (fLet (fLst (fCons (fMkE "BadKey" (fName 5)) (fCons (fMkE "BadBoard" (fName 5)) (fCons (fMkE0 "BadQuestion") (fCons (fMkE "Missing" (fName 5)) (rt []))))))))))
  (fForEn (fCons (fName 7) (rt [])) (gT 2 (gsCons (gN 8) (gsCons (gN 9) gsNil))) (fSeq (fIf (fOr (fT (f2 pNe (fCallN 1 m__law_marks (fCons (fName 9) (rt []))) (fLet (fLst (fCons (fName 8) (rt [])))))) (fT (f2 pNe (fIsE tb_VoiceError (fName 9)) (f2 pLt (fName 8) (rt (.int 9)))))) (fRet (rt (.bl false))) (sOut .nx))
  (fIf (fOr (fT (f2 pNe (fIsE tb_ValueError (fName 9)) (f2 pLt (fName 8) (rt (.int 9))))) (fT (f2 pNe (fIsE tb_LookupError (fName 9)) (f2 pEq (fName 8) (rt (.int 9)))))) (fRet (rt (.bl false))) (sOut .nx)))))))))))
  (fRet (rt (.bl true)))
theorem fn_law {cl : Str → Option (Addr × Str)} {tl : List (Addr × Str)} {f : Addr} {fd : FuncData} (T : ∀ M, Tx P w K mg base ⟨M, cl, tl, w⟩) (F : Fun K "law" "law" s_law f fd) (K__law_begun : Kf P w K mg base 1 "_law_begun" (spBeg K)) (K__law_draw : ∀ M, Kf P w K mg base 1 "_law_draw" (dsp K ⟨M, cl, tl, w⟩ 2 m__law_draw)) (K__law_of : ∀ M, Kf P w K mg base 2 "_law_of" (dsp K ⟨M, cl, tl, w⟩ 2 m__law_of)) (K__law_marks : ∀ M, Kf P w K mg base 1 "_law_marks" (dsp K ⟨M, cl, tl, w⟩ 1 m__law_marks)) (K__law_fields : ∀ M, Kf P w K mg base 3 "_law_fields" (dsp K ⟨M, cl, tl, w⟩ 1 m__law_fields)) (SM : SysM base) : FnG P w K mg base 4 f fd ["script"] (spLaw K tl 10 1 fb_law) :=
  law_fn (N := ["script", "m", "turn", "near", "some", "thing", "one", "errors", "at", "e"]) (im := 1) F sc_law rfl (by decide) (by decide) (fun cdv A outer s H E C => ps_set (i := 1) sc_law.nd rfl (by first | exact Or.inl rfl | exact Or.inr rfl) (pe_callKs K__law_begun (by decide) C (by rfl) (pa_cons (pe_var (i := 0) rfl (.inl rfl)) pa_nil)))
    (fun M cdv A outer s H E C =>
  b_cons (s_forR C.calm C.pas (da_cons d_int da_nil) (g_name 2 sc_law.nd)
  (b_cons (s_set 3 sc_law.nd (d_callK (K__law_draw M) (by decide) C (by rfl) (da_cons (dv_ 1) (da_cons (d_bin o_pow d_int d_int) da_nil))))
  (b_cons (s_set 4 sc_law.nd (d_let (d_lstO (da_cons (d_tup da_nil) (da_cons (d_tup (da_cons d_str (da_cons (dv_ 3) da_nil))) (da_cons d_non (da_cons d_str (da_cons (dv_ 3) (da_cons (d_neg (dv_ 3)) (da_cons (d_let (d_lstO (da_cons (dv_ 3) da_nil))) (da_cons d_dic0 (da_cons d_bl (da_cons (d_tup (da_cons (dv_ 3) (da_cons d_str da_nil))) (da_cons (d_bin o_pow d_int d_int) da_nil))))))))))))))
  (b_cons (s_set 5 sc_law.nd (d_callK (K__law_of M) (by decide) C (by rfl) (da_cons (dv_ 1) (da_cons (dv_ 4) da_nil))))
  (b_cons (s_if (t_cmp (o_ne C.room.units) (d_let (d_comp (own := [("one", 6)]) (js := [6]) C.calm sc_law.nd (d_callK (K__law_fields M) (by decide) C (by rfl) (da_cons (dv_ 5) da_nil)) (blk_ok (by decide +kernel)) (by decide) ⟨fun _ _ _ _ _ => g_name 6 sc_law.nd, fun _ _ _ _ _ => pts_1 (t_cmp (o_ne C.room.units) (d_reprE SM (Ct.blk C) (dv_ 6) (by rfl) (T M).z_repr (by decide +kernel)) (d_reprE SM (Ct.blk C) (dv_ 5) (by rfl) (T M).z_repr (by decide +kernel)) (nomark _)), fun _ _ _ _ _ => dv_ 6⟩)) (d_let (d_lstO da_nil)) (nomark _))
  (b_one (s_ret d_bl))
  b_nil)
  (b_cons (s_set 7 sc_law.nd (d_let (d_lstO (da_cons (d_mkE (T M).xk_BadMachine.x C (by decide) (by rfl) (dv_ 5)) (da_cons (d_mkE (T M).xk_BadPlay.x C (by decide) (by rfl) (dv_ 5)) (da_cons (d_mkE (T M).xk_BadState.x C (by decide) (by rfl) (dv_ 5)) (da_cons (d_mkE (T M).xk_BadTrace.x C (by decide) (by rfl) (dv_ 5)) (da_cons (d_mkE (T M).xk_BadText.x C (by decide) (by rfl) (dv_ 5)) (da_cons (d_mkE (T M).xk_BadEvent.x C (by decide) (by rfl) (dv_ 5)) da_nil)))))))))
  (b_cons (s_set 7 sc_law.nd (d_let (d_catO (dv_ 7) (d_let (d_lstO (da_cons (d_mkE (T M).xk_BadKey.x C (by decide) (by rfl) (dv_ 5)) (da_cons (d_mkE (T M).xk_BadBoard.x C (by decide) (by rfl) (dv_ 5)) (da_cons (d_mk0 (T M).q_BadQuestion C (by rfl)) (da_cons (d_mkL (T M).xl_Missing C (by decide) (by rfl) (dv_ 5)) da_nil)))))))))
  (b_one (s_forEn C.calm C.pas (da_cons (dv_ 7) da_nil) (g_tup C.calm (gs_cons (g_name 8 sc_law.nd) (gs_cons (g_name 9 sc_law.nd) gs_nil)))
  (b_cons (s_if (t_w (w_or (t_cmp (o_ne C.room.units) (d_callK (K__law_marks M) (by decide) C (by rfl) (da_cons (dv_ 9) da_nil)) (d_let (d_lstO (da_cons (dv_ 8) da_nil))) (nomark _)) (w_or1 (t_cmp (o_ne C.room.units) (d_isE (T M).k (T M).h_VoiceError (by rfl) (dv_ 9) (by rfl) (T M).z_isinstance (by decide +kernel)) (d_cmp o_lt (dv_ 8) d_int (nomark _)) (nomark _)))))
  (b_one (s_ret d_bl))
  b_nil)
  (b_one (s_if (t_w (w_or (t_cmp (o_ne C.room.units) (d_isE (T M).k (T M).h_ValueError (by rfl) (dv_ 9) (by rfl) (T M).z_isinstance (by decide +kernel)) (d_cmp o_lt (dv_ 8) d_int (nomark _)) (nomark _)) (w_or1 (t_cmp (o_ne C.room.units) (d_isE (T M).k (T M).h_LookupError (by rfl) (dv_ 9) (by rfl) (T M).z_isinstance (by decide +kernel)) (d_cmp (o_eq C.room.units) (dv_ 8) d_int (nomark _)) (nomark _)))))
  (b_one (s_ret d_bl))
  b_nil))) (by rfl) (T M).z_enumerate)))))))) (by rfl) (T M).z_range)
  (b_one (s_ret d_bl)))

end
end K01
namespace S
open PyProof.Rows PySem.Spec PySem L2 DE
def FIL : List Str := ["kept", "inner", "notlow", "nothigh", "below", "above", "under", "over"]
def END_ : List Str := ["eldest", "latest", "lowest", "highest", "refuse"]
def RET_ : List Str := ["none", "eldest", "latest", "lowest", "highest"]
theorem is_word_ok (d : D) (ws : List Str) (s : DS) (h : isExc d = false) : m_is_word [d, .tup (ws.map .str)] s = some (.ok (.bl (inW d ws)), s) := by
  cases d with
  | str x =>
    refine runB_ret (r := [.dat (.str x), .dat (.tup (ws.map .str))]) rfl (ret_ok ?_)
    rw [andV_t (g1 := ⟨[.dat (.str x), .dat (.tup (ws.map .str))], s⟩) (by kernel_rfl)]
    rw [f2_ok (name_ok rfl) (name_ok rfl)]
    unfold pIn
    simp only [aSeq, flat1, DE.flat_strs, inV_strs, inW]
    rfl
  | exc c w => cases h
  | scr ns => cases h
  | fn x => cases h
  | dkn x => cases h
  | fzt x => cases h
  | _ => kernel_rfl
theorem isw (i : Nat) (c : D) (ws : List Str) (hc : c = .tup (ws.map .str)) {d : D} {g : Sg} (h : g.r[i]? = some (.dat d)) (hd : isExc d = false) : fCallN 2 m_is_word (fCons (fName i) (fCons (rt c) (rt []))) g = some (.ok (.bl (inW d ws)), g) := by
  have e := is_word_ok d ws g.s hd
  rw [← hc] at e
  exact call_ok (ds := [d, c]) (g1 := g) (cons_ok (name_ok h) (cons_ok rfl rfl)) rfl e
theorem chain_ok {p q : D → D → Mo D} {f h j : Mo D} {g g1 g2 g3 : Sg} {a b c : D} {t : Bool} {r : D} (h1 : f g = some (.ok a, g1)) (h2 : h g1 = some (.ok b, g2)) (h3 : p a b g2 = some (.ok (.bl t), g2)) (h4 : t = true → j g2 = some (.ok c, g3) ∧ q b c g3 = some (.ok r, g3)) (h5 : t = false → r = .bl false ∧ g3 = g2) :
    fChain p q f h j g = some (.ok r, g3) := by
  unfold fChain
  rw [bd_ok h1, bd_ok h2, bd_ok h3]
  cases t with
  | true => obtain ⟨h6, h7⟩ := h4 rfl; show bd j _ g2 = _; rw [bd_ok h6]; exact h7
  | false => obtain ⟨rfl, rfl⟩ := h5 rfl; rfl
theorem is_whole_ok (i lo hi : Int) (s : DS) : m_is_whole [.int i, .int lo, .int hi] s = some (.ok (.bl (decide (lo ≤ i) && decide (i ≤ hi))), s) := by
  refine runB_ret (r := [.dat (.int i), .dat (.int lo), .dat (.int hi)]) rfl ?_
  unfold fb_is_whole
  rw [seq_nx (g1 := ⟨[.dat (.int i), .dat (.int lo), .dat (.int hi)], s⟩) (by kernel_rfl)]
  refine ret_ok (chain_ok (t := decide (lo ≤ i)) (g2 := ⟨[.dat (.int i), .dat (.int lo), .dat (.int hi)], s⟩) (name_ok rfl) (name_ok rfl) rfl (c := .int hi) (fun z => ⟨name_ok rfl, by rw [z]; rfl⟩) (fun z => ⟨by rw [z]; rfl, rfl⟩))
/-- the test whether i is the last place -/
theorem last_ok {cs : List D} {i : Nat} {d : D} (s : DS) : fT (f2 pEq (fName 1) (f2 pSub (fLen (fPeek 0)) (rt (.int 1)))) ⟨[.dat (.tup cs), .dat (.int (i : Int)), .dat d], s⟩ = some (.ok (decide ((i : Int) = (cs.length : Int) - 1)), ⟨[.dat (.tup cs), .dat (.int (i : Int)), .dat d], s⟩) := by
  refine t_ok ?_
  rw [f2_ok (name_ok rfl) (g2 := ⟨[.dat (.tup cs), .dat (.int (i : Int)), .dat d], s⟩) (d' := .int ((cs.length : Int) - 1)) (by rw [f2_ok (len_ok (peek_t rfl)) rfl]; rfl)]
  rfl
theorem can_last {cs : List D} {i : Nat} {d : D} (s : DS) (h : cs[i]? = some d) (hd : isExc d = false) (hl : i + 1 = cs.length) : m_can_stand [.tup cs, .int (i : Int)] s = some (.ok (.bl (inW d END_)), s) := by
  have hi : i < cs.length := by omega
  refine runB_ret (r := [.dat (.tup cs), .dat (.int (i : Int)), .dat d]) rfl ?_
  unfold fb_can_stand
  rw [seq_nx (set_ok (ix_ok (name_ok rfl) (name_ok rfl) rfl ((atI_nat cs i hi).trans h)))]
  refine seq_ret ?_
  have e := last_ok (cs := cs) (i := i) (d := d) s
  rw [decide_eq_true (by omega)] at e
  exact (if_t e).trans (ret_ok (isw 2 c_ENDS END_ rfl rfl hd))
theorem can_inner {cs : List D} {i : Nat} {x : Str} {ws : List Str} (s : DS) (h : cs[i]? = some (.str x)) (hl : i + 1 < cs.length) (hw : FIL.contains x = true) (ht : cs.take i = ws.map .str) : m_can_stand [.tup cs, .int (i : Int)] s = some (.ok (.bl (!ws.contains x)), s) := by
  have hi : i < cs.length := by omega
  refine runB_ret (r := [.dat (.tup cs), .dat (.int (i : Int)), .dat (.str x)]) rfl ?_
  unfold fb_can_stand
  rw [seq_nx (set_ok (ix_ok (name_ok rfl) (name_ok rfl) rfl ((atI_nat cs i hi).trans h)))]
  have e := last_ok (cs := cs) (i := i) (d := .str x) s
  rw [decide_eq_false (by omega)] at e
  rw [seq_nx (if_f e)]
  have e2 := isw 2 c_FILTERS FIL rfl (d := .str x) (g := ⟨[.dat (.tup cs), .dat (.int (i : Int)), .dat (.str x)], s⟩) rfl rfl
  rw [show inW (.str x) FIL = true from hw] at e2
  refine ret_ok ?_
  rw [andV_t e2]
  rw [f2_ok (d := .str x) (d' := .tup (cutD cs none (some (i : Int)))) (g1 := ⟨[.dat (.tup cs), .dat (.int (i : Int)), .dat (.str x)], s⟩) (g2 := ⟨[.dat (.tup cs), .dat (.int (i : Int)), .dat (.str x)], s⟩) (name_ok rfl) (sl_t (g1 := ⟨[.dat (.tup cs), .dat (.int (i : Int)), .dat (.str x)], s⟩) (g2 := ⟨[.dat (.tup cs), .dat (.int (i : Int)), .dat (.str x)], s⟩) (name_ok rfl) rfl (part_ok (name_ok rfl)))]
  rw [cut_take cs i (by omega), ht]
  unfold pIn
  simp only [aSeq, flat1, DE.flat_strs, inV_strs, if_true]
  rfl
theorem len_test (cs : List D) (s : DS) : fOr (fNot (fT (fIsi "tuple" (fName 0)))) (fNot (fT (fChain pLe pLe (rt (.int 1)) (fLen (fPeek 0)) (rt c_MOST_CRITERIA)))) ⟨[.dat (.tup cs), .no], s⟩ = some (.ok (!(decide ((1 : Int) ≤ cs.length) && decide ((cs.length : Int) ≤ 6))), ⟨[.dat (.tup cs), .no], s⟩) := by
  rw [or_f (g1 := ⟨[.dat (.tup cs), .no], s⟩) (by kernel_rfl)]
  refine not_ok (t_ok (chain_ok (t := decide ((1 : Int) ≤ cs.length)) (g2 := ⟨[.dat (.tup cs), .no], s⟩) rfl (len_ok (peek_t rfl)) rfl (c := c_MOST_CRITERIA) (fun z => ⟨rfl, by rw [z]; rfl⟩) (fun z => ⟨by rw [z]; rfl, rfl⟩)))
abbrev critB : Ms := fIf (fNot (fT (fCallN 2 m_can_stand (fCons (fName 0) (fCons (fName 1) (rt [])))))) (fRet (fTup (fCons (rt (.str "criteria")) (fCons (fName 1) (rt []))))) (sOut .nx)
def AtC (cs : List D) (s : DS) (g : Sg) : Prop := ∃ x, g = ⟨[.dat (.tup cs), x], s⟩
theorem crit_turn {cs : List D} {s : DS} {i : Nat} {b : Bool} {g : Sg} (h : m_can_stand [.tup cs, .int (i : Int)] s = some (.ok (.bl b), s)) (q : AtC cs s g) :
    gN 1 (.int (i : Int)) g = some ⟨[.dat (.tup cs), .dat (.int (i : Int))], s⟩ ∧ critB ⟨[.dat (.tup cs), .dat (.int (i : Int))], s⟩ = (if b = true then some (.nx, ⟨[.dat (.tup cs), .dat (.int (i : Int))], s⟩) else some (.ret (.tup [.str "criteria", .int (i : Int)]), ⟨[.dat (.tup cs), .dat (.int (i : Int))], s⟩)) := by
  obtain ⟨x, rfl⟩ := q
  refine ⟨rfl, ?_⟩
  have e : fNot (fT (fCallN 2 m_can_stand (fCons (fName 0) (fCons (fName 1) (rt []))))) ⟨[.dat (.tup cs), .dat (.int (i : Int))], s⟩ = some (.ok (!b), ⟨[.dat (.tup cs), .dat (.int (i : Int))], s⟩) :=
    not_ok (t_ok (call_ok (ds := [.tup cs, .int (i : Int)]) (g1 := ⟨[.dat (.tup cs), .dat (.int (i : Int))], s⟩) (cons_ok (name_ok rfl) (cons_ok (name_ok rfl) rfl)) rfl h))
  cases b with
  | true => exact if_f e
  | false => exact if_t e
theorem crit_pre {cs : List D} (s : DS) (h1 : 1 ≤ cs.length) (h6 : cs.length ≤ 6) : fb_criteria_fault ⟨[.dat (.tup cs), .no], s⟩ = fSeq (loop (gN 1) critB (intsD (cs.length : Int))) (fRet (rt .non)) ⟨[.dat (.tup cs), .no], s⟩ := by
  unfold fb_criteria_fault
  have e := len_test cs s
  rw [decide_eq_true (by omega), decide_eq_true (p := (cs.length : Int) ≤ 6) (by omega)] at e
  rw [seq_nx (if_f e)]
  unfold fSeq
  rw [forR_ok (n := (cs.length : Int)) (g1 := ⟨[.dat (.tup cs), .no], s⟩) (cons_ok (len_ok (peek_t rfl)) rfl) (by omega)]
theorem crit_none {cs : List D} (s : DS) (h1 : 1 ≤ cs.length) (h6 : cs.length ≤ 6) (h : ∀ i, i < cs.length → m_can_stand [.tup cs, .int (i : Int)] s = some (.ok (.bl true), s)) : m_criteria_fault [.tup cs] s = some (.ok .non, s) := by
  obtain ⟨g', e, x, rfl⟩ := loop_all (t := gN 1) (b := critB) (AtC cs s) (ds := intsD (cs.length : Int)) (g := ⟨[.dat (.tup cs), .no], s⟩) (fun d hd g q => by
    unfold intsD at hd
    obtain ⟨i, hi, rfl⟩ := List.mem_map.mp hd
    rw [List.mem_range, Int.toNat_natCast] at hi
    obtain ⟨a, b⟩ := crit_turn (h i hi) q
    exact ⟨_, _, a, b, _, rfl⟩) ⟨_, rfl⟩
  refine runB_ret (r := [.dat (.tup cs), x]) rfl ?_
  refine (crit_pre s h1 h6).trans ?_
  rw [seq_nx e]; rfl
/-- a machine's parts -/
theorem mach {k : Int} {c b r : D} (s : DS) (hk : 1 ≤ k ∧ k ≤ 8) (hc : m_criteria_fault [c] s = some (.ok r, s)) (hr : r = .non ∨ ∃ xs, r = .tup xs) (hb : isExc b = false) :
    m_machine_fault [.tup [.int k, c, b]] s = some (.ok (if DE.isNon r = true then (if inW b RET_ = true then .non else .tup [.str "return"]) else r), s) := by
  have G : ∀ x, m_is_whole [.int k, .int 1, c_MOST_VOICES] x = some (.ok (.bl true), x) := fun x => by
    have e := is_whole_ok k 1 8 x
    rw [decide_eq_true hk.1, decide_eq_true hk.2] at e
    exact e
  have e1 : fNot (fT (fCallN 3 m_is_whole (fCons (fName 2) (fCons (rt (.int 1)) (fCons (rt c_MOST_VOICES) (rt [])))))) ⟨[.dat (.tup [.int k, c, b]), .no, .dat (.int k), .dat c, .dat b], s⟩ = some (.ok false, ⟨[.dat (.tup [.int k, c, b]), .no, .dat (.int k), .dat c, .dat b], s⟩) :=
    not_ok (t_ok (call_ok (ds := [.int k, .int 1, c_MOST_VOICES]) (g1 := ⟨[.dat (.tup [.int k, c, b]), .no, .dat (.int k), .dat c, .dat b], s⟩) (cons_ok (name_ok rfl) (cons_ok rfl (cons_ok rfl rfl))) rfl (G s)))
  have e2 : fCallN 1 m_criteria_fault (fCons (fName 3) (rt [])) ⟨[.dat (.tup [.int k, c, b]), .no, .dat (.int k), .dat c, .dat b], s⟩ = some (.ok r, ⟨[.dat (.tup [.int k, c, b]), .no, .dat (.int k), .dat c, .dat b], s⟩) :=
    call_ok (ds := [c]) (g1 := ⟨[.dat (.tup [.int k, c, b]), .no, .dat (.int k), .dat c, .dat b], s⟩) (cons_ok (name_ok rfl) rfl) rfl hc
  refine runB_ret (r := [.dat (.tup [.int k, c, b]), .dat r, .dat (.int k), .dat c, .dat b]) rfl ?_
  unfold fb_machine_fault
  rw [seq_nx (g1 := ⟨[.dat (.tup [.int k, c, b]), .no, .no, .no, .no], s⟩) (by kernel_rfl)]
  rw [seq_nx (g1 := ⟨[.dat (.tup [.int k, c, b]), .no, .dat (.int k), .dat c, .dat b], s⟩) (by kernel_rfl)]
  rw [seq_nx (if_f e1)]
  refine (seq_nx (g1 := ⟨[.dat (.tup [.int k, c, b]), .dat r, .dat (.int k), .dat c, .dat b], s⟩) (set_ok e2)).trans ?_
  have e3 := isw 4 c_RETURNS RET_ rfl (d := b) (g := ⟨[.dat (.tup [.int k, c, b]), .dat r, .dat (.int k), .dat c, .dat b], s⟩) rfl hb
  have e4 : fT (f2 pIs (fName 1) (rt .non)) ⟨[.dat (.tup [.int k, c, b]), .dat r, .dat (.int k), .dat c, .dat b], s⟩ = some (.ok (DE.isNon r), ⟨[.dat (.tup [.int k, c, b]), .dat r, .dat (.int k), .dat c, .dat b], s⟩) := t_ok ((f2_ok (name_ok rfl) rfl).trans rfl)
  cases hn : DE.isNon r with
  | true =>
    rw [hn] at e4
    cases hw : inW b RET_ with
    | true =>
      rw [hw] at e3
      have e5 : fIf _ _ _ _ = _ := if_f (t := fRet (fTup (fCons (rt (.str "return")) (rt [])))) (u := sOut .nx) ((and_t e4).trans (not_ok (t_ok e3)))
      rw [seq_nx e5]
      have : r = .non := by cases r <;> simp [DE.isNon] at hn; rfl
      subst this
      rfl
    | false =>
      rw [hw] at e3
      have e5 : fIf _ _ _ _ = _ := if_t (t := fRet (fTup (fCons (rt (.str "return")) (rt [])))) (u := sOut .nx) ((and_t e4).trans (not_ok (t_ok e3)))
      rw [seq_ret e5]
      rfl
  | false =>
    rw [hn] at e4
    have e5 : fIf _ _ _ _ = _ := if_f (t := fRet (fTup (fCons (rt (.str "return")) (rt [])))) (u := sOut .nx) (and_f (c' := fNot (fT (fCallN 2 m_is_word (fCons (fName 4) (fCons (rt c_RETURNS) (rt [])))))) e4)
    rw [seq_nx e5]
    rfl
/-! ### good criteria -/
structure Crit (ws : List Str) (e : Str) : Prop where
  len : ws.length ≤ 5
  nd : ws.Nodup
  fil : ∀ w ∈ ws, FIL.contains w = true
  en : END_.contains e = true
abbrev csOf (ws : List Str) (e : Str) : List D := (ws ++ [e]).map D.str
theorem cs_len (ws : List Str) (e : Str) : (csOf ws e).length = ws.length + 1 := by simp
theorem crit_can {ws : List Str} {e : Str} (C : Crit ws e) (s : DS) (i : Nat) (hi : i < ws.length + 1) : m_can_stand [.tup (csOf ws e), .int (i : Int)] s = some (.ok (.bl true), s) := by
  by_cases c : i = ws.length
  · subst c
    have e1 : (csOf ws e)[ws.length]? = some (.str e) := by simp
    rw [can_last s e1 rfl (by rw [cs_len])]
    rw [show inW (.str e) END_ = true from C.en]
  · have hi' : i < ws.length := by omega
    have e1 : (csOf ws e)[i]? = some (.str ws[i]) := by
      show ((ws ++ [e]).map D.str)[i]? = _
      rw [List.getElem?_map, List.getElem?_append_left hi', List.getElem?_eq_getElem hi']; rfl
    have e2 : (csOf ws e).take i = (ws.take i).map .str := by
      rw [← List.map_take, List.take_append_of_le_length (by omega)]
    rw [can_inner s e1 (by rw [cs_len]; omega) (C.fil _ (List.getElem_mem hi')) e2]
    have : (ws.take i).contains ws[i] = false := by
      rw [Bool.eq_false_iff]
      intro z
      rw [List.contains_iff_mem] at z
      obtain ⟨j, hj, ej⟩ := List.getElem_of_mem z
      rw [List.length_take] at hj
      rw [List.getElem_take] at ej
      have := (List.getElem_inj C.nd).mp ej
      omega
    rw [this]; rfl
theorem crit_good {ws : List Str} {e : Str} (C : Crit ws e) (s : DS) : m_criteria_fault [.tup (csOf ws e)] s = some (.ok .non, s) :=
  crit_none s (by rw [cs_len]; omega) (by rw [cs_len]; have := C.len; omega) fun i hi => crit_can C s i (by rw [cs_len] at hi; exact hi)
end S
namespace S
open PyProof.Rows PySem.Spec PySem L2 DE
/-! ### the draws -/
theorem pyd_ints : ∀ xs : List Int, pydA (xs.map D.int) = some (xs.map PyData.int)
  | [] => rfl
  | x :: xs => by simp [pydA, pyd, pyd_ints xs]
theorem lay_ints : ∀ xs : List Int, PyData.canLayAll0 (xs.map PyData.int) = true
  | [] => rfl
  | x :: xs => by simp [PyData.canLayAll0, PyData.canLay0, lay_ints xs]
theorem dep_ints : ∀ xs : List Int, PyData.depthAll (xs.map PyData.int) = 0
  | [] => rfl
  | x :: xs => by simp [PyData.depthAll, PyData.depth, dep_ints xs]
theorem ne_nil (xs : List Int) (g : Sg) : pNe (.lst (xs.map D.int)) (.lst []) g = some (.ok (.bl (!xs.isEmpty)), g) := by
  show pNeD (.lst (xs.map D.int)) (.lst []) g = _
  have e1 : pyd (.lst (xs.map D.int)) = some (.list (xs.map PyData.int)) := by simp [pyd, pyd_ints]
  have e2 : pyd (.lst []) = some (.list []) := rfl
  unfold pNeD
  rw [e1, e2]
  have s1 : (SeqAt.shaped (.list (xs.map PyData.int)) && SeqAt.shaped (.list [])) = true := by
    have : SeqAt.shaped (.list []) = true := by kernel_rfl
    rw [this, Bool.and_true]
    unfold SeqAt.shaped
    simp [PyData.canLay0, lay_ints, PyData.depth, dep_ints]
  dsimp only
  rw [if_pos s1]
  cases xs with
  | nil => rfl
  | cons x xs => rfl
theorem mg_ok {g : Sg} (h : g.r[0]? = some (.dat .m)) : fMg .great (fName 0) g = some (.ok (.lst (g.s.great.map D.int)), g) := by
  unfold fMg; rw [bd_ok (name_ok h)]
theorem mt_ok {g : Sg} (h : g.r[0]? = some (.dat .m)) : fMg .turns (fName 0) g = some (.ok (.int g.s.turns), g) := by
  unfold fMg; rw [bd_ok (name_ok h)]
theorem ms_ok {g : Sg} (h : g.r[0]? = some (.dat .m)) : fMg .seed (fName 0) g = some (.ok (.int g.s.seed), g) := by
  unfold fMg; rw [bd_ok (name_ok h)]
theorem ints_of : ∀ xs : List Int, intsOf (xs.map D.int) = some xs
  | [] => rfl
  | x :: xs => by simp [intsOf, ints_of xs]
theorem mpG_ok {e : Mo D} {g g1 : Sg} {xs : List Int} (h : e g = some (.ok (.lst (xs.map D.int)), g1)) (h0 : g1.r[0]? = some (.dat .m)) : fMp .great 0 e g = some (.nx, ⟨g1.r, { g1.s with great := xs }⟩) := by
  unfold fMp; rw [sb_ok h, sb_ok (name_ok h0)]; dsimp only; rw [ints_of]
theorem mpT_ok {e : Mo D} {g g1 : Sg} {n : Int} (h : e g = some (.ok (.int n), g1)) (h0 : g1.r[0]? = some (.dat .m)) : fMp .turns 0 e g = some (.nx, ⟨g1.r, { g1.s with turns := n }⟩) := by
  unfold fMp; rw [sb_ok h, sb_ok (name_ok h0)]
theorem hasGreat {g : Sg} (h : g.r[0]? = some (.dat .m)) : fT (f2 pNe (fMg .great (fName 0)) (fLet (fLst (rt [])))) g = some (.ok (!g.s.great.isEmpty), g) :=
  t_ok ((f2_ok (g1 := g) (g2 := g) (d' := .lst []) (mg_ok h) rfl).trans (ne_nil _ _))
abbrev dC : Mo Bool := fAnd (fT (f2 pNe (fMg .great (fName 0)) (fLet (fLst (rt []))))) (fT (f2 pEq (fIxD (fMg .great (fName 0)) (rt (.int 0))) (rt (.int 0))))
abbrev dB : Ms := fMp .great 0 (fSl (fMg .great (fName 0)) (fPart (rt (.int 1))) (rt none))
theorem slL_ok {e : Mo D} {l u : Mo (Option Int)} {lo hi : Option Int} {cs : List D} {g g1 g2 g3 : Sg} (h1 : e g = some (.ok (.lst cs), g1)) (h2 : l g1 = some (.ok lo, g2)) (h3 : u g2 = some (.ok hi, g3)) : fSl e l u g = some (.ok (.lst (cutD cs lo hi)), g3) := by
  unfold fSl; rw [bd_ok h1, bd_ok h2, bd_ok h3]; rfl
theorem cut_tail (x : Int) (xs : List Int) : cutD ((x :: xs).map D.int) (some 1) none = xs.map D.int := by
  unfold DE.cutD
  have e1 : HT.sIx ((x :: xs).map D.int).length 0 (some 1) = 1 := by
    rw [show (1 : Int) = ((1 : Nat) : Int) from rfl, HT.sIx_nat]; simp
  have e2 : HT.sIx ((x :: xs).map D.int).length ((x :: xs).map D.int).length none = xs.length + 1 := by simp [HT.sIx]
  rw [e1, e2]
  simp; exact List.take_of_length_le (by simp)
theorem tail_ok {g : Sg} (h : g.r[0]? = some (.dat .m)) {x : Int} {xs : List Int} (hx : g.s.great = x :: xs) : fSl (fMg .great (fName 0)) (fPart (rt (.int 1))) (rt none) g = some (.ok (.lst (xs.map D.int)), g) := by
  have e := slL_ok (e := fMg .great (fName 0)) (l := fPart (rt (.int 1))) (u := rt none) (g := g) (g1 := g) (g2 := g) (g3 := g) (mg_ok h) rfl rfl
  rw [hx, cut_tail] at e
  exact e
theorem head_ok {g : Sg} (h : g.r[0]? = some (.dat .m)) {x : Int} {xs : List Int} (hx : g.s.great = x :: xs) : fIxD (fMg .great (fName 0)) (rt (.int 0)) g = some (.ok (.int x), g) :=
  ix_ok (i := ((0 : Nat) : Int)) (g1 := g) (mg_ok h) rfl rfl (by rw [hx]; exact (atI_nat _ 0 (by simp)).trans rfl)
theorem loop_draw (r : List Sl) (s : DS) (h0 : r[0]? = some (.dat .m)) : ∀ (k : Nat) (xs : List Int), xs.length < k → ∃ ys, ys.length ≤ xs.length ∧ whl dC dB k ⟨r, { s with great := xs }⟩ = some (.nx, ⟨r, { s with great := ys }⟩)
  | 0, xs, h => by omega
  | k + 1, xs, h => by
    have hg := hasGreat (g := ⟨r, { s with great := xs }⟩) h0
    cases xs with
    | nil =>
      refine ⟨[], Nat.le_refl _, ?_⟩
      show sb dC _ _ = _
      rw [sb_ok (and_f hg)]; rfl
    | cons x xs =>
      have e2 : fT (f2 pEq (fIxD (fMg .great (fName 0)) (rt (.int 0))) (rt (.int 0))) ⟨r, { s with great := x :: xs }⟩ = some (.ok (decide (x = 0)), ⟨r, { s with great := x :: xs }⟩) := t_ok ((f2_ok (head_ok h0 rfl) rfl).trans rfl)
      have e3 : dC ⟨r, { s with great := x :: xs }⟩ = some (.ok (decide (x = 0)), ⟨r, { s with great := x :: xs }⟩) := (and_t hg).trans e2
      by_cases c : x = 0
      · rw [decide_eq_true c] at e3
        obtain ⟨ys, hy, e⟩ := loop_draw r s h0 k xs (by simp at h; omega)
        refine ⟨ys, by simp; omega, ?_⟩
        show sb dC _ _ = _
        rw [sb_ok e3]
        have e4 : dB ⟨r, { s with great := x :: xs }⟩ = some (.nx, ⟨r, { s with great := xs }⟩) := mpG_ok (tail_ok h0 rfl) h0
        show (match dB ⟨r, { s with great := x :: xs }⟩ with | some (.nx, g2) => whl dC dB k g2 | some (.ct, g2) => whl dC dB k g2 | some (.brk, g2) => some (.nx, g2) | o => o) = _
        rw [e4]; exact e
      · rw [decide_eq_false c] at e3
        refine ⟨x :: xs, Nat.le_refl _, ?_⟩
        show sb dC _ _ = _
        rw [sb_ok e3]; rfl
structure Good (k : Nat) (s : DS) : Prop where
  lo : 0 ≤ s.turns
  hi : s.turns + k < 2 ^ 60
  gr : s.great.length ≤ 1000
theorem Good.mono {j k : Nat} {s : DS} (h : Good k s) (hj : j ≤ k) : Good j s := ⟨h.lo, by have := h.hi; omega, h.gr⟩
theorem mul_r {a b : Int} (g : Sg) (h : b.natAbs < 2 ^ 60) : pMul (.int a) (.int b) g = some (.ok (.int (a * b)), g) := by
  show (if (decide (a.natAbs < 2 ^ 60) || decide (b.natAbs < 2 ^ 60)) = true then rt (D.int (a * b)) else stop) g = _
  rw [decide_eq_true h, Bool.or_true, if_pos rfl]; rfl
theorem mod_r {a b : Int} (g : Sg) (h : 0 < b) : pMod (.int a) (.int b) g = some (.ok (.int (a % b)), g) := by
  show (if decide (0 < b) = true then rt (D.int (a % b)) else stop) g = _
  rw [decide_eq_true h, if_pos rfl]; rfl
theorem div_r {a b : Int} (g : Sg) (h : 0 < b) (h2 : b < 2 ^ 29) : pDiv (.int a) (.int b) g = some (.ok (.int (a / b)), g) := by
  show (if (decide (0 < b) && decide (b < 2 ^ 29)) = true then rt (D.int (a / b)) else stop) g = _
  rw [decide_eq_true h, decide_eq_true h2]; rfl
theorem int_ok {e : Mo D} {g g1 : Sg} {i : Int} (h : e g = some (.ok (.int i), g1)) : fInt e g = some (.ok (.int i), g1) := by unfold fInt; rw [bd_ok h]; rfl
theorem cat_ok {e f : Mo D} {g g1 g2 : Sg} {xs ys : List D} (h1 : e g = some (.ok (.lst xs), g1)) (h2 : f g1 = some (.ok (.lst ys), g2)) (hl : xs.length + ys.length ≤ 100000) : fCat e f g = some (.ok (xs ++ ys), g2) := by
  unfold fCat; rw [bd_ok h1, bd_ok h2]; dsimp only; rw [if_pos hl]; rfl
theorem draw_ok {n : Int} (hn : 1 ≤ n) (hn2 : n < 2 ^ 29) {k : Nat} {s : DS} (h : Good (k + 1) s) : ∃ r s', m__law_draw [.m, .int n] s = some (.ok (.int r), s') ∧ 0 ≤ r ∧ r < n ∧ Good k s' := by
  obtain ⟨ys, hy, e1⟩ := loop_draw [.dat .m, .dat (.int n), .no, .no] s rfl (s.great.length + 1) s.great (Nat.lt_succ_self _)
  have e1 : fWhl (fun g => g.s.great.length + 1) dC dB ⟨[.dat .m, .dat (.int n), .no, .no], s⟩ = some (.nx, ⟨[.dat .m, .dat (.int n), .no, .no], { s with great := ys }⟩) := e1
  have hl : ys.length ≤ 1000 := Nat.le_trans hy h.gr
  have hg := hasGreat (g := ⟨[.dat .m, .dat (.int n), .no, .no], { s with great := ys }⟩) rfl
  cases ys with
  | cons x xs =>
    refine ⟨x % n, { s with great := x / n :: xs }, ?_, Int.emod_nonneg _ (by omega), Int.emod_lt_of_pos _ (by omega), ⟨h.lo, by have := h.hi; show s.turns + k < _; omega, by simpa using hl⟩⟩
    refine runB_ret (r := [.dat .m, .dat (.int n), .no, .dat (.int x)]) rfl ?_
    unfold fb__law_draw
    refine (seq_nx e1).trans ?_
    refine seq_ret ((if_t hg).trans ?_)
    refine (seq_nx (g1 := ⟨[.dat .m, .dat (.int n), .no, .dat (.int x)], { s with great := x :: xs }⟩) (set_ok (head_ok rfl rfl))).trans ?_
    have e2 : fMp .great 0 (fLet (fCat (fLet (fLst (fCons (f2 pDiv (fName 3) (fName 1)) (rt [])))) (fSl (fMg .great (fName 0)) (fPart (rt (.int 1))) (rt none)))) ⟨[.dat .m, .dat (.int n), .no, .dat (.int x)], { s with great := x :: xs }⟩ = some (.nx, ⟨[.dat .m, .dat (.int n), .no, .dat (.int x)], { s with great := x / n :: xs }⟩) :=
      mpG_ok (xs := x / n :: xs) (g1 := ⟨[.dat .m, .dat (.int n), .no, .dat (.int x)], { s with great := x :: xs }⟩) (let_ok (cat_ok (xs := [.int (x / n)]) (let_ok (lst_ok (cons_ok ((f2_ok (name_ok rfl) (name_ok rfl)).trans (div_r _ (by omega) hn2)) rfl) (by show 1 ≤ 100000; decide))) (tail_ok rfl rfl) (by simp at hl ⊢; omega))) rfl
    rw [seq_nx e2]
    exact ret_ok ((f2_ok (int_ok (name_ok rfl)) (name_ok rfl)).trans (mod_r _ (by omega)))
  | nil =>
    have ht : s.turns + 1 < 2 ^ 60 := by have := h.hi; omega
    have hlo := h.lo
    obtain ⟨t, ht'⟩ : ∃ t, t = s.turns + 1 := ⟨_, rfl⟩
    obtain ⟨m1, hm1⟩ : ∃ m1, m1 = (s.seed * 48271 + t * t * 16807 + t) % 2147483647 := ⟨_, rfl⟩
    obtain ⟨m2, hm2⟩ : ∃ m2, m2 = (m1 * 69621 + 12345) % 2147483629 := ⟨_, rfl⟩
    refine ⟨(m2 * 40014 + t) % 2147483563 / 64 % n, { s with great := [], turns := t }, ?_, Int.emod_nonneg _ (by omega), Int.emod_lt_of_pos _ (by omega), ⟨by show 0 ≤ t; omega, by have := h.hi; show t + k < _; omega, by simp⟩⟩
    have nt : t.natAbs < 2 ^ 60 := by omega
    refine runB_ret (r := [.dat .m, .dat (.int n), .dat (.int m2), .no]) rfl ?_
    unfold fb__law_draw
    refine (seq_nx e1).trans ?_
    refine (seq_nx (if_f hg)).trans ?_
    have e2 : fMp .turns 0 (f2 pAdd (fMg .turns (fName 0)) (rt (.int 1))) ⟨[.dat .m, .dat (.int n), .no, .no], { s with great := [] }⟩ = some (.nx, ⟨[.dat .m, .dat (.int n), .no, .no], { s with great := [], turns := t }⟩) := by
      rw [ht']
      exact mpT_ok (g1 := ⟨[.dat .m, .dat (.int n), .no, .no], { s with great := [] }⟩) ((f2_ok (mt_ok rfl) rfl).trans rfl) rfl
    refine (seq_nx e2).trans ?_
    have tt : ∀ (r : List Sl) (h0 : r[0]? = some (.dat .m)), fMg .turns (fName 0) ⟨r, { s with great := [], turns := t }⟩ = some (.ok (.int t), ⟨r, { s with great := [], turns := t }⟩) := fun r h0 => mt_ok h0
    have e3 : fSet 2 (f2 pMod (fInt (f2 pAdd (f2 pAdd (f2 pMul (fMg .seed (fName 0)) (rt (.int 48271))) (f2 pMul (f2 pMul (fMg .turns (fName 0)) (fMg .turns (fName 0))) (rt (.int 16807)))) (fMg .turns (fName 0)))) (rt (.int 2147483647))) ⟨[.dat .m, .dat (.int n), .no, .no], { s with great := [], turns := t }⟩ = some (.nx, ⟨[.dat .m, .dat (.int n), .dat (.int m1), .no], { s with great := [], turns := t }⟩) := by
      rw [hm1]
      refine set_ok (g1 := ⟨[.dat .m, .dat (.int n), .no, .no], { s with great := [], turns := t }⟩) ?_
      refine (f2_ok (int_ok (i := s.seed * 48271 + t * t * 16807 + t) (g1 := ⟨[.dat .m, .dat (.int n), .no, .no], { s with great := [], turns := t }⟩) ?_) rfl).trans (mod_r _ (by decide))
      refine (f2_ok (d := .int (s.seed * 48271 + t * t * 16807)) (g1 := ⟨[.dat .m, .dat (.int n), .no, .no], { s with great := [], turns := t }⟩) ?_ (tt _ rfl)).trans rfl
      refine (f2_ok (d := .int (s.seed * 48271)) (d' := .int (t * t * 16807)) (g1 := ⟨[.dat .m, .dat (.int n), .no, .no], { s with great := [], turns := t }⟩) (g2 := ⟨[.dat .m, .dat (.int n), .no, .no], { s with great := [], turns := t }⟩) ?_ ?_).trans rfl
      · exact (f2_ok (ms_ok rfl) rfl).trans (mul_r _ (by decide))
      · refine (f2_ok (d := .int (t * t)) (g1 := ⟨[.dat .m, .dat (.int n), .no, .no], { s with great := [], turns := t }⟩) ?_ rfl).trans (mul_r _ (by decide))
        exact (f2_ok (tt _ rfl) (tt _ rfl)).trans (mul_r _ nt)
    refine (seq_nx e3).trans ?_
    have e4 : fSet 2 (f2 pMod (fInt (f2 pAdd (f2 pMul (fName 2) (rt (.int 69621))) (rt (.int 12345)))) (rt (.int 2147483629))) ⟨[.dat .m, .dat (.int n), .dat (.int m1), .no], { s with great := [], turns := t }⟩ = some (.nx, ⟨[.dat .m, .dat (.int n), .dat (.int m2), .no], { s with great := [], turns := t }⟩) := by
      rw [hm2]
      refine set_ok (g1 := ⟨[.dat .m, .dat (.int n), .dat (.int m1), .no], { s with great := [], turns := t }⟩) ?_
      refine (f2_ok (int_ok (i := m1 * 69621 + 12345) (g1 := ⟨[.dat .m, .dat (.int n), .dat (.int m1), .no], { s with great := [], turns := t }⟩) ?_) rfl).trans (mod_r _ (by decide))
      refine (f2_ok (d := .int (m1 * 69621)) (g1 := ⟨[.dat .m, .dat (.int n), .dat (.int m1), .no], { s with great := [], turns := t }⟩) ((f2_ok (name_ok rfl) rfl).trans (mul_r _ (by decide))) rfl).trans rfl
    refine (seq_nx e4).trans (ret_ok ?_)
    refine (f2_ok (d := .int ((m2 * 40014 + t) % 2147483563 / 64)) (g1 := ⟨[.dat .m, .dat (.int n), .dat (.int m2), .no], { s with great := [], turns := t }⟩) ?_ (name_ok rfl)).trans (mod_r _ (by omega))
    refine (f2_ok (d := .int ((m2 * 40014 + t) % 2147483563)) (g1 := ⟨[.dat .m, .dat (.int n), .dat (.int m2), .no], { s with great := [], turns := t }⟩) ?_ rfl).trans (div_r _ (by decide) (by decide))
    refine (f2_ok (int_ok (i := m2 * 40014 + t) (g1 := ⟨[.dat .m, .dat (.int n), .dat (.int m2), .no], { s with great := [], turns := t }⟩) ?_) rfl).trans (mod_r _ (by decide))
    exact (f2_ok (d := .int (m2 * 40014)) (g1 := ⟨[.dat .m, .dat (.int n), .dat (.int m2), .no], { s with great := [], turns := t }⟩) ((f2_ok (name_ok rfl) rfl).trans (mul_r _ (by decide))) (tt _ rfl)).trans rfl
/-- one of some -/
theorem of_ok {xs : List D} (h1 : 1 ≤ xs.length) (h2 : xs.length < 2 ^ 29) {k : Nat} {s : DS} (h : Good (k + 1) s) : ∃ d s', m__law_of [.m, .lst xs] s = some (.ok d, s') ∧ d ∈ xs ∧ Good k s' := by
  obtain ⟨r, s', e, lo, hi, g⟩ := draw_ok (n := (xs.length : Int)) (by omega) (by omega) h
  obtain ⟨j, rfl⟩ : ∃ j : Nat, r = (j : Int) := ⟨r.toNat, by omega⟩
  have hj : j < xs.length := by omega
  refine ⟨xs[j], s', ?_, List.getElem_mem hj, g⟩
  refine runB_ret (r := [.dat .m, .dat (.lst xs)]) rfl (ret_ok ?_)
  exact ix_ok (g1 := ⟨[.dat .m, .dat (.lst xs)], s⟩) (g2 := ⟨[.dat .m, .dat (.lst xs)], s'⟩) (name_ok rfl) (call_ok (ds := [.m, .int (xs.length : Int)]) (g1 := ⟨[.dat .m, .dat (.lst xs)], s⟩) (cons_ok (name_ok rfl) (cons_ok (len_ok (peek_l rfl)) rfl)) rfl e) rfl ((atI_nat xs j hj).trans (List.getElem?_eq_getElem hj))
end S
namespace S
open PyProof.Rows PySem.Spec PySem L2 DE
/-! ### the law's own helpers on rows -/
theorem row_len (r : List Pr) : (rowD r).length = r.length := List.length_map _
def endL (w : Str) (hs : List Int) : List Int := if w = "eldest" then hs.take 1 else if w = "latest" then hs.drop (hs.length - 1) else if w = "lowest" then [minL hs] else if w = "highest" then [maxL hs] else []
end S
namespace S
open PyProof.Rows PySem.Spec PySem L2 DE
/-! ### the narrowing, the marks -/
def sparedL (w : Str) (ring : List Pr) : List Int := if w = "kept" then [] else if w = "notlow" then [minL (keysOf ring)] else if w = "nothigh" then [maxL (keysOf ring)] else [minL (keysOf ring), maxL (keysOf ring)]
def leftL (w : Str) (ring some : List Pr) (key : Int) : List Pr :=
  if w = "below" ∨ w = "under" then some.filter (fun p => decide (p.1 < key))
  else if w = "above" ∨ w = "over" then some.filter (fun p => decide (key < p.1))
  else some.filter (fun p => !(sparedL w ring).contains p.1 && (!decide (w = "kept") || decide (p.2 = "kept")))
theorem contains2 (a b w : Str) : ([a, b] : List Str).contains w = decide (w = a ∨ w = b) := by
  rw [Bool.eq_iff_iff]; simp
section
variable {S : List Sl} {s : DS} {r : List Pr} {i j : Nat}
/-- a comprehension that keeps some pairs -/
theorem keep (c : Mo Bool) (P : Pr → Bool) (hi : S[i]? = some (.dat (.lst (rowD r)))) (hl : r.length ≤ 1000) (hw : wipeR S [j] = S) (hj : ∀ p : Pr, (S.set j (.dat (prD p)))[j]? = some (.dat (prD p))) (hb : ∀ p : Pr, wipeR (S.set j (.dat (prD p))) [j] = S)
    (hc : ∀ p ∈ r, c ⟨S.set j (.dat (prD p)), s⟩ = some (.ok (P p), ⟨S.set j (.dat (prD p)), s⟩)) : fComp [j] (fName i) (gN j) c (fName j) ⟨S, s⟩ = some (.ok (rowD (r.filter P)), ⟨S, s⟩) := by
  have k := compL_on (vs := [j]) (t := gN j) (c := c) (e := fName j) (E := prD) (F := prD) (P := P) (S := S) (s := s) r fun q hq =>
    ⟨⟨S.set j (.dat (prD q)), s⟩, ⟨S.set j (.dat (prD q)), s⟩, rfl, hc q hq, fun _ => ⟨⟨S.set j (.dat (prD q)), s⟩, name_ok (hj q), hb q, rfl⟩, fun _ => ⟨hb q, rfl⟩⟩
  exact comp_ok (vs := [j]) (g := ⟨S, s⟩) (g1 := ⟨S, s⟩) (ds := rowD r) (name_ok hi) rfl (by rw [row_len]; omega) (by show compL _ _ _ _ _ ⟨wipeR S [j], s⟩ = _; rw [hw]; exact k)
end
end S
namespace S
open PyProof.Rows PySem.Spec PySem L2 DE
/-! ### who is taken -/
def narrowL (ring : List Pr) (key : Int) : List Str → List Pr → Option (List Pr)
  | [], cur => some cur
  | w :: ws, cur => if (leftL w ring cur key).isEmpty = true ∧ (w = "under" ∨ w = "over") then none else narrowL ring key ws (if (leftL w ring cur key).isEmpty = true then cur else leftL w ring cur key)
def takenL (v : Int) (ws : List Str) (e : Str) (row : List Pr) (key : Int) : List Int :=
  if ((row.filter loudP).length : Int) < v then [] else match narrowL (row.filter loudP) key ws (row.filter loudP) with
    | none => []
    | some cur => endL e (keysOf cur)
theorem leftL_len (w : Str) (ring some_ : List Pr) (key : Int) : (leftL w ring some_ key).length ≤ some_.length := by
  unfold leftL
  split
  · exact List.length_filter_le _ _
  · split <;> exact List.length_filter_le _ _
theorem leftL_sub {w : Str} {ring some_ : List Pr} {key : Int} {p : Pr} (h : p ∈ leftL w ring some_ key) : p ∈ some_ := by
  unfold leftL at h
  split at h
  · exact (List.mem_filter.mp h).1
  · split at h <;> exact (List.mem_filter.mp h).1
abbrev tS (M R : D) (key : Int) (ring cur : List Pr) (w l : Sl) : List Sl := [.dat M, .dat R, .dat (.int key), .dat (.lst (rowD ring)), .dat (.lst (rowD cur)), w, l]
theorem narrow_ne {ring : List Pr} {key : Int} : ∀ (ws : List Str) (cur : List Pr) {r : List Pr}, cur ≠ [] → narrowL ring key ws cur = some r → r ≠ [] ∧ r.length ≤ cur.length ∧ ∀ p ∈ r, p ∈ cur
  | [], cur, r, h, e => by cases e; exact ⟨h, Nat.le_refl _, fun _ z => z⟩
  | w :: ws, cur, r, h, e => by
    unfold narrowL at e
    split at e
    · cases e
    · have len := leftL_len w ring cur key
      by_cases c : (leftL w ring cur key).isEmpty = true
      · rw [if_pos c] at e
        exact narrow_ne ws cur h e
      · rw [if_neg c] at e
        obtain ⟨a, b, d⟩ := narrow_ne ws _ (fun z => c (by rw [z]; rfl)) e
        exact ⟨a, by omega, fun p hp => leftL_sub (d p hp)⟩
end S
namespace S
open PyProof.Rows PySem.Spec PySem L2 DE
/-! ### a machine is drawn -/
end S
namespace S
open PyProof.Rows PySem.Spec PySem L2 DE
/-! ### other marks, the return -/
def markP (key : Int) (mark : Str) (p : Pr) : Pr := if p.1 = key then (p.1, mark) else p
abbrev markL (r : List Pr) (key : Int) (mark : Str) : List Pr := r.map (markP key mark)
def waitP (p : Pr) : Bool := decide (p.2 = "waits")
theorem okR_mark {r : List Pr} (h : okR r) (key : Int) {mark : Str} (hm : mark ∈ MKS) : okR (markL r key mark) := by
  intro p hp
  obtain ⟨q, hq, rfl⟩ := List.mem_map.mp hp; unfold markP
  split
  · exact hm
  · exact h q hq
def backL (b : Str) (r : List Pr) : Int := (endL b (keysOf (r.filter waitP))).headD 0
abbrev goesB (v : Int) (b : Str) (r : List Pr) : Prop := b ≠ "none" ∧ r.filter waitP ≠ [] ∧ ((r.filter loudP).length : Int) < v
instance (v : Int) (b : Str) (r : List Pr) : Decidable (goesB v b r) := inferInstanceAs (Decidable (_ ∧ _ ∧ _))
def fillL (v : Int) (b : Str) : Nat → List Pr → List Int → List Pr × List Int
  | 0, r, f => (r, f)
  | n + 1, r, f => if goesB v b r then fillL v b n (markL r (backL b r) "sounds") (f ++ [backL b r]) else fillL v b n r f
theorem end_ne {b : Str} (hb : b ∈ RET_) (hn : b ≠ "none") {xs : List Int} (hx : xs ≠ []) : endL b xs = (endL b xs).headD 0 :: (endL b xs).tail := by
  have : endL b xs ≠ [] := by
    unfold RET_ at hb; simp only [List.mem_cons, List.not_mem_nil, or_false] at hb
    cases xs with
    | nil => exact absurd rfl hx
    | cons x xs =>
      rcases hb with rfl | rfl | rfl | rfl | rfl
      · exact absurd rfl hn
      · show List.take 1 (x :: xs) ≠ []; simp
      · show List.drop _ (x :: xs) ≠ []; simp
      · show [minL (x :: xs)] ≠ []; simp
      · show [maxL (x :: xs)] ≠ []; simp
  cases h : endL b xs with
  | nil => exact absurd h this
  | cons y ys => rfl
theorem intsD_length (n : Nat) : (intsD (n : Int)).length = n := by unfold intsD; simp
end S
namespace S
open PyProof.Rows PySem.Spec PySem L2 DE
/-! ### the steps -/
abbrev pr (k : Int) (m : Str) : Pr := (k, m)
def downL (v : Int) (ws : List Str) (e : Str) (r : List Pr) (key : Int) : List Pr :=
  if r.contains (pr key "kept") = true then r.filter (fun p => !decide (p.1 = key)) ++ [(pr key "sounds")]
  else if ((r.filter loudP).length : Int) < v then r ++ [(pr key "sounds")]
  else match takenL v ws e r key with
    | [] => r ++ [(pr key "waits")]
    | k :: _ => markL (r.filter fun p => !decide (p = (pr k "kept"))) k "waits" ++ [(pr key "sounds")]
def downD (v : Int) (ws : List Str) (e : Str) (r : List Pr) (key : Int) : List (Str × Int) :=
  if r.contains (pr key "kept") = true then [("again", key)]
  else if ((r.filter loudP).length : Int) < v then [("begin", key)]
  else match takenL v ws e r key with
    | [] => [("refuse", key)]
    | k :: _ => [("cut", k), ("begin", key)]
abbrev ddD (l : List (Str × Int)) : List D := l.map fun p => .tup [.str p.1, .int p.2]
end S
namespace S
open PyProof.Rows PySem.Spec PySem L2 DE
inductive Ev where | press | lift | up (k : Int) | down (k : Int)
def evD : Ev → D
  | .press => .tup [.str "press"]
  | .lift => .tup [.str "lift"]
  | .up k => .tup [.str "up", .int k]
  | .down k => .tup [.str "down", .int k]
abbrev stD (f : Bool) (r : List Pr) : D := .tup [.bl f, .tup (rowD r)]
abbrev lessL (r : List Pr) (gone : List Int) : List Pr := r.filter fun p => !gone.contains p.1
def keptP (p : Pr) : Bool := decide (p.2 = "kept")
def backR (v : Int) (b : Str) (r : List Pr) (gone : List Int) : List Pr := (fillL v b (lessL r gone).length (lessL r gone) []).1
def stepL (v : Int) (ws : List Str) (e b : Str) : Bool × List Pr → Ev → Bool × List Pr
  | (f, r), .press => (true, r)
  | (f, r), .down k => (f, downL v ws e r k)
  | (f, r), .up k => if r.contains (pr k "waits") = true then (f, r.filter fun p => !decide (p.1 = k)) else if f = true then (f, markL r k "kept") else (false, backR v b r [k])
  | (f, r), .lift => (false, backR v b r (keysOf (r.filter keptP)))
def backB (v : Int) (b : Str) (r : List Pr) (gone : List Int) : List Int := (fillL v b (lessL r gone).length (lessL r gone) []).2
abbrev endB (gone back : List Int) : List (Str × Int) := gone.map (fun x => (("end" : Str), x)) ++ back.map (fun x => (("back" : Str), x))
def deedsL (v : Int) (ws : List Str) (e b : Str) : Bool × List Pr → Ev → List (Str × Int)
  | _, .press => []
  | (_, r), .down k => downD v ws e r k
  | (f, r), .up k => if r.contains (pr k "waits") = true then [("leave", k)] else if f = true then [("keep", k)] else endB [k] (backB v b r [k])
  | (_, r), .lift => endB (keysOf (r.filter keptP)) (backB v b r (keysOf (r.filter keptP)))
abbrev b0 : Ms := fParDD 3 4 (fIxD (fName 1) (rt (.int 0))) (fLet (bd (fPk (fIxD (fName 1) (rt (.int 1)))) rt))
end S
namespace S
open PyProof.Rows PySem.Spec PySem L2 DE
/-! ### counts in rows -/
theorem loud_wait (p : Pr) : loudP p = !waitP p := rfl
theorem counts : ∀ r : List Pr, (r.filter loudP).length + (r.filter waitP).length = r.length
  | [] => rfl
  | p :: r => by
    have := counts r
    by_cases h : waitP p = true
    · rw [List.filter_cons_of_pos (p := waitP) h, List.filter_cons_of_neg (p := loudP) (by rw [loud_wait, h]; decide)]
      simp; omega
    · rw [List.filter_cons_of_neg (p := waitP) h, List.filter_cons_of_pos (p := loudP) (by rw [loud_wait, Bool.eq_false_iff.mpr h]; decide)]
      simp; omega
theorem filt_one {k : Int} : ∀ {l : List Pr}, (keysOf l).Nodup → k ∈ keysOf l → (l.filter fun p => !decide (p.1 = k)).length + 1 = l.length
  | [], _, h => by simp at h
  | p :: l, nd, h => by
    have nd' := List.nodup_cons.mp nd
    by_cases e : p.1 = k
    · rw [List.filter_cons_of_neg (by simp [e])]
      have : l.filter (fun p => !decide (p.1 = k)) = l := List.filter_eq_self.mpr fun q hq => by
        have : q.1 ≠ k := fun z => nd'.1 (show p.1 ∈ keysOf l by rw [e, ← z]; exact List.mem_map_of_mem hq)
        simp [this]
      rw [this]; rfl
    · rw [List.filter_cons_of_pos (by simp [e])]
      have h' : k ∈ keysOf l := by
        rcases List.mem_cons.mp h with h | h
        · exact absurd h.symm e
        · exact h
      have := filt_one nd'.2 h'; simp only [List.length_cons]; omega
theorem nd_sub {r q : List Pr} (h : q.Sublist r) (nd : (keysOf r).Nodup) : (keysOf q).Nodup := (h.map (·.1)).nodup nd
theorem nd_uniq {r : List Pr} (nd : (keysOf r).Nodup) {p q : Pr} (hp : p ∈ r) (hq : q ∈ r) (e : p.1 = q.1) : p = q := by
  induction r with
  | nil => cases hp
  | cons a r ih =>
    have nd' := List.nodup_cons.mp nd; rcases List.mem_cons.mp hp with rfl | hp'
    · rcases (List.mem_cons.mp hq) with rfl | hq'
      · rfl
      · exact absurd (show p.1 ∈ keysOf r by rw [e]; exact List.mem_map_of_mem hq') nd'.1
    · rcases (List.mem_cons.mp hq) with rfl | hq'
      · exact absurd (show q.1 ∈ keysOf r by rw [← e]; exact List.mem_map_of_mem hp') nd'.1
      · exact ih nd'.2 hp' hq'
theorem keys_mark (r : List Pr) (k : Int) (m : Str) : keysOf (markL r k m) = keysOf r := by
  refine (List.map_map ..).trans (List.map_congr_left fun p _ => ?_)
  show (markP k m p).1 = p.1
  unfold markP; split <;> rfl
theorem mark_len (P : Pr → Bool) (r : List Pr) (k : Int) (m : Str) : ((markL r k m).filter P).length = (r.filter fun p => P (markP k m p)).length := by
  rw [List.filter_map, List.length_map]; rfl
theorem end_mem {w : Str} {hs : List Int} (h : hs ≠ []) {x : Int} (hx : x ∈ endL w hs) : x ∈ hs := by
  unfold endL at hx
  split at hx
  · exact List.mem_of_mem_take hx
  split at hx
  · exact List.mem_of_mem_drop hx
  split at hx
  · rw [List.mem_singleton.mp hx]; exact (minL_is hs h).1
  split at hx
  · rw [List.mem_singleton.mp hx]; exact (maxL_is hs h).1
  · cases hx
theorem mem_key {r : List Pr} {k : Int} (h : k ∈ keysOf r) : ∃ p ∈ r, p.1 = k := by
  obtain ⟨p, hp, rfl⟩ := List.mem_map.mp h; exact ⟨p, hp, rfl⟩
theorem key_mem {r : List Pr} {p : Pr} (h : p ∈ r) : p.1 ∈ keysOf r := List.mem_map_of_mem h
theorem wait_is {p : Pr} (h : waitP p = true) : p = pr p.1 "waits" := by
  have : p.2 = "waits" := of_decide_eq_true h
  exact Prod.ext rfl this
/-! ### the return -/
abbrev nL (r : List Pr) : Int := ((r.filter loudP).length : Int)
def waitsB (v : Int) (b : Str) (r : List Pr) : Prop := b = "none" ∨ v ≤ nL r ∨ r.filter waitP = []
theorem back_mem {b : Str} (hb : b ∈ RET_) {v : Int} {r : List Pr} (g : goesB v b r) : pr (backL b r) "waits" ∈ r := by
  obtain ⟨g1, g2, g3⟩ := g
  have ne : keysOf (r.filter waitP) ≠ [] := by simpa using g2
  have e := end_ne hb g1 ne
  have : backL b r ∈ keysOf (r.filter waitP) := end_mem ne (w := b) (by rw [e]; exact List.mem_cons_self)
  obtain ⟨p, hp, k⟩ := mem_key this
  obtain ⟨h1, h2⟩ := List.mem_filter.mp hp
  rw [← k, ← wait_is h2]
  exact h1
theorem wait_sounds {r : List Pr} {k : Int} (nd : (keysOf r).Nodup) (h : pr k "waits" ∈ r) : ((markL r k "sounds").filter waitP).length + 1 = (r.filter waitP).length := by
  rw [mark_len]
  have e : (r.filter fun p => waitP (markP k "sounds" p)) = (r.filter waitP).filter fun p => !decide (p.1 = k) := by
    rw [List.filter_filter]
    refine List.filter_congr fun p _ => ?_
    unfold markP
    by_cases c : p.1 = k
    · rw [if_pos c]; simp [c]; rfl
    · rw [if_neg c]; simp [c]
  rw [e]
  exact filt_one (nd_sub (List.filter_sublist) nd) (by
    have : pr k "waits" ∈ r.filter waitP := List.mem_filter.mpr ⟨h, rfl⟩
    exact key_mem this)
structure Fills (b : Str) (v : Int) (r q : List Pr) : Prop where
  keys : keysOf q = keysOf r
  ok : okR q
  kept : ∀ p ∈ q, p.2 = "kept" → p ∈ r
  rest : ∀ p ∈ q, p.2 ≠ "kept" → ∃ m : Str, m ≠ "kept" ∧ pr p.1 m ∈ r
  lo : nL q ≤ v
  wt : waitsB v b q
theorem fill_is {v : Int} {b : Str} (hb : b ∈ RET_) : ∀ (n : Nat) (r : List Pr) (f : List Int), (r.filter waitP).length ≤ n → (keysOf r).Nodup → okR r → nL r ≤ v → Fills b v r (fillL v b n r f).1
  | 0, r, f, h, nd, ok, lo => ⟨rfl, ok, fun p hp _ => hp, fun p hp hk => ⟨p.2, hk, hp⟩, lo, .inr (.inr (by cases e : r.filter waitP with | nil => exact e | cons a l => rw [e] at h; simp at h))⟩
  | n + 1, r, f, h, nd, ok, lo => by
    show Fills b v r (if goesB v b r then fillL v b n (markL r (backL b r) "sounds") (f ++ [backL b r]) else fillL v b n r f).1
    by_cases g : goesB v b r
    · rw [if_pos g]
      have hm := back_mem hb g
      have w := wait_sounds nd hm
      have c1 := counts r
      have c2 := counts (markL r (backL b r) "sounds")
      rw [List.length_map] at c2
      have g3 := g.2.2
      obtain ⟨i1, i2, i3, i4, i5, i6⟩ := fill_is hb n (markL r (backL b r) "sounds") (f ++ [backL b r]) (by omega) (by rw [keys_mark]; exact nd) (okR_mark ok _ (show ("sounds" : Str) ∈ MKS by decide)) (by show ((_ : Nat) : Int) ≤ v; omega)
      refine ⟨i1.trans (keys_mark ..), i2, fun p hp hk => ?_, fun p hp hk => ?_, i5, i6⟩
      · obtain ⟨q, hq, e⟩ := List.mem_map.mp (i3 p hp hk)
        unfold markP at e
        split at e
        · rw [← e] at hk; exact absurd hk (show ¬ ("sounds" : Str) = "kept" by decide)
        · rw [← e]; exact hq
      · obtain ⟨m, hm1, hm2⟩ := i4 p hp hk
        obtain ⟨q, hq, e⟩ := List.mem_map.mp hm2
        unfold markP at e
        split at e
        · rename_i c
          have : p.1 = backL b r := by have := congrArg Prod.fst e; exact this.symm.trans c
          exact ⟨"waits", by decide, by rw [this]; exact hm⟩
        · exact ⟨m, hm1, by rw [← e]; exact hq⟩
    · rw [if_neg g]
      have : ∀ (n : Nat) (f : List Int), (fillL v b n r f).1 = r := by
        intro n
        induction n with
        | zero => intro f; rfl
        | succ n ih =>
          intro f
          show (if goesB v b r then _ else fillL v b n r f).1 = r
          rw [if_neg g]; exact ih f
      rw [this]
      refine ⟨rfl, ok, fun p hp _ => hp, fun p hp hk => ⟨p.2, hk, hp⟩, lo, ?_⟩
      by_cases b1 : b = "none"
      · exact .inl b1
      by_cases b2 : r.filter waitP = []
      · exact .inr (.inr b2)
      · exact .inr (.inl (by
          have k : ¬ nL r < v := fun z => g ⟨b1, b2, z⟩
          exact Int.not_lt.mp k))
end S
namespace S
open PyProof.Rows PySem.Spec PySem L2 DE
/-! ### states that hold -/
/-- the keys that the law's states have -/
abbrev Kok (k : Int) : Prop := (0 ≤ k ∧ k ≤ 87) ∧ True
structure Val (v : Int) (b : Str) (f : Bool) (r : List Pr) : Prop where
  ok : okR r
  key : ∀ p ∈ r, Kok p.1
  nd : (keysOf r).Nodup
  pd : f = false → ∀ p ∈ r, p.2 ≠ "kept"
  lo : nL r ≤ v
  wt : waitsB v b r
abbrev Held (r : List Pr) (hs : List Int) : Prop := ∀ p ∈ r, p.2 ≠ "kept" → p.1 ∈ hs
theorem taken_is {v : Int} {ws : List Str} {e : Str} {r : List Pr} {key k : Int} {T : List Int} (hv : 1 ≤ v) (h : takenL v ws e r key = k :: T) : ∃ p ∈ r, p.1 = k ∧ loudP p = true := by
  unfold takenL at h
  split at h
  · cases h
  · rename_i c
    split at h
    · cases h
    · rename_i cur hc
      have hr : r.filter loudP ≠ [] := by intro z; rw [z] at c; exact c (by show ((0 : Nat) : Int) < v; omega)
      obtain ⟨n1, n2, n3⟩ := narrow_ne ws _ hr hc
      have : k ∈ keysOf cur := end_mem (w := e) (by simpa using n1) (by rw [h]; exact List.mem_cons_self)
      obtain ⟨p, hp, e⟩ := mem_key this
      obtain ⟨m1, m2⟩ := List.mem_filter.mp (n3 p hp)
      exact ⟨p, m1, e, m2⟩
theorem nL_app (r : List Pr) (p : Pr) : nL (r ++ [p]) = nL r + (if loudP p = true then 1 else 0) := by
  show (((r ++ [p]).filter loudP).length : Int) = ((r.filter loudP).length : Int) + _
  rw [List.filter_append, List.length_append]
  cases h : loudP p <;> simp [h]
theorem nW_app (r : List Pr) (p : Pr) : (r ++ [p]).filter waitP = r.filter waitP ++ (if waitP p = true then [p] else []) := by
  rw [List.filter_append]
  cases h : waitP p <;> simp [h]
theorem okR_one {k : Int} {m : Str} (h : m ∈ MKS) : okR [pr k m] := fun p hp => by rw [List.mem_singleton.mp hp]; exact h
theorem nd_app {r : List Pr} {k : Int} {m : Str} (nd : (keysOf r).Nodup) (h : k ∉ keysOf r) : (keysOf (r ++ [pr k m])).Nodup := by
  rw [show keysOf (r ++ [pr k m]) = keysOf r ++ [k] by simp]
  rw [List.nodup_append]
  refine ⟨nd, by simp, fun a ha c hc => ?_⟩
  rw [List.mem_singleton.mp hc]
  rintro rfl
  exact h ha
theorem down_val {v : Int} {ws : List Str} {e b : Str} {f : Bool} {r : List Pr} {hs : List Int} (hv : 1 ≤ v) (V : Val v b f r) (H : Held r hs) {k : Int} (hk : Kok k) (hn : k ∉ hs) :
    Val v b f (downL v ws e r k) ∧ Held (downL v ws e r k) (hs ++ [k]) ∧ (downL v ws e r k).length ≤ r.length + 1 := by
  obtain ⟨ok, key, nd, pd, lo, wt⟩ := V
  have kk : ∀ p ∈ r, p.1 = k → p = pr k "kept" := fun p hp c => by
    by_cases m : p.2 = "kept"
    · exact Prod.ext c m
    · exact absurd (c ▸ H p hp m) hn
  have hm : ∀ {q : List Pr} {m : Str}, (∀ p ∈ q, p.1 ∈ keysOf r ∧ (p.2 ≠ "kept" → p.1 ∈ hs)) → Held (q ++ [pr k m]) (hs ++ [k]) := fun h p hp m => by
    rcases (List.mem_append.mp hp) with hp | hp
    · exact List.mem_append_left _ ((h p hp).2 m)
    · rw [(List.mem_singleton.mp hp)]; simp
  have hkey : ∀ {q : List Pr} {m : Str}, (∀ p ∈ q, Kok p.1) → ∀ p ∈ q ++ [pr k m], Kok p.1 := fun h p hp => by
    rcases (List.mem_append.mp hp) with hp | hp
    · exact h p hp
    · rw [(List.mem_singleton.mp hp)]; exact hk
  have hpd : ∀ {q : List Pr} {m : Str}, m ≠ "kept" → (f = false → ∀ p ∈ q, p.2 ≠ "kept") → f = false → ∀ p ∈ q ++ [pr k m], p.2 ≠ "kept" := fun h1 h2 hf p hp => by
    rcases (List.mem_append.mp hp) with hp | hp
    · exact h2 hf p hp
    · rw [(List.mem_singleton.mp hp)]; exact h1
  unfold downL
  by_cases c1 : r.contains (pr k "kept") = true
  · rw [if_pos c1]
    have c1 : pr k "kept" ∈ r := by simpa using c1
    have sub : (r.filter fun p => !decide (p.1 = k)).Sublist r := List.filter_sublist
    have cnt : nL (r.filter fun p => !decide (p.1 = k)) + 1 = nL r := by
      have e1 : (r.filter fun p => !decide (p.1 = k)).filter loudP = (r.filter loudP).filter fun p => !decide (p.1 = k) := by
        rw [List.filter_filter, List.filter_filter]
        exact List.filter_congr fun p _ => Bool.and_comm _ _
      have := filt_one (k := k) (l := r.filter loudP) (nd_sub List.filter_sublist nd) (key_mem (p := pr k "kept") (List.mem_filter.mpr ⟨c1, rfl⟩))
      show (((r.filter fun p => !decide (p.1 = k)).filter loudP).length : Int) + 1 = ((r.filter loudP).length : Int)
      rw [e1]; omega
    refine ⟨⟨(ok.filter _).app (okR_one (show ("sounds" : Str) ∈ MKS by decide)), hkey fun p hp => key p (sub.mem hp), nd_app (nd_sub sub nd) ?_, hpd (by decide) fun hf p hp => pd hf p (sub.mem hp), ?_, ?_⟩, hm fun p hp => ⟨key_mem (sub.mem hp), H p (sub.mem hp)⟩, ?_⟩
    · intro h
      obtain ⟨p, hp, e⟩ := mem_key h
      have := (List.mem_filter.mp hp).2
      simp [e] at this
    · rw [nL_app, if_pos (show loudP (pr k "sounds") = true by rfl)]; omega
    · rcases wt with w | w | w
      · exact .inl w
      · refine .inr (.inl ?_)
        rw [nL_app, if_pos (show loudP (pr k "sounds") = true by rfl)]; omega
      · refine .inr (.inr ?_)
        rw [nW_app, if_neg (show ¬ waitP (pr k "sounds") = true from Bool.false_ne_true)]
        rw [List.append_nil, List.filter_eq_nil_iff]
        intro p hp
        exact List.filter_eq_nil_iff.mp w p (sub.mem hp)
    · have := sub.length_le
      rw [List.length_append]; show _ + 1 ≤ _; omega
  rw [if_neg c1]
  have c1 : pr k "kept" ∉ r := by simpa using c1
  have nk : k ∉ keysOf r := fun h => by
    obtain ⟨p, hp, e⟩ := mem_key h
    exact c1 (kk p hp e ▸ hp)
  by_cases c2 : ((r.filter loudP).length : Int) < v
  · rw [if_pos c2]
    refine ⟨⟨ok.app (okR_one (show ("sounds" : Str) ∈ MKS by decide)), hkey key, nd_app nd nk, hpd (by decide) pd, ?_, ?_⟩, hm fun p hp => ⟨key_mem hp, H p hp⟩, by rw [List.length_append]; exact Nat.le_refl _⟩
    · rw [nL_app, if_pos (show loudP (pr k "sounds") = true by rfl)]
      have : nL r < v := c2
      omega
    · rcases wt with w | w | w
      · exact .inl w
      · exact absurd c2 (Int.not_lt.mpr w)
      · refine .inr (.inr ?_)
        rw [nW_app, if_neg (show ¬ waitP (pr k "sounds") = true from Bool.false_ne_true), w]; rfl
  rw [if_neg c2]
  cases hT : takenL v ws e r k with
  | nil =>
    dsimp only
    refine ⟨⟨ok.app (okR_one (show ("waits" : Str) ∈ MKS by decide)), hkey key, nd_app nd nk, hpd (by decide) pd, ?_, ?_⟩, hm fun p hp => ⟨key_mem hp, H p hp⟩, by rw [List.length_append]; exact Nat.le_refl _⟩
    · rw [nL_app, if_neg (show ¬ loudP (pr k "waits") = true from Bool.false_ne_true)]
      omega
    · refine .inr (.inl ?_)
      rw [nL_app, if_neg (show ¬ loudP (pr k "waits") = true from Bool.false_ne_true)]
      have : v ≤ nL r := Int.not_lt.mp c2
      omega
  | cons j T =>
    dsimp only
    obtain ⟨p, hp, rfl, lp⟩ := taken_is hv hT
    obtain ⟨R, hR⟩ : ∃ R, R = r.filter (fun q => !decide (q = pr p.1 "kept")) := ⟨_, rfl⟩
    rw [← hR]
    have sub : R.Sublist r := by rw [hR]; exact List.filter_sublist
    have okq : okR R := by rw [hR]; exact ok.filter _
    have kq : ∀ q ∈ markL R p.1 "waits", ∃ q0 ∈ r, q.1 = q0.1 ∧ (q = q0 ∧ q.1 ≠ p.1 ∨ q.2 = "waits" ∧ q0.2 ≠ "kept") := fun q hq => by
      obtain ⟨q0, h0, e⟩ := List.mem_map.mp hq
      refine ⟨q0, sub.mem h0, ?_⟩
      unfold markP at e
      split at e
      · rename_i c
        rw [← e]
        refine ⟨rfl, .inr ⟨rfl, fun z => ?_⟩⟩
        rw [hR] at h0
        have := (List.mem_filter.mp h0).2
        rw [show q0 = pr p.1 "kept" from Prod.ext c z] at this
        simp at this
      · rename_i c
        rw [← e]; exact ⟨rfl, .inl ⟨rfl, c⟩⟩
    have cnt : nL (markL R p.1 "waits") + 1 = nL r := by
      have e1 : (R.filter fun q => loudP (markP p.1 "waits" q)) = (r.filter loudP).filter fun q => !decide (q.1 = p.1) := by
        rw [hR, List.filter_filter, List.filter_filter]
        refine List.filter_congr fun q _ => ?_
        unfold markP
        by_cases c : q.1 = p.1
        · rw [if_pos c, decide_eq_true c]; rfl
        · rw [if_neg c, decide_eq_false c]
          rw [decide_eq_false (fun z : q = pr p.1 "kept" => c (by rw [z]))]
          cases loudP q <;> rfl
      have := filt_one (k := p.1) (l := r.filter loudP) (nd_sub List.filter_sublist nd) (key_mem (List.mem_filter.mpr ⟨hp, lp⟩))
      show (((markL R p.1 "waits").filter loudP).length : Int) + 1 = ((r.filter loudP).length : Int)
      rw [mark_len, e1]; omega
    refine ⟨⟨(okR_mark okq _ (show ("waits" : Str) ∈ MKS by decide)).app (okR_one (show ("sounds" : Str) ∈ MKS by decide)), hkey fun q hq => ?_, nd_app ?_ ?_, hpd (by decide) fun hf q hq => ?_, ?_, ?_⟩, hm fun q hq => ?_, ?_⟩
    · obtain ⟨q0, h0, e0, _⟩ := kq q hq
      rw [e0]; exact key q0 h0
    · rw [keys_mark]; exact nd_sub sub nd
    · rw [keys_mark]
      exact fun h => nk ((sub.map (·.1)).mem h)
    · obtain ⟨q0, h0, e0, h | h⟩ := kq q hq
      · rw [h.1]; exact pd hf q0 h0
      · rw [h.1]; decide
    · rw [nL_app, if_pos (show loudP (pr k "sounds") = true by rfl)]; omega
    · refine .inr (.inl ?_)
      rw [nL_app, if_pos (show loudP (pr k "sounds") = true by rfl)]
      have : v ≤ nL r := Int.not_lt.mp c2
      omega
    · obtain ⟨q0, h0, e0, h⟩ := kq q hq
      refine ⟨by rw [e0]; exact key_mem h0, fun m => ?_⟩
      rcases h with h | h
      · rw [h.1] at m ⊢; exact H q0 h0 m
      · rw [e0]; exact H q0 h0 h.2
    · rw [List.length_append, List.length_map]
      have := sub.length_le
      show _ + 1 ≤ _; omega
end S
namespace S
open PyProof.Rows PySem.Spec PySem L2 DE
def evOk (hs : List Int) : Ev → Prop
  | .down k => Kok k ∧ k ∉ hs
  | _ => True
def heldL (hs : List Int) : Ev → List Int
  | .press => hs
  | .lift => hs
  | .up k => hs.filter fun x => !decide (x = k)
  | .down k => hs ++ [k]
theorem less_sub (r : List Pr) (gone : List Int) : (lessL r gone).Sublist r := List.filter_sublist
theorem back_val {v : Int} {b : Str} (hb : b ∈ RET_) {f : Bool} {r : List Pr} {hs : List Int} (V : Val v b f r) (H : Held r hs) {gone : List Int} (hg : ∀ p ∈ r, p.2 = "kept" → p.1 ∈ gone) :
    Val v b false (backR v b r gone) ∧ (∀ p ∈ backR v b r gone, p.1 ∉ gone ∧ p.1 ∈ hs) ∧ (backR v b r gone).length ≤ r.length := by
  obtain ⟨ok, key, nd, pd, lo, wt⟩ := V
  have lo' : nL (lessL r gone) ≤ v := by
    have : ((lessL r gone).filter loudP).length ≤ (r.filter loudP).length := ((less_sub r gone).filter _).length_le
    have : nL (lessL r gone) ≤ nL r := Int.ofNat_le.mpr this
    omega
  obtain ⟨i1, i2, i3, i4, i5, i6⟩ := fill_is hb (lessL r gone).length (lessL r gone) [] (List.length_filter_le _ _) (nd_sub (less_sub r gone) nd) (ok.filter _) lo'
  have nk : ∀ p ∈ backR v b r gone, p.2 ≠ "kept" := fun p hp z => by
    have h := i3 p hp z
    obtain ⟨h1, h2⟩ := List.mem_filter.mp h
    have := hg p h1 z
    simp [this] at h2
  have mem : ∀ p ∈ backR v b r gone, ∃ q ∈ r, q.1 = p.1 ∧ q.2 ≠ "kept" ∧ q.1 ∉ gone := fun p hp => by
    obtain ⟨m, m1, m2⟩ := i4 p hp (nk p hp)
    obtain ⟨h1, h2⟩ := List.mem_filter.mp m2
    exact ⟨pr p.1 m, h1, rfl, m1, fun z => by simp [z] at h2⟩
  refine ⟨⟨i2, fun p hp => ?_, ?_, fun _ => nk, i5, i6⟩, fun p hp => ?_, ?_⟩
  · obtain ⟨q, h1, h2, _⟩ := mem p hp
    rw [← h2]; exact key q h1
  · show (keysOf (fillL v b _ (lessL r gone) []).1).Nodup
    rw [i1]; exact nd_sub (less_sub r gone) nd
  · obtain ⟨q, h1, h2, h3, h4⟩ := mem p hp
    rw [← h2]; exact ⟨h4, H q h1 h3⟩
  · have e : (keysOf (backR v b r gone)).length = (keysOf (lessL r gone)).length := congrArg List.length i1
    rw [List.length_map, List.length_map] at e; have := (less_sub r gone).length_le
    omega
theorem step_val {v : Int} {ws : List Str} {e b : Str} (hb : b ∈ RET_) {f : Bool} {r : List Pr} {hs : List Int} (hv : 1 ≤ v) (V : Val v b f r) (H : Held r hs) {ev : Ev} (he : evOk hs ev) :
    Val v b (stepL v ws e b (f, r) ev).1 (stepL v ws e b (f, r) ev).2 ∧ Held (stepL v ws e b (f, r) ev).2 (heldL hs ev) ∧ (stepL v ws e b (f, r) ev).2.length ≤ r.length + 1 := by
  cases ev with
  | press => exact ⟨⟨V.ok, V.key, V.nd, fun z => (by cases z), V.lo, V.wt⟩, H, Nat.le_succ _⟩
  | down k => exact down_val hv V H he.1 he.2
  | lift =>
    obtain ⟨a, c, d⟩ := back_val hb V H (gone := keysOf (r.filter keptP)) fun p hp m => key_mem (List.mem_filter.mpr ⟨hp, decide_eq_true m⟩)
    exact ⟨a, fun p hp _ => (c p hp).2, Nat.le_succ_of_le d⟩
  | up k =>
    by_cases c1 : r.contains (pr k "waits") = true
    · rw [show stepL v ws e b (f, r) (.up k) = (f, r.filter fun p => !decide (p.1 = k)) from if_pos c1]
      have c1 : pr k "waits" ∈ r := by simpa using c1
      obtain ⟨ok, key, nd, pd, lo, wt⟩ := V
      have sub : (r.filter fun p => !decide (p.1 = k)).Sublist r := List.filter_sublist
      have e1 : (r.filter fun p => !decide (p.1 = k)).filter loudP = r.filter loudP := by
        rw [List.filter_filter]; refine List.filter_congr fun p hp => ?_
        by_cases c : p.1 = k
        · rw [nd_uniq nd hp c1 c]
          rfl
        · simp [c]
      have e2 : nL (r.filter fun p => !decide (p.1 = k)) = nL r := by show (((_ : List Pr).length : Nat) : Int) = _; rw [e1]
      refine ⟨⟨ok.filter _, fun p hp => key p (sub.mem hp), nd_sub sub nd, fun hf p hp => pd hf p (sub.mem hp), by show nL (r.filter fun p => !decide (p.1 = k)) ≤ v; rw [e2]; exact lo, ?_⟩, fun p hp m => ?_, Nat.le_succ_of_le sub.length_le⟩
      · rcases wt with w | w | w
        · exact .inl w
        · exact .inr (.inl (by show v ≤ nL (r.filter fun p => !decide (p.1 = k)); rw [e2]; exact w))
        · refine .inr (.inr ?_)
          rw [List.filter_eq_nil_iff]
          intro p hp
          exact List.filter_eq_nil_iff.mp w p (sub.mem hp)
      · exact List.mem_filter.mpr ⟨H p (sub.mem hp) m, (List.mem_filter.mp hp).2⟩
    · cases f with
      | true =>
        rw [show stepL v ws e b (true, r) (.up k) = (true, markL r k "kept") from (if_neg c1).trans (if_pos rfl)]
        have c1 : pr k "waits" ∉ r := by simpa using c1
        obtain ⟨ok, key, nd, pd, lo, wt⟩ := V
        have lw : ∀ p ∈ r, waitP (markP k "kept" p) = waitP p := fun p hp => by
          unfold markP
          split
          · rename_i c
            have : ¬ waitP p = true := fun z => c1 (by rw [← c, ← wait_is z]; exact hp)
            rw [Bool.eq_false_iff.mpr this]; rfl
          · rfl
        have e2 : nL (markL r k "kept") = nL r := by
          show (((markL r k "kept").filter loudP).length : Int) = ((r.filter loudP).length : Int)
          rw [mark_len]
          rw [List.filter_congr fun p hp => show loudP (markP k "kept" p) = loudP p by rw [loud_wait, loud_wait, lw p hp]]
        refine ⟨⟨okR_mark ok _ (show ("kept" : Str) ∈ MKS by decide), fun p hp => ?_, by rw [keys_mark]; exact nd, fun z => (by cases z), by show nL (markL r k "kept") ≤ v; rw [e2]; exact lo, ?_⟩, fun p hp m => ?_, by rw [List.length_map]; exact Nat.le_succ _⟩
        · have : p.1 ∈ keysOf (markL r k "kept") := key_mem hp
          rw [keys_mark] at this
          obtain ⟨q, hq, e⟩ := mem_key this
          rw [← e]; exact key q hq
        · rcases wt with w | w | w
          · exact .inl w
          · exact .inr (.inl (by show v ≤ nL (markL r k "kept"); rw [e2]; exact w))
          · refine .inr (.inr ?_)
            rw [List.filter_eq_nil_iff]
            intro p hp
            obtain ⟨q, hq, rfl⟩ := List.mem_map.mp hp; rw [lw q hq]
            exact List.filter_eq_nil_iff.mp w q hq
        · obtain ⟨q, hq, e⟩ := List.mem_map.mp hp
          unfold markP at e
          split at e
          · rw [← e] at m; exact absurd rfl m
          · rename_i c
            rw [← e] at m ⊢
            exact List.mem_filter.mpr ⟨H q hq m, by simp [c]⟩
      | false =>
        rw [show stepL v ws e b (false, r) (.up k) = (false, backR v b r [k]) from (if_neg c1).trans (if_neg Bool.false_ne_true)]
        obtain ⟨a, c, d⟩ := back_val hb V H (gone := [k]) fun p hp m => absurd m (V.pd rfl p hp)
        exact ⟨a, fun p hp _ => List.mem_filter.mpr ⟨(c p hp).2, by have := (c p hp).1; simpa using this⟩, Nat.le_succ_of_le d⟩
end S
namespace S
open PyProof.Rows PySem.Spec PySem L2 DE
/-! ### a drawn play, a state of it -/
structure DownIs (x : Sl) (hs : List Int) : Prop where
  is : x = .dat (.lst (hs.map .int)) ∨ x = .own (hs.map .int)
theorem val_nil {v : Int} (hv : 1 ≤ v) (b : Str) (f : Bool) : Val v b f [] := ⟨fun p hp => (by cases hp), fun p hp => (by cases hp), List.nodup_nil, fun _ p hp => (by cases hp), (show ((0 : Nat) : Int) ≤ v by omega), .inr (.inr rfl)⟩
end S
namespace S
open PyProof.Rows PySem.Spec PySem L2 DE
/-! ### a state drawn by its form -/
structure Fr (v : Int) (f : Bool) (cs : List Int) (r : List Pr) (left : List Int) : Prop where
  pm : (keysOf r ++ left).Perm cs
  ok : okR r
  pd : f = false → ∀ p ∈ r, p.2 ≠ "kept"
  lo : nL r ≤ v
end S
namespace S
open PyProof.Rows PySem.Spec PySem L2 DE
/-! ### the program on rows -/
theorem loud_keys_ok {a : D} {r : List Pr} (h : aSeq a = some (rowD r)) (hl : r.length ≤ 1000) (s : DS) : m_loud_keys [a] s = some (.ok (.lst ((keysOf (r.filter loudP)).map .int)), s) := by
  refine runB_ret (r := [.dat a, .no, .no]) rfl (ret_ok (let_ok ?_))
  have c := compL_on (vs := [1, 2]) (t := gT 2 (gsCons (gN 1) (gsCons (gN 2) gsNil))) (c := fT (f2 pNe (fName 2) (rt (.str "waits")))) (e := fName 1) (E := prD) (F := fun p : Pr => D.int p.1) (P := loudP) (S := [.dat a, .no, .no]) (s := s) r fun p _ =>
    ⟨⟨[.dat a, .dat (.int p.1), .dat (.str p.2)], s⟩, ⟨[.dat a, .dat (.int p.1), .dat (.str p.2)], s⟩, rfl, ne_str (name_ok rfl) rfl, fun _ => ⟨⟨[.dat a, .dat (.int p.1), .dat (.str p.2)], s⟩, name_ok rfl, rfl, rfl⟩, fun _ => ⟨rfl, rfl⟩⟩
  rw [show (r.filter loudP).map (fun p : Pr => D.int p.1) = (keysOf (r.filter loudP)).map D.int by simp] at c
  exact comp_ok (vs := [1, 2]) (fi := fName 0) (g := ⟨[.dat a, .no, .no], s⟩) (g1 := ⟨[.dat a, .no, .no], s⟩) (name_ok rfl) h (by rw [row_len]; omega) c
/-! ### the row's first fault -/
end S
namespace S
open PyProof.Rows PySem.Spec PySem L2 DE
/-! ### the program on states -/
structure Pre (v : Int) (f : Bool) (r : List Pr) : Prop where
  ok : okR r
  key : ∀ p ∈ r, 0 ≤ p.1 ∧ p.1 ≤ 87
  nd : (keysOf r).Nodup
  pd : f = false → ∀ p ∈ r, p.2 ≠ "kept"
  lo : nL r ≤ v
theorem Val.pre {v : Int} {b : Str} {f : Bool} {r : List Pr} (V : Val v b f r) : Pre v f r := ⟨V.ok, fun p hp => (V.key p hp).1, V.nd, V.pd, V.lo⟩
theorem nL_sub {r q : List Pr} (h : q.Sublist r) : nL q ≤ nL r := Int.ofNat_le.mpr (h.filter _).length_le
theorem Pre.sub {v : Int} {f : Bool} {r q : List Pr} (P : Pre v f r) (h : q.Sublist r) : Pre v f q := ⟨fun p hp => P.ok p (h.mem hp), fun p hp => P.key p (h.mem hp), nd_sub h P.nd, fun hf p hp => P.pd hf p (h.mem hp), Int.le_trans (nL_sub h) P.lo⟩
abbrev MD (v : Int) (C : D) (b : Str) : D := .tup [.int v, C, .str b]
section
variable {v : Int} {C : D} {b : Str} {f : Bool} {s : DS}
end
/-! ### need_state, is_state, sound -/
section
variable {M t : D} {s : DS} {xs : List D}
abbrev sndD (r : List Pr) : D := .tup ((sortI (keysOf (r.filter loudP))).map .int)
end
end S
namespace S
open PyProof.Rows PySem.Spec PySem L2 DE
@[simp] theorem sorted_v (f : Mo D) (g : Sg) : fSorted f g = bdO (f g) fun d => match d with
  | .lst xs => match intsOf xs with
    | some ys => rt ((sortI ys).map .int)
    | none => stop
  | _ => stop := by unfold fSorted; rw [bd_v] <;> rfl
@[simp] theorem prD_v (k : Int) (w : Str) : D.tup [.int k, .str w] = prD (k, w) := rfl
@[simp] theorem aSeq_p (p : Pr) : aSeq (prD p) = some [.int p.1, .str p.2] := rfl
theorem sound_of_ok {f : D} {r : List Pr} (hl : r.length ≤ 1000) (s : DS) : m_sound_of [.tup [f, .tup (rowD r)]] s = some (.ok (sndD r), s) := by
  refine run_v rfl ?_
  simp [-List.map_map, fb_sound_of, loud_keys_ok (a := .tup (rowD r)) (r := r) rfl hl]
abbrev dropL (r : List Pr) (k : Int) : List Pr := r.filter fun p => !decide (p.1 = k)
theorem without_ok {r : List Pr} (hl : r.length ≤ 1000) (k : Int) (s : DS) : m_without [.tup (rowD r), .int k] s = some (.ok (.tup (rowD (dropL r k))), s) := by
  refine run_v rfl ?_
  have hl' : r.length ≤ 100000 := by omega
  have c := comp_gen (E := prD) (F := prD) (P := fun p : Pr => !decide (p.1 = k)) (j := 2) (S := [.dat (.tup (rowD r)), .dat (.int k), .no]) (s := s) (c := fT (f2 pNe (fIxD (fName 2) (rt (.int 0))) (fName 1))) (e := fName 2) r (fun _ => rfl) (fun p _ => by simp) (fun p _ _ => by simp)
  simp [-List.map_map, fb_without, c, hl']
def markQ (ks : List Int) (mark : Str) (p : Pr) : Pr := if ks.contains p.1 = true then (p.1, mark) else p
abbrev markM (r : List Pr) (ks : List Int) (mark : Str) : List Pr := r.map (markQ ks mark)
@[simp] theorem pIn_ints (neg : Bool) (x : Int) (xs : List Int) (g : Sg) : pIn neg (.int x) (.lst (xs.map .int)) g = some (.ok (.bl (if neg then !xs.contains x else xs.contains x)), g) := by
  unfold pIn
  simp only [aSeq, flat1, flat_ints, inV_ints]
  cases neg <;> rfl
theorem pmarked_ok {r : List Pr} (hl : r.length ≤ 1000) (ks : List Int) (mark : Str) (s : DS) : m_marked [.tup (rowD r), .lst (ks.map .int), .str mark] s = some (.ok (.tup (rowD (markM r ks mark))), s) := by
  refine run_v rfl ?_
  have hl' : r.length ≤ 100000 := by omega
  have c := comp_gen (E := prD) (F := fun p => prD (markQ ks mark p)) (P := fun _ => true) (j := 3) (S := [.dat (.tup (rowD r)), .dat (.lst (ks.map .int)), .dat (.str mark), .no]) (s := s) (c := rt true) (e := fIfE (fT (f2 (pIn false) (fIxD (fName 3) (rt (.int 0))) (fName 1))) (fTup (fCons (fIxD (fName 3) (rt (.int 0))) (fCons (fName 2) (rt [])))) (fName 3)) r (fun _ => rfl) (fun p _ => by simp) (fun p _ _ => by
    unfold markQ
    by_cases h : ks.contains p.1 = true
    · simp at h; simp [h]
    · simp at h; simp [h])
  rw [List.filter_eq_self.mpr fun _ _ => rfl] at c
  simp [-List.map_map, fb_marked, c, hl']
  simp
end S
namespace S
open PyProof.Rows PySem.Spec PySem L2 DE
/-! ### who is chosen, by the program -/
def optD : Option Int → D
  | none => .non
  | some k => .int k
@[simp] theorem optD_n : optD none = .non := rfl
@[simp] theorem optD_s (k : Int) : optD (some k) = .int k := rfl
theorem at_last (ks : List Int) (h : ks ≠ []) : atI (ks.map D.int) (-1) = some (optD (ks.drop (ks.length - 1)).head?) := by
  have hl : 0 < ks.length := List.length_pos_iff.mpr h
  unfold atI ixN
  rw [if_neg (by decide), if_pos (by simp; omega)]
  rw [show ((-1 : Int) + ((ks.map D.int).length : Int)).toNat = ks.length - 1 by simp; omega]
  rw [List.head?_drop, Option.bind_some, List.getElem?_map, List.getElem?_eq_getElem (by omega)]; rfl
theorem at_first (ks : List Int) (h : ks ≠ []) : atI (ks.map D.int) 0 = some (optD (ks.take 1).head?) := by
  cases ks with
  | nil => exact absurd rfl h
  | cons k ks => exact at0 _ _
theorem chosen_ok (w : Str) {ks : List Int} (h : ks ≠ []) (s : DS) : m_chosen [.lst (ks.map .int), .str w] s = some (.ok (optD (endL w ks).head?), s) := by
  refine run_v rfl ?_
  have hl := at_last ks h
  have hf := at_first ks h
  unfold endL
  by_cases c1 : w = "eldest"
  · subst c1; simp [fb_chosen, hf]
  by_cases c2 : w = "latest"
  · subst c2; simp [fb_chosen, hl, show ¬ ("latest" : Str) = "eldest" by decide]
  by_cases c3 : w = "lowest"
  · subst c3; simp [fb_chosen, h, show ¬ ("lowest" : Str) = "eldest" by decide, show ¬ ("lowest" : Str) = "latest" by decide]
  by_cases c4 : w = "highest"
  · subst c4; simp [fb_chosen, h, show ¬ ("highest" : Str) = "eldest" by decide, show ¬ ("highest" : Str) = "latest" by decide, show ¬ ("highest" : Str) = "lowest" by decide]
  simp [fb_chosen, c1, c2, c3, c4]
def outerL (w : Str) (ring : List Pr) : List Int := (if w = "nothigh" then [] else [minL (keysOf ring)]) ++ (if w = "notlow" then [] else [maxL (keysOf ring)])
theorem outer_ok (w : Str) {ring : List Pr} (h : ring ≠ []) (hl : ring.length ≤ 1000) (s : DS) : m_outer_keys [.str w, .lst (rowD ring)] s = some (.ok (.lst ((outerL w ring).map .int)), s) := by
  refine run_v rfl ?_
  have hl' : ring.length ≤ 100000 := by omega
  have c := comp_gen (E := prD) (F := fun p => D.int p.1) (P := fun _ => true) (j := 2) (S := [.dat (.str w), .dat (.lst (rowD ring)), .no, .no, .no]) (s := s) (c := rt true) (e := fIxD (fName 2) (rt (.int 0))) ring (fun _ => rfl) (fun p _ => by simp) (fun p _ _ => by simp)
  rw [List.filter_eq_self.mpr fun _ _ => rfl, show ring.map (fun p => D.int p.1) = (keysOf ring).map D.int by simp] at c
  obtain ⟨ks, hks⟩ : ∃ ks, ks = keysOf ring := ⟨_, rfl⟩
  have hne : ks ≠ [] := by rw [hks]; simpa using h
  unfold outerL
  rw [← hks] at c ⊢
  by_cases c1 : w = "nothigh"
  · subst c1
    simp [fb_outer_keys, c, hl', hne, show ¬ ("nothigh" : Str) = "notlow" by decide]
  by_cases c2 : w = "notlow"
  · subst c2
    simp [fb_outer_keys, c, hl', hne, show ¬ ("notlow" : Str) = "nothigh" by decide]
  simp [fb_outer_keys, c, hl', c1, c2, hne]
theorem outer_spared {w : Str} (hw : w ∈ FIL) (h1 : w ≠ "kept") (h2 : ¬ (w = "below" ∨ w = "under")) (h3 : ¬ (w = "above" ∨ w = "over")) (ring : List Pr) : outerL w ring = sparedL w ring := by
  unfold FIL at hw
  simp only [List.mem_cons, List.not_mem_nil, or_false] at hw
  rcases hw with rfl | rfl | rfl | rfl | rfl | rfl | rfl | rfl
  · exact absurd rfl h1
  · rfl
  · rfl
  · rfl
  · exact absurd (.inl rfl) h2
  · exact absurd (.inl rfl) h3
  · exact absurd (.inr rfl) h2
  · exact absurd (.inr rfl) h3
@[simp] theorem pIn_2 (w a b : Str) (g : Sg) : pIn false (.str w) (.tup [.str a, .str b]) g = some (.ok (.bl (decide (w = a ∨ w = b))), g) := by
  have : pIn false (.str w) (.tup ([a, b].map D.str)) g = some (.ok (.bl (([a, b] : List Str).contains w)), g) := by
    unfold pIn
    simp only [aSeq, flat1, DE.flat_strs, inV_strs]; rfl
  rw [contains2] at this
  exact this
theorem left_by_ok {w : Str} (hw : w ∈ FIL) {ring cand : List Pr} (hr : ring ≠ []) (h1 : ring.length ≤ 1000) (h2 : cand.length ≤ 1000) (key : Int) (s : DS) : m_left_by [.str w, .lst (rowD cand), .lst (rowD ring), .int key] s = some (.ok (.lst (rowD (leftL w ring cand key))), s) := by
  refine run_v rfl ?_
  have hl' : cand.length ≤ 100000 := by omega
  have ho := outer_ok w hr h1 s
  have cg := fun (P : Pr → Bool) (x : Sl) (c : Mo Bool) (hc : ∀ p : Pr, c ⟨[.dat (.str w), .dat (.lst (rowD cand)), .dat (.lst (rowD ring)), .dat (.int key), .dat (prD p), x], s⟩ = some (.ok (P p), ⟨[.dat (.str w), .dat (.lst (rowD cand)), .dat (.lst (rowD ring)), .dat (.int key), .dat (prD p), x], s⟩)) =>
    comp_gen (E := prD) (F := prD) (P := P) (j := 4) (S := [.dat (.str w), .dat (.lst (rowD cand)), .dat (.lst (rowD ring)), .dat (.int key), .no, x]) (s := s) (c := c) (e := fName 4) cand (fun _ => rfl) (fun p _ => hc p) (fun p _ _ => by simp)
  have k1 := cg (fun p => decide (p.2 = "kept")) .no (fT (f2 pEq (fIxD (fName 4) (rt (.int 1))) (rt (.str "kept")))) (fun p => by simp)
  have k2 := cg (fun p => decide (p.1 < key)) .no (fT (f2 pLt (fIxD (fName 4) (rt (.int 0))) (fName 3))) (fun p => by simp)
  have k3 := cg (fun p => decide (key < p.1)) .no (fT (f2 pGt (fIxD (fName 4) (rt (.int 0))) (fName 3))) (fun p => by simp)
  have k4 := cg (fun p => !(outerL w ring).contains p.1) (.dat (.lst ((outerL w ring).map .int))) (fT (f2 (pIn true) (fIxD (fName 4) (rt (.int 0))) (fName 5))) (fun p => by simp)
  unfold leftL
  by_cases c1 : w = "kept"
  · subst c1
    have n1 : ¬ (("kept" : Str) = "below" ∨ ("kept" : Str) = "under") := by decide
    have n2 : ¬ (("kept" : Str) = "above" ∨ ("kept" : Str) = "over") := by decide
    rw [if_neg n1, if_neg n2]
    simp [-List.map_map, fb_left_by, k1, hl', sparedL]
  by_cases c2 : w = "below" ∨ w = "under"
  · simp [-List.map_map, fb_left_by, k2, hl', c1, c2]
  by_cases c3 : w = "above" ∨ w = "over"
  · simp [-List.map_map, fb_left_by, k3, hl', c1, c2, c3]
  have e := outer_spared hw c1 c2 c3 ring
  rw [if_neg c2, if_neg c3, ← e]
  simp [-List.map_map, fb_left_by, k4, hl', c1, c2, c3, ho]
end S
namespace S
open PyProof.Rows PySem.Spec PySem L2 DE
/-! ### the victim, by the program -/
abbrev vB : Ms := (fSeq (fSet 5 (fCallN 4 m_left_by (fCons (fName 4) (fCons (fName 3) (fCons (fName 1) (fCons (fName 2) (rt [])))))))
  (fSeq (fIf (fAnd (fNot (fTr (fName 5))) (fT (f2 (pIn false) (fName 4) (fTup (fCons (rt (.str "under")) (fCons (rt (.str "over")) (rt []))))))) (fRet (rt .non)) (sOut .nx))
  (fSet 3 (fOrT (fName 5) (fName 3)))))
abbrev vS (C : D) (ring : List Pr) (key : Int) (cur : List Pr) (x4 x5 : Sl) : List Sl := [.dat C, .dat (.lst (rowD ring)), .dat (.int key), .dat (.lst (rowD cur)), x4, x5, .no]
theorem vic_turn {C : D} {ring cur : List Pr} {key : Int} {w : Str} {x5 : Sl} {s : DS} (hw : w ∈ FIL) (hr : ring ≠ []) (h1 : ring.length ≤ 1000) (h2 : cur.length ≤ 1000) :
    vB ⟨vS C ring key cur (.dat (.str w)) x5, s⟩ = if (leftL w ring cur key).isEmpty = true ∧ (w = "under" ∨ w = "over") then some (.ret .non, ⟨vS C ring key cur (.dat (.str w)) (.dat (.lst (rowD (leftL w ring cur key)))), s⟩)
      else some (.nx, ⟨vS C ring key (if (leftL w ring cur key).isEmpty = true then cur else leftL w ring cur key) (.dat (.str w)) (.dat (.lst (rowD (leftL w ring cur key)))), s⟩) := by
  have lb := left_by_ok hw (cand := cur) hr h1 h2 key s
  obtain ⟨L, hL⟩ : ∃ L, L = leftL w ring cur key := ⟨_, rfl⟩
  rw [← hL] at lb ⊢
  by_cases c1 : L = []
  · subst c1
    by_cases c2 : w = "under" ∨ w = "over"
    · rw [if_pos ⟨rfl, c2⟩]
      rcases c2 with rfl | rfl
      · simp [lb]
      · simp [lb]
    · have c3 : ¬ w = "under" := fun z => c2 (.inl z)
      have c4 : ¬ w = "over" := fun z => c2 (.inr z)
      simp [lb, c3, c4]
  · have c3 : L.isEmpty = false := by cases L with
      | nil => exact absurd rfl c1
      | cons a l => rfl
    simp [lb, c1, c3]
theorem vic_loop {C : D} {ring : List Pr} {key : Int} {s : DS} (hr : ring ≠ []) (h1 : ring.length ≤ 1000) : ∀ (ws : List Str) (cur : List Pr) (x4 x5 : Sl), (∀ x ∈ ws, x ∈ FIL) → cur.length ≤ 1000 →
    ∃ (S' : List Sl) (y4 y5 : Sl), loop (gN 4) vB (ws.map .str) ⟨vS C ring key cur x4 x5, s⟩ = match narrowL ring key ws cur with
      | none => some (.ret .non, ⟨S', s⟩)
      | some cur' => some (.nx, ⟨vS C ring key cur' y4 y5, s⟩)
  | [], cur, x4, x5, _, _ => ⟨[], x4, x5, rfl⟩
  | w :: ws, cur, x4, x5, hw, h2 => by
    have t := vic_turn (C := C) (x5 := x5) (s := s) (key := key) (hw w List.mem_cons_self) hr h1 h2
    unfold narrowL
    by_cases c : (leftL w ring cur key).isEmpty = true ∧ (w = "under" ∨ w = "over")
    · rw [if_pos c] at t ⊢
      exact ⟨_, x4, x5, loop_ret (g1 := ⟨vS C ring key cur (.dat (.str w)) x5, s⟩) rfl t⟩
    · rw [if_neg c] at t ⊢
      obtain ⟨S', y4, y5, e⟩ := vic_loop hr h1 ws (if (leftL w ring cur key).isEmpty = true then cur else leftL w ring cur key) (.dat (.str w)) (.dat (.lst (rowD (leftL w ring cur key)))) (fun x hx => hw x (List.mem_cons_of_mem _ hx)) (by
        split
        · exact h2
        · exact Nat.le_trans (leftL_len _ _ _ _) h2)
      exact ⟨S', y4, y5, (loop_cons (g1 := ⟨vS C ring key cur (.dat (.str w)) x5, s⟩) rfl t).trans e⟩
def vicL (ws : List Str) (e : Str) (ring : List Pr) (key : Int) : Option Int := match narrowL ring key ws ring with
  | none => none
  | some cur => (endL e (keysOf cur)).head?
theorem cut_butlast (ws : List Str) (e : Str) : cutD (csOf ws e) none (some (-1)) = ws.map .str := by
  have l := cs_len ws e
  have : HT.sIx (csOf ws e).length (csOf ws e).length (some (-1)) = ws.length := by
    show (if (-1 : Int) < 0 then ((-1 : Int) + ((csOf ws e).length : Int)).toNat else min (-1 : Int).toNat (csOf ws e).length) = _
    rw [if_pos (by decide), l]; omega
  unfold DE.cutD
  rw [this]
  show ((csOf ws e).drop 0).take (ws.length - 0) = _
  simp
theorem cs_last (ws : List Str) (e : Str) : atI (csOf ws e) (-1) = some (.str e) := by
  unfold atI ixN
  rw [if_neg (by decide), if_pos (by rw [cs_len]; omega), cs_len, Option.bind_some]
  rw [show ((-1 : Int) + ((ws.length + 1 : Nat) : Int)).toNat = ws.length by omega]
  simp
theorem among_ok {ws : List Str} {e : Str} {ring : List Pr} (hw : ∀ x ∈ ws, x ∈ FIL) (hr : ring ≠ []) (h1 : ring.length ≤ 1000) (key : Int) (s : DS) : m_victim_among [.tup (csOf ws e), .lst (rowD ring), .int key] s = some (.ok (optD (vicL ws e ring key)), s) := by
  refine run_v rfl ?_
  obtain ⟨S', y4, y5, el⟩ := vic_loop (C := .tup (csOf ws e)) (key := key) (s := s) hr h1 ws ring .no .no hw h1
  have cb := cut_butlast ws e
  have cl := cs_last ws e
  obtain ⟨cs, hcs⟩ : ∃ cs, cs = csOf ws e := ⟨_, rfl⟩
  rw [← hcs] at el cb cl ⊢
  unfold vicL
  cases hn : narrowL ring key ws ring with
  | none =>
    rw [hn] at el
    simp [fb_victim_among, cb, el]
  | some cur =>
    rw [hn] at el
    obtain ⟨a1, a2, a3⟩ := narrow_ne ws ring hr hn
    have hl' : cur.length ≤ 100000 := by omega
    have ch := chosen_ok e (ks := keysOf cur) (by simpa using a1) s
    have c := comp_gen (E := prD) (F := fun p => D.int p.1) (P := fun _ => true) (j := 6) (S := vS (.tup cs) ring key cur y4 y5) (s := s) (c := rt true) (e := fIxD (fName 6) (rt (.int 0))) cur (fun _ => rfl) (fun p _ => by simp) (fun p _ _ => by simp)
    rw [List.filter_eq_self.mpr fun _ _ => rfl, show cur.map (fun p => D.int p.1) = (keysOf cur).map D.int by simp] at c
    simp [fb_victim_among, -List.map_map, cb, el, cl, c, ch, hl']
end S
namespace S
open PyProof.Rows PySem.Spec PySem L2 DE
/-! ### a key goes down, by the program -/
theorem shaped_rowT {r : List Pr} (h : okR r) : SeqAt.shaped (.tuple (r.map prP)) = true := by
  unfold SeqAt.shaped
  have := dep_row r
  rw [Bool.and_eq_true, decide_eq_true_eq]
  refine ⟨by simp only [PyData.canLay0]; exact lay_row h, ?_⟩
  simp only [PyData.depth]; omega
theorem pInT_row {r : List Pr} (h : okR r) (p : Pr) (hp : p.2 ∈ MKS) (g : Sg) : pInT false (prD p) (.tup (rowD r)) g = some (.ok (.bl (r.contains p)), g) := by
  have e1 : pyd (.tup (rowD r)) = some (.tuple (r.map prP)) := by unfold pyd; rw [pyd_row]; rfl
  unfold pInT
  rw [pyd_pr, e1]
  dsimp only
  rw [if_pos (by rw [shaped_pr hp, shaped_rowT h]; rfl), any_pr]; rfl
def pdownL (v : Int) (ws : List Str) (e : Str) (r : List Pr) (key : Int) : List Pr :=
  if r.contains (pr key "kept") = true then dropL r key ++ [pr key "sounds"]
  else if nL r < v then r ++ [pr key "sounds"]
  else match vicL ws e (r.filter loudP) key with
    | none => r ++ [pr key "waits"]
    | some k => (if r.contains (pr k "kept") = true then dropL r k else markM r [k] "waits") ++ [pr key "sounds"]
def pdownD (v : Int) (ws : List Str) (e : Str) (r : List Pr) (key : Int) : List (Str × Int) :=
  if r.contains (pr key "kept") = true then [("again", key)]
  else if nL r < v then [("begin", key)]
  else match vicL ws e (r.filter loudP) key with
    | none => [("refuse", key)]
    | some k => [("cut", k), ("begin", key)]
theorem go_down_ok {v : Int} {ws : List Str} {e : Str} {b : D} {r : List Pr} (hl : r.length ≤ 900) (ok : okR r) (hv : 1 ≤ v) (hw : ∀ x ∈ ws, x ∈ FIL) (key : Int) (s : DS) :
    m_go_down [.tup [.int v, .tup (csOf ws e), b], .tup (rowD r), .int key] s = some (.ok (.tup [.tup (rowD (pdownL v ws e r key)), .tup (ddD (pdownD v ws e r key))]), s) := by
  refine run_v rfl ?_
  have hl' : r.length ≤ 100000 := by omega
  have hl2 : r.length + 1 ≤ 100000 := by omega
  have i1 := fun g => pInT_row ok (pr key "kept") (show ("kept" : Str) ∈ MKS by decide) g
  obtain ⟨cs, hcs⟩ : ∃ cs, cs = csOf ws e := ⟨_, rfl⟩
  have wo := without_ok (r := r) (by omega) key s
  have hd : (dropL r key).length + 1 ≤ 100000 := by have := List.length_filter_le (fun p : Pr => !decide (p.1 = key)) r; show (List.filter _ r).length + 1 ≤ _; omega
  have c := fun S4 S5 : Sl => comp_gen (E := prD) (F := prD) (P := loudP) (j := 6) (S := [.dat (.tup [.int v, .tup cs, b]), .dat (.tup (rowD r)), .dat (.int key), .dat (.int v), S4, S5, .no, .no, .no, .no]) (s := s) (c := fT (f2 pNe (fIxD (fName 6) (rt (.int 1))) (rt (.str "waits")))) (e := fName 6) r (fun _ => rfl) (fun p _ => by simp [loudP]) (fun p _ _ => by simp)
  unfold pdownL pdownD
  by_cases c1 : r.contains (pr key "kept") = true
  · rw [if_pos c1, if_pos c1]
    rw [c1] at i1
    simp [-List.map_map, fb_go_down, i1, wo, hd, ddD]
  rw [if_neg c1, if_neg c1]
  rw [Bool.eq_false_iff.mpr c1] at i1
  by_cases c2 : nL r < v
  · rw [if_pos c2, if_pos c2]
    rw [← hcs]
    simp [-List.map_map, fb_go_down, i1, c, c2, hl', hl2, ddD]
  rw [if_neg c2, if_neg c2]
  have hr : r.filter loudP ≠ [] := by
    intro z
    exact c2 (by show (((r.filter loudP).length : Nat) : Int) < v; rw [z]; show (0 : Int) < v; omega)
  have am := among_ok (e := e) hw hr (Nat.le_trans (List.length_filter_le _ _) (by omega)) key s
  rw [← hcs] at am ⊢
  cases hvic : vicL ws e (r.filter loudP) key with
  | none =>
    rw [hvic] at am
    simp [-List.map_map, fb_go_down, i1, c, c2, hl', hl2, ddD, am]
  | some k =>
    rw [hvic] at am
    have i2 := fun g => pInT_row ok (pr k "kept") (show ("kept" : Str) ∈ MKS by decide) g
    have wo2 := without_ok (r := r) (by omega) k s
    have hd2 : (dropL r k).length + 1 ≤ 100000 := by have := List.length_filter_le (fun p : Pr => !decide (p.1 = k)) r; show (List.filter _ r).length + 1 ≤ _; omega
    have mk := pmarked_ok (r := r) (by omega) [k] "waits" s
    dsimp only
    by_cases c3 : r.contains (pr k "kept") = true
    · rw [if_pos c3]
      rw [c3] at i2
      simp [-List.map_map, fb_go_down, i1, i2, c, c2, hl', hl2, ddD, am, wo2, hd2]
    · rw [if_neg c3]
      rw [Bool.eq_false_iff.mpr c3] at i2
      have mk' : m_marked [.tup (rowD r), .lst [.int k], .str "waits"] s = some (.ok (.tup (rowD (markM r [k] "waits"))), s) := mk
      simp [-List.map_map, fb_go_down, i1, i2, c, c2, hl', hl2, ddD, am, mk']
end S
namespace S
open PyProof.Rows PySem.Spec PySem L2 DE
/-! ### who comes back, by the program -/
theorem choO_is (w : Str) {ks : List Int} (h : ks ≠ []) : choO w ks = (endL w ks).head? := by
  unfold choO endL
  by_cases c1 : w = "eldest"
  · rw [if_pos c1, if_pos c1]; cases ks <;> rfl
  rw [if_neg c1, if_neg c1]
  by_cases c2 : w = "latest"
  · rw [if_pos c2, if_pos c2, List.head?_drop, List.getLast?_eq_getElem?]
  rw [if_neg c2, if_neg c2]
  by_cases c3 : w = "lowest"
  · rw [if_pos c3, if_pos c3]; rfl
  rw [if_neg c3, if_neg c3]
  by_cases c4 : w = "highest"
  · rw [if_pos c4, if_pos c4]; rfl
  rw [if_neg c4, if_neg c4]; rfl
def pbackL (b : Str) : Nat → List Int → List Int → List Int
  | 0, _, f => f
  | n + 1, w, f => pbackL b n (w.erase ((endL b w).headD 0)) (f ++ [(endL b w).headD 0])
theorem pback_acc (b : Str) : ∀ (n : Nat) (w f : List Int), pbackL b n w f = f ++ pbackL b n w []
  | 0, w, f => by simp [pbackL]
  | n + 1, w, f => by
    unfold pbackL
    rw [pback_acc b n _ (f ++ _), pback_acc b n _ ([] ++ _)]
    simp
theorem pback_len (b : Str) : ∀ (n : Nat) (w f : List Int), (pbackL b n w f).length = f.length + n
  | 0, w, f => rfl
  | n + 1, w, f => by unfold pbackL; rw [pback_len b n]; simp; omega
def choOw (i : Nat) (x y : Option Sl) (g : Sg) : Res D := match x, y with
  | some (.own xs), some (.dat (.str w)) => match intsOf xs with
    | some ks => if ks = [] then none else some (.ok (choD (choO w ks)), g)
    | none => none
  | _, _ => none
@[simp] theorem cho_v (i j : Nat) (r : List Sl) (s : DS) : fCho i j ⟨r, s⟩ = choOw i r[i]? r[j]? ⟨r, s⟩ := by
  unfold fCho choOw
  dsimp only
  split
  · rename_i xs w e1 e2
    try rw [e1, e2]
    try dsimp only
    cases intsOf xs with
    | none => rfl
    | some ks => cases ks <;> rfl
  · rename_i h
    cases e1 : r[i]? with
    | none => rfl
    | some x =>
      cases x with
      | own xs =>
        cases e2 : r[j]? with
        | none => rfl
        | some y =>
          cases y with
          | dat d =>
            cases d with
            | str w => exact absurd e2 (h xs w e1)
            | _ => rfl
          | _ => rfl
      | _ => rfl
@[simp] theorem choOw_v (i : Nat) (ks : List Int) (w : Str) (g : Sg) : choOw i (some (.own (ks.map .int))) (some (.dat (.str w))) g = if ks = [] then none else some (.ok (choD (choO w ks)), g) := by
  unfold choOw
  simp only [intsOf_m]
abbrev cB : Ms := (fSeq (fSet 6 (fCho 8 5))
  (fSeq (fExp (fRem 8 (fName 6)))
  (fExp (fApp 11 (fName 6)))))
abbrev cbS (M R dn v C : D) (b : Str) (x4 x6 : Sl) (w : List Int) (fr mn : D) (f : List Int) : List Sl := [.dat M, .dat R, .dat dn, .dat v, x4, .dat (.str b), x6, .no, .own (w.map .int), .dat fr, .dat mn, .own (f.map .int)]
theorem back_head {b : Str} (hb : b ∈ RET_) (hn : b ≠ "none") {w : List Int} (hw : w ≠ []) : (endL b w).head? = some ((endL b w).headD 0) ∧ (endL b w).headD 0 ∈ w := by
  have e := end_ne hb hn hw
  refine ⟨by rw [e]; rfl, end_mem hw (w := b) (by rw [e]; exact List.mem_cons_self)⟩
theorem cback_turn {M R dn v C : D} {b : Str} (hb : b ∈ RET_) (hn : b ≠ "none") {x4 x6 : Sl} {w : List Int} {fr mn : D} {f : List Int} {s : DS} (hw : w ≠ []) (hf : f.length ≤ 1000) :
    cB ⟨cbS M R dn v C b x4 x6 w fr mn f, s⟩ = some (.nx, ⟨cbS M R dn v C b x4 (.dat (.int ((endL b w).headD 0))) (w.erase ((endL b w).headD 0)) fr mn (f ++ [(endL b w).headD 0]), s⟩) := by
  obtain ⟨h1, h2⟩ := back_head hb hn hw
  have h3 : choO b w = some ((endL b w).headD 0) := (choO_is b hw).trans h1
  obtain ⟨k, hk⟩ : ∃ k, k = (endL b w).headD 0 := ⟨_, rfl⟩
  rw [← hk] at h2 h3 ⊢
  have hf' : f.length < 100000 := by omega
  simp [hw, h3, h2, hf', choD]
theorem cback_loop {M R dn v C : D} {b : Str} (hb : b ∈ RET_) (hn : b ≠ "none") {fr mn : D} {s : DS} : ∀ (is : List D) (x4 x6 : Sl) (w f : List Int), is.length ≤ w.length → f.length + is.length ≤ 1000 →
    ∃ y4 y6 w', loop (gN 4) cB is ⟨cbS M R dn v C b x4 x6 w fr mn f, s⟩ = some (.nx, ⟨cbS M R dn v C b y4 y6 w' fr mn (pbackL b is.length w f), s⟩)
  | [], x4, x6, w, f, _, _ => ⟨x4, x6, w, rfl⟩
  | d :: is, x4, x6, w, f, hw, hf => by
    simp only [List.length_cons] at hw hf
    have hne : w ≠ [] := by rintro rfl; simp at hw
    have t := cback_turn (M := M) (R := R) (dn := dn) (v := v) (C := C) hb hn (x4 := .dat d) (x6 := x6) (fr := fr) (mn := mn) (f := f) (s := s) hne (by omega)
    obtain ⟨_, h2⟩ := back_head hb hn hne
    obtain ⟨y4, y6, w', e⟩ := cback_loop hb hn is (.dat d) (.dat (.int ((endL b w).headD 0))) (w.erase ((endL b w).headD 0)) (f ++ [(endL b w).headD 0]) (by rw [List.length_erase_of_mem h2]; omega) (by simp; omega)
    exact ⟨y4, y6, w', (loop_cons (g1 := ⟨cbS M R dn v C b (.dat d) x6 w fr mn f, s⟩) rfl t).trans e⟩
def manyB (v : Int) (r : List Pr) : Nat := min (v - nL r).toNat (r.filter waitP).length
theorem come_none {v : D} {C : D} {r : List Pr} {dn : D} (s : DS) : m_come_back [.tup [v, C, .str "none"], .tup (rowD r), dn] s = some (.ok (.tup [.tup (rowD r), dn]), s) := by
  refine run_v rfl ?_
  simp [fb_come_back]
theorem come_ok {v : Int} {C : D} {b : Str} (hb : b ∈ RET_) (hn : b ≠ "none") {r : List Pr} (hl : r.length ≤ 900) (hv : nL r ≤ v) (hv2 : v ≤ 1000) {dn : List (Str × Int)} (hd : dn.length ≤ 1000) (s : DS) :
    m_come_back [.tup [.int v, C, .str b], .tup (rowD r), .tup (ddD dn)] s = some (.ok (.tup [.tup (rowD (markM r (pbackL b (manyB v r) (keysOf (r.filter waitP)) []) "sounds")), .tup (ddD (dn ++ (pbackL b (manyB v r) (keysOf (r.filter waitP)) []).map fun x => (("back" : Str), x)))]), s) := by
  refine run_v rfl ?_
  have hl' : r.length ≤ 100000 := by omega
  have cn := counts r
  obtain ⟨W, hW⟩ : ∃ W, W = keysOf (r.filter waitP) := ⟨_, rfl⟩
  have hWl : W.length = (r.filter waitP).length := by rw [hW]; exact List.length_map _
  obtain ⟨n, hn'⟩ : ∃ n, n = manyB v r := ⟨_, rfl⟩
  have hnW : n ≤ W.length := by rw [hn', hWl]; exact Nat.min_le_right _ _
  rw [← hW, ← hn']
  have hnum : (if (W.length : Int) < v - ((r.length : Int) - (W.length : Int)) then (W.length : Int) else v - ((r.length : Int) - (W.length : Int))) = (n : Int) := by
    rw [hn', hWl]
    unfold manyB
    have : nL r = ((r.filter loudP).length : Int) := rfl
    split <;> omega
  have c := comp_two (i := 6) (j := 7) (F := fun p => D.int p.1) (P := waitP) (S := [.dat (.tup [.int v, C, .str b]), .dat (.tup (rowD r)), .dat (.tup (ddD dn)), .dat (.int v), .dat C, .dat (.str b), .no, .no, .no, .no, .no, .no]) (s := s) (c := fT (f2 pEq (fName 7) (rt (.str "waits")))) (e := fName 6) r (fun _ => rfl) (fun p _ => by simp [waitP]) (fun p _ _ => by simp)
  rw [show (r.filter waitP).map (fun p => D.int p.1) = W.map D.int by rw [hW]; simp] at c
  obtain ⟨y4, y6, w', el⟩ := cback_loop (M := .tup [.int v, C, .str b]) (R := .tup (rowD r)) (dn := .tup (ddD dn)) (v := .int v) (C := C) (s := s) (fr := .int (v - ((r.length : Int) - (W.length : Int)))) (mn := .int (n : Int)) hb hn (intsD (n : Int)) (.dat C) .no W [] (by rw [intsD_length]; exact hnW) (by rw [intsD_length]; simp; omega)
  rw [intsD_length] at el
  obtain ⟨bk, hbk⟩ : ∃ bk, bk = pbackL b n W [] := ⟨_, rfl⟩
  have hbl : bk.length ≤ 100000 := by rw [hbk, pback_len]; simp; omega
  have hbl2 : dn.length + bk.length ≤ 100000 := by rw [hbk, pback_len]; simp; omega
  rw [← hbk] at el ⊢
  have mk := pmarked_ok (r := r) (by omega) bk "sounds" s
  have c2 := comp_gen (E := D.int) (F := fun x => D.tup [.str "back", .int x]) (P := fun _ => true) (j := 6) (S := cbS (.tup [.int v, C, .str b]) (.tup (rowD r)) (.tup (ddD dn)) (.int v) C b y4 .no w' (.int (v - ((r.length : Int) - (W.length : Int)))) (.int (n : Int)) [] |>.set 11 (.dat (.lst (bk.map .int)))) (s := s) (c := rt true) (e := fTup (fCons (rt (.str "back")) (fCons (fName 6) (rt [])))) bk (fun _ => rfl) (fun p _ => by simp) (fun p _ _ => by simp [-prD_v])
  rw [List.filter_eq_self.mpr fun _ _ => rfl] at c2
  have hn2 : (n : Int) ≤ 1000000 ∧ (-1000000 : Int) ≤ (n : Int) := by omega
  simp only [cbS, List.map_nil] at el
  simp only [cbS, List.map_nil, List.set_cons_succ, List.set_cons_zero] at c2
  simp [-List.map_map, fb_come_back, hn, c, hl', hnum, el, hn2, mk, c2, hbl, hbl2]
  rw [List.map_map]; rfl
end S
namespace S
open PyProof.Rows PySem.Spec PySem L2 DE
/-! ### the step, by the program -/
def pbk (v : Int) (b : Str) (r : List Pr) : List Int := if b = "none" then [] else pbackL b (manyB v r) (keysOf (r.filter waitP)) []
abbrev prow (v : Int) (b : Str) (r : List Pr) : List Pr := markM r (pbk v b r) "sounds"
abbrev bkD (ks : List Int) : List (Str × Int) := ks.map fun x => (("back" : Str), x)
theorem markM_nil (r : List Pr) (m : Str) : markM r [] m = r := by
  unfold markM markQ; simp
theorem come_any {v : Int} {C : D} {b : Str} (hb : b ∈ RET_) {r : List Pr} (hl : r.length ≤ 900) (hv : nL r ≤ v) (hv2 : v ≤ 1000) {dn : List (Str × Int)} (hd : dn.length ≤ 1000) (s : DS) :
    m_come_back [.tup [.int v, C, .str b], .tup (rowD r), .tup (ddD dn)] s = some (.ok (.tup [.tup (rowD (prow v b r)), .tup (ddD (dn ++ bkD (pbk v b r)))]), s) := by
  unfold prow pbk
  by_cases hn : b = "none"
  · subst hn
    rw [if_pos rfl, markM_nil, come_none]
    simp
  · rw [if_neg hn]
    exact come_ok hb hn hl hv hv2 hd s
def pupL (v : Int) (b : Str) (f : Bool) (r : List Pr) (k : Int) : List Pr :=
  if r.contains (pr k "waits") = true then prow v b (dropL r k) else if f = true then markM r [k] "kept" else prow v b (dropL r k)
def pupD (v : Int) (b : Str) (f : Bool) (r : List Pr) (k : Int) : List (Str × Int) :=
  if r.contains (pr k "waits") = true then ("leave", k) :: bkD (pbk v b (dropL r k)) else if f = true then [("keep", k)] else ("end", k) :: bkD (pbk v b (dropL r k))
theorem go_up_ok {v : Int} {C : D} {b : Str} (hb : b ∈ RET_) {f : Bool} {r : List Pr} (hl : r.length ≤ 900) (ok : okR r) (hv : nL r ≤ v) (hv2 : v ≤ 1000) (k : Int) (s : DS) :
    m_go_up [.tup [.int v, C, .str b], stD f r, .int k] s = some (.ok (.tup [.tup (rowD (pupL v b f r k)), .tup (ddD (pupD v b f r k))]), s) := by
  refine run_v rfl ?_
  have i1 := fun g => pInT_row ok (pr k "waits") (show ("waits" : Str) ∈ MKS by decide) g
  have wo := without_ok (r := r) (by omega) k s
  have hd : (dropL r k).length ≤ 900 := Nat.le_trans (List.length_filter_le _ _) hl
  have hn : nL (dropL r k) ≤ v := Int.le_trans (nL_sub List.filter_sublist) hv
  have mk : m_marked [.tup (rowD r), .lst [.int k], .str "kept"] s = _ := pmarked_ok (r := r) (by omega) [k] "kept" s
  unfold pupL pupD
  by_cases c1 : r.contains (pr k "waits") = true
  · rw [if_pos c1, if_pos c1]
    rw [c1] at i1
    have cb : m_come_back [.tup [.int v, C, .str b], .tup (rowD (dropL r k)), .tup [.tup [.str "leave", .int k]]] s = _ := come_any (C := C) hb hd hn hv2 (dn := [("leave", k)]) (by simp) s
    simp [-List.map_map, fb_go_up, i1, wo, cb]
  rw [if_neg c1, if_neg c1]
  rw [Bool.eq_false_iff.mpr c1] at i1
  cases f with
  | true => simp [-List.map_map, fb_go_up, i1, mk]
  | false =>
    have cb : m_come_back [.tup [.int v, C, .str b], .tup (rowD (dropL r k)), .tup [.tup [.str "end", .int k]]] s = _ := come_any (C := C) hb hd hn hv2 (dn := [("end", k)]) (by simp) s
    simp [-List.map_map, fb_go_up, i1, wo, cb]
end S
namespace S
open PyProof.Rows PySem.Spec PySem L2 DE
abbrev unkept (r : List Pr) : List Pr := r.filter fun p => !decide (p.2 = "kept")
abbrev endsD (ks : List Int) : List (Str × Int) := ks.map fun x => (("end" : Str), x)
theorem lift_ok {v : Int} {C : D} {b : Str} (hb : b ∈ RET_) {r : List Pr} (hl : r.length ≤ 900) (hv : nL r ≤ v) (hv2 : v ≤ 1000) (s : DS) :
    m_lift [.tup [.int v, C, .str b], .tup (rowD r)] s = some (.ok (.tup [.tup (rowD (prow v b (unkept r))), .tup (ddD (endsD (keysOf (r.filter keptP)) ++ bkD (pbk v b (unkept r))))]), s) := by
  refine run_v rfl ?_
  have hl' : r.length ≤ 100000 := by omega
  have hd : (unkept r).length ≤ 900 := Nat.le_trans (List.length_filter_le _ _) hl
  have hn : nL (unkept r) ≤ v := Int.le_trans (nL_sub List.filter_sublist) hv
  have hk : (endsD (keysOf (r.filter keptP))).length ≤ 1000 := by
    rw [List.length_map, List.length_map]; have := List.length_filter_le keptP r; omega
  have cb := come_any (C := C) hb hd hn hv2 hk s
  have c1 := comp_gen (E := prD) (F := prD) (P := fun p : Pr => !decide (p.2 = "kept")) (j := 2) (S := [.dat (.tup [.int v, C, .str b]), .dat (.tup (rowD r)), .no, .no, .no, .no, .no]) (s := s) (c := fT (f2 pNe (fIxD (fName 2) (rt (.int 1))) (rt (.str "kept")))) (e := fName 2) r (fun _ => rfl) (fun p _ => by simp) (fun p _ _ => by simp)
  have c2 := comp_two (i := 4) (j := 5) (F := fun p => D.tup [.str "end", .int p.1]) (P := keptP) (S := [.dat (.tup [.int v, C, .str b]), .dat (.tup (rowD r)), .no, .dat (.tup (rowD (unkept r))), .no, .no, .no]) (s := s) (c := fT (f2 pEq (fName 5) (rt (.str "kept")))) (e := fTup (fCons (rt (.str "end")) (fCons (fName 4) (rt [])))) r (fun _ => rfl) (fun p _ => by simp [keptP]) (fun p _ _ => by simp)
  rw [show (r.filter keptP).map (fun p => D.tup [.str "end", .int p.1]) = ddD (endsD (keysOf (r.filter keptP))) by unfold ddD endsD keysOf; rw [List.map_map, List.map_map]; rfl] at c2
  simp [-List.map_map, fb_lift, c1, c2, hl', cb]
def pstepL (v : Int) (ws : List Str) (e b : Str) : Bool × List Pr → Ev → Bool × List Pr
  | (_, r), .press => (true, r)
  | (f, r), .down k => (f, pdownL v ws e r k)
  | (f, r), .up k => (f, pupL v b f r k)
  | (_, r), .lift => (false, prow v b (unkept r))
def pdeedsL (v : Int) (ws : List Str) (e b : Str) : Bool × List Pr → Ev → List (Str × Int)
  | _, .press => []
  | (_, r), .down k => pdownD v ws e r k
  | (f, r), .up k => pupD v b f r k
  | (_, r), .lift => endsD (keysOf (r.filter keptP)) ++ bkD (pbk v b (unkept r))
theorem perform_ok {v : Int} {ws : List Str} {e b : Str} (hb : b ∈ RET_) {f : Bool} {r : List Pr} (hl : r.length ≤ 900) (ok : okR r) (hv0 : 1 ≤ v) (hv : nL r ≤ v) (hv2 : v ≤ 1000) (hw : ∀ x ∈ ws, x ∈ FIL) (ev : Ev) (s : DS) :
    m_perform [.tup [.int v, .tup (csOf ws e), .str b], stD f r, evD ev] s = some (.ok (.tup [stD (pstepL v ws e b (f, r) ev).1 (pstepL v ws e b (f, r) ev).2, .tup (ddD (pdeedsL v ws e b (f, r) ev))]), s) := by
  refine run_v rfl ?_
  have gd := fun k => go_down_ok (b := .str b) (e := e) hl ok hv0 hw k s
  have gu := fun k => go_up_ok (C := .tup (csOf ws e)) hb (f := f) hl ok hv hv2 k s
  have li := lift_ok (C := .tup (csOf ws e)) hb hl hv hv2 s
  obtain ⟨cs, hcs⟩ : ∃ cs, cs = csOf ws e := ⟨_, rfl⟩
  rw [← hcs] at gd gu li ⊢
  unfold pstepL pdeedsL
  cases ev with
  | press => simp [-List.map_map, fb_perform, evD]
  | lift => simp [-List.map_map, fb_perform, evD, li, show ¬ ("lift" : Str) = "press" by decide]
  | down k => simp [-List.map_map, fb_perform, evD, gd, show ¬ ("down" : Str) = "press" by decide, show ¬ ("down" : Str) = "lift" by decide]
  | up k => simp [-List.map_map, fb_perform, evD, gu, show ¬ ("up" : Str) = "press" by decide, show ¬ ("up" : Str) = "lift" by decide, show ¬ ("up" : Str) = "down" by decide]
end S
namespace S
open PyProof.Rows PySem.Spec PySem L2 DE
/-! ### the program's step is the law's -/
theorem fill_stop {v : Int} {b : Str} : ∀ (n : Nat) {r : List Pr} (f : List Int), ¬ goesB v b r → fillL v b n r f = (r, f)
  | 0, _, _, _ => rfl
  | n + 1, r, f, h => by
    unfold fillL
    rw [if_neg h]
    exact fill_stop n f h
theorem pbk_stop {v : Int} {b : Str} {r : List Pr} (h : ¬ goesB v b r) : pbk v b r = [] := by
  unfold pbk
  by_cases hb : b = "none"
  · rw [if_pos hb]
  rw [if_neg hb]
  have : manyB v r = 0 := by
    unfold manyB
    by_cases hw : r.filter waitP = []
    · rw [hw]; exact Nat.min_zero _
    · have : ¬ nL r < v := fun z => h ⟨hb, hw, z⟩
      omega
  rw [this]; rfl
theorem prow_stop {v : Int} {b : Str} {r : List Pr} (h : ¬ goesB v b r) : prow v b r = r := by
  unfold prow
  rw [pbk_stop h, markM_nil]
theorem wait_mark {r : List Pr} (nd : (keysOf r).Nodup) (k : Int) : keysOf ((markL r k "sounds").filter waitP) = (keysOf (r.filter waitP)).erase k := by
  have ndw : (keysOf (r.filter waitP)).Nodup := nd_sub List.filter_sublist nd
  rw [ndw.erase_eq_filter]
  clear ndw nd
  induction r with
  | nil => rfl
  | cons p r ih =>
    unfold markL keysOf at ih ⊢
    rw [List.map_cons]
    by_cases hk : p.1 = k
    · have e1 : markP k "sounds" p = pr p.1 "sounds" := if_pos hk
      rw [e1, List.filter_cons_of_neg (show ¬ waitP (pr p.1 "sounds") = true by show ¬ decide (("sounds" : Str) = "waits") = true; decide), ih]
      by_cases hw : waitP p = true
      · rw [List.filter_cons_of_pos hw, List.map_cons, List.filter_cons_of_neg (by simp [hk])]
      · rw [List.filter_cons_of_neg hw]
    · have e1 : markP k "sounds" p = p := if_neg hk
      rw [e1]
      by_cases hw : waitP p = true
      · rw [List.filter_cons_of_pos hw, List.filter_cons_of_pos hw, List.map_cons, List.map_cons, List.filter_cons_of_pos (by simp [hk]), ih]
      · rw [List.filter_cons_of_neg hw, List.filter_cons_of_neg hw, ih]
theorem markM_mark (r : List Pr) (k : Int) (ks : List Int) : markM (markL r k "sounds") ks "sounds" = markM r (k :: ks) "sounds" := by
  unfold markM markL
  rw [List.map_map]
  congr 1
  funext p
  show markQ ks "sounds" (markP k "sounds" p) = markQ (k :: ks) "sounds" p
  unfold markP markQ
  by_cases h : p.1 = k
  · rw [if_pos h]
    have c : (k :: ks).contains p.1 = true := by rw [h]; simp
    rw [if_pos c]
    split <;> rfl
  · rw [if_neg h]
    have : (k :: ks).contains p.1 = ks.contains p.1 := by simp [h]
    rw [this]
theorem fill_eq {v : Int} {b : Str} (hb : b ∈ RET_) : ∀ (n : Nat) (r : List Pr) (f : List Int), (r.filter waitP).length ≤ n → (keysOf r).Nodup → nL r ≤ v → fillL v b n r f = (prow v b r, f ++ pbk v b r)
  | 0, r, f, h, nd, hv => by
    have hw : r.filter waitP = [] := List.length_eq_zero_iff.mp (Nat.le_zero.mp h)
    have hn : ¬ goesB v b r := fun z => z.2.1 hw
    rw [prow_stop hn, pbk_stop hn]
    simp [fillL]
  | n + 1, r, f, h, nd, hv => by
    by_cases g : goesB v b r
    · have g' := g
      obtain ⟨g1, g2, g3⟩ := g'
      obtain ⟨k, hk⟩ : ∃ k, k = backL b r := ⟨_, rfl⟩
      have mem : pr k "waits" ∈ r := hk ▸ back_mem hb g
      have ws := wait_sounds nd mem
      have c1 := counts r
      have c2 := counts (markL r k "sounds")
      have el : (markL r k "sounds").length = r.length := List.length_map _
      have enL : nL (markL r k "sounds") = nL r + 1 := by show (((markL r k "sounds").filter loudP).length : Int) = ((r.filter loudP).length : Int) + 1; omega
      have ih := fill_eq (v := v) hb n (markL r k "sounds") (f ++ [k]) (by omega) (by rw [keys_mark]; exact nd) (by have g3' : nL r < v := g3; omega)
      unfold fillL
      rw [if_pos g, ← hk, ih]
      have e1 : pbk v b r = k :: pbk v b (markL r k "sounds") := by
        unfold pbk
        rw [if_neg g1, if_neg g1, wait_mark nd]
        have em : manyB v r = manyB v (markL r k "sounds") + 1 := by
          unfold manyB
          have : 0 < (r.filter waitP).length := List.length_pos_iff.mpr g2
          have g3' : nL r < v := g3
          omega
        rw [em]
        show pbackL b (manyB v (markL r k "sounds")) ((keysOf (r.filter waitP)).erase ((endL b (keysOf (r.filter waitP))).headD 0)) ([] ++ [(endL b (keysOf (r.filter waitP))).headD 0]) = _
        have ek : (endL b (keysOf (r.filter waitP))).headD 0 = k := hk.symm
        rw [ek, pback_acc]
        simp
      rw [e1]
      refine Prod.ext ?_ (by simp)
      show markM (markL r k "sounds") (pbk v b (markL r k "sounds")) "sounds" = markM r (pbk v b r) "sounds"
      rw [e1, markM_mark]
    · unfold fillL
      rw [if_neg g, fill_stop n f g, prow_stop g, pbk_stop g]
      simp
theorem drop_less (r : List Pr) (k : Int) : lessL r [k] = dropL r k := by
  unfold lessL dropL
  congr 1; funext p
  simp
theorem unkept_less {r : List Pr} (nd : (keysOf r).Nodup) : lessL r (keysOf (r.filter keptP)) = unkept r := by
  unfold lessL unkept
  refine List.filter_congr (fun p hp => ?_)
  by_cases h : p.2 = "kept"
  · have : p.1 ∈ keysOf (r.filter keptP) := key_mem (List.mem_filter.mpr ⟨hp, by unfold keptP; simp [h]⟩)
    have h2 : (keysOf (r.filter keptP)).contains p.1 = true := by rw [List.contains_iff_mem]; exact this
    rw [h2]; simp [h]
  · have : ¬ p.1 ∈ keysOf (r.filter keptP) := fun z => by
      obtain ⟨q, hq, e⟩ := mem_key z
      obtain ⟨q1, q2⟩ := List.mem_filter.mp hq
      have := nd_uniq nd q1 hp e
      rw [this] at q2
      unfold keptP at q2
      exact h (of_decide_eq_true q2)
    have h2 : (keysOf (r.filter keptP)).contains p.1 = false := by rw [Bool.eq_false_iff]; intro z; rw [List.contains_iff_mem] at z; exact this z
    rw [h2]; simp [h]
theorem vic_taken {v : Int} {ws : List Str} {e : Str} {r : List Pr} {key : Int} (h : ¬ nL r < v) : vicL ws e (r.filter loudP) key = (takenL v ws e r key).head? := by
  unfold vicL takenL
  rw [if_neg h]
  cases narrowL (r.filter loudP) key ws (r.filter loudP) with
  | none => rfl
  | some cur => rfl
theorem cut_rest {r : List Pr} (nd : (keysOf r).Nodup) (k : Int) : (if r.contains (pr k "kept") = true then dropL r k else markM r [k] "waits") = markL (r.filter fun p => !decide (p = pr k "kept")) k "waits" := by
  by_cases c : r.contains (pr k "kept") = true
  · rw [if_pos c]
    have mem : pr k "kept" ∈ r := by simpa using c
    have e1 : (r.filter fun p => !decide (p = pr k "kept")) = dropL r k := by
      unfold dropL
      refine List.filter_congr (fun p hp => ?_)
      by_cases h : p.1 = k
      · have := nd_uniq nd hp mem h
        rw [decide_eq_true this, decide_eq_true h]
      · have : ¬ p = pr k "kept" := fun z => h (by rw [z])
        rw [decide_eq_false this, decide_eq_false h]
    rw [e1]
    unfold markL
    conv => lhs; rw [← List.map_id (dropL r k)]
    refine List.map_congr_left fun p hp => ?_; have := (List.mem_filter.mp hp).2
    unfold markP
    rw [if_neg (by simpa using this)]; rfl
  · rw [if_neg c]
    have e1 : (r.filter fun p => !decide (p = pr k "kept")) = r := by
      refine List.filter_eq_self.mpr fun p hp => ?_; have : ¬ p = pr k "kept" := fun z => c (by rw [← z]; simpa using hp)
      simp [this]
    rw [e1]
    unfold markM markL
    congr 1; funext p
    unfold markQ markP
    simp
theorem down_eq {v : Int} {ws : List Str} {e : Str} {r : List Pr} (nd : (keysOf r).Nodup) (key : Int) : pdownL v ws e r key = downL v ws e r key ∧ pdownD v ws e r key = downD v ws e r key := by
  unfold pdownL pdownD downL downD
  by_cases c1 : r.contains (pr key "kept") = true
  · rw [if_pos c1, if_pos c1, if_pos c1, if_pos c1]; exact ⟨rfl, rfl⟩
  rw [if_neg c1, if_neg c1, if_neg c1, if_neg c1]
  by_cases c2 : nL r < v
  · rw [if_pos c2, if_pos c2, if_pos c2, if_pos c2]; exact ⟨rfl, rfl⟩
  rw [if_neg c2, if_neg c2, if_neg c2, if_neg c2, vic_taken c2]
  cases takenL v ws e r key with
  | nil => exact ⟨rfl, rfl⟩
  | cons k T =>
    dsimp only [List.head?_cons]
    rw [cut_rest nd k]
    exact ⟨rfl, rfl⟩
theorem step_eq {v : Int} {ws : List Str} {e b : Str} (hb : b ∈ RET_) {f : Bool} {r : List Pr} (nd : (keysOf r).Nodup) (hv : nL r ≤ v) (wt : waitsB v b r) (ev : Ev) : pstepL v ws e b (f, r) ev = stepL v ws e b (f, r) ev ∧ pdeedsL v ws e b (f, r) ev = deedsL v ws e b (f, r) ev := by
  have back : ∀ gone, (prow v b (lessL r gone) = backR v b r gone ∧ pbk v b (lessL r gone) = backB v b r gone) := fun gone => by
    have h := fill_eq hb (lessL r gone).length (lessL r gone) [] (List.length_filter_le _ _) (nd_sub List.filter_sublist nd) (Int.le_trans (nL_sub List.filter_sublist) hv)
    unfold backR backB
    rw [h]
    exact ⟨rfl, by simp⟩
  cases ev with
  | press => exact ⟨rfl, rfl⟩
  | down k =>
    obtain ⟨h1, h2⟩ := down_eq (v := v) (ws := ws) (e := e) nd k
    exact ⟨by show (f, _) = (f, _); rw [h1], h2⟩
  | lift =>
    obtain ⟨h1, h2⟩ := back (keysOf (r.filter keptP))
    rw [unkept_less nd] at h1 h2
    refine ⟨?_, ?_⟩
    · show (false, prow v b (unkept r)) = (false, _); rw [h1]
    · show endsD _ ++ bkD (pbk v b (unkept r)) = endB _ _; rw [h2]
  | up k =>
    obtain ⟨h1, h2⟩ := back [k]
    rw [drop_less] at h1 h2
    show (f, pupL v b f r k) = (if r.contains (pr k "waits") = true then (f, r.filter fun p => !decide (p.1 = k)) else if f = true then (f, markL r k "kept") else (false, backR v b r [k])) ∧ pupD v b f r k = (if r.contains (pr k "waits") = true then [((("leave" : Str)), k)] else if f = true then [((("keep" : Str)), k)] else endB [k] (backB v b r [k]))
    unfold pupL pupD
    by_cases c1 : r.contains (pr k "waits") = true
    · rw [if_pos c1, if_pos c1, if_pos c1, if_pos c1]
      have mem : pr k "waits" ∈ r := by simpa using c1
      have hg : ¬ goesB v b (dropL r k) := by
        rintro ⟨g1, g2, g3⟩
        rcases wt with w | w | w
        · exact g1 w
        · have e1 : (dropL r k).filter loudP = r.filter loudP := by
            unfold dropL
            rw [List.filter_filter]
            refine List.filter_congr (fun p hp => ?_)
            by_cases h : p.1 = k
            · have := nd_uniq nd hp mem h
              rw [this]; rfl
            · simp [h]
          rw [e1] at g3
          exact absurd g3 (by show ¬ nL r < v; omega)
        · have : pr k "waits" ∈ r.filter waitP := List.mem_filter.mpr ⟨mem, rfl⟩
          rw [w] at this; cases this
      rw [prow_stop hg, pbk_stop hg]
      exact ⟨rfl, rfl⟩
    rw [if_neg c1, if_neg c1, if_neg c1, if_neg c1]
    cases f with
    | true =>
      rw [if_pos rfl, if_pos rfl, if_pos rfl, if_pos rfl]
      refine ⟨?_, rfl⟩
      show (true, markM r [k] "kept") = (true, markL r k "kept")
      have : markM r [k] "kept" = markL r k "kept" := by
        unfold markM markL; congr 1; funext p; unfold markQ markP; simp
      rw [this]
    | false =>
      rw [if_neg Bool.false_ne_true, if_neg Bool.false_ne_true, if_neg Bool.false_ne_true, if_neg Bool.false_ne_true, h1, h2]
      exact ⟨rfl, rfl⟩
end S
namespace S
open PyProof.Rows PySem.Spec PySem L2 DE
/-! ### states are shown -/
abbrev PS (f : Bool) (r : List Pr) : PyData := .tuple [.bool f, .tuple (r.map prP)]
end S
namespace S
open PyProof.Rows PySem.Spec PySem L2 DE
/-! ### events, and which of them can follow -/
@[simp] theorem isi_v (T : String) (f : Mo D) (g : Sg) : fIsi T f g = bdO (f g) fun d => if isExc d = true then stop else match kitB (tyD d) T with
  | some b => rt (.bl b)
  | none => stop := by unfold fIsi; rw [bd_v] <;> rfl
@[simp] theorem kb1 : kitB "tuple" "tuple" = some true := kb_tuple_tuple
@[simp] theorem isExc_t (xs : List D) : isExc (.tup xs) = false := rfl
@[simp] theorem isExc_l (xs : List D) : isExc (.lst xs) = false := rfl
@[simp] theorem isExc_i (i : Int) : isExc (.int i) = false := rfl
@[simp] theorem isExc_s (i : Str) : isExc (.str i) = false := rfl
@[simp] theorem isExc_b (i : Bool) : isExc (.bl i) = false := rfl
@[simp] theorem isExc_n : isExc .non = false := rfl
@[simp] theorem tyD_t (xs : List D) : tyD (.tup xs) = "tuple" := rfl
@[simp] theorem pEq_b (a b : Bool) (g : Sg) : pEq (.bl a) (.bl b) g = some (.ok (.bl (a == b)), g) := by cases a <;> cases b <;> kernel_rfl
def evKey : Ev → Prop
  | .press => True
  | .lift => True
  | .up k => 0 ≤ k ∧ k ≤ 87
  | .down k => 0 ≤ k ∧ k ≤ 87
def downK (r : List Pr) : List Int := keysOf (r.filter fun p => !decide (p.2 = "kept"))
def followB (f : Bool) (r : List Pr) : Ev → Bool
  | .press => !f
  | .lift => f
  | .up k => (downK r).contains k
  | .down k => !(downK r).contains k
structure Mach (v : Int) (ws : List Str) (e b : Str) : Prop where
  lo : 1 ≤ v
  hi : v ≤ 8
  cr : Crit ws e
  ret : RET_.contains b = true
theorem Mach.fault {v : Int} {ws : List Str} {e b : Str} (h : Mach v ws e b) (s : DS) : m_machine_fault [MD v (.tup (csOf ws e)) b] s = some (.ok .non, s) := by
  rw [mach s ⟨h.lo, h.hi⟩ (crit_good h.cr s) (.inl rfl) rfl, show inW (.str b) RET_ = true from h.ret]; rfl
theorem Mach.rb {v : Int} {ws : List Str} {e b : Str} (h : Mach v ws e b) : b ∈ RET_ := by simpa using h.ret
theorem Mach.fil {v : Int} {ws : List Str} {e b : Str} (h : Mach v ws e b) : ∀ x ∈ ws, x ∈ FIL := fun x hx => by simpa using h.cr.fil x hx
theorem Mach.len {v : Int} {ws : List Str} {e b : Str} (h : Mach v ws e b) : ws.length ≤ 1000 := by have := h.cr.len; omega
section
variable {v : Int} {ws : List Str} {e b : Str} {f : Bool} {r : List Pr} {ev : Ev}
theorem perf_good (M : Mach v ws e b) (V : Val v b f r) (hl : r.length ≤ 900) (ev : Ev) (s : DS) : m_perform [MD v (.tup (csOf ws e)) b, stD f r, evD ev] s = some (.ok (.tup [stD (stepL v ws e b (f, r) ev).1 (stepL v ws e b (f, r) ev).2, .tup (ddD (deedsL v ws e b (f, r) ev))]), s) := by
  have pf := perform_ok (e := e) M.rb (f := f) hl V.ok M.lo V.lo (by have := M.hi; omega) M.fil ev s
  obtain ⟨h1, h2⟩ := step_eq (ws := ws) (e := e) M.rb (f := f) V.nd V.lo V.wt ev
  rw [h1, h2] at pf
  exact pf
end
end S
namespace S
open PyProof.Rows PySem.Spec PySem L2 DE
/-! ### which keys are down behind a step -/
theorem downK_map {F : Pr → Pr} : ∀ {r : List Pr}, (∀ p ∈ r, (F p).1 = p.1 ∧ ((F p).2 = "kept" ↔ p.2 = "kept")) → downK (r.map F) = downK r
  | [], _ => rfl
  | p :: r, h => by
    have ih := downK_map (r := r) fun q hq => h q (List.mem_cons_of_mem _ hq)
    obtain ⟨h1, h2⟩ := h p List.mem_cons_self
    unfold downK keysOf at ih ⊢
    rw [List.map_cons]
    by_cases c : p.2 = "kept"
    · rw [List.filter_cons_of_neg (by simp [h2.mpr c]), List.filter_cons_of_neg (by simp [c])]; exact ih
    · have c' : ¬ (F p).2 = "kept" := fun z => c (h2.mp z)
      rw [List.filter_cons_of_pos (by simp [c']), List.filter_cons_of_pos (by simp [c]), List.map_cons, List.map_cons, h1, ih]
theorem downK_filter {P : Pr → Bool} {r : List Pr} (h : ∀ p ∈ r, p.2 ≠ "kept" → P p = true) : downK (r.filter P) = downK r := by
  unfold downK
  rw [List.filter_filter]
  congr 1
  refine List.filter_congr (fun p hp => ?_)
  by_cases c : p.2 = "kept"
  · simp [c]
  · rw [h p hp c]; simp
theorem downK_drop (r : List Pr) (k : Int) : downK (dropL r k) = (downK r).filter fun x => !decide (x = k) := by
  unfold downK dropL keysOf
  rw [List.filter_filter, List.filter_map, List.filter_filter]
  congr 1
  refine List.filter_congr (fun p hp => ?_)
  exact Bool.and_comm _ _
theorem downK_app (r q : List Pr) : downK (r ++ q) = downK r ++ downK q := by
  unfold downK
  rw [List.filter_append]
  exact List.map_append
theorem downK_mark {r : List Pr} {k : Int} {m : Str} (hm : m ≠ "kept") (h : ∀ p ∈ r, p.1 = k → p.2 ≠ "kept") : downK (markL r k m) = downK r := by
  refine downK_map fun p hp => ?_
  unfold markP
  by_cases c : p.1 = k
  · rw [if_pos c]; exact ⟨rfl, fun z => absurd z hm, fun z => absurd z (h p hp c)⟩
  · rw [if_neg c]; exact ⟨rfl, Iff.rfl⟩
theorem downK_markM {r : List Pr} {ks : List Int} {m : Str} (hm : m ≠ "kept") (h : ∀ p ∈ r, p.1 ∈ ks → p.2 ≠ "kept") : downK (markM r ks m) = downK r := by
  refine downK_map fun p hp => ?_
  unfold markQ
  by_cases c : ks.contains p.1 = true
  · rw [if_pos c]; exact ⟨rfl, fun z => absurd z hm, fun z => absurd z (h p hp (by simpa using c))⟩
  · rw [if_neg c]; exact ⟨rfl, Iff.rfl⟩
theorem pback_sub (b : Str) : ∀ (n : Nat) (w f : List Int), n ≤ w.length → b ∈ RET_ → b ≠ "none" → ∀ x ∈ pbackL b n w f, x ∈ w ∨ x ∈ f
  | 0, w, f, _, _, _, x, h => .inr h
  | n + 1, w, f, hn, hb, hb2, x, h => by
    unfold pbackL at h
    have hw : w ≠ [] := by rintro rfl; simp at hn
    obtain ⟨_, h2⟩ := back_head hb hb2 hw
    rcases pback_sub b n _ _ (by rw [List.length_erase_of_mem h2]; omega) hb hb2 x h with h | h
    · exact .inl (List.mem_of_mem_erase h)
    · rcases (List.mem_append.mp h) with h | h
      · exact .inr h
      · rw [List.mem_singleton.mp h]; exact .inl h2
theorem pbk_wait {v : Int} {b : Str} (hb : b ∈ RET_) {r : List Pr} {x : Int} (h : x ∈ pbk v b r) : x ∈ keysOf (r.filter waitP) := by
  unfold pbk at h
  split at h
  · cases h
  · rename_i hn
    rcases pback_sub b _ _ _ (by unfold manyB; rw [List.length_map]; exact Nat.min_le_right _ _) hb hn x h with h | h
    · exact h
    · cases h
theorem downK_prow {v : Int} {b : Str} (hb : b ∈ RET_) {r : List Pr} (nd : (keysOf r).Nodup) : downK (prow v b r) = downK r := by
  refine downK_markM (by decide) fun p hp hk => ?_
  obtain ⟨q, hq, e⟩ := mem_key (pbk_wait hb hk)
  obtain ⟨h1, h2⟩ := List.mem_filter.mp hq
  have := nd_uniq nd h1 hp e
  subst this
  intro z
  unfold waitP at h2
  rw [z] at h2
  exact absurd h2 (by decide)
def pedL (f : Bool) : Ev → Bool
  | .press => true
  | .lift => false
  | _ => f
theorem not_down {r : List Pr} (nd : (keysOf r).Nodup) {k : Int} (h : pr k "kept" ∈ r) : k ∉ downK r := fun z => by
  obtain ⟨q, hq, e⟩ := mem_key z
  obtain ⟨h1, h2⟩ := List.mem_filter.mp hq
  have := nd_uniq nd h1 h e
  rw [this] at h2
  exact absurd h2 (by simp)
theorem downK_cut {r : List Pr} (k : Int) : downK (markL (r.filter fun p => !decide (p = pr k "kept")) k "waits") = downK r := by
  rw [downK_mark (by decide) fun p hp hk z => ?_]
  · refine downK_filter fun p hp hk => ?_
    have : ¬ p = pr k "kept" := fun z => hk (by rw [z])
    simp [this]
  · have h2 := (List.mem_filter.mp hp).2
    have : p = pr k "kept" := Prod.ext hk z
    rw [this] at h2
    simp at h2
theorem held_eq {v : Int} {ws : List Str} {e b : Str} (hb : b ∈ RET_) {f : Bool} {r : List Pr} (nd : (keysOf r).Nodup) (hv : nL r ≤ v) (wt : waitsB v b r) (pd : f = false → ∀ p ∈ r, p.2 ≠ "kept") (ev : Ev) :
    downK (stepL v ws e b (f, r) ev).2 = heldL (downK r) ev ∧ (stepL v ws e b (f, r) ev).1 = pedL f ev := by
  rw [← (step_eq (ws := ws) (e := e) hb (f := f) nd hv wt ev).1]
  cases ev with
  | press => exact ⟨rfl, rfl⟩
  | lift =>
    refine ⟨?_, rfl⟩
    show downK (prow v b (unkept r)) = downK r
    rw [downK_prow hb (nd_sub List.filter_sublist nd)]
    exact downK_filter fun p hp hk => by simp [hk]
  | up k =>
    refine ⟨?_, rfl⟩
    show downK (pupL v b f r k) = (downK r).filter fun x => !decide (x = k)
    have h1 : downK (prow v b (dropL r k)) = (downK r).filter fun x => !decide (x = k) := by
      rw [downK_prow hb (nd_sub List.filter_sublist nd), downK_drop]
    unfold pupL
    split
    · exact h1
    split
    · unfold downK keysOf markM
      rw [List.filter_map, List.filter_map, List.map_map, List.filter_filter]
      have e1 : (r.filter ((fun p : Pr => !decide (p.2 = "kept")) ∘ markQ [k] "kept")) = r.filter fun p : Pr => (!decide (p.1 = k)) && !decide (p.2 = "kept") := by
        refine List.filter_congr (fun p hp => ?_)
        show (!decide ((markQ [k] "kept" p).2 = "kept")) = _
        unfold markQ
        by_cases c : p.1 = k
        · rw [if_pos (by simp [c])]; simp [c]
        · rw [if_neg (by simp [c])]; simp [c]
      rw [e1]
      have e2 : (r.filter fun p : Pr => ((fun x : Int => !decide (x = k)) ∘ fun x : Pr => x.1) p && !decide (p.2 = "kept")) = r.filter fun p : Pr => (!decide (p.1 = k)) && !decide (p.2 = "kept") := rfl
      rw [e2]
      refine List.map_congr_left fun p hp => ?_; show (markQ [k] "kept" p).1 = p.1
      unfold markQ
      split <;> rfl
    · exact h1
  | down k =>
    refine ⟨?_, rfl⟩
    show downK (pdownL v ws e r k) = downK r ++ [k]
    unfold pdownL
    split
    · rename_i c
      have mem : pr k "kept" ∈ r := by simpa using c
      rw [downK_app, downK_drop]
      have : (downK r).filter (fun x => !decide (x = k)) = downK r := List.filter_eq_self.mpr fun x hx => by
        have : ¬ x = k := fun z => not_down nd mem (z ▸ hx)
        simp [this]
      rw [this]; rfl
    split
    · rw [downK_app]; rfl
    · split
      · rw [downK_app]; rfl
      · rename_i j hj
        rw [downK_app, cut_rest nd j, downK_cut]; rfl
theorem held_down (r : List Pr) : Held r (downK r) := fun p hp hk => key_mem (List.mem_filter.mpr ⟨hp, by simp [hk]⟩)
theorem step_inv {v : Int} {ws : List Str} {e b : Str} {f : Bool} {r : List Pr} {ev : Ev} (M : Mach v ws e b) (V : Val v b f r) (h : evKey ev) (hf : followB f r ev = true) :
    Val v b (stepL v ws e b (f, r) ev).1 (stepL v ws e b (f, r) ev).2 ∧ downK (stepL v ws e b (f, r) ev).2 = heldL (downK r) ev ∧ (stepL v ws e b (f, r) ev).1 = pedL f ev ∧ (stepL v ws e b (f, r) ev).2.length ≤ r.length + 1 := by
  have eo : evOk (downK r) ev := by
    cases ev with
    | down k =>
      refine ⟨⟨h, trivial⟩, fun z => ?_⟩
      unfold followB at hf
      simp [z] at hf
    | _ => trivial
  obtain ⟨a, _, c⟩ := step_val (ws := ws) (e := e) M.rb M.lo V (held_down r) eo
  obtain ⟨d1, d2⟩ := held_eq (ws := ws) (e := e) M.rb V.nd V.lo V.wt V.pd ev
  exact ⟨a, d1, d2, c⟩
end S
namespace S
open PyProof.Rows PySem.Spec PySem L2 DE
/-! ### drawn plays -/
def folF (p : Bool) (hs : List Int) : Ev → Prop
  | .press => p = false
  | .lift => p = true
  | .up k => k ∈ hs
  | .down k => k ∉ hs
def pedS (p : Bool) (es : List Ev) : Bool := es.foldl pedL p
def heldS (hs : List Int) (es : List Ev) : List Int := es.foldl heldL hs
end S
namespace S
open PyProof.Rows PySem.Spec PySem L2 DE
/-! ### states, deeds and sounds are shown -/
@[simp] theorem repr_v (f : Mo D) (g : Sg) : fRepr f g = bdO (f g) aRepr := by unfold fRepr; rw [bd_v]
theorem repr_of {d : D} {p : PyData} (h : pyd d = some p) (s : showB p = true) : aRepr d = rt (.str p.shown) := by
  unfold aRepr; rw [h]; dsimp only; rw [if_pos s]
end S
namespace S
open PyProof.Rows PySem.Spec PySem L2 DE
/-! ### states by their form: their steps told -/
end S
namespace S
open PyProof.Rows PySem.Spec PySem L2 DE
/-! ### loops over displayed lists; drawn machines; keys in a row -/
def lpO (r : Option (Out × Sg)) (t : Mt) (b : Ms) (ds : List D) : Option (Out × Sg) := match r with
  | some (.nx, g2) => loop t b ds g2
  | some (.ct, g2) => loop t b ds g2
  | some (.brk, g2) => some (.nx, g2)
  | o => o
def lqO (r : Option Sg) (t : Mt) (b : Ms) (ds : List D) : Option (Out × Sg) := match r with
  | none => none
  | some g1 => lpO (b g1) t b ds
@[simp] theorem lqO_s (g : Sg) (t : Mt) (b : Ms) (ds : List D) : lqO (some g) t b ds = lpO (b g) t b ds := rfl
@[simp] theorem lpO_nx (g : Sg) (t : Mt) (b : Ms) (ds : List D) : lpO (some (.nx, g)) t b ds = loop t b ds g := rfl
@[simp] theorem lpO_ret (d : D) (g : Sg) (t : Mt) (b : Ms) (ds : List D) : lpO (some (.ret d, g)) t b ds = some (.ret d, g) := rfl
theorem intsD2 : intsD 2 = [.int 0, .int 1] := rfl
where
  map_inj {α β : Type} {f : α → β} {l : List α} (hf : ∀ x ∈ l, ∀ y ∈ l, f x = f y → x = y) (nd : l.Nodup) : (l.map f).Nodup := by
    induction l with
    | nil => exact List.nodup_nil
    | cons x l ih =>
      obtain ⟨h1, h2⟩ := List.nodup_cons.mp nd
      rw [List.map_cons, List.nodup_cons]; refine ⟨fun z => ?_, ih (fun a ha b hb => hf a (List.mem_cons_of_mem _ ha) b (List.mem_cons_of_mem _ hb)) h2⟩
      obtain ⟨y, hy, e⟩ := List.mem_map.mp z
      have := hf y (List.mem_cons_of_mem _ hy) x List.mem_cons_self e
      exact h1 (this ▸ hy)
end S
namespace S
open PyProof.Rows PySem.Spec PySem L2 DE
/-! ### try, handlers, what is told, by simp -/
def tryO (r : Option (Out × Sg)) (l : List HSem) : Option (Out × Sg) := match r with
  | some (.exc x, g1) => hdl x l g1
  | o => o
@[simp] theorem try_v (fb : Ms) (l : List HSem) (g : Sg) : fTry fb l g = tryO (fb g) l := rfl
@[simp] theorem tryO_nx (g : Sg) (l : List HSem) : tryO (some (.nx, g)) l = some (.nx, g) := rfl
@[simp] theorem tryO_ret (d : D) (g : Sg) (l : List HSem) : tryO (some (.ret d, g)) l = some (.ret d, g) := rfl
@[simp] theorem tryO_none (l : List HSem) : tryO none l = none := rfl
def hdO (b : Option Bool) (x : Exn) (h : HSem) (r : List HSem) (g : Sg) : Option (Out × Sg) := match b with
  | none => none
  | some false => hdl x r g
  | some true => hsuite x h g
@[simp] theorem tryO_exc (x : Exn) (g : Sg) (l : List HSem) : tryO (some (.exc x, g)) l = hdl x l g := rfl
@[simp] theorem hdl_nil (x : Exn) (g : Sg) : hdl x [] g = some (.exc x, g) := rfl
@[simp] theorem hdl_cons (x : Exn) (h : HSem) (r : List HSem) (g : Sg) : hdl x (h :: r) g = hdO (h.t.lookup x.c) x h r g := by
  unfold hdO; rw [hdl]
  cases h.t.lookup x.c with
  | none => rfl
  | some b => cases b <;> rfl
@[simp] theorem hdO_n (x : Exn) (h : HSem) (r : List HSem) (g : Sg) : hdO none x h r g = none := rfl
@[simp] theorem hdO_f (x : Exn) (h : HSem) (r : List HSem) (g : Sg) : hdO (some false) x h r g = hdl x r g := rfl
@[simp] theorem hdO_t (x : Exn) (h : HSem) (r : List HSem) (g : Sg) : hdO (some true) x h r g = hsuite x h g := rfl
def hsN (r : Option (Out × Sg)) : Option (Out × Sg) := match r with
  | some (.exc _, _) => none
  | o => o
def hsS (i : Nat) (r : Option (Out × Sg)) : Option (Out × Sg) := match r with
  | some (.exc _, _) => none
  | some (o, g2) => some (o, ⟨g2.r.set i .no, g2.s⟩)
  | none => none
@[simp] theorem hsuite_n (x : Exn) (t : List (Str × Bool)) (f : Ms) (g : Sg) : hsuite x ⟨t, none, f⟩ g = hsN (f g) := rfl
@[simp] theorem hsuite_s (x : Exn) (t : List (Str × Bool)) (i : Nat) (f : Ms) (g : Sg) : hsuite x ⟨t, some i, f⟩ g = hsS i (f ⟨g.r.set i (.dat (.exc x.c x.v)), g.s⟩) := rfl
@[simp] theorem hsN_nx (g : Sg) : hsN (some (.nx, g)) = some (.nx, g) := rfl
@[simp] theorem hsN_ret (d : D) (g : Sg) : hsN (some (.ret d, g)) = some (.ret d, g) := rfl
@[simp] theorem hsN_e (x : Exn) (g : Sg) : hsN (some (.exc x, g)) = none := rfl
@[simp] theorem hsN_n : hsN none = none := rfl
@[simp] theorem hsS_nx (i : Nat) (g : Sg) : hsS i (some (.nx, g)) = some (.nx, ⟨g.r.set i .no, g.s⟩) := rfl
@[simp] theorem hsS_ret (i : Nat) (d : D) (g : Sg) : hsS i (some (.ret d, g)) = some (.ret d, ⟨g.r.set i .no, g.s⟩) := rfl
@[simp] theorem hsS_e (i : Nat) (x : Exn) (g : Sg) : hsS i (some (.exc x, g)) = none := rfl
@[simp] theorem hsS_n (i : Nat) : hsS i none = none := rfl
@[simp] theorem isE_v (tb : List (Str × Bool)) (f : Mo D) (g : Sg) : fIsE tb f g = bdO (f g) (aIsE tb) := by unfold fIsE; rw [bd_v]
@[simp] theorem aIsE_v (tb : List (Str × Bool)) (c : Str) (v : D) : aIsE tb (.exc c v) = ofO ((tb.lookup c).map D.bl) := by unfold aIsE; dsimp only; cases tb.lookup c <;> rfl
@[simp] theorem fld_v (cs : List Str) (f : Mo D) (g : Sg) : fFld cs f g = bdO (f g) (aFld cs) := by unfold fFld; rw [bd_v]
@[simp] theorem aFld_v (cs : List Str) (c : Str) (v : D) : aFld cs (.exc c v) = if cs.contains c = true then rt v else stop := rfl
@[simp] theorem raise_v (c : Str) (f : Mo D) (g : Sg) : fRaise c f g = sbO (f g) fun d g => some (.exc ⟨c, d⟩, g) := by unfold fRaise; rw [sb_v]
@[simp] theorem isNon_e (c : Str) (v : D) : isNon (.exc c v) = false := rfl
@[simp] theorem ofO_n {α : Type} : ofO (none : Option α) = stop := rfl
@[simp] theorem bdO_n {α β : Type} (k : α → Mo β) : bdO none k = none := rfl
@[simp] theorem sbO_n {α : Type} (k : α → Ms) : sbO none k = none := rfl
@[simp] theorem seqO_n (k : Ms) : seqO none k = none := rfl
@[simp] theorem ifO_n (t u : Ms) : ifO none t u = none := rfl
/-- what the act comes to -/
def actO (z : Sl) (r : List Sl) (x : Option (Except Exn D × DS)) : Res D := match x with
  | some (y, s') => some (y, ⟨z :: r, s'⟩)
  | none => none
@[simp] theorem actO_n (z : Sl) (r : List Sl) : actO z r none = none := rfl
@[simp] theorem actO_s (z : Sl) (r : List Sl) (y : Except Exn D) (s' : DS) : actO z r (some (y, s')) = some (y, ⟨z :: r, s'⟩) := rfl
def outS (r : Option (Out × Sg)) : Option (Out × DS) := r.map fun p => (p.1, p.2.s)
@[simp] theorem outS_n : outS none = none := rfl
@[simp] theorem outS_s (o : Out) (g : Sg) : outS (some (o, g)) = some (o, g.s) := rfl
/-- a def that calls what it got: it gives what it gives, wherever that stands -/
theorem gives_of {fb : Mo D → Ms} {N : Nat} (hN : 1 ≤ N) (h : ∀ (x : Option (Except Exn D × DS)), ∃ res : Option (Out × DS), ∀ (z : Sl) (act : Mo D) (s : DS), (∀ r, act ⟨z :: r, s⟩ = actO z r x) → outS (fb act ⟨z :: List.replicate (N - 1) .no, s⟩) = res) : GivesTh fb N (takeM fb N) := by
  intro f c q G1 th s r s' hm
  obtain ⟨res, hr⟩ := h (th s)
  have e1 := hr .no (fActU th) s (fun r => by unfold fActU actO; cases th s <;> rfl)
  have e2 := hr (.fn f c q G1) (fAct 0 f c q G1 th) s (fun r => by unfold fAct actO; refine (if_pos rfl).trans ?_; cases th s <;> rfl)
  have rep : (Sl.no :: List.replicate (N - 1) Sl.no) = List.replicate N .no := by
    obtain ⟨n, rfl⟩ : ∃ n, N = n + 1 := ⟨N - 1, by omega⟩
    rfl
  rw [rep] at e1
  rw [← e1] at e2
  unfold takeM at hm
  generalize fb (fActU th) ⟨List.replicate N .no, s⟩ = A at hm e2
  generalize hB : fb (fAct 0 f c q G1 th) ⟨.fn f c q G1 :: List.replicate (N - 1) .no, s⟩ = B at e2
  cases A with
  | none => cases hm
  | some p =>
    obtain ⟨o, g⟩ := p
    cases B with
    | none => cases e2
    | some p2 =>
      obtain ⟨o2, g2⟩ := p2
      simp only [outS, Option.map_some, Option.some.injEq, Prod.mk.injEq] at e2
      obtain ⟨rfl, es⟩ := e2
      cases o2 with
      | ret d => cases hm; exact ⟨g2, es, .inl rfl⟩
      | nx => cases hm; exact ⟨g2, es, .inr ⟨rfl, rfl⟩⟩
      | exc x => cases hm; exact ⟨g2, es, .inl rfl⟩
      | brk => cases hm
      | ct => cases hm
@[simp] theorem fActU_v (th : Th) (g : Sg) : fActU th g = (match th g.s with
    | some (x, s') => some (x, ⟨g.r, s'⟩)
    | none => none) := rfl
/-! ### the victim -/
section
variable {v : Int} {ws : List Str} {e b : Str} {f : Bool} {r : List Pr}
end
end S
namespace S
open PyProof.Rows PySem.Spec PySem L2 DE
/-! ### plain data: shown, compared with itself -/
def Pl : Nat → D → Prop
  | _, .non => True
  | _, .bl _ => True
  | _, .int i => i.natAbs < 10 ^ 12
  | _, .str s => PyData.canLay0 (.str s) = true
  | n + 1, .lst xs => ∀ x ∈ xs, Pl n x
  | n + 1, .tup xs => ∀ x ∈ xs, Pl n x
  | _, _ => False
def bk : Nat → D → Nat
  | _, .str s => s.cps.size
  | n + 1, .lst xs => (xs.map fun x => bk n x + 1).sum
  | n + 1, .tup xs => (xs.map fun x => bk n x + 1).sum
  | _, _ => 0
structure PlOf (n : Nat) (b : Nat) (p : PyData) : Prop where
  lay : p.canLay0 = true
  lv : p.leavesShort 13 = true
  sw : p.showable = true
  dp : p.depth ≤ n
  nd : p.hasDict = false
  bk : p.bulk = b
structure PlOfA (n : Nat) (b : Nat) (ps : List PyData) : Prop where
  lay : PyData.canLayAll0 ps = true
  lv : PyData.leavesShortAll 13 ps = true
  sw : PyData.showableAll ps = true
  dp : PyData.depthAll ps ≤ n
  nd : PyData.hasDictAll ps = false
  bk : PyData.bulkAll ps = b
theorem log_small {i : Int} (h : i.natAbs < 10 ^ 12) : i.natAbs.log2 < 1920 := by
  by_cases z : i.natAbs = 0
  · rw [z]; decide
  · exact Nat.lt_of_lt_of_le ((Nat.log2_lt z).mpr (show i.natAbs < 2 ^ 40 from Nat.lt_of_lt_of_le h (by decide))) (by decide)
theorem plA {n : Nat} (ih : ∀ d, Pl n d → ∃ p, pyd d = some p ∧ PlOf n (bk n d) p) : ∀ xs : List D, (∀ x ∈ xs, Pl n x) → ∃ ps, pydA xs = some ps ∧ PlOfA n (xs.map fun x => bk n x + 1).sum ps
  | [], _ => ⟨[], rfl, rfl, rfl, rfl, Nat.zero_le _, rfl, rfl⟩
  | x :: xs, h => by
    obtain ⟨p, hp, q⟩ := ih x (h x List.mem_cons_self)
    obtain ⟨ps, hps, qs⟩ := plA ih xs fun y hy => h y (List.mem_cons_of_mem _ hy)
    refine ⟨p :: ps, by unfold pydA; rw [hp, hps], ?_, ?_, ?_, ?_, ?_, ?_⟩
    · simp only [PyData.canLayAll0, q.lay, qs.lay]; rfl
    · simp only [PyData.leavesShortAll, q.lv, qs.lv]; rfl
    · simp only [PyData.showableAll, q.sw, qs.sw]; rfl
    · simp only [PyData.depthAll]; have := q.dp; have := qs.dp; omega
    · simp only [PyData.hasDictAll, q.nd, qs.nd]; rfl
    · simp only [PyData.bulkAll, q.bk, qs.bk, List.map_cons, List.sum_cons]
theorem pl_pyd : ∀ (n : Nat) (d : D), Pl n d → ∃ p, pyd d = some p ∧ PlOf n (bk n d) p
  | n, .non, _ => ⟨.none, by unfold pyd; rfl, by cases n <;> exact ⟨rfl, rfl, rfl, Nat.zero_le _, rfl, rfl⟩⟩
  | n, .bl b, _ => ⟨.bool b, by unfold pyd; rfl, by cases n <;> exact ⟨rfl, rfl, rfl, Nat.zero_le _, rfl, rfl⟩⟩
  | n, .int i, h => by
    have h : i.natAbs < 10 ^ 12 := by cases n <;> exact h
    refine ⟨.int i, by unfold pyd; rfl, ?_⟩
    have hb : bk n (.int i) = 0 := by cases n <;> rfl
    rw [hb]
    exact ⟨rfl, by simp only [PyData.leavesShort, decide_eq_true_eq]; exact PyData.shown_int_le h, by simp only [PyData.showable, decide_eq_true_eq]; exact log_small h, Nat.zero_le _, rfl, rfl⟩
  | n, .str s, h => by
    have h : PyData.canLay0 (.str s) = true := by cases n <;> exact h
    have hb : bk n (.str s) = s.cps.size := by cases n <;> rfl
    refine ⟨.str s, by unfold pyd; rfl, ?_⟩
    rw [hb]
    exact ⟨h, PyData.leavesShort_of_canLay0 13 _ h rfl, rfl, Nat.zero_le _, rfl, rfl⟩
  | n + 1, .lst xs, h => by
    obtain ⟨ps, hps, q⟩ := plA (pl_pyd n) xs h
    refine ⟨.list ps, by unfold pyd; rw [hps]; rfl, ?_⟩
    exact ⟨by simp only [PyData.canLay0, q.lay], by simp only [PyData.leavesShort, q.lv], by simp only [PyData.showable, q.sw], by simp only [PyData.depth]; have := q.dp; omega, by simp only [PyData.hasDict, q.nd], by simp only [PyData.bulk, q.bk]; rfl⟩
  | n + 1, .tup xs, h => by
    obtain ⟨ps, hps, q⟩ := plA (pl_pyd n) xs h
    refine ⟨.tuple ps, by unfold pyd; rw [hps]; rfl, ?_⟩
    exact ⟨by simp only [PyData.canLay0, q.lay], by simp only [PyData.leavesShort, q.lv], by simp only [PyData.showable, q.sw], by simp only [PyData.depth]; have := q.dp; omega, by simp only [PyData.hasDict, q.nd], by simp only [PyData.bulk, q.bk]; rfl⟩
  | 0, .lst _, h => h.elim
  | 0, .tup _, h => h.elim
  | n, .dic _, h => by cases n <;> exact h.elim
  | n, .m, h => by cases n <;> exact h.elim
  | n, .exc _ _, h => by cases n <;> exact h.elim
  | n, .scr _, h => by cases n <;> exact h.elim
  | n, .fn _, h => by cases n <;> exact h.elim
  | n, .dkn _, h => by cases n <;> exact h.elim
  | n, .fzt _, h => by cases n <;> exact h.elim
theorem repr_pl {n : Nat} {d : D} (h : Pl n d) (hn : n ≤ 50) (hb : bk n d ≤ 1000000) : ∃ w, aRepr d = rt (.str w) := by
  obtain ⟨p, hp, q⟩ := pl_pyd n d h
  refine ⟨p.shown, repr_of hp ?_⟩
  have sz := PyData.shown_le_bulk 13 (by decide) _ q.lv
  rw [q.bk] at sz
  unfold showB
  simp only [Bool.and_eq_true, decide_eq_true_eq, Bool.not_eq_true']
  exact ⟨q.sw, Nat.le_trans q.dp hn, by omega, q.nd⟩
@[simp] theorem pl_int (n : Nat) (i : Int) : Pl n (.int i) ↔ i.natAbs < 10 ^ 12 := by cases n <;> rfl
@[simp] theorem pl_bl (n : Nat) (i : Bool) : Pl n (.bl i) := by cases n <;> trivial
@[simp] theorem pl_non (n : Nat) : Pl n .non := by cases n <;> trivial
@[simp] theorem pl_str (n : Nat) (s : Str) : Pl n (.str s) ↔ PyData.canLay0 (.str s) = true := by cases n <;> rfl
@[simp] theorem pl_lst (n : Nat) (xs : List D) : Pl (n + 1) (.lst xs) ↔ ∀ x ∈ xs, Pl n x := .rfl
@[simp] theorem pl_tup (n : Nat) (xs : List D) : Pl (n + 1) (.tup xs) ↔ ∀ x ∈ xs, Pl n x := .rfl
@[simp] theorem bk_int (n : Nat) (i : Int) : bk n (.int i) = 0 := by cases n <;> rfl
@[simp] theorem bk_bl (n : Nat) (i : Bool) : bk n (.bl i) = 0 := by cases n <;> rfl
@[simp] theorem bk_non (n : Nat) : bk n .non = 0 := by cases n <;> rfl
@[simp] theorem bk_str (n : Nat) (s : Str) : bk n (.str s) = s.cps.size := by cases n <;> rfl
@[simp] theorem bk_lst (n : Nat) (xs : List D) : bk (n + 1) (.lst xs) = (xs.map fun x => bk n x + 1).sum := rfl
@[simp] theorem bk_tup (n : Nat) (xs : List D) : bk (n + 1) (.tup xs) = (xs.map fun x => bk n x + 1).sum := rfl
theorem sum_le {α : Type} (f : α → Nat) (c : Nat) : ∀ l : List α, (∀ x ∈ l, f x ≤ c) → (l.map f).sum ≤ c * l.length
  | [], _ => by simp
  | x :: l, h => by
    have := sum_le f c l fun y hy => h y (List.mem_cons_of_mem _ hy)
    have := h x List.mem_cons_self
    simp only [List.map_cons, List.sum_cons, List.length_cons, Nat.mul_succ]; omega
end S
namespace S
open PyProof.Rows PySem.Spec PySem L2 DE
/-! ### what is a play, by the program -/
def enD : Nat → List D → List D
  | _, [] => []
  | i, x :: xs => .tup [.int (i : Int), x] :: enD (i + 1) xs
theorem enD_get : ∀ (i : Nat) (xs : List D) (j : Nat), (enD i xs)[j]? = (xs[j]?).map fun x => D.tup [.int ((i + j : Nat) : Int), x]
  | _, [], j => by simp [enD]
  | i, x :: xs, 0 => by simp [enD]
  | i, x :: xs, j + 1 => by
    simp only [enD, List.getElem?_cons_succ]
    rw [enD_get (i + 1) xs j, show i + 1 + j = i + (j + 1) by omega]
theorem pairsD_en (xs : List D) : pairsD xs = enD 0 xs := by
  refine List.ext_getElem? fun j => ?_; rw [enD_get]
  unfold pairsD
  rw [List.getElem?_map]
  by_cases h : j < xs.length
  · rw [List.getElem?_range h, List.getElem?_eq_getElem h]
    simp [List.getD_eq_getElem?_getD, h]
  · rw [List.getElem?_eq_none (by simpa using h), List.getElem?_eq_none (by omega)]; rfl
@[simp] theorem forEn_v (f : Mo (List D)) (t : Mt) (b : Ms) (g : Sg) : fForEn f t b g = sbO (f g) fun ds => match ds with
  | [.tup xs] => loop t b (enD 0 xs)
  | [.lst xs] => loop t b (enD 0 xs)
  | _ => sStop := by
  have e : pairsD = enD 0 := funext pairsD_en
  unfold fForEn; rw [sb_v, e] <;> rfl
/-! ### the machine with a voice for each key -/
section
variable {t : D} {s : DS}
end
end S
namespace S
open PyProof.Rows PySem.Spec PySem L2 DE
/-! ### the first event that cannot follow, by the law -/
@[simp] theorem repL_v (f h : Mo D) (g : Sg) : fRepL f h g = bdO (f g) fun d => bd h fun e => pRepL d e := by unfold fRepL; rw [bd_v]
@[simp] theorem pRepL_v (xs : List D) (k : Int) : pRepL (.lst xs) (.int k) = if 0 ≤ k ∧ k ≤ 1000 ∧ xs.length ≤ 100 then rt (List.replicate k.toNat xs).flatten else stop := rfl
@[simp] theorem int_v (f : Mo D) (g : Sg) : fInt f g = bdO (f g) fun d => match d with
  | .int i => rt (.int i)
  | .bl b => rt (.int (if b then 1 else 0))
  | _ => stop := by unfold fInt; rw [bd_v] <;> rfl
end S
namespace S
open PyProof.Rows PySem.Spec PySem L2 DE
/-! ### plays by a machine: states, traces -/
abbrev stP (p : Bool × List Pr) : D := stD p.1 p.2
def runs (v : Int) (ws : List Str) (e b : Str) : Bool × List Pr → List Ev → List (Bool × List Pr)
  | _, [] => []
  | st, ev :: evs => stepL v ws e b st ev :: runs v ws e b (stepL v ws e b st ev) evs
/-- a machine that is played as the law says -/
structure Plays (M : D) (v : Int) (ws : List Str) (e b : Str) : Prop where
  hb : b ∈ RET_
  hv : 1 ≤ v
  pf : ∀ {f : Bool} {r : List Pr} (ev : Ev) (s : DS), Val v b f r → r.length ≤ 900 → m_perform [M, stD f r, evD ev] s = some (.ok (.tup [stP (stepL v ws e b (f, r) ev), .tup (ddD (deedsL v ws e b (f, r) ev))]), s)
theorem Mach.plays {v : Int} {ws : List Str} {e b : Str} (M : Mach v ws e b) : Plays (MD v (.tup (csOf ws e)) b) v ws e b := ⟨M.rb, M.lo, fun ev s V hl => perf_good M V hl ev s⟩
end S
namespace S
open PyProof.Rows PySem.Spec PySem L2 DE
/-! ### the last state, the cuts of a play -/
end S
namespace S
open PyProof.Rows PySem.Spec PySem L2 DE
/-! ### what could be a trace -/
@[simp] theorem all_v (f : Mo D) (g : Sg) : fAll f g = bdO (f g) fun d => match d with
  | .lst xs => match blsOf xs with
    | some bs => rt (.bl (bs.all id))
    | none => stop
  | _ => stop := by unfold fAll; rw [bd_v] <;> rfl
@[simp] theorem compP_v (vs : List Nat) (mk : List D → Option (List D)) (fi : Mo (List D)) (t : Mt) (c : Mo Bool) (e : Mo D) (g : Sg) : fCompP vs mk fi t c e g = bdO (fi g) fun ds => match mk ds with
  | some ps => compF vs t c e ps
  | none => stop := by unfold fCompP; rw [bd_v] <;> rfl
@[simp] theorem enP_t (xs : List D) : enP [.tup xs] = some (enD 0 xs) := (congrArg some (pairsD_en xs) : _)
@[simp] theorem enP_l (xs : List D) : enP [.lst xs] = some (enD 0 xs) := (congrArg some (pairsD_en xs) : _)
@[simp] theorem zpP_t (xs ys : List D) : zpP [.tup xs, .tup ys] = some (zipD xs ys) := rfl
@[simp] theorem zpP_l (xs ys : List D) : zpP [.lst xs, .lst ys] = some (zipD xs ys) := rfl
@[simp] theorem blsOf_m {α : Type} (P : α → Bool) : ∀ l : List α, blsOf (l.map fun x => D.bl (P x)) = some (l.map P)
  | [] => rfl
  | x :: l => by
    show blsOf (D.bl (P x) :: l.map fun x => D.bl (P x)) = _
    unfold blsOf
    rw [blsOf_m P l]; rfl
section
variable {p t : D} {s : DS}
end
/-! ### the sounds of a state -/
def sndI (r : List Pr) : List Int := sortI (keysOf (r.filter loudP))
end S
namespace S
open PyProof.Rows PySem.Spec PySem L2 DE
/-! ### repr of data with {} in it; calls whose list is one's own -/
mutual
theorem pyd_E : ∀ (d : D) {p : PyData}, pyd d = some p → pydE d = some p
  | .non, _, h => by simpa [pyd, pydE] using h
  | .bl b, _, h => by simpa [pyd, pydE] using h
  | .int i, _, h => by simpa [pyd, pydE] using h
  | .str s, _, h => by simpa [pyd, pydE] using h
  | .lst xs, _, h => by
    simp only [pyd, Option.map_eq_some_iff] at h
    obtain ⟨ps, hp, rfl⟩ := h
    simp only [pydE, Option.map_eq_some_iff]
    exact ⟨ps, pyd_EA xs hp, rfl⟩
  | .tup xs, _, h => by
    simp only [pyd, Option.map_eq_some_iff] at h
    obtain ⟨ps, hp, rfl⟩ := h
    simp only [pydE, Option.map_eq_some_iff]
    exact ⟨ps, pyd_EA xs hp, rfl⟩
  | .dic _, _, h => by simp [pyd] at h
  | .m, _, h => by simp [pyd] at h
  | .exc _ _, _, h => by simp [pyd] at h
  | .scr _, _, h => by simp [pyd] at h
  | .fn _, _, h => by simp [pyd] at h
  | .dkn _, _, h => by simp [pyd] at h
  | .fzt _, _, h => by simp [pyd] at h
theorem pyd_EA : ∀ (d : List D) {p : List PyData}, pydA d = some p → pydEA d = some p
  | [], _, h => by simpa [pydA, pydEA] using h
  | d :: ds, _, h => by
    unfold pydA at h
    split at h
    · rename_i p ps hp hps
      cases h
      unfold pydEA
      rw [pyd_E d hp, pyd_EA ds hps]
    · cases h
end
theorem reprE_of {d : D} {w : Str} (h : aRepr d = rt (.str w)) : aReprE d = rt (.str w) := by
  have no : ¬ (stop : Mo D) = rt (.str w) := fun z => by
    have := congrFun z ⟨[], ⟨[], 0, 0⟩⟩
    cases this
  unfold aRepr at h
  split at h
  · rename_i p hp
    split at h
    · rename_i hs
      unfold aReprE
      rw [pyd_E d hp]
      dsimp only
      rw [if_pos ?_]
      · exact h
      · unfold showB at hs
        unfold showE
        simp only [Bool.and_eq_true] at hs ⊢
        exact ⟨hs.1, hs.2.1, hs.2.2.1⟩
    · exact absurd h no
  · exact absurd h no
@[simp] theorem reprE_v (f : Mo D) (g : Sg) : fReprE f g = bdO (f g) aReprE := by unfold fReprE; rw [bd_v]
def pkOO (x : Option Sl) (g : Sg) : Res (List D) := match x with
  | some (.own xs) => some (.ok xs, g)
  | _ => none
@[simp] theorem peekOO_v (i : Nat) (r : List Sl) (s : DS) : fPeekO i ⟨r, s⟩ = pkOO r[i]? ⟨r, s⟩ := rfl
@[simp] theorem pkOO_o (xs : List D) (g : Sg) : pkOO (some (.own xs)) g = some (.ok xs, g) := rfl
@[simp] theorem reprO_v (i : Nat) (g : Sg) : fReprO i g = bdO (fPeekO i g) fun ds => aReprE (.lst ds) := by unfold fReprO; rw [bd_v]
def seqFO (x : Option (Out × Sg)) (k : Ms) : Option (Out × Sg) := match x with
  | some (.nx, g1) => k g1
  | some (.exc x, g1) => some (.exc x, g1)
  | _ => none
@[simp] theorem seqF_v (f k : Ms) (g : Sg) : fSeqF f k g = seqFO (f g) k := rfl
@[simp] theorem seqFO_nx (g : Sg) (k : Ms) : seqFO (some (.nx, g)) k = k g := rfl
@[simp] theorem seqFO_exc (x : Exn) (g : Sg) (k : Ms) : seqFO (some (.exc x, g)) k = some (.exc x, g) := rfl
@[simp] theorem retL_v (f : Mo (List D)) (g : Sg) : fRetL f g = sbO (f g) fun ds => sOut (.ret (.lst ds)) := by unfold fRetL; rw [sb_v]
def lfO (x : Option (Except Exn D × DS)) (r : List Sl) : Res (List D) := match x with
  | some (.ok (.lst xs), s') => some (.ok xs, ⟨r, s'⟩)
  | some (.error x, s') => some (.error x, ⟨r, s'⟩)
  | _ => none
@[simp] theorem liftL_v (gm : Fd) (ds : List D) (r : List Sl) (s : DS) : liftL gm ds ⟨r, s⟩ = lfO (gm ds s) r := by
  unfold liftL lfO
  rfl
@[simp] theorem lfO_k (xs : List D) (s : DS) (r : List Sl) : lfO (some (.ok (.lst xs), s)) r = some (.ok xs, ⟨r, s⟩) := rfl
@[simp] theorem lfO_e (x : Exn) (s : DS) (r : List Sl) : lfO (some (.error x, s)) r = some (.error x, ⟨r, s⟩) := rfl
@[simp] theorem callL_v (n : Nat) (gm : Fd) (fa : Mo (List D)) (g : Sg) : fCallL n gm fa g = bdO (fa g) fun ds => if ds.length = n then liftL gm ds else stop := by unfold fCallL; rw [bd_v]
@[simp] theorem callKwL_v (n q m : Nat) (gm : Fd) (fa fk : Mo (List D)) (g : Sg) : fCallKwL n q m gm fa fk g = bdO (fa g) fun ds => bd fk fun es => if ds.length = n ∧ es.length = q ∧ ds.length + es.length = m then liftL gm (ds ++ es) else stop := by unfold fCallKwL; rw [bd_v]; rfl
@[simp] theorem callDL_v (n : Nat) (dfl : List D) (m : Nat) (gm : Fd) (fa : Mo (List D)) (g : Sg) : fCallDL n dfl m gm fa g = bdO (fa g) fun ds => if ds.length = n ∧ ds.length + dfl.length = m then liftL gm (ds ++ dfl) else stop := by unfold fCallDL; rw [bd_v]
@[simp] theorem callSw_v (m : Nat) (gm : Fd) (fk : Mo (List D)) (g : Sg) : fCallSw m gm fk g = bdO (fk g) (aSwap m gm) := by unfold fCallSw; rw [bd_v]
@[simp] theorem lift_v (gm : Fd) (ds : List D) (r : List Sl) (s : DS) : lift gm ds ⟨r, s⟩ = (gm ds s).map fun p => (p.1, ⟨r, p.2⟩) := by
  unfold lift
  cases gm ds s with
  | none => rfl
  | some p => rfl
@[simp] theorem aSwap_v (gm : Fd) (a b : D) : aSwap 2 gm [a, b] = lift gm [b, a] := rfl
/-! ### the events of a board -/
def evB (n : Nat) (p f : Bool) (hs : List Int) : List Ev :=
  (((List.range n).filter fun (i : Nat) => !hs.contains (i : Int)).map fun (i : Nat) => Ev.down (i : Int)) ++ ((if p then [if f then .lift else .press] else []) ++ ((List.range n).filter fun (i : Nat) => hs.contains (i : Int)).map fun (i : Nat) => Ev.up (i : Int))
end S
namespace S
open PyProof.Rows PySem.Spec PySem L2 DE
/-! ### what a step hands to the next machine -/
abbrev waitK (r : List Pr) : List Int := keysOf (r.filter waitP)
section
variable {v : Int} {ws : List Str} {e b : Str} {r : List Pr}
theorem downK_all (V : Val v b false r) : downK r = keysOf r := by
  unfold downK
  congr 1
  exact List.filter_eq_self.mpr fun p hp => by simpa using V.pd rfl p hp
end
end S
namespace S
open PyProof.Rows PySem.Spec PySem L2 DE
/-! ### chains -/
structure Mc where
  v : Int
  ws : List Str
  e : Str
  b : Str
abbrev Mc.d (m : Mc) : D := MD m.v (.tup (csOf m.ws m.e)) m.b
abbrev Mc.ok (m : Mc) : Prop := Mach m.v m.ws m.e m.b
@[simp] theorem isNon_ev (ev : Ev) : isNon (evD ev) = false := by cases ev <;> rfl
/-- linked states, their rows of at most n pairs -/
def Lk (n : Nat) : List Mc → List (List Pr) → Prop
  | m :: ms, r :: rs => m.ok ∧ Val m.v m.b false r ∧ r.length ≤ n ∧ (∀ r2 ∈ rs.head?, ∀ x, x ∈ downK r2 ↔ x ∈ waitK r) ∧ Lk n ms rs
  | [], [] => True
  | _, _ => False
theorem Lk.len {n : Nat} : ∀ {ms : List Mc} {rs : List (List Pr)}, Lk n ms rs → ms.length = rs.length
  | [], [], _ => rfl
  | _ :: _, _ :: _, h => congrArg (· + 1) (Lk.len h.2.2.2.2)
theorem Lk.mono {n k : Nat} (hk : n ≤ k) : ∀ {ms : List Mc} {rs : List (List Pr)}, Lk n ms rs → Lk k ms rs
  | [], [], _ => trivial
  | _ :: _, _ :: _, h => ⟨h.1, h.2.1, Nat.le_trans h.2.2.1 hk, h.2.2.2.1, Lk.mono hk h.2.2.2.2⟩
end S
namespace S
open PyProof.Rows PySem.Spec PySem L2 DE
/-! ### boards, what follows on them -/
def bdOk (i : Int) (p : Bool) : Bool := decide (1 ≤ i) && decide (i ≤ if p then 3 else 4)
/-- what a machine does with a board's event -/
theorem ev_mem {n : Nat} {p f : Bool} {hs : List Int} {ev : Ev} (hn : n ≤ 88) (h : ev ∈ evB n p f hs) : evKey ev ∧ folF f hs ev := by
  unfold evB at h; rcases List.mem_append.mp h with h | h
  · obtain ⟨i, hi, rfl⟩ := List.mem_map.mp h
    have := List.mem_filter.mp hi
    have h1 : i < n := List.mem_range.mp this.1
    refine ⟨(show (0 : Int) ≤ (i : Int) ∧ (i : Int) ≤ 87 by omega), ?_⟩
    show (i : Int) ∉ hs
    have := this.2
    simpa using this
  · rcases List.mem_append.mp h with h | h
    · cases p with
      | false => cases h
      | true =>
        rw [if_pos rfl, List.mem_singleton] at h
        cases f <;> subst h <;> exact ⟨trivial, rfl⟩
    · obtain ⟨i, hi, rfl⟩ := List.mem_map.mp h
      have := List.mem_filter.mp hi
      have h1 : i < n := List.mem_range.mp this.1
      refine ⟨(show (0 : Int) ≤ (i : Int) ∧ (i : Int) ≤ 87 by omega), ?_⟩
      show (i : Int) ∈ hs
      have := this.2
      simpa using this
theorem fol_foll {f : Bool} {r : List Pr} {ev : Ev} (h : folF f (downK r) ev) : followB f r ev = true := by
  cases ev with
  | press => simpa [folF, followB] using h
  | lift => simpa [folF, followB] using h
  | up k => simpa [folF, followB] using h
  | down k => simpa [folF, followB] using h
/-- one machine's state behind an event -/
abbrev stM (m : Mc) (f : Bool) (r : List Pr) (ev : Ev) : Bool × List Pr := stepL m.v m.ws m.e m.b (f, r) ev
/-! ### two machines on one board -/
abbrev Bn := Bool × List Pr × List Pr
/-- both machines -/
structure InB (a b : Mc) (n : Nat) (p : Bool) (x : Bn) : Prop where
  va : Val a.v a.b x.1 x.2.1
  vb : Val b.v b.b x.1 x.2.2
  dk : downK x.2.1 = downK x.2.2
  ka : ∀ k ∈ keysOf x.2.1, k < (n : Int)
  kb : ∀ k ∈ keysOf x.2.2, k < (n : Int)
  ft : p = false → x.1 = false
abbrev scB (a b : Mc) (n : Nat) (p : Bool) (x : Bn) : List (Ev × Bn) := (evB n p x.1 (downK x.2.1)).map fun ev => (ev, (pedL x.1 ev, (stM a x.1 x.2.1 ev).2, (stM b x.1 x.2.2 ev).2))
theorem row_short {r : List Pr} {n : Nat} (nd : (keysOf r).Nodup) (h0 : ∀ k ∈ keysOf r, 0 ≤ k) (h : ∀ k ∈ keysOf r, k < (n : Int)) : r.length ≤ n := by
  have : (keysOf r).length ≤ ((List.range n).map fun (i : Nat) => (i : Int)).length := List.Nodup.length_le_of_subset nd fun k hk => by
    have h1 := h0 k hk; have h2 := h k hk
    exact List.mem_map.mpr ⟨k.toNat, List.mem_range.mpr (by omega), by omega⟩
  simpa using this
end S
namespace S
open PyProof.Rows PySem.Spec PySem L2 DE
@[simp] theorem any_v (f : Mo D) (g : Sg) : fAny f g = bdO (f g) fun d => match d with
  | .lst xs => match blsOf xs with
    | some bs => rt (.bl (bs.any id))
    | none => stop
  | _ => stop := by unfold fAny; rw [bd_v] <;> rfl
theorem Val.keys {v : Int} {b : Str} {f : Bool} {r : List Pr} (V : Val v b f r) : ∀ k ∈ keysOf r, 0 ≤ k ∧ k ≤ 87 := fun k hk => by
  obtain ⟨q, hq, rfl⟩ := List.mem_map.mp hk
  exact (V.key q hq).1
section
variable {a b : Mc} {n : Nat} {p : Bool} {x : Bn}
theorem InB.la (I : InB a b n p x) : x.2.1.length ≤ n := row_short I.va.nd (fun k hk => (I.va.keys k hk).1) I.ka
theorem InB.lb (I : InB a b n p x) : x.2.2.length ≤ n := row_short I.vb.nd (fun k hk => (I.vb.keys k hk).1) I.kb
end
end S
namespace S
open PyProof.Rows PySem.Spec PySem L2 DE
theorem fill_keys {v : Int} {b : Str} : ∀ (n : Nat) (r : List Pr) (f : List Int), keysOf (fillL v b n r f).1 = keysOf r
  | 0, _, _ => rfl
  | n + 1, r, f => by
    show keysOf (if goesB v b r then fillL v b n (markL r (backL b r) "sounds") (f ++ [backL b r]) else fillL v b n r f).1 = _
    split
    · rw [fill_keys n, keys_mark]
    · exact fill_keys n r f
theorem step_keys (m : Mc) (f : Bool) (r : List Pr) (ev : Ev) : ∀ k ∈ keysOf (stM m f r ev).2, k ∈ keysOf r ∨ ev = .down k := by
  have sub : ∀ {q : List Pr}, q.Sublist r → ∀ k ∈ keysOf q, k ∈ keysOf r := fun h k hk => (h.map (·.1)).mem hk
  have bk : ∀ gone : List Int, ∀ k ∈ keysOf (backR m.v m.b r gone), k ∈ keysOf r := fun gone k hk => by
    unfold backR at hk
    rw [fill_keys] at hk
    exact sub List.filter_sublist k hk
  cases ev with
  | press => exact fun k hk => .inl hk
  | lift => exact fun k hk => .inl (bk _ k hk)
  | up c =>
    intro k hk
    refine .inl ?_
    have hk : k ∈ keysOf (stepL m.v m.ws m.e m.b (f, r) (.up c)).2 := hk
    unfold stepL at hk
    dsimp only at hk
    split at hk
    · exact sub List.filter_sublist k hk
    · split at hk
      · rw [keys_mark] at hk; exact hk
      · exact bk _ k hk
  | down c =>
    intro k hk
    have hk : k ∈ keysOf (downL m.v m.ws m.e r c) := hk
    have one : ∀ {q : List Pr} {w : Str}, (∀ k ∈ keysOf q, k ∈ keysOf r) → k ∈ keysOf (q ++ [pr c w]) → k ∈ keysOf r ∨ Ev.down c = .down k := fun hq h => by
      rw [show keysOf (_ ++ [_]) = keysOf _ ++ keysOf [_] from List.map_append] at h; rcases List.mem_append.mp h with h | h
      · exact .inl (hq k h)
      · have : k = c := by simpa using h
        rw [this]; exact .inr rfl
    unfold downL at hk
    split at hk
    · exact one (sub List.filter_sublist) hk
    · split at hk
      · exact one (fun k h => h) hk
      · split at hk
        · exact one (fun k h => h) hk
        · refine one (fun k h => ?_) hk
          rw [keys_mark] at h
          exact sub List.filter_sublist k h
section
variable {a b : Mc} {n : Nat} {p : Bool} {x : Bn}
theorem ev_down {hs : List Int} {f : Bool} {k : Int} (h : Ev.down k ∈ evB n p f hs) : k < (n : Int) := by
  unfold evB at h; rcases List.mem_append.mp h with h | h
  · obtain ⟨i, hi, e⟩ := List.mem_map.mp h
    cases e
    have := List.mem_range.mp (List.mem_filter.mp hi).1
    omega
  · rcases List.mem_append.mp h with h | h
    · cases p with
      | false => cases h
      | true =>
        rw [if_pos rfl, List.mem_singleton] at h
        cases f <;> cases h
    · obtain ⟨i, hi, e⟩ := List.mem_map.mp h
      cases e
theorem ev_ped {hs : List Int} {ev : Ev} (h : ev ∈ evB n false false hs) : pedL false ev = false := by
  unfold evB at h; rcases List.mem_append.mp h with h | h
  · obtain ⟨i, hi, rfl⟩ := List.mem_map.mp h; rfl
  · rcases List.mem_append.mp h with h | h
    · cases h
    · obtain ⟨i, hi, rfl⟩ := List.mem_map.mp h; rfl
theorem InB.next (A : a.ok) (B : b.ok) (hn : n ≤ 88) (I : InB a b n p x) : ∀ q ∈ scB a b n p x, InB a b n p q.2 := fun q hq => by
  obtain ⟨ev, hev, rfl⟩ := List.mem_map.mp hq
  obtain ⟨k1, k2⟩ := ev_mem hn hev
  have fa := fol_foll k2
  have fb := fol_foll (r := x.2.2) (f := x.1) (ev := ev) (by rw [← I.dk]; exact k2)
  obtain ⟨a1, a2, a3, _⟩ := step_inv (ws := a.ws) (e := a.e) A I.va k1 fa
  obtain ⟨b1, b2, b3, _⟩ := step_inv (ws := b.ws) (e := b.e) B I.vb k1 fb
  refine ⟨?_, ?_, ?_, fun k hk => ?_, fun k hk => ?_, fun hp => ?_⟩
  · rw [a3] at a1; exact a1
  · rw [b3] at b1; exact b1
  · show downK (stepL a.v a.ws a.e a.b (x.1, x.2.1) ev).2 = downK (stepL b.v b.ws b.e b.b (x.1, x.2.2) ev).2
    rw [a2, b2, I.dk]
  · rcases step_keys a x.1 x.2.1 ev k hk with h | rfl
    · exact I.ka k h
    · exact ev_down hev
  · rcases step_keys b x.1 x.2.2 ev k hk with h | rfl
    · exact I.kb k h
    · exact ev_down hev
  · have h0 := I.ft hp
    rw [hp, h0] at hev
    show pedL x.1 ev = false
    rw [h0]; exact ev_ped hev
theorem InB.start (A : a.ok) (B : b.ok) : InB a b n p (false, [], []) := ⟨val_nil A.lo _ _, val_nil B.lo _ _, rfl, fun k hk => (by cases hk), fun k hk => (by cases hk), fun _ => rfl⟩
end
/-! ### nodes as keys -/
end S
namespace S
open PyProof.Rows PySem.Spec PySem L2 DE
/-! ### how many rows there are -/
def genR {α : Type} (ms : List α) : Nat → List Int → List (List (Int × α))
  | 0, _ => [[]]
  | k + 1, ks => [] :: ks.flatMap fun c => ms.flatMap fun m => (genR ms k (ks.erase c)).map fun z => (c, m) :: z
def cntR (w : Nat) : Nat → Nat → Nat
  | 0, _ => 1
  | k + 1, l => 1 + l * (w * cntR w k (l - 1))
theorem flat_len {α β : Type} (f : α → List β) (c : Nat) : ∀ l : List α, (∀ x ∈ l, (f x).length = c) → (l.flatMap f).length = l.length * c
  | [], _ => by simp
  | x :: l, h => by
    rw [List.flatMap_cons, List.length_append, flat_len f c l fun y hy => h y (List.mem_cons_of_mem _ hy), h x List.mem_cons_self, List.length_cons, Nat.succ_mul]
    omega
theorem genR_len {α : Type} (ms : List α) : ∀ (k : Nat) (ks : List Int), (genR ms k ks).length = cntR ms.length k ks.length
  | 0, _ => rfl
  | k + 1, ks => by
    show (ks.flatMap _).length + 1 = 1 + _
    rw [flat_len _ (ms.length * cntR ms.length k (ks.length - 1)) ks fun c hc => by
      rw [flat_len _ (cntR ms.length k (ks.length - 1)) ms fun m _ => by
        rw [List.length_map, genR_len ms k, List.length_erase_of_mem hc]]]
    omega
theorem genR_mem {α : Type} (ms : List α) : ∀ (z : List (Int × α)) (k : Nat) (ks : List Int), z.length ≤ k → (z.map (·.1)).Nodup → (∀ q ∈ z, q.1 ∈ ks) → (∀ q ∈ z, q.2 ∈ ms) → z ∈ genR ms k ks
  | [], 0, ks, _, _, _, _ => List.mem_singleton.mpr rfl
  | [], k + 1, ks, _, _, _, _ => List.mem_cons_self
  | q :: z, 0, ks, h, _, _, _ => by simp at h
  | q :: z, k + 1, ks, h, nd, hk, hm => by
    rw [List.map_cons, List.nodup_cons] at nd; refine List.mem_cons_of_mem _ ?_
    refine List.mem_flatMap.mpr ⟨q.1, hk q List.mem_cons_self, List.mem_flatMap.mpr ⟨q.2, hm q List.mem_cons_self, List.mem_map.mpr ⟨z, ?_, rfl⟩⟩⟩
    refine genR_mem ms z k _ (by simpa using h) nd.2 (fun w hw => ?_) fun w hw => hm w (List.mem_cons_of_mem _ hw)
    refine (List.mem_erase_of_ne fun e => ?_).mpr (hk w (List.mem_cons_of_mem _ hw))
    exact nd.1 (List.mem_map.mpr ⟨w, hw, e⟩)
abbrev ksN (n : Nat) : List Int := (List.range n).map fun (i : Nat) => (i : Int)
/-- pairs of marks without a pedal -/
abbrev MM4 : List (Str × Str) := [("sounds", "sounds"), ("sounds", "waits"), ("waits", "sounds"), ("waits", "waits")]
def ndF (n : Nat) : List Bn := (genR MM4 n (ksN n)).map fun z => (false, z.map fun q => (q.1, q.2.1), z.map fun q => (q.1, q.2.2))
def ndT (n : Nat) : List Bn := (genR MKS n (ksN n)).flatMap fun z => (genR MKS n (ksN n)).map fun z' => (true, z, z')
theorem ksN_mem {n : Nat} {k : Int} : k ∈ ksN n ↔ 0 ≤ k ∧ k < (n : Int) := by
  constructor
  · intro h
    obtain ⟨i, hi, rfl⟩ := List.mem_map.mp h; have := List.mem_range.mp hi
    omega
  · intro ⟨h1, h2⟩
    exact List.mem_map.mpr ⟨k.toNat, List.mem_range.mpr (by omega), by omega⟩
theorem zip_rows : ∀ {r q : List Pr}, keysOf r = keysOf q → ∃ z : List (Int × Str × Str), z.map (fun w => (w.1, w.2.1)) = r ∧ z.map (fun w => (w.1, w.2.2)) = q
  | [], [], _ => ⟨[], rfl, rfl⟩
  | [], _ :: _, h => by cases h
  | _ :: _, [], h => by cases h
  | x :: r, y :: q, h => by
    rw [show keysOf (x :: r) = x.1 :: keysOf r from rfl, show keysOf (y :: q) = y.1 :: keysOf q from rfl] at h
    injection h with h1 h2
    obtain ⟨z, e1, e2⟩ := zip_rows h2
    refine ⟨(x.1, x.2, y.2) :: z, ?_, ?_⟩
    · rw [List.map_cons, e1]
    · rw [List.map_cons, e2, h1]
section
variable {a b : Mc} {n : Nat} {p : Bool} {x : Bn}
theorem mem_ndF (I : InB a b n p x) (hf : x.1 = false) : x ∈ ndF n := by
  obtain ⟨f, r, q⟩ := x
  dsimp only at hf
  subst hf
  have va := I.va; have vb := I.vb; have dk := I.dk; have ka := I.ka
  dsimp only at va vb dk ka
  have e : keysOf r = keysOf q := by
    rw [← downK_all va, ← downK_all vb]; exact dk
  obtain ⟨z, rfl, rfl⟩ := zip_rows e
  have kz : z.map (·.1) = keysOf (z.map fun w => ((w.1, w.2.1) : Pr)) := by simp [keysOf]
  refine List.mem_map.mpr ⟨z, genR_mem MM4 z n _ ?_ ?_ (fun w hw => ?_) (fun w hw => ?_), rfl⟩
  · have := row_short va.nd (fun k hk => (va.keys k hk).1) ka
    simpa using this
  · rw [kz]; exact va.nd
  · have hk : w.1 ∈ keysOf (z.map fun w => ((w.1, w.2.1) : Pr)) := by rw [← kz]; exact List.mem_map.mpr ⟨w, hw, rfl⟩
    exact ksN_mem.mpr ⟨(va.keys _ hk).1, ka _ hk⟩
  · have m1 : ((w.1, w.2.1) : Pr) ∈ z.map (fun w => ((w.1, w.2.1) : Pr)) := List.mem_map.mpr ⟨w, hw, rfl⟩
    have m2 : ((w.1, w.2.2) : Pr) ∈ z.map (fun w => ((w.1, w.2.2) : Pr)) := List.mem_map.mpr ⟨w, hw, rfl⟩
    have o1 := va.ok _ m1; have o2 := vb.ok _ m2
    have n1 := va.pd rfl _ m1; have n2 := vb.pd rfl _ m2
    obtain ⟨k, m, m'⟩ := w
    dsimp only at o1 o2 n1 n2
    unfold MKS at o1 o2
    simp only [List.mem_cons, List.not_mem_nil, or_false] at o1 o2
    rcases o1 with rfl | rfl | rfl
    · rcases o2 with rfl | rfl | rfl
      · exact List.mem_cons_self
      · exact absurd rfl n2
      · exact List.mem_cons_of_mem _ List.mem_cons_self
    · exact absurd rfl n1
    · rcases o2 with rfl | rfl | rfl
      · exact List.mem_cons_of_mem _ (List.mem_cons_of_mem _ List.mem_cons_self)
      · exact absurd rfl n2
      · exact List.mem_cons_of_mem _ (List.mem_cons_of_mem _ (List.mem_cons_of_mem _ List.mem_cons_self))
theorem mem_ndT (I : InB a b n p x) (hf : x.1 = true) : x ∈ ndT n := by
  have la := I.la; have lb := I.lb
  have va := I.va; have vb := I.vb; have ka := I.ka; have kb := I.kb
  obtain ⟨f, r, q⟩ := x
  dsimp only at hf la lb va vb ka kb
  subst hf
  have one : ∀ {r : List Pr}, r.length ≤ n → (keysOf r).Nodup → (∀ k ∈ keysOf r, 0 ≤ k ∧ k ≤ 87) → (∀ k ∈ keysOf r, k < (n : Int)) → okR r → r ∈ genR MKS n (ksN n) := fun hl nd h0 h1 ok =>
    genR_mem MKS _ n _ hl nd (fun w hw => by
      exact ksN_mem.mpr ⟨(h0 _ (key_mem hw)).1, h1 _ (key_mem hw)⟩) ok
  exact List.mem_flatMap.mpr ⟨r, one la va.nd va.keys ka va.ok, List.mem_map.mpr ⟨q, one lb vb.nd vb.keys kb vb.ok, rfl⟩⟩
theorem ndF_len (n : Nat) : (ndF n).length = cntR 4 n n := by
  unfold ndF
  rw [List.length_map, genR_len]; simp
theorem ndT_len (n : Nat) : (ndT n).length = cntR 3 n n * cntR 3 n n := by
  unfold ndT
  rw [flat_len _ (cntR 3 n n) _ fun z _ => by rw [List.length_map, genR_len]; simp [MKS]]
  rw [genR_len]; simp [MKS]
theorem few (hb : bdOk (n : Int) p = true) (l : List Bn) (nd : l.Nodup) (h : ∀ x ∈ l, InB a b n p x) : l.length ≤ 60000 := by
  have hb1 : 1 ≤ n ∧ n ≤ (if p = true then 3 else 4) := by
    unfold bdOk at hb
    rw [Bool.and_eq_true, decide_eq_true_eq, decide_eq_true_eq] at hb
    cases p <;> simp at hb ⊢ <;> omega
  cases p with
  | false =>
    have : l.length ≤ (ndF n).length := List.Nodup.length_le_of_subset nd fun x hx => mem_ndF (h x hx) ((h x hx).ft rfl)
    rw [ndF_len] at this
    have h4 : n ≤ 4 := by simpa using hb1.2
    have : cntR 4 n n ≤ 60000 := by
      have h5 : n = 0 ∨ n = 1 ∨ n = 2 ∨ n = 3 ∨ n = 4 := by omega
      rcases h5 with rfl | rfl | rfl | rfl | rfl <;> decide
    omega
  | true =>
    have : l.length ≤ (ndF n ++ ndT n).length := List.Nodup.length_le_of_subset nd fun x hx => by
      cases hf : x.1 with
      | false => exact List.mem_append_left _ (mem_ndF (h x hx) hf)
      | true => exact List.mem_append_right _ (mem_ndT (h x hx) hf)
    rw [List.length_append, ndF_len, ndT_len] at this
    have h4 : n ≤ 3 := by simpa using hb1.2
    have : cntR 4 n n + cntR 3 n n * cntR 3 n n ≤ 60000 := by
      have h5 : n = 0 ∨ n = 1 ∨ n = 2 ∨ n = 3 := by omega
      rcases h5 with rfl | rfl | rfl | rfl <;> decide
    omega
end
end S
namespace DE
open PyProof.Rows PySem.Spec PySem L2
/-! ### a search from level to level, that tells how far each node is -/
section
variable {N E : Type} [DecidableEq N]
def bAdd (t : Nat) : List (E × N) → List (N × Nat) × List N → List (N × Nat) × List N
  | [], p => p
  | (_, m) :: r, p => if m ∈ p.1.map (·.1) then bAdd t r p else bAdd t r (p.1 ++ [(m, t)], p.2 ++ [m])
def bLvl (sl : N → List (E × N)) (t : Nat) : List N → List (N × Nat) × List N → List (N × Nat) × List N
  | [], p => p
  | a :: fr, p => bLvl sl t fr (bAdd t (sl a) p)
variable {sl : N → List (E × N)} {wd : N → Bool} {I : N → Prop} {n0 : N} {B : Nat}
structure Bw (sl : N → List (E × N)) (I : N → Prop) (n0 : N) (T : Nat) (ws : List (N × Nat)) : Prop where
  nd : (ws.map (·.1)).Nodup
  ok : ∀ a ∈ ws, I a.1
  pth : ∀ a ∈ ws, ∃ es, es.length = a.2 ∧ RchK sl n0 es a.1
  low : ∀ a ∈ ws, a.2 ≤ T
  cmp : ∀ es n, RchK sl n0 es n → es.length ≤ T → ∃ k, (n, k) ∈ ws ∧ k ≤ es.length
theorem nd_eq {ws : List (N × Nat)} (h : (ws.map (·.1)).Nodup) {n : N} {j k : Nat} (h1 : (n, j) ∈ ws) (h2 : (n, k) ∈ ws) : j = k := by
  induction ws with
  | nil => cases h1
  | cons a ws ih =>
    rw [List.map_cons, List.nodup_cons] at h; rcases List.mem_cons.mp h1 with e1 | h1
    · rcases List.mem_cons.mp h2 with e2 | h2
      · rw [← e1] at e2; exact (congrArg Prod.snd e2).symm
      · exact absurd (List.mem_map.mpr ⟨(n, k), h2, by rw [← e1]⟩) h.1
    · rcases List.mem_cons.mp h2 with e2 | h2
      · exact absurd (List.mem_map.mpr ⟨(n, j), h1, by rw [← e2]⟩) h.1
      · exact ih h.2 h1 h2
/-- each entry tells the least number of events -/
theorem Bw.least {T : Nat} {ws : List (N × Nat)} (b : Bw sl I n0 T ws) {n : N} {k : Nat} (h : (n, k) ∈ ws) {es : List E} (r : RchK sl n0 es n) : k ≤ es.length := by
  by_cases c : es.length ≤ T
  · obtain ⟨j, h1, h2⟩ := b.cmp es n r c
    rw [nd_eq b.nd h h1]; exact h2
  · have := b.low _ h
    dsimp only at this
    omega
theorem snoc_inv {es : List E} {n : N} (h : RchK sl n0 es n) : (es = [] ∧ n = n0) ∨ ∃ es' e q, es = es' ++ [e] ∧ RchK sl n0 es' q ∧ (e, n) ∈ sl q := by
  cases h with
  | nil => exact .inl ⟨rfl, rfl⟩
  | snoc h1 h2 => exact .inr ⟨_, _, _, rfl, h1, h2⟩
/-- what a level has found so far: ws0 stood before it -/
structure Bm (sl : N → List (E × N)) (I : N → Prop) (n0 : N) (t : Nat) (ws0 : List (N × Nat)) (p : List (N × Nat) × List N) : Prop where
  eq : p.1 = ws0 ++ p.2.map fun m => (m, t)
  nd : (p.1.map (·.1)).Nodup
  new : ∀ m ∈ p.2, I m ∧ ∃ es, es.length = t ∧ RchK sl n0 es m
theorem Bm.mem {t : Nat} {ws0 : List (N × Nat)} {p : List (N × Nat) × List N} (b : Bm sl I n0 t ws0 p) {a : N × Nat} (h : a ∈ ws0) : a ∈ p.1 := by rw [b.eq]; exact List.mem_append_left _ h
theorem bAdd_ok {t : Nat} {ws0 : List (N × Nat)} {q : N} {es : List E} (hq : RchK sl n0 es q) (ht : es.length + 1 = t) : ∀ (r : List (E × N)) (p : List (N × Nat) × List N), (∀ x ∈ r, x ∈ sl q ∧ I x.2) → Bm sl I n0 t ws0 p →
    Bm sl I n0 t ws0 (bAdd t r p) ∧ (∀ a ∈ p.1, a ∈ (bAdd t r p).1) ∧ ∀ x ∈ r, x.2 ∈ (bAdd t r p).1.map (·.1)
  | [], p, _, b => ⟨b, fun a h => h, fun x h => by cases h⟩
  | (e, m) :: r, p, hr, b => by
    have hm := hr (e, m) List.mem_cons_self
    have hr' : ∀ x ∈ r, x ∈ sl q ∧ I x.2 := fun x hx => hr x (List.mem_cons_of_mem _ hx)
    show Bm sl I n0 t ws0 (if m ∈ p.1.map (·.1) then bAdd t r p else bAdd t r (p.1 ++ [(m, t)], p.2 ++ [m])) ∧ (∀ a ∈ p.1, a ∈ (if m ∈ p.1.map (·.1) then bAdd t r p else bAdd t r (p.1 ++ [(m, t)], p.2 ++ [m])).1) ∧ _
    have e0 : bAdd t ((e, m) :: r) p = if m ∈ p.1.map (·.1) then bAdd t r p else bAdd t r (p.1 ++ [(m, t)], p.2 ++ [m]) := rfl
    by_cases c : m ∈ p.1.map (·.1)
    · rw [if_pos c] at e0 ⊢
      obtain ⟨b', k1, k2⟩ := bAdd_ok hq ht r p hr' b
      refine ⟨b', k1, fun x hx => ?_⟩
      rw [e0]; rcases List.mem_cons.mp hx with rfl | hx
      · obtain ⟨a, ha, e1⟩ := List.mem_map.mp c
        exact List.mem_map.mpr ⟨a, k1 a ha, e1⟩
      · exact k2 x hx
    · rw [if_neg c] at e0 ⊢
      have b1 : Bm sl I n0 t ws0 (p.1 ++ [(m, t)], p.2 ++ [m]) := by
        refine ⟨?_, ?_, fun z hz => ?_⟩
        · show p.1 ++ [(m, t)] = _
          rw [List.map_append, ← List.append_assoc, ← b.eq]; rfl
        · show ((p.1 ++ [(m, t)]).map (·.1)).Nodup
          rw [List.map_append]
          refine List.nodup_append.mpr ⟨b.nd, by simp, fun x hx y hy => ?_⟩
          simp at hy
          rw [hy]; rintro rfl; exact c hx
        · rcases List.mem_append.mp hz with hz | hz
          · exact b.new z hz
          · rw [List.mem_singleton.mp hz]
            exact ⟨hm.2, es ++ [e], by rw [List.length_append]; exact ht, .snoc hq hm.1⟩
      obtain ⟨b', k1, k2⟩ := bAdd_ok hq ht r _ hr' b1
      refine ⟨b', fun a ha => k1 a (List.mem_append_left _ ha), fun x hx => ?_⟩
      rw [e0]; rcases List.mem_cons.mp hx with rfl | hx
      · exact List.mem_map.mpr ⟨(m, t), k1 _ (List.mem_append_right _ List.mem_cons_self), rfl⟩
      · exact k2 x hx
theorem bLvl_ok {T : Nat} {ws0 : List (N × Nat)} (hI : ∀ q, I q → ∀ x ∈ sl q, I x.2) : ∀ (fr : List N) (p : List (N × Nat) × List N), (∀ q ∈ fr, I q ∧ ∃ es, es.length = T ∧ RchK sl n0 es q) → Bm sl I n0 (T + 1) ws0 p →
    Bm sl I n0 (T + 1) ws0 (bLvl sl (T + 1) fr p) ∧ (∀ a ∈ p.1, a ∈ (bLvl sl (T + 1) fr p).1) ∧ ∀ q ∈ fr, ∀ x ∈ sl q, x.2 ∈ (bLvl sl (T + 1) fr p).1.map (·.1)
  | [], p, _, b => ⟨b, fun a h => h, fun q h => by cases h⟩
  | q :: fr, p, hf, b => by
    obtain ⟨iq, es, hl, hq⟩ := hf q List.mem_cons_self
    obtain ⟨b1, k1, k2⟩ := bAdd_ok (ws0 := ws0) hq (by rw [hl]) (sl q) p (fun x hx => ⟨hx, hI q iq x hx⟩) b
    obtain ⟨b2, j1, j2⟩ := bLvl_ok hI fr _ (fun z hz => hf z (List.mem_cons_of_mem _ hz)) b1
    refine ⟨b2, fun a ha => j1 a (k1 a ha), fun z hz x hx => ?_⟩; rcases List.mem_cons.mp hz with rfl | hz
    · obtain ⟨a, ha, e⟩ := List.mem_map.mp (k2 x hx)
      exact List.mem_map.mpr ⟨a, j1 a ha, e⟩
    · exact j2 z hz x hx
/-- one level further -/
theorem Bw.next {T : Nat} {ws : List (N × Nat)} (hI : ∀ q, I q → ∀ x ∈ sl q, I x.2) (b : Bw sl I n0 T ws) {fr : List N} (hf : ∀ n, n ∈ fr ↔ (n, T) ∈ ws) :
    Bw sl I n0 (T + 1) (bLvl sl (T + 1) fr (ws, [])).1 ∧ (∀ n, n ∈ (bLvl sl (T + 1) fr (ws, [])).2 ↔ (n, T + 1) ∈ (bLvl sl (T + 1) fr (ws, [])).1) ∧ (bLvl sl (T + 1) fr (ws, [])).1.length = ws.length + (bLvl sl (T + 1) fr (ws, [])).2.length := by
  have b0 : Bm sl I n0 (T + 1) ws (ws, []) := ⟨by simp, b.nd, fun m hm => by cases hm⟩
  obtain ⟨b1, k1, k2⟩ := bLvl_ok hI fr (ws, []) (fun q hq => by
    have := (hf q).mp hq
    obtain ⟨es, h1, h2⟩ := b.pth _ this
    exact ⟨b.ok _ this, es, h1, h2⟩) b0
  generalize bLvl sl (T + 1) fr (ws, []) = p at *
  have cs : ∀ a ∈ p.1, a ∈ ws ∨ (a.1 ∈ p.2 ∧ a.2 = T + 1) := fun a ha => by
    rw [b1.eq] at ha; rcases List.mem_append.mp ha with ha | ha
    · exact .inl ha
    · obtain ⟨m, hm, rfl⟩ := List.mem_map.mp ha
      exact .inr ⟨hm, rfl⟩
  refine ⟨⟨b1.nd, fun a ha => ?_, fun a ha => ?_, fun a ha => ?_, fun es n r hl => ?_⟩, fun n => ⟨fun hn => ?_, fun hn => ?_⟩, ?_⟩
  · rcases cs a ha with h | ⟨h, _⟩
    · exact b.ok a h
    · exact (b1.new _ h).1
  · rcases cs a ha with h | ⟨h, e⟩
    · exact b.pth a h
    · rw [e]; exact (b1.new _ h).2
  · rcases cs a ha with h | ⟨h, e⟩
    · exact Nat.le_succ_of_le (b.low a h)
    · omega
  · by_cases c : es.length ≤ T
    · obtain ⟨k, h1, h2⟩ := b.cmp es n r c
      exact ⟨k, k1 _ h1, h2⟩
    · have hl' : es.length = T + 1 := by omega
      rcases snoc_inv r with ⟨rfl, _⟩ | ⟨es', e, q, rfl, r', hm⟩
      · simp at hl'
      · rw [List.length_append, List.length_singleton] at hl'
        obtain ⟨k, h1, h2⟩ := b.cmp es' q r' (by omega)
        by_cases ck : k = T
        · subst ck
          obtain ⟨a, ha, ea⟩ := List.mem_map.mp (k2 q ((hf q).mpr h1) _ hm)
          obtain ⟨x, y⟩ := a
          dsimp only at ea
          subst ea
          refine ⟨y, ha, ?_⟩
          rw [List.length_append, List.length_singleton]; rcases cs _ ha with h | ⟨_, h⟩
          · have := b.low _ h
            dsimp only at this
            omega
          · dsimp only at h; omega
        · obtain ⟨es2, l2, r2⟩ := b.pth _ h1
          have hk := b.low _ h1
          dsimp only at l2 hk
          obtain ⟨j, h3, h4⟩ := b.cmp (es2 ++ [e]) n (.snoc r2 hm) (by rw [List.length_append, List.length_singleton]; omega)
          refine ⟨j, k1 _ h3, ?_⟩
          rw [List.length_append, List.length_singleton] at h4 ⊢
          omega
  · rw [b1.eq]
    exact List.mem_append_right _ (List.mem_map.mpr ⟨n, hn, rfl⟩)
  · rcases cs _ hn with h | ⟨h, _⟩
    · have := b.low _ h
      dsimp only at this
      omega
    · exact h
  · rw [b1.eq, List.length_append, List.length_map]
/-- what it has found in the end -/
structure Bend (sl : N → List (E × N)) (wd : N → Bool) (I : N → Prop) (n0 : N) (ws : List (N × Nat)) : Prop where
  nd : (ws.map (·.1)).Nodup
  ok : ∀ a ∈ ws, I a.1
  pth : ∀ a ∈ ws, ∃ es, es.length = a.2 ∧ RchK sl n0 es a.1
  least : ∀ a ∈ ws, ∀ es, RchK sl n0 es a.1 → a.2 ≤ es.length
  all : (∀ n, wd n = false) → ∀ es n, RchK sl n0 es n → ∃ k, (n, k) ∈ ws
  some : ∀ es n, RchK sl n0 es n → wd n = true → ∃ a ∈ ws, wd a.1 = true ∧ a.2 ≤ es.length
theorem Bw.start (h0 : I n0) : Bw sl I n0 0 [(n0, 0)] := by
  refine ⟨by simp, fun a ha => ?_, fun a ha => ?_, fun a ha => ?_, fun es n r hl => ?_⟩
  · rw [List.mem_singleton.mp ha]; exact h0
  · rw [List.mem_singleton.mp ha]; exact ⟨[], rfl, .nil⟩
  · rw [List.mem_singleton.mp ha]; exact Nat.le_refl _
  · rcases snoc_inv r with ⟨rfl, rfl⟩ | ⟨es', e, q, rfl, _, _⟩
    · exact ⟨0, List.mem_cons_self, Nat.le_refl _⟩
    · rw [List.length_append, List.length_singleton] at hl; omega
/-- steps that are the same give the same reach -/
theorem rch_same {sl sl' : N → List (E × N)} (hI : ∀ q, I q → ∀ x ∈ sl q, I x.2) (h0 : I n0) (h : ∀ q, I q → ∀ x, x ∈ sl q ↔ x ∈ sl' q) {es : List E} {n : N} (r : RchK sl n0 es n) : RchK sl' n0 es n ∧ I n := by
  induction r with
  | nil => exact ⟨.nil, h0⟩
  | snoc r hm ih => exact ⟨.snoc ih.1 ((h _ ih.2 _).mp hm), hI _ ih.2 _ hm⟩
end
end DE
namespace S
open PyProof.Rows PySem.Spec PySem L2 DE
/-! ### the law's own list of events -/
end S
/-! ### the dict of a search: its nodes, how far each is -/
namespace DE
open PyProof.Rows PySem.Spec PySem L2
section
variable {N : Type} [DecidableEq N] {enc : N → D} {key : N → NestedKey}
end
end DE
namespace S
open PyProof.Rows PySem.Spec PySem L2 DE
/-! ### what gap and parting answer -/
abbrev st0 : Bn := (false, [], [])
section
variable {a b : Mc} {n : Nat} {p : Bool}
end
end S
namespace S
open PyProof.Rows PySem.Spec PySem L2 DE
/-! ### a board's plays -/
inductive BP (n : Nat) (p : Bool) : List Ev → Prop
  | nil : BP n p []
  | snoc {es : List Ev} {ev : Ev} : BP n p es → ev ∈ evB n p (pedS false es) (heldS [] es) → BP n p (es ++ [ev])
/-- the state behind a play -/
def runM (m : Mc) (es : List Ev) : Bool × List Pr := es.foldl (fun st ev => stM m st.1 st.2 ev) (false, [])
structure RunOk (m : Mc) (n : Nat) (p : Bool) (es : List Ev) : Prop where
  va : Val m.v m.b (runM m es).1 (runM m es).2
  dk : downK (runM m es).2 = heldS [] es
  pd : (runM m es).1 = pedS false es
  ka : ∀ k ∈ keysOf (runM m es).2, k < (n : Int)
  ft : p = false → (runM m es).1 = false
section
variable {a b : Mc} {n : Nat} {p : Bool}
abbrev louds (m : Mc) (es : List Ev) : List Int := keysOf ((runM m es).2.filter loudP)
/-- the first sounds all that the other does -/
def Cov (a b : Mc) (n : Nat) (p : Bool) : Prop := ∀ es, BP n p es → ∀ k ∈ louds b es, k ∈ louds a es
def Alk (a b : Mc) (n : Nat) (p : Bool) : Prop := ∀ es, BP n p es → sndI (runM a es).2 = sndI (runM b es).2
theorem Cov.refl (a : Mc) (n : Nat) (p : Bool) : Cov a a n p := fun _ _ _ h => h
theorem Cov.trans {c : Mc} (h1 : Cov a b n p) (h2 : Cov b c n p) : Cov a c n p := fun es h k hk => h1 es h k (h2 es h k hk)
end
end S
namespace S
open PyProof.Rows PySem.Spec PySem L2 DE
/-! ### boards and near machines, drawn -/
end S
namespace DE
section
variable {N E : Type} [DecidableEq N]
theorem Bend.same {sl sl' : N → List (E × N)} {wd : N → Bool} {I : N → Prop} {n0 : N} {ws : List (N × Nat)} (hI : ∀ q, I q → ∀ x ∈ sl q, I x.2) (h0 : I n0) (h : ∀ q, I q → ∀ x, x ∈ sl q ↔ x ∈ sl' q) (b : Bend sl wd I n0 ws) : Bend sl' wd I n0 ws := by
  have hI' : ∀ q, I q → ∀ x ∈ sl' q, I x.2 := fun q iq x hx => hI q iq x ((h q iq x).mpr hx)
  have h' : ∀ q, I q → ∀ x, x ∈ sl' q ↔ x ∈ sl q := fun q iq x => (h q iq x).symm
  exact ⟨b.nd, b.ok, fun a ha => let ⟨es, h1, h2⟩ := b.pth a ha; ⟨es, h1, (rch_same hI h0 h h2).1⟩, fun a ha es r => b.least a ha es (rch_same hI' h0 h' r).1, fun z es n r => b.all z es n (rch_same hI' h0 h' r).1, fun es n r => b.some es n (rch_same hI' h0 h' r).1⟩
end
end DE
namespace S
open PyProof.Rows PySem.Spec PySem L2 DE
/-! ### the law's own search -/
section
variable {a b : Mc} {n : Nat} {p : Bool}
end
end S
namespace DE
end DE
namespace S
open PyProof.Rows PySem.Spec PySem L2 DE
section
variable {a b : Mc} {n : Nat} {p : Bool}
end
end S
namespace DE
end DE
namespace S
open PyProof.Rows PySem.Spec PySem L2 DE
section
variable {a b : Mc} {n : Nat} {p : Bool}
theorem Alk.refl (a : Mc) (n : Nat) (p : Bool) : Alk a a n p := fun _ _ => rfl
theorem Alk.symm (h : Alk a b n p) : Alk b a n p := fun es e => (h es e).symm
/-! ### what the law sees in the pairs of states -/
end
end S
namespace K01
open PyProof.Rows PySem.Spec PySem L2 DE S
abbrev T1 : Ms := fSet 3 (fCallN 2 m__law_draw (fCons (fName 1) (fCons (f2 pPow (rt (.int 10)) (rt (.int 6))) (rt []))))
abbrev T2 : Ms := fSet 4 (fLet (fLst (fCons (fTup (rt [])) (fCons (fTup (fCons (rt (.str "criteria")) (fCons (fName 3) (rt [])))) (fCons (rt .non) (fCons (rt (.str "d5")) (fCons (fName 3) (fCons (fNeg (fName 3)) (fCons (fLet (fLst (fCons (fName 3) (rt [])))) (fCons (rt (.dic [])) (fCons (rt (.bl true)) (fCons (fTup (fCons (fName 3) (fCons (rt (.str "kept")) (rt [])))) (fCons (f2 pPow (rt (.int 10)) (rt (.int 30))) (rt []))))))))))))))
abbrev T3 : Ms := fSet 5 (fCallN 2 m__law_of (fCons (fName 1) (fCons (fName 4) (rt []))))
abbrev T4 : Ms := fIf (fT (f2 pNe (fLet (fComp [6] (fCallN 1 m__law_fields (fCons (fName 5) (rt []))) (gN 6) (fT (f2 pNe (fReprE (fName 6)) (fReprE (fName 5)))) (fName 6))) (fLet (fLst (rt []))))) (fRet (rt (.bl false))) (sOut .nx)
abbrev T5 : Ms := fSet 7 (fLet (fLst (fCons (fMkE "BadMachine" (fName 5)) (fCons (fMkE "BadPlay" (fName 5)) (fCons (fMkE "BadState" (fName 5)) (fCons (fMkE "BadTrace" (fName 5)) (fCons (fMkE "BadText" (fName 5)) (fCons (fMkE "BadEvent" (fName 5)) (rt [])))))))))
abbrev T6 : Ms := fSet 7 (fLet (fCat (fName 7) (fLet (fLst (fCons (fMkE "BadKey" (fName 5)) (fCons (fMkE "BadBoard" (fName 5)) (fCons (fMkE0 "BadQuestion") (fCons (fMkE "Missing" (fName 5)) (rt [])))))))))
abbrev T7 : Ms := fForEn (fCons (fName 7) (rt [])) (gT 2 (gsCons (gN 8) (gsCons (gN 9) gsNil))) (fSeq (fIf (fOr (fT (f2 pNe (fCallN 1 m__law_marks (fCons (fName 9) (rt []))) (fLet (fLst (fCons (fName 8) (rt [])))))) (fT (f2 pNe (fIsE tb_VoiceError (fName 9)) (f2 pLt (fName 8) (rt (.int 9)))))) (fRet (rt (.bl false))) (sOut .nx)) (fIf (fOr (fT (f2 pNe (fIsE tb_ValueError (fName 9)) (f2 pLt (fName 8) (rt (.int 9))))) (fT (f2 pNe (fIsE tb_LookupError (fName 9)) (f2 pEq (fName 8) (rt (.int 9)))))) (fRet (rt (.bl false))) (sOut .nx)))
abbrev TB : Ms := fSeq T1 (fSeq T2 (fSeq T3 (fSeq T4 (fSeq T5 (fSeq T6 T7)))))
abbrev E1 : Ms := fRet (rt (.bl true))
theorem law_eq : fb_law = fSeq (fForR (fCons (rt (.int 2)) (rt [])) (gN 2) TB) E1 := rfl
abbrev lS (ns : List Int) (tu ne so th on er at' e : Sl) : List Sl := [.dat (.scr ns), .dat .m, tu, ne, so, th, on, er, at', e]
/-! ### what is bent -/
abbrev things (n : Int) : List D := [.tup [], .tup [.str "criteria", .int n], .non, .str "d5", .int n, .int (-n), .lst [.int n], .dic [], .bl true, .tup [.int n, .str "kept"], .int (10 ^ 30)]
theorem shE {d : D} {p : PyData} (h : pydE d = some p) (h2 : showE p = true) : ∃ w, aReprE d = rt (.str w) := ⟨p.shown, by
  unfold aReprE
  rw [h]
  dsimp only
  rw [if_pos h2]⟩
theorem shP {d : D} (k : Nat) (h : Pl k d) (hk : k ≤ 50) (hb : bk k d ≤ 1000000) : ∃ w, aReprE d = rt (.str w) := by
  obtain ⟨w, e⟩ := repr_pl h hk hb
  exact ⟨w, reprE_of e⟩
theorem shown {n : Int} {d : D} (h : d ∈ things n) (h0 : 0 ≤ n) (h1 : n < 1000000) : ∃ w, aReprE d = rt (.str w) := by
  have sm : n.natAbs < 10 ^ 12 := by omega
  have sn : (-n).natAbs < 10 ^ 12 := by omega
  simp only [things, List.mem_cons, List.not_mem_nil, or_false] at h
  rcases h with rfl | rfl | rfl | rfl | rfl | rfl | rfl | rfl | rfl | rfl | rfl
  · exact shE rfl (by decide +kernel)
  · refine shP 1 ?_ (by decide) (by show 8 + 1 + (0 + 1 + 0) ≤ _; decide)
    intro x hx
    simp only [List.mem_cons, List.not_mem_nil, or_false] at hx; rcases hx with rfl | rfl
    · show PyData.canLay0 (.str _) = true
      decide +kernel
    · exact sm
  · exact shE rfl (by decide +kernel)
  · exact shE rfl (by decide +kernel)
  · exact shP 1 sm (by decide) (by show 0 ≤ _; decide)
  · exact shP 1 sn (by decide) (by show 0 ≤ _; decide)
  · refine shP 1 ?_ (by decide) (by show 0 + 1 + 0 ≤ _; decide)
    intro x hx
    simp only [List.mem_cons, List.not_mem_nil, or_false] at hx; subst hx
    exact sm
  · exact shE rfl (by decide +kernel)
  · exact shE rfl (by decide +kernel)
  · refine shP 1 ?_ (by decide) (by show 0 + 1 + (4 + 1 + 0) ≤ _; decide)
    intro x hx
    simp only [List.mem_cons, List.not_mem_nil, or_false] at hx; rcases hx with rfl | rfl
    · exact sm
    · show PyData.canLay0 (.str _) = true
      decide +kernel
  · exact shE rfl (by decide +kernel)
theorem fields_ok (d : D) (s : DS) : m__law_fields [d] s = some (.ok (.lst (List.replicate 18 d)), s) := by kernel_rfl
abbrev errsD (d : D) : List D := [.exc "BadMachine" d, .exc "BadPlay" d, .exc "BadState" d, .exc "BadTrace" d, .exc "BadText" d, .exc "BadEvent" d, .exc "BadKey" d, .exc "BadBoard" d, .exc "BadQuestion" .non, .exc "Missing" d]
theorem t56_ok (d : D) (ns : List Int) (tu ne so on er at' e : Sl) (s : DS) : fSeq T5 (fSeq T6 T7) ⟨lS ns tu ne so (.dat d) on er at' e, s⟩ = some (.nx, ⟨lS ns tu ne so (.dat d) on (.dat (.lst (errsD d))) (.dat (.int 9)) (.dat (.exc "Missing" d)), s⟩) := by kernel_rfl
theorem t4_ok {n : Int} {d : D} (h : d ∈ things n) (h0 : 0 ≤ n) (h1 : n < 1000000) (ns : List Int) (tu ne so on er at' e : Sl) (s : DS) : T4 ⟨lS ns tu ne so (.dat d) on er at' e, s⟩ = some (.nx, ⟨lS ns tu ne so (.dat d) .no er at' e, s⟩) := by
  obtain ⟨w, hw⟩ := shown h h0 h1
  let Y : Sg := ⟨lS ns tu ne so (.dat d) .no er at' e, s⟩
  let KC : Mo Bool := fT (f2 pNe (fReprE (fName 6)) (fReprE (fName 5)))
  let l : List Nat := List.replicate 18 0
  have cg := comp_gen (E := fun _ : Nat => d) (F := fun _ : Nat => d) (P := fun _ => false) (j := 6) (S := Y.r) (s := s) (c := KC) (e := fName 6) l (fun _ => rfl) (fun a _ => by
      let g : Sg := ⟨Y.r.set 6 (.dat d), s⟩
      have x1 : fReprE (fName 6) g = some (.ok (.str w), g) := by unfold fReprE; rw [bd_ok (a := d) (g1 := g) (name_ok rfl), hw]; rfl
      have x2 : fReprE (fName 5) g = some (.ok (.str w), g) := by unfold fReprE; rw [bd_ok (a := d) (g1 := g) (name_ok rfl), hw]; rfl
      have q := ne_str x1 x2
      rw [decide_eq_true rfl] at q
      exact q) (fun _ _ h => nomatch h)
  have c9 : fLet (fComp [6] (fCallN 1 m__law_fields (fCons (fName 5) (rt []))) (gN 6) KC (fName 6)) ⟨lS ns tu ne so (.dat d) on er at' e, s⟩ = some (.ok (.lst []), Y) := let_ok (comp_ok (d := .lst (List.replicate 18 d)) (ds := List.replicate 18 d) (g1 := ⟨lS ns tu ne so (.dat d) on er at' e, s⟩) (call_ok (ds := [d]) (g1 := ⟨lS ns tu ne so (.dat d) on er at' e, s⟩) rfl rfl (fields_ok d s)) rfl (by show 18 ≤ _; decide) cg)
  exact (if_f (t_ok (b := false) ((f2_ok (p := pNe) (d := .lst []) (d' := .lst []) (g1 := Y) (g2 := Y) c9 rfl).trans (by kernel_rfl)))).trans rfl
theorem turn_ok {k : Nat} {s : DS} (g : S.Good (k + 2) s) (ns : List Int) (tu ne so th on er at' e : Sl) : ∃ s' ne' so' th' on' er' at1 e', S.Good k s' ∧ TB ⟨lS ns tu ne so th on er at' e, s⟩ = some (.nx, ⟨lS ns tu ne' so' th' on' er' at1 e', s'⟩) := by
  obtain ⟨n, s1, e1, n0, n1, g1⟩ := draw_ok (n := 1000000) (k := k + 1) (by decide) (by decide) g
  obtain ⟨d, s2, e2, hd, g2⟩ := of_ok (xs := things n) (k := k) (by show 1 ≤ 11; decide) (by show 11 < _; decide) g1
  have p6 : f2 pPow (rt (.int 10)) (rt (.int 6)) ⟨lS ns tu ne so th on er at' e, s⟩ = some (.ok (.int 1000000), ⟨lS ns tu ne so th on er at' e, s⟩) := by kernel_rfl
  have h1 : T1 ⟨lS ns tu ne so th on er at' e, s⟩ = some (.nx, ⟨lS ns tu (.dat (.int n)) so th on er at' e, s1⟩) := (set_ok (d := .int n) (g1 := ⟨lS ns tu ne so th on er at' e, s1⟩) (call_ok (ds := [.m, .int 1000000]) (g1 := ⟨lS ns tu ne so th on er at' e, s⟩) (cons_ok (name_ok rfl) (cons_ok p6 rfl)) rfl e1)).trans rfl
  have h2 : T2 ⟨lS ns tu (.dat (.int n)) so th on er at' e, s1⟩ = some (.nx, ⟨lS ns tu (.dat (.int n)) (.dat (.lst (things n))) th on er at' e, s1⟩) := by kernel_rfl
  have h3 : T3 ⟨lS ns tu (.dat (.int n)) (.dat (.lst (things n))) th on er at' e, s1⟩ = some (.nx, ⟨lS ns tu (.dat (.int n)) (.dat (.lst (things n))) (.dat d) on er at' e, s2⟩) := (set_ok (d := d) (g1 := ⟨lS ns tu (.dat (.int n)) (.dat (.lst (things n))) th on er at' e, s2⟩) (call_ok (ds := [.m, .lst (things n)]) (g1 := ⟨lS ns tu (.dat (.int n)) (.dat (.lst (things n))) th on er at' e, s1⟩) rfl rfl e2)).trans rfl
  have h4 := t4_ok hd n0 n1 ns tu (.dat (.int n)) (.dat (.lst (things n))) on er at' e s2
  have h5 := t56_ok d ns tu (.dat (.int n)) (.dat (.lst (things n))) .no er at' e s2
  refine ⟨s2, .dat (.int n), .dat (.lst (things n)), .dat d, .no, .dat (.lst (errsD d)), .dat (.int 9), .dat (.exc "Missing" d), g2, ?_⟩
  show fSeq T1 (fSeq T2 (fSeq T3 (fSeq T4 (fSeq T5 (fSeq T6 T7))))) _ = _
  exact (seq_nx h1).trans ((seq_nx h2).trans ((seq_nx h3).trans ((seq_nx h4).trans h5)))
theorem turns_ok (ns : List Int) : ∀ (l : List D) (k : Nat) (s : DS), S.Good (k + 2 * l.length) s → ∀ (tu ne so th on er at' e : Sl), ∃ tu' ne' so' th' on' er' at1 e' s', loop (gN 2) TB l ⟨lS ns tu ne so th on er at' e, s⟩ = some (.nx, ⟨lS ns tu' ne' so' th' on' er' at1 e', s'⟩)
  | [], _, s, _, tu, ne, so, th, on, er, at', e => ⟨tu, ne, so, th, on, er, at', e, s, rfl⟩
  | d :: l, k, s, g, tu, ne, so, th, on, er, at', e => by
    rw [List.length_cons] at g
    obtain ⟨s1, a1, a2, a3, a4, a5, a6, a7, g1, h1⟩ := turn_ok (k := k + 2 * l.length) (g.mono (by omega)) ns (.dat d) ne so th on er at' e
    obtain ⟨b1, b2, b3, b4, b5, b6, b7, b8, s', h2⟩ := turns_ok ns l k s1 g1 (.dat d) a1 a2 a3 a4 a5 a6 a7
    generalize TB = T at h1 h2 ⊢
    exact ⟨b1, b2, b3, b4, b5, b6, b7, b8, s', (loop_cons (g1 := ⟨lS ns (.dat d) ne so th on er at' e, s⟩) rfl h1).trans h2⟩
theorem law_true (ns : List Int) (h : ns.length ≤ 63) : goesL fb_law 10 1 ns := by
  right
  have g0 : S.Good 4000 (begS ns) := ⟨Int.le_refl 0, by show (0 : Int) + ((4000 : Nat) : Int) < _; decide, Nat.le_trans (List.length_filter_le _ _) (by omega)⟩
  let Z : Sg := ⟨lS ns .no .no .no .no .no .no .no .no, begS ns⟩
  obtain ⟨b1, b2, b3, b4, b5, b6, b7, b8, s', q⟩ := turns_ok ns ((List.range 2).map fun (i : Nat) => D.int (i : Int)) 100 (begS ns) (g0.mono (by decide)) .no .no .no .no .no .no .no .no
  have q1 : fForR (fCons (rt (.int 2)) (rt [])) (gN 2) TB Z = some (.nx, ⟨lS ns b1 b2 b3 b4 b5 b6 b7 b8, s'⟩) := by
    rw [forR_ok (n := ((2 : Nat) : Int)) (g1 := Z) rfl (by decide), intsD_nat]
    exact q
  rw [law_eq]
  exact ⟨_, (seq_nx q1).trans rfl⟩
end K01
namespace K01
open PyProof.Rows PySem.Spec PySem L2 DE S
section
theorem all_mk {P : Program} {w : World} {K : PySem.W.Frag} {h : Heap} {mg : Str → Option Value} {fa : Addr}
    {f__law_begun : Addr} {oc__law_begun kV__law_begun dc__law_begun pm__law_begun cd__law_begun ct__law_begun : Value} {od__law_begun an__law_begun : Option Addr} {sl__law_begun : Array (Option Value)}
    {f__law_draw : Addr} {oc__law_draw kV__law_draw dc__law_draw pm__law_draw cd__law_draw ct__law_draw : Value} {od__law_draw an__law_draw : Option Addr} {sl__law_draw : Array (Option Value)}
    {f__law_of : Addr} {oc__law_of kV__law_of dc__law_of pm__law_of cd__law_of ct__law_of : Value} {od__law_of an__law_of : Option Addr} {sl__law_of : Array (Option Value)}
    {f__law_marks : Addr} {oc__law_marks kV__law_marks dc__law_marks pm__law_marks cd__law_marks ct__law_marks : Value} {od__law_marks an__law_marks : Option Addr} {sl__law_marks : Array (Option Value)}
    {f__law_fields : Addr} {oc__law_fields kV__law_fields dc__law_fields pm__law_fields cd__law_fields ct__law_fields : Value} {od__law_fields an__law_fields : Option Addr} {sl__law_fields : Array (Option Value)}
    {f_law : Addr} {oc_law kV_law dc_law pm_law cd_law ct_law : Value} {od_law an_law : Option Addr} {sl_law : Array (Option Value)}
    {C_BadMachine fI_BadMachine : Addr}
    {C_BadPlay fI_BadPlay : Addr}
    {C_BadState fI_BadState : Addr}
    {C_BadTrace fI_BadTrace : Addr}
    {C_BadText fI_BadText : Addr}
    {C_BadEvent fI_BadEvent : Addr}
    {C_BadKey fI_BadKey : Addr}
    {C_BadBoard fI_BadBoard : Addr}
    {C_BadQuestion : Addr}
    {C_Missing fI_Missing : Addr}
    {C_VoiceError : Addr}
    (X : K.In h) (G : h.Ns mainGlobals mg) (hfa : mg "law" = some (.ref fa))
    (z_LookupError : PySem.W.nsIn K mainGlobals "LookupError" = some none)
    (z_ValueError : PySem.W.nsIn K mainGlobals "ValueError" = some none)
    (z_enumerate : PySem.W.nsIn K mainGlobals "enumerate" = some none)
    (z_int : PySem.W.nsIn K mainGlobals "int" = some none)
    (z_isinstance : PySem.W.nsIn K mainGlobals "isinstance" = some none)
    (z_len : PySem.W.nsIn K mainGlobals "len" = some none)
    (z_range : PySem.W.nsIn K mainGlobals "range" = some none)
    (z_repr : PySem.W.nsIn K mainGlobals "repr" = some none)
    (z_super : PySem.W.nsIn K mainGlobals "super" = some none)
    (a__law_begun : PySem.W.nsIn K mainGlobals "_law_begun" = some (some (.ref f__law_begun)))
    (l__law_begun : K.lookup f__law_begun = some ⟨oc__law_begun, od__law_begun, .func (PySem.W.fnOf "_law_begun" "_law_begun" (defArgs s__law_begun) (defBody s__law_begun) (defScope s__law_begun) .none kV__law_begun dc__law_begun pm__law_begun an__law_begun cd__law_begun ct__law_begun), sl__law_begun⟩)
    (c__law_begun : PySem.W.codeIn K cd__law_begun "_law_begun" = true)
    (k__law_begun : PySem.W.keepIn K (.ref f__law_begun) = true)
    (a__law_draw : PySem.W.nsIn K mainGlobals "_law_draw" = some (some (.ref f__law_draw)))
    (l__law_draw : K.lookup f__law_draw = some ⟨oc__law_draw, od__law_draw, .func (PySem.W.fnOf "_law_draw" "_law_draw" (defArgs s__law_draw) (defBody s__law_draw) (defScope s__law_draw) .none kV__law_draw dc__law_draw pm__law_draw an__law_draw cd__law_draw ct__law_draw), sl__law_draw⟩)
    (c__law_draw : PySem.W.codeIn K cd__law_draw "_law_draw" = true)
    (k__law_draw : PySem.W.keepIn K (.ref f__law_draw) = true)
    (a__law_of : PySem.W.nsIn K mainGlobals "_law_of" = some (some (.ref f__law_of)))
    (l__law_of : K.lookup f__law_of = some ⟨oc__law_of, od__law_of, .func (PySem.W.fnOf "_law_of" "_law_of" (defArgs s__law_of) (defBody s__law_of) (defScope s__law_of) .none kV__law_of dc__law_of pm__law_of an__law_of cd__law_of ct__law_of), sl__law_of⟩)
    (c__law_of : PySem.W.codeIn K cd__law_of "_law_of" = true)
    (k__law_of : PySem.W.keepIn K (.ref f__law_of) = true)
    (a__law_marks : PySem.W.nsIn K mainGlobals "_law_marks" = some (some (.ref f__law_marks)))
    (l__law_marks : K.lookup f__law_marks = some ⟨oc__law_marks, od__law_marks, .func (PySem.W.fnOf "_law_marks" "_law_marks" (defArgs s__law_marks) (defBody s__law_marks) (defScope s__law_marks) .none kV__law_marks dc__law_marks pm__law_marks an__law_marks cd__law_marks ct__law_marks), sl__law_marks⟩)
    (c__law_marks : PySem.W.codeIn K cd__law_marks "_law_marks" = true)
    (k__law_marks : PySem.W.keepIn K (.ref f__law_marks) = true)
    (a__law_fields : PySem.W.nsIn K mainGlobals "_law_fields" = some (some (.ref f__law_fields)))
    (l__law_fields : K.lookup f__law_fields = some ⟨oc__law_fields, od__law_fields, .func (PySem.W.fnOf "_law_fields" "_law_fields" (defArgs s__law_fields) (defBody s__law_fields) (defScope s__law_fields) .none kV__law_fields dc__law_fields pm__law_fields an__law_fields cd__law_fields ct__law_fields), sl__law_fields⟩)
    (c__law_fields : PySem.W.codeIn K cd__law_fields "_law_fields" = true)
    (k__law_fields : PySem.W.keepIn K (.ref f__law_fields) = true)
    (a_law : PySem.W.nsIn K mainGlobals "law" = some (some (.ref f_law)))
    (l_law : K.lookup f_law = some ⟨oc_law, od_law, .func (PySem.W.fnOf "law" "law" (defArgs s_law) (defBody s_law) (defScope s_law) .none kV_law dc_law pm_law an_law cd_law ct_law), sl_law⟩)
    (c_law : PySem.W.codeIn K cd_law "law" = true)
    (k_law : PySem.W.keepIn K (.ref f_law) = true)
    (a_BadMachine : PySem.W.nsIn K mainGlobals "BadMachine" = some (some (.ref C_BadMachine)))
    (e_BadMachine : ∃ fd, ErrF P K C_BadMachine fI_BadMachine "place" "place" "no machine" "BadMachine.__init__" fd ∧ ∀ u z : Value, bindArgs fd ⟨[u], [("place", z)]⟩ = pure ((["self", "place"] : List Str).zip [u, z]))
    (a_BadPlay : PySem.W.nsIn K mainGlobals "BadPlay" = some (some (.ref C_BadPlay)))
    (e_BadPlay : ∃ fd, ErrF P K C_BadPlay fI_BadPlay "place" "place" "no play" "BadPlay.__init__" fd ∧ ∀ u z : Value, bindArgs fd ⟨[u], [("place", z)]⟩ = pure ((["self", "place"] : List Str).zip [u, z]))
    (a_BadState : PySem.W.nsIn K mainGlobals "BadState" = some (some (.ref C_BadState)))
    (e_BadState : ∃ fd, ErrF P K C_BadState fI_BadState "place" "place" "no state of the machine" "BadState.__init__" fd ∧ ∀ u z : Value, bindArgs fd ⟨[u], [("place", z)]⟩ = pure ((["self", "place"] : List Str).zip [u, z]))
    (a_BadTrace : PySem.W.nsIn K mainGlobals "BadTrace" = some (some (.ref C_BadTrace)))
    (e_BadTrace : ∃ fd, ErrF P K C_BadTrace fI_BadTrace "place" "place" "no trace of the play" "BadTrace.__init__" fd ∧ ∀ u z : Value, bindArgs fd ⟨[u], [("place", z)]⟩ = pure ((["self", "place"] : List Str).zip [u, z]))
    (a_BadText : PySem.W.nsIn K mainGlobals "BadText" = some (some (.ref C_BadText)))
    (e_BadText : ∃ fd, ErrF P K C_BadText fI_BadText "place" "place" "no such text" "BadText.__init__" fd ∧ ∀ u z : Value, bindArgs fd ⟨[u], [("place", z)]⟩ = pure ((["self", "place"] : List Str).zip [u, z]))
    (a_BadEvent : PySem.W.nsIn K mainGlobals "BadEvent" = some (some (.ref C_BadEvent)))
    (e_BadEvent : ∃ fd, ErrF P K C_BadEvent fI_BadEvent "event" "event" "no event that can follow" "BadEvent.__init__" fd ∧ ∀ u z : Value, bindArgs fd ⟨[u], [("event", z)]⟩ = pure ((["self", "event"] : List Str).zip [u, z]))
    (a_BadKey : PySem.W.nsIn K mainGlobals "BadKey" = some (some (.ref C_BadKey)))
    (e_BadKey : ∃ fd, ErrF P K C_BadKey fI_BadKey "key" "key" "no such key" "BadKey.__init__" fd ∧ ∀ u z : Value, bindArgs fd ⟨[u], [("key", z)]⟩ = pure ((["self", "key"] : List Str).zip [u, z]))
    (a_BadBoard : PySem.W.nsIn K mainGlobals "BadBoard" = some (some (.ref C_BadBoard)))
    (e_BadBoard : ∃ fd, ErrF P K C_BadBoard fI_BadBoard "many" "many" "no board" "BadBoard.__init__" fd ∧ ∀ u z : Value, bindArgs fd ⟨[u], [("many", z)]⟩ = pure ((["self", "many"] : List Str).zip [u, z]))
    (a_BadQuestion : PySem.W.nsIn K mainGlobals "BadQuestion" = some (some (.ref C_BadQuestion)))
    (e_BadQuestion : ErrF0 K C_BadQuestion)
    (a_Missing : PySem.W.nsIn K mainGlobals "Missing" = some (some (.ref C_Missing)))
    (e_Missing : ∃ fd, ErrFL P K C_Missing fI_Missing "number" "number" "nothing has this number" "Missing.__init__" fd ∧ ∀ u z : Value, bindArgs fd ⟨[u], [("number", z)]⟩ = pure ((["self", "number"] : List Str).zip [u, z]))
    (h_BadBoard_BadMachine : HdF K C_BadMachine (.ref C_BadBoard) false)
    (h_BadBoard_BadPlay : HdF K C_BadPlay (.ref C_BadBoard) false)
    (h_BadBoard_BadState : HdF K C_BadState (.ref C_BadBoard) false)
    (h_BadBoard_BadTrace : HdF K C_BadTrace (.ref C_BadBoard) false)
    (h_BadBoard_BadText : HdF K C_BadText (.ref C_BadBoard) false)
    (h_BadBoard_BadEvent : HdF K C_BadEvent (.ref C_BadBoard) false)
    (h_BadBoard_BadKey : HdF K C_BadKey (.ref C_BadBoard) false)
    (h_BadBoard_BadBoard : HdF K C_BadBoard (.ref C_BadBoard) true)
    (h_BadBoard_BadQuestion : HdF K C_BadQuestion (.ref C_BadBoard) false)
    (h_BadBoard_Missing : HdF K C_Missing (.ref C_BadBoard) false)
    (h_BadEvent_BadMachine : HdF K C_BadMachine (.ref C_BadEvent) false)
    (h_BadEvent_BadPlay : HdF K C_BadPlay (.ref C_BadEvent) false)
    (h_BadEvent_BadState : HdF K C_BadState (.ref C_BadEvent) false)
    (h_BadEvent_BadTrace : HdF K C_BadTrace (.ref C_BadEvent) false)
    (h_BadEvent_BadText : HdF K C_BadText (.ref C_BadEvent) false)
    (h_BadEvent_BadEvent : HdF K C_BadEvent (.ref C_BadEvent) true)
    (h_BadEvent_BadKey : HdF K C_BadKey (.ref C_BadEvent) false)
    (h_BadEvent_BadBoard : HdF K C_BadBoard (.ref C_BadEvent) false)
    (h_BadEvent_BadQuestion : HdF K C_BadQuestion (.ref C_BadEvent) false)
    (h_BadEvent_Missing : HdF K C_Missing (.ref C_BadEvent) false)
    (h_BadKey_BadMachine : HdF K C_BadMachine (.ref C_BadKey) false)
    (h_BadKey_BadPlay : HdF K C_BadPlay (.ref C_BadKey) false)
    (h_BadKey_BadState : HdF K C_BadState (.ref C_BadKey) false)
    (h_BadKey_BadTrace : HdF K C_BadTrace (.ref C_BadKey) false)
    (h_BadKey_BadText : HdF K C_BadText (.ref C_BadKey) false)
    (h_BadKey_BadEvent : HdF K C_BadEvent (.ref C_BadKey) false)
    (h_BadKey_BadKey : HdF K C_BadKey (.ref C_BadKey) true)
    (h_BadKey_BadBoard : HdF K C_BadBoard (.ref C_BadKey) false)
    (h_BadKey_BadQuestion : HdF K C_BadQuestion (.ref C_BadKey) false)
    (h_BadKey_Missing : HdF K C_Missing (.ref C_BadKey) false)
    (h_BadMachine_BadMachine : HdF K C_BadMachine (.ref C_BadMachine) true)
    (h_BadMachine_BadPlay : HdF K C_BadPlay (.ref C_BadMachine) false)
    (h_BadMachine_BadState : HdF K C_BadState (.ref C_BadMachine) false)
    (h_BadMachine_BadTrace : HdF K C_BadTrace (.ref C_BadMachine) false)
    (h_BadMachine_BadText : HdF K C_BadText (.ref C_BadMachine) false)
    (h_BadMachine_BadEvent : HdF K C_BadEvent (.ref C_BadMachine) false)
    (h_BadMachine_BadKey : HdF K C_BadKey (.ref C_BadMachine) false)
    (h_BadMachine_BadBoard : HdF K C_BadBoard (.ref C_BadMachine) false)
    (h_BadMachine_BadQuestion : HdF K C_BadQuestion (.ref C_BadMachine) false)
    (h_BadMachine_Missing : HdF K C_Missing (.ref C_BadMachine) false)
    (h_BadPlay_BadMachine : HdF K C_BadMachine (.ref C_BadPlay) false)
    (h_BadPlay_BadPlay : HdF K C_BadPlay (.ref C_BadPlay) true)
    (h_BadPlay_BadState : HdF K C_BadState (.ref C_BadPlay) false)
    (h_BadPlay_BadTrace : HdF K C_BadTrace (.ref C_BadPlay) false)
    (h_BadPlay_BadText : HdF K C_BadText (.ref C_BadPlay) false)
    (h_BadPlay_BadEvent : HdF K C_BadEvent (.ref C_BadPlay) false)
    (h_BadPlay_BadKey : HdF K C_BadKey (.ref C_BadPlay) false)
    (h_BadPlay_BadBoard : HdF K C_BadBoard (.ref C_BadPlay) false)
    (h_BadPlay_BadQuestion : HdF K C_BadQuestion (.ref C_BadPlay) false)
    (h_BadPlay_Missing : HdF K C_Missing (.ref C_BadPlay) false)
    (h_BadQuestion_BadMachine : HdF K C_BadMachine (.ref C_BadQuestion) false)
    (h_BadQuestion_BadPlay : HdF K C_BadPlay (.ref C_BadQuestion) false)
    (h_BadQuestion_BadState : HdF K C_BadState (.ref C_BadQuestion) false)
    (h_BadQuestion_BadTrace : HdF K C_BadTrace (.ref C_BadQuestion) false)
    (h_BadQuestion_BadText : HdF K C_BadText (.ref C_BadQuestion) false)
    (h_BadQuestion_BadEvent : HdF K C_BadEvent (.ref C_BadQuestion) false)
    (h_BadQuestion_BadKey : HdF K C_BadKey (.ref C_BadQuestion) false)
    (h_BadQuestion_BadBoard : HdF K C_BadBoard (.ref C_BadQuestion) false)
    (h_BadQuestion_BadQuestion : HdF K C_BadQuestion (.ref C_BadQuestion) true)
    (h_BadQuestion_Missing : HdF K C_Missing (.ref C_BadQuestion) false)
    (h_BadState_BadMachine : HdF K C_BadMachine (.ref C_BadState) false)
    (h_BadState_BadPlay : HdF K C_BadPlay (.ref C_BadState) false)
    (h_BadState_BadState : HdF K C_BadState (.ref C_BadState) true)
    (h_BadState_BadTrace : HdF K C_BadTrace (.ref C_BadState) false)
    (h_BadState_BadText : HdF K C_BadText (.ref C_BadState) false)
    (h_BadState_BadEvent : HdF K C_BadEvent (.ref C_BadState) false)
    (h_BadState_BadKey : HdF K C_BadKey (.ref C_BadState) false)
    (h_BadState_BadBoard : HdF K C_BadBoard (.ref C_BadState) false)
    (h_BadState_BadQuestion : HdF K C_BadQuestion (.ref C_BadState) false)
    (h_BadState_Missing : HdF K C_Missing (.ref C_BadState) false)
    (h_BadText_BadMachine : HdF K C_BadMachine (.ref C_BadText) false)
    (h_BadText_BadPlay : HdF K C_BadPlay (.ref C_BadText) false)
    (h_BadText_BadState : HdF K C_BadState (.ref C_BadText) false)
    (h_BadText_BadTrace : HdF K C_BadTrace (.ref C_BadText) false)
    (h_BadText_BadText : HdF K C_BadText (.ref C_BadText) true)
    (h_BadText_BadEvent : HdF K C_BadEvent (.ref C_BadText) false)
    (h_BadText_BadKey : HdF K C_BadKey (.ref C_BadText) false)
    (h_BadText_BadBoard : HdF K C_BadBoard (.ref C_BadText) false)
    (h_BadText_BadQuestion : HdF K C_BadQuestion (.ref C_BadText) false)
    (h_BadText_Missing : HdF K C_Missing (.ref C_BadText) false)
    (h_BadTrace_BadMachine : HdF K C_BadMachine (.ref C_BadTrace) false)
    (h_BadTrace_BadPlay : HdF K C_BadPlay (.ref C_BadTrace) false)
    (h_BadTrace_BadState : HdF K C_BadState (.ref C_BadTrace) false)
    (h_BadTrace_BadTrace : HdF K C_BadTrace (.ref C_BadTrace) true)
    (h_BadTrace_BadText : HdF K C_BadText (.ref C_BadTrace) false)
    (h_BadTrace_BadEvent : HdF K C_BadEvent (.ref C_BadTrace) false)
    (h_BadTrace_BadKey : HdF K C_BadKey (.ref C_BadTrace) false)
    (h_BadTrace_BadBoard : HdF K C_BadBoard (.ref C_BadTrace) false)
    (h_BadTrace_BadQuestion : HdF K C_BadQuestion (.ref C_BadTrace) false)
    (h_BadTrace_Missing : HdF K C_Missing (.ref C_BadTrace) false)
    (h_Missing_BadMachine : HdF K C_BadMachine (.ref C_Missing) false)
    (h_Missing_BadPlay : HdF K C_BadPlay (.ref C_Missing) false)
    (h_Missing_BadState : HdF K C_BadState (.ref C_Missing) false)
    (h_Missing_BadTrace : HdF K C_BadTrace (.ref C_Missing) false)
    (h_Missing_BadText : HdF K C_BadText (.ref C_Missing) false)
    (h_Missing_BadEvent : HdF K C_BadEvent (.ref C_Missing) false)
    (h_Missing_BadKey : HdF K C_BadKey (.ref C_Missing) false)
    (h_Missing_BadBoard : HdF K C_BadBoard (.ref C_Missing) false)
    (h_Missing_BadQuestion : HdF K C_BadQuestion (.ref C_Missing) false)
    (h_Missing_Missing : HdF K C_Missing (.ref C_Missing) true)
    (a_VoiceError : PySem.W.nsIn K mainGlobals "VoiceError" = some (some (.ref C_VoiceError)))
    (h_VoiceError_BadMachine : HdF K C_BadMachine (.ref C_VoiceError) true)
    (h_VoiceError_BadPlay : HdF K C_BadPlay (.ref C_VoiceError) true)
    (h_VoiceError_BadState : HdF K C_BadState (.ref C_VoiceError) true)
    (h_VoiceError_BadTrace : HdF K C_BadTrace (.ref C_VoiceError) true)
    (h_VoiceError_BadText : HdF K C_BadText (.ref C_VoiceError) true)
    (h_VoiceError_BadEvent : HdF K C_BadEvent (.ref C_VoiceError) true)
    (h_VoiceError_BadKey : HdF K C_BadKey (.ref C_VoiceError) true)
    (h_VoiceError_BadBoard : HdF K C_BadBoard (.ref C_VoiceError) true)
    (h_VoiceError_BadQuestion : HdF K C_BadQuestion (.ref C_VoiceError) true)
    (h_VoiceError_Missing : HdF K C_Missing (.ref C_VoiceError) false)
    (h_LookupError_BadMachine : HdF K C_BadMachine (.type "LookupError") false)
    (h_LookupError_BadPlay : HdF K C_BadPlay (.type "LookupError") false)
    (h_LookupError_BadState : HdF K C_BadState (.type "LookupError") false)
    (h_LookupError_BadTrace : HdF K C_BadTrace (.type "LookupError") false)
    (h_LookupError_BadText : HdF K C_BadText (.type "LookupError") false)
    (h_LookupError_BadEvent : HdF K C_BadEvent (.type "LookupError") false)
    (h_LookupError_BadKey : HdF K C_BadKey (.type "LookupError") false)
    (h_LookupError_BadBoard : HdF K C_BadBoard (.type "LookupError") false)
    (h_LookupError_BadQuestion : HdF K C_BadQuestion (.type "LookupError") false)
    (h_LookupError_Missing : HdF K C_Missing (.type "LookupError") true)
    (h_ValueError_BadMachine : HdF K C_BadMachine (.type "ValueError") true)
    (h_ValueError_BadPlay : HdF K C_BadPlay (.type "ValueError") true)
    (h_ValueError_BadState : HdF K C_BadState (.type "ValueError") true)
    (h_ValueError_BadTrace : HdF K C_BadTrace (.type "ValueError") true)
    (h_ValueError_BadText : HdF K C_BadText (.type "ValueError") true)
    (h_ValueError_BadEvent : HdF K C_BadEvent (.type "ValueError") true)
    (h_ValueError_BadKey : HdF K C_BadKey (.type "ValueError") true)
    (h_ValueError_BadBoard : HdF K C_BadBoard (.type "ValueError") true)
    (h_ValueError_BadQuestion : HdF K C_BadQuestion (.type "ValueError") true)
    (h_ValueError_Missing : HdF K C_Missing (.type "ValueError") false) :
    ∃ fd : FuncData, (∀ (s : Shared) (u : Value), BindsTo s fd ⟨[u], []⟩ [("script", u)]) ∧ ∀ base : Heap, K.In base → base.Ns mainGlobals mg → SysM base → FnG P w K mg base 4 fa fd ["script"] (spLaw K [] 10 1 fb_law) := by
  have e := hfa.symm.trans (PySem.W.mg_of X G a_law)
  cases e
  obtain ⟨fd_BadMachine, E_BadMachine, B_BadMachine⟩ := e_BadMachine
  obtain ⟨fd_BadPlay, E_BadPlay, B_BadPlay⟩ := e_BadPlay
  obtain ⟨fd_BadState, E_BadState, B_BadState⟩ := e_BadState
  obtain ⟨fd_BadTrace, E_BadTrace, B_BadTrace⟩ := e_BadTrace
  obtain ⟨fd_BadText, E_BadText, B_BadText⟩ := e_BadText
  obtain ⟨fd_BadEvent, E_BadEvent, B_BadEvent⟩ := e_BadEvent
  obtain ⟨fd_BadKey, E_BadKey, B_BadKey⟩ := e_BadKey
  obtain ⟨fd_BadBoard, E_BadBoard, B_BadBoard⟩ := e_BadBoard
  have E_BadQuestion := e_BadQuestion
  obtain ⟨fd_Missing, E_Missing, B_Missing⟩ := e_Missing
  refine ⟨PySem.W.fnOf "law" "law" (defArgs s_law) (defBody s_law) (defScope s_law) .none kV_law dc_law pm_law an_law cd_law ct_law, fun s v => .of_eq rfl, fun base _ _ hSM => ?_⟩
  have T : ∀ M, Tx P w K mg base ⟨M, clL [("BadMachine", (C_BadMachine, "place")), ("BadPlay", (C_BadPlay, "place")), ("BadState", (C_BadState, "place")), ("BadTrace", (C_BadTrace, "place")), ("BadText", (C_BadText, "place")), ("BadEvent", (C_BadEvent, "event")), ("BadKey", (C_BadKey, "key")), ("BadBoard", (C_BadBoard, "many")), ("BadQuestion", (C_BadQuestion, "")), ("Missing", (C_Missing, "number"))], [], w⟩ := fun M =>
    { z_enumerate := PySem.W.mg_none_of X G z_enumerate,
      z_int := PySem.W.mg_none_of X G z_int,
      z_isinstance := PySem.W.mg_none_of X G z_isinstance,
      z_len := PySem.W.mg_none_of X G z_len,
      z_range := PySem.W.mg_none_of X G z_range,
      z_repr := PySem.W.mg_none_of X G z_repr,
      xk_BadBoard := ⟨C_BadBoard, fI_BadBoard, _, _, _, fd_BadBoard, PySem.W.mg_of X G a_BadBoard, rfl, PySem.W.mg_none_of X G z_super, E_BadBoard.c, B_BadBoard⟩,
      xk_BadEvent := ⟨C_BadEvent, fI_BadEvent, _, _, _, fd_BadEvent, PySem.W.mg_of X G a_BadEvent, rfl, PySem.W.mg_none_of X G z_super, E_BadEvent.c, B_BadEvent⟩,
      xk_BadKey := ⟨C_BadKey, fI_BadKey, _, _, _, fd_BadKey, PySem.W.mg_of X G a_BadKey, rfl, PySem.W.mg_none_of X G z_super, E_BadKey.c, B_BadKey⟩,
      xk_BadMachine := ⟨C_BadMachine, fI_BadMachine, _, _, _, fd_BadMachine, PySem.W.mg_of X G a_BadMachine, rfl, PySem.W.mg_none_of X G z_super, E_BadMachine.c, B_BadMachine⟩,
      xk_BadPlay := ⟨C_BadPlay, fI_BadPlay, _, _, _, fd_BadPlay, PySem.W.mg_of X G a_BadPlay, rfl, PySem.W.mg_none_of X G z_super, E_BadPlay.c, B_BadPlay⟩,
      xk_BadState := ⟨C_BadState, fI_BadState, _, _, _, fd_BadState, PySem.W.mg_of X G a_BadState, rfl, PySem.W.mg_none_of X G z_super, E_BadState.c, B_BadState⟩,
      xk_BadText := ⟨C_BadText, fI_BadText, _, _, _, fd_BadText, PySem.W.mg_of X G a_BadText, rfl, PySem.W.mg_none_of X G z_super, E_BadText.c, B_BadText⟩,
      xk_BadTrace := ⟨C_BadTrace, fI_BadTrace, _, _, _, fd_BadTrace, PySem.W.mg_of X G a_BadTrace, rfl, PySem.W.mg_none_of X G z_super, E_BadTrace.c, B_BadTrace⟩,
      xl_Missing := ⟨C_Missing, fI_Missing, _, _, _, fd_Missing, PySem.W.mg_of X G a_Missing, rfl, PySem.W.mg_none_of X G z_super, E_Missing.c, B_Missing⟩,
      q_BadQuestion := ⟨C_BadQuestion, _, _, _, _, PySem.F.excBase_ValueError, E_BadQuestion.ex, PySem.W.mg_of X G a_BadQuestion, E_BadQuestion.kC, E_BadQuestion.exC, E_BadQuestion.tyC, rfl⟩,
      h_BadBoard := ⟨_, _, .own (PySem.W.mg_of X G a_BadBoard), fun cn C f b h1 h2 => cl_all (l := [("BadMachine", (C_BadMachine, "place")), ("BadPlay", (C_BadPlay, "place")), ("BadState", (C_BadState, "place")), ("BadTrace", (C_BadTrace, "place")), ("BadText", (C_BadText, "place")), ("BadEvent", (C_BadEvent, "event")), ("BadKey", (C_BadKey, "key")), ("BadBoard", (C_BadBoard, "many")), ("BadQuestion", (C_BadQuestion, "")), ("Missing", (C_Missing, "number"))]) (R := fun cn C f => ∀ b, tb_BadBoard.lookup cn = some b → PySem.W.exmOne K (.ref C) (.ref C_BadBoard) = some b ∧ PySem.W.kitOne K (.ref C) (.ref C_BadBoard) = some b) (fa_cons (hd_el rfl h_BadBoard_BadMachine) (fa_cons (hd_el rfl h_BadBoard_BadPlay) (fa_cons (hd_el rfl h_BadBoard_BadState) (fa_cons (hd_el rfl h_BadBoard_BadTrace) (fa_cons (hd_el rfl h_BadBoard_BadText) (fa_cons (hd_el rfl h_BadBoard_BadEvent) (fa_cons (hd_el rfl h_BadBoard_BadKey) (fa_cons (hd_el rfl h_BadBoard_BadBoard) (fa_cons (hd_el rfl h_BadBoard_BadQuestion) (fa_cons (hd_el rfl h_BadBoard_Missing) (fa_nil))))))))))) cn C f h1 b h2⟩,
      h_BadEvent := ⟨_, _, .own (PySem.W.mg_of X G a_BadEvent), fun cn C f b h1 h2 => cl_all (l := [("BadMachine", (C_BadMachine, "place")), ("BadPlay", (C_BadPlay, "place")), ("BadState", (C_BadState, "place")), ("BadTrace", (C_BadTrace, "place")), ("BadText", (C_BadText, "place")), ("BadEvent", (C_BadEvent, "event")), ("BadKey", (C_BadKey, "key")), ("BadBoard", (C_BadBoard, "many")), ("BadQuestion", (C_BadQuestion, "")), ("Missing", (C_Missing, "number"))]) (R := fun cn C f => ∀ b, tb_BadEvent.lookup cn = some b → PySem.W.exmOne K (.ref C) (.ref C_BadEvent) = some b ∧ PySem.W.kitOne K (.ref C) (.ref C_BadEvent) = some b) (fa_cons (hd_el rfl h_BadEvent_BadMachine) (fa_cons (hd_el rfl h_BadEvent_BadPlay) (fa_cons (hd_el rfl h_BadEvent_BadState) (fa_cons (hd_el rfl h_BadEvent_BadTrace) (fa_cons (hd_el rfl h_BadEvent_BadText) (fa_cons (hd_el rfl h_BadEvent_BadEvent) (fa_cons (hd_el rfl h_BadEvent_BadKey) (fa_cons (hd_el rfl h_BadEvent_BadBoard) (fa_cons (hd_el rfl h_BadEvent_BadQuestion) (fa_cons (hd_el rfl h_BadEvent_Missing) (fa_nil))))))))))) cn C f h1 b h2⟩,
      h_BadKey := ⟨_, _, .own (PySem.W.mg_of X G a_BadKey), fun cn C f b h1 h2 => cl_all (l := [("BadMachine", (C_BadMachine, "place")), ("BadPlay", (C_BadPlay, "place")), ("BadState", (C_BadState, "place")), ("BadTrace", (C_BadTrace, "place")), ("BadText", (C_BadText, "place")), ("BadEvent", (C_BadEvent, "event")), ("BadKey", (C_BadKey, "key")), ("BadBoard", (C_BadBoard, "many")), ("BadQuestion", (C_BadQuestion, "")), ("Missing", (C_Missing, "number"))]) (R := fun cn C f => ∀ b, tb_BadKey.lookup cn = some b → PySem.W.exmOne K (.ref C) (.ref C_BadKey) = some b ∧ PySem.W.kitOne K (.ref C) (.ref C_BadKey) = some b) (fa_cons (hd_el rfl h_BadKey_BadMachine) (fa_cons (hd_el rfl h_BadKey_BadPlay) (fa_cons (hd_el rfl h_BadKey_BadState) (fa_cons (hd_el rfl h_BadKey_BadTrace) (fa_cons (hd_el rfl h_BadKey_BadText) (fa_cons (hd_el rfl h_BadKey_BadEvent) (fa_cons (hd_el rfl h_BadKey_BadKey) (fa_cons (hd_el rfl h_BadKey_BadBoard) (fa_cons (hd_el rfl h_BadKey_BadQuestion) (fa_cons (hd_el rfl h_BadKey_Missing) (fa_nil))))))))))) cn C f h1 b h2⟩,
      h_BadMachine := ⟨_, _, .own (PySem.W.mg_of X G a_BadMachine), fun cn C f b h1 h2 => cl_all (l := [("BadMachine", (C_BadMachine, "place")), ("BadPlay", (C_BadPlay, "place")), ("BadState", (C_BadState, "place")), ("BadTrace", (C_BadTrace, "place")), ("BadText", (C_BadText, "place")), ("BadEvent", (C_BadEvent, "event")), ("BadKey", (C_BadKey, "key")), ("BadBoard", (C_BadBoard, "many")), ("BadQuestion", (C_BadQuestion, "")), ("Missing", (C_Missing, "number"))]) (R := fun cn C f => ∀ b, tb_BadMachine.lookup cn = some b → PySem.W.exmOne K (.ref C) (.ref C_BadMachine) = some b ∧ PySem.W.kitOne K (.ref C) (.ref C_BadMachine) = some b) (fa_cons (hd_el rfl h_BadMachine_BadMachine) (fa_cons (hd_el rfl h_BadMachine_BadPlay) (fa_cons (hd_el rfl h_BadMachine_BadState) (fa_cons (hd_el rfl h_BadMachine_BadTrace) (fa_cons (hd_el rfl h_BadMachine_BadText) (fa_cons (hd_el rfl h_BadMachine_BadEvent) (fa_cons (hd_el rfl h_BadMachine_BadKey) (fa_cons (hd_el rfl h_BadMachine_BadBoard) (fa_cons (hd_el rfl h_BadMachine_BadQuestion) (fa_cons (hd_el rfl h_BadMachine_Missing) (fa_nil))))))))))) cn C f h1 b h2⟩,
      h_BadPlay := ⟨_, _, .own (PySem.W.mg_of X G a_BadPlay), fun cn C f b h1 h2 => cl_all (l := [("BadMachine", (C_BadMachine, "place")), ("BadPlay", (C_BadPlay, "place")), ("BadState", (C_BadState, "place")), ("BadTrace", (C_BadTrace, "place")), ("BadText", (C_BadText, "place")), ("BadEvent", (C_BadEvent, "event")), ("BadKey", (C_BadKey, "key")), ("BadBoard", (C_BadBoard, "many")), ("BadQuestion", (C_BadQuestion, "")), ("Missing", (C_Missing, "number"))]) (R := fun cn C f => ∀ b, tb_BadPlay.lookup cn = some b → PySem.W.exmOne K (.ref C) (.ref C_BadPlay) = some b ∧ PySem.W.kitOne K (.ref C) (.ref C_BadPlay) = some b) (fa_cons (hd_el rfl h_BadPlay_BadMachine) (fa_cons (hd_el rfl h_BadPlay_BadPlay) (fa_cons (hd_el rfl h_BadPlay_BadState) (fa_cons (hd_el rfl h_BadPlay_BadTrace) (fa_cons (hd_el rfl h_BadPlay_BadText) (fa_cons (hd_el rfl h_BadPlay_BadEvent) (fa_cons (hd_el rfl h_BadPlay_BadKey) (fa_cons (hd_el rfl h_BadPlay_BadBoard) (fa_cons (hd_el rfl h_BadPlay_BadQuestion) (fa_cons (hd_el rfl h_BadPlay_Missing) (fa_nil))))))))))) cn C f h1 b h2⟩,
      h_BadQuestion := ⟨_, _, .own (PySem.W.mg_of X G a_BadQuestion), fun cn C f b h1 h2 => cl_all (l := [("BadMachine", (C_BadMachine, "place")), ("BadPlay", (C_BadPlay, "place")), ("BadState", (C_BadState, "place")), ("BadTrace", (C_BadTrace, "place")), ("BadText", (C_BadText, "place")), ("BadEvent", (C_BadEvent, "event")), ("BadKey", (C_BadKey, "key")), ("BadBoard", (C_BadBoard, "many")), ("BadQuestion", (C_BadQuestion, "")), ("Missing", (C_Missing, "number"))]) (R := fun cn C f => ∀ b, tb_BadQuestion.lookup cn = some b → PySem.W.exmOne K (.ref C) (.ref C_BadQuestion) = some b ∧ PySem.W.kitOne K (.ref C) (.ref C_BadQuestion) = some b) (fa_cons (hd_el rfl h_BadQuestion_BadMachine) (fa_cons (hd_el rfl h_BadQuestion_BadPlay) (fa_cons (hd_el rfl h_BadQuestion_BadState) (fa_cons (hd_el rfl h_BadQuestion_BadTrace) (fa_cons (hd_el rfl h_BadQuestion_BadText) (fa_cons (hd_el rfl h_BadQuestion_BadEvent) (fa_cons (hd_el rfl h_BadQuestion_BadKey) (fa_cons (hd_el rfl h_BadQuestion_BadBoard) (fa_cons (hd_el rfl h_BadQuestion_BadQuestion) (fa_cons (hd_el rfl h_BadQuestion_Missing) (fa_nil))))))))))) cn C f h1 b h2⟩,
      h_BadState := ⟨_, _, .own (PySem.W.mg_of X G a_BadState), fun cn C f b h1 h2 => cl_all (l := [("BadMachine", (C_BadMachine, "place")), ("BadPlay", (C_BadPlay, "place")), ("BadState", (C_BadState, "place")), ("BadTrace", (C_BadTrace, "place")), ("BadText", (C_BadText, "place")), ("BadEvent", (C_BadEvent, "event")), ("BadKey", (C_BadKey, "key")), ("BadBoard", (C_BadBoard, "many")), ("BadQuestion", (C_BadQuestion, "")), ("Missing", (C_Missing, "number"))]) (R := fun cn C f => ∀ b, tb_BadState.lookup cn = some b → PySem.W.exmOne K (.ref C) (.ref C_BadState) = some b ∧ PySem.W.kitOne K (.ref C) (.ref C_BadState) = some b) (fa_cons (hd_el rfl h_BadState_BadMachine) (fa_cons (hd_el rfl h_BadState_BadPlay) (fa_cons (hd_el rfl h_BadState_BadState) (fa_cons (hd_el rfl h_BadState_BadTrace) (fa_cons (hd_el rfl h_BadState_BadText) (fa_cons (hd_el rfl h_BadState_BadEvent) (fa_cons (hd_el rfl h_BadState_BadKey) (fa_cons (hd_el rfl h_BadState_BadBoard) (fa_cons (hd_el rfl h_BadState_BadQuestion) (fa_cons (hd_el rfl h_BadState_Missing) (fa_nil))))))))))) cn C f h1 b h2⟩,
      h_BadText := ⟨_, _, .own (PySem.W.mg_of X G a_BadText), fun cn C f b h1 h2 => cl_all (l := [("BadMachine", (C_BadMachine, "place")), ("BadPlay", (C_BadPlay, "place")), ("BadState", (C_BadState, "place")), ("BadTrace", (C_BadTrace, "place")), ("BadText", (C_BadText, "place")), ("BadEvent", (C_BadEvent, "event")), ("BadKey", (C_BadKey, "key")), ("BadBoard", (C_BadBoard, "many")), ("BadQuestion", (C_BadQuestion, "")), ("Missing", (C_Missing, "number"))]) (R := fun cn C f => ∀ b, tb_BadText.lookup cn = some b → PySem.W.exmOne K (.ref C) (.ref C_BadText) = some b ∧ PySem.W.kitOne K (.ref C) (.ref C_BadText) = some b) (fa_cons (hd_el rfl h_BadText_BadMachine) (fa_cons (hd_el rfl h_BadText_BadPlay) (fa_cons (hd_el rfl h_BadText_BadState) (fa_cons (hd_el rfl h_BadText_BadTrace) (fa_cons (hd_el rfl h_BadText_BadText) (fa_cons (hd_el rfl h_BadText_BadEvent) (fa_cons (hd_el rfl h_BadText_BadKey) (fa_cons (hd_el rfl h_BadText_BadBoard) (fa_cons (hd_el rfl h_BadText_BadQuestion) (fa_cons (hd_el rfl h_BadText_Missing) (fa_nil))))))))))) cn C f h1 b h2⟩,
      h_BadTrace := ⟨_, _, .own (PySem.W.mg_of X G a_BadTrace), fun cn C f b h1 h2 => cl_all (l := [("BadMachine", (C_BadMachine, "place")), ("BadPlay", (C_BadPlay, "place")), ("BadState", (C_BadState, "place")), ("BadTrace", (C_BadTrace, "place")), ("BadText", (C_BadText, "place")), ("BadEvent", (C_BadEvent, "event")), ("BadKey", (C_BadKey, "key")), ("BadBoard", (C_BadBoard, "many")), ("BadQuestion", (C_BadQuestion, "")), ("Missing", (C_Missing, "number"))]) (R := fun cn C f => ∀ b, tb_BadTrace.lookup cn = some b → PySem.W.exmOne K (.ref C) (.ref C_BadTrace) = some b ∧ PySem.W.kitOne K (.ref C) (.ref C_BadTrace) = some b) (fa_cons (hd_el rfl h_BadTrace_BadMachine) (fa_cons (hd_el rfl h_BadTrace_BadPlay) (fa_cons (hd_el rfl h_BadTrace_BadState) (fa_cons (hd_el rfl h_BadTrace_BadTrace) (fa_cons (hd_el rfl h_BadTrace_BadText) (fa_cons (hd_el rfl h_BadTrace_BadEvent) (fa_cons (hd_el rfl h_BadTrace_BadKey) (fa_cons (hd_el rfl h_BadTrace_BadBoard) (fa_cons (hd_el rfl h_BadTrace_BadQuestion) (fa_cons (hd_el rfl h_BadTrace_Missing) (fa_nil))))))))))) cn C f h1 b h2⟩,
      h_LookupError := ⟨_, _, .blt (PySem.W.mg_none_of X G z_LookupError) (show bootBuiltins "LookupError" = some (.type "LookupError") from by decide +kernel) (by decide), fun cn C f b h1 h2 => cl_all (l := [("BadMachine", (C_BadMachine, "place")), ("BadPlay", (C_BadPlay, "place")), ("BadState", (C_BadState, "place")), ("BadTrace", (C_BadTrace, "place")), ("BadText", (C_BadText, "place")), ("BadEvent", (C_BadEvent, "event")), ("BadKey", (C_BadKey, "key")), ("BadBoard", (C_BadBoard, "many")), ("BadQuestion", (C_BadQuestion, "")), ("Missing", (C_Missing, "number"))]) (R := fun cn C f => ∀ b, tb_LookupError.lookup cn = some b → PySem.W.exmOne K (.ref C) (.type "LookupError") = some b ∧ PySem.W.kitOne K (.ref C) (.type "LookupError") = some b) (fa_cons (hd_el rfl h_LookupError_BadMachine) (fa_cons (hd_el rfl h_LookupError_BadPlay) (fa_cons (hd_el rfl h_LookupError_BadState) (fa_cons (hd_el rfl h_LookupError_BadTrace) (fa_cons (hd_el rfl h_LookupError_BadText) (fa_cons (hd_el rfl h_LookupError_BadEvent) (fa_cons (hd_el rfl h_LookupError_BadKey) (fa_cons (hd_el rfl h_LookupError_BadBoard) (fa_cons (hd_el rfl h_LookupError_BadQuestion) (fa_cons (hd_el rfl h_LookupError_Missing) (fa_nil))))))))))) cn C f h1 b h2⟩,
      h_Missing := ⟨_, _, .own (PySem.W.mg_of X G a_Missing), fun cn C f b h1 h2 => cl_all (l := [("BadMachine", (C_BadMachine, "place")), ("BadPlay", (C_BadPlay, "place")), ("BadState", (C_BadState, "place")), ("BadTrace", (C_BadTrace, "place")), ("BadText", (C_BadText, "place")), ("BadEvent", (C_BadEvent, "event")), ("BadKey", (C_BadKey, "key")), ("BadBoard", (C_BadBoard, "many")), ("BadQuestion", (C_BadQuestion, "")), ("Missing", (C_Missing, "number"))]) (R := fun cn C f => ∀ b, tb_Missing.lookup cn = some b → PySem.W.exmOne K (.ref C) (.ref C_Missing) = some b ∧ PySem.W.kitOne K (.ref C) (.ref C_Missing) = some b) (fa_cons (hd_el rfl h_Missing_BadMachine) (fa_cons (hd_el rfl h_Missing_BadPlay) (fa_cons (hd_el rfl h_Missing_BadState) (fa_cons (hd_el rfl h_Missing_BadTrace) (fa_cons (hd_el rfl h_Missing_BadText) (fa_cons (hd_el rfl h_Missing_BadEvent) (fa_cons (hd_el rfl h_Missing_BadKey) (fa_cons (hd_el rfl h_Missing_BadBoard) (fa_cons (hd_el rfl h_Missing_BadQuestion) (fa_cons (hd_el rfl h_Missing_Missing) (fa_nil))))))))))) cn C f h1 b h2⟩,
      h_ValueError := ⟨_, _, .blt (PySem.W.mg_none_of X G z_ValueError) (show bootBuiltins "ValueError" = some (.type "ValueError") from by decide +kernel) (by decide), fun cn C f b h1 h2 => cl_all (l := [("BadMachine", (C_BadMachine, "place")), ("BadPlay", (C_BadPlay, "place")), ("BadState", (C_BadState, "place")), ("BadTrace", (C_BadTrace, "place")), ("BadText", (C_BadText, "place")), ("BadEvent", (C_BadEvent, "event")), ("BadKey", (C_BadKey, "key")), ("BadBoard", (C_BadBoard, "many")), ("BadQuestion", (C_BadQuestion, "")), ("Missing", (C_Missing, "number"))]) (R := fun cn C f => ∀ b, tb_ValueError.lookup cn = some b → PySem.W.exmOne K (.ref C) (.type "ValueError") = some b ∧ PySem.W.kitOne K (.ref C) (.type "ValueError") = some b) (fa_cons (hd_el rfl h_ValueError_BadMachine) (fa_cons (hd_el rfl h_ValueError_BadPlay) (fa_cons (hd_el rfl h_ValueError_BadState) (fa_cons (hd_el rfl h_ValueError_BadTrace) (fa_cons (hd_el rfl h_ValueError_BadText) (fa_cons (hd_el rfl h_ValueError_BadEvent) (fa_cons (hd_el rfl h_ValueError_BadKey) (fa_cons (hd_el rfl h_ValueError_BadBoard) (fa_cons (hd_el rfl h_ValueError_BadQuestion) (fa_cons (hd_el rfl h_ValueError_Missing) (fa_nil))))))))))) cn C f h1 b h2⟩,
      h_VoiceError := ⟨_, _, .own (PySem.W.mg_of X G a_VoiceError), fun cn C f b h1 h2 => cl_all (l := [("BadMachine", (C_BadMachine, "place")), ("BadPlay", (C_BadPlay, "place")), ("BadState", (C_BadState, "place")), ("BadTrace", (C_BadTrace, "place")), ("BadText", (C_BadText, "place")), ("BadEvent", (C_BadEvent, "event")), ("BadKey", (C_BadKey, "key")), ("BadBoard", (C_BadBoard, "many")), ("BadQuestion", (C_BadQuestion, "")), ("Missing", (C_Missing, "number"))]) (R := fun cn C f => ∀ b, tb_VoiceError.lookup cn = some b → PySem.W.exmOne K (.ref C) (.ref C_VoiceError) = some b ∧ PySem.W.kitOne K (.ref C) (.ref C_VoiceError) = some b) (fa_cons (hd_el rfl h_VoiceError_BadMachine) (fa_cons (hd_el rfl h_VoiceError_BadPlay) (fa_cons (hd_el rfl h_VoiceError_BadState) (fa_cons (hd_el rfl h_VoiceError_BadTrace) (fa_cons (hd_el rfl h_VoiceError_BadText) (fa_cons (hd_el rfl h_VoiceError_BadEvent) (fa_cons (hd_el rfl h_VoiceError_BadKey) (fa_cons (hd_el rfl h_VoiceError_BadBoard) (fa_cons (hd_el rfl h_VoiceError_BadQuestion) (fa_cons (hd_el rfl h_VoiceError_Missing) (fa_nil))))))))))) cn C f h1 b h2⟩,
      fo_event := fun c hc C f h => cl_all (l := [("BadMachine", (C_BadMachine, "place")), ("BadPlay", (C_BadPlay, "place")), ("BadState", (C_BadState, "place")), ("BadTrace", (C_BadTrace, "place")), ("BadText", (C_BadText, "place")), ("BadEvent", (C_BadEvent, "event")), ("BadKey", (C_BadKey, "key")), ("BadBoard", (C_BadBoard, "many")), ("BadQuestion", (C_BadQuestion, "")), ("Missing", (C_Missing, "number"))]) (R := fun cn _ f => cs_event.contains cn = true → f = "event") (fa_cons (fun z => absurd z (show ¬ (cs_event.contains ("BadMachine" : Str) = true) by decide)) (fa_cons (fun z => absurd z (show ¬ (cs_event.contains ("BadPlay" : Str) = true) by decide)) (fa_cons (fun z => absurd z (show ¬ (cs_event.contains ("BadState" : Str) = true) by decide)) (fa_cons (fun z => absurd z (show ¬ (cs_event.contains ("BadTrace" : Str) = true) by decide)) (fa_cons (fun z => absurd z (show ¬ (cs_event.contains ("BadText" : Str) = true) by decide)) (fa_cons (fun _ => rfl) (fa_cons (fun z => absurd z (show ¬ (cs_event.contains ("BadKey" : Str) = true) by decide)) (fa_cons (fun z => absurd z (show ¬ (cs_event.contains ("BadBoard" : Str) = true) by decide)) (fa_cons (fun z => absurd z (show ¬ (cs_event.contains ("BadQuestion" : Str) = true) by decide)) (fa_cons (fun z => absurd z (show ¬ (cs_event.contains ("Missing" : Str) = true) by decide)) (fa_nil))))))))))) c C f h hc,
      fo_key := fun c hc C f h => cl_all (l := [("BadMachine", (C_BadMachine, "place")), ("BadPlay", (C_BadPlay, "place")), ("BadState", (C_BadState, "place")), ("BadTrace", (C_BadTrace, "place")), ("BadText", (C_BadText, "place")), ("BadEvent", (C_BadEvent, "event")), ("BadKey", (C_BadKey, "key")), ("BadBoard", (C_BadBoard, "many")), ("BadQuestion", (C_BadQuestion, "")), ("Missing", (C_Missing, "number"))]) (R := fun cn _ f => cs_key.contains cn = true → f = "key") (fa_cons (fun z => absurd z (show ¬ (cs_key.contains ("BadMachine" : Str) = true) by decide)) (fa_cons (fun z => absurd z (show ¬ (cs_key.contains ("BadPlay" : Str) = true) by decide)) (fa_cons (fun z => absurd z (show ¬ (cs_key.contains ("BadState" : Str) = true) by decide)) (fa_cons (fun z => absurd z (show ¬ (cs_key.contains ("BadTrace" : Str) = true) by decide)) (fa_cons (fun z => absurd z (show ¬ (cs_key.contains ("BadText" : Str) = true) by decide)) (fa_cons (fun z => absurd z (show ¬ (cs_key.contains ("BadEvent" : Str) = true) by decide)) (fa_cons (fun _ => rfl) (fa_cons (fun z => absurd z (show ¬ (cs_key.contains ("BadBoard" : Str) = true) by decide)) (fa_cons (fun z => absurd z (show ¬ (cs_key.contains ("BadQuestion" : Str) = true) by decide)) (fa_cons (fun z => absurd z (show ¬ (cs_key.contains ("Missing" : Str) = true) by decide)) (fa_nil))))))))))) c C f h hc,
      fo_many := fun c hc C f h => cl_all (l := [("BadMachine", (C_BadMachine, "place")), ("BadPlay", (C_BadPlay, "place")), ("BadState", (C_BadState, "place")), ("BadTrace", (C_BadTrace, "place")), ("BadText", (C_BadText, "place")), ("BadEvent", (C_BadEvent, "event")), ("BadKey", (C_BadKey, "key")), ("BadBoard", (C_BadBoard, "many")), ("BadQuestion", (C_BadQuestion, "")), ("Missing", (C_Missing, "number"))]) (R := fun cn _ f => cs_many.contains cn = true → f = "many") (fa_cons (fun z => absurd z (show ¬ (cs_many.contains ("BadMachine" : Str) = true) by decide)) (fa_cons (fun z => absurd z (show ¬ (cs_many.contains ("BadPlay" : Str) = true) by decide)) (fa_cons (fun z => absurd z (show ¬ (cs_many.contains ("BadState" : Str) = true) by decide)) (fa_cons (fun z => absurd z (show ¬ (cs_many.contains ("BadTrace" : Str) = true) by decide)) (fa_cons (fun z => absurd z (show ¬ (cs_many.contains ("BadText" : Str) = true) by decide)) (fa_cons (fun z => absurd z (show ¬ (cs_many.contains ("BadEvent" : Str) = true) by decide)) (fa_cons (fun z => absurd z (show ¬ (cs_many.contains ("BadKey" : Str) = true) by decide)) (fa_cons (fun _ => rfl) (fa_cons (fun z => absurd z (show ¬ (cs_many.contains ("BadQuestion" : Str) = true) by decide)) (fa_cons (fun z => absurd z (show ¬ (cs_many.contains ("Missing" : Str) = true) by decide)) (fa_nil))))))))))) c C f h hc,
      fo_number := fun c hc C f h => cl_all (l := [("BadMachine", (C_BadMachine, "place")), ("BadPlay", (C_BadPlay, "place")), ("BadState", (C_BadState, "place")), ("BadTrace", (C_BadTrace, "place")), ("BadText", (C_BadText, "place")), ("BadEvent", (C_BadEvent, "event")), ("BadKey", (C_BadKey, "key")), ("BadBoard", (C_BadBoard, "many")), ("BadQuestion", (C_BadQuestion, "")), ("Missing", (C_Missing, "number"))]) (R := fun cn _ f => cs_number.contains cn = true → f = "number") (fa_cons (fun z => absurd z (show ¬ (cs_number.contains ("BadMachine" : Str) = true) by decide)) (fa_cons (fun z => absurd z (show ¬ (cs_number.contains ("BadPlay" : Str) = true) by decide)) (fa_cons (fun z => absurd z (show ¬ (cs_number.contains ("BadState" : Str) = true) by decide)) (fa_cons (fun z => absurd z (show ¬ (cs_number.contains ("BadTrace" : Str) = true) by decide)) (fa_cons (fun z => absurd z (show ¬ (cs_number.contains ("BadText" : Str) = true) by decide)) (fa_cons (fun z => absurd z (show ¬ (cs_number.contains ("BadEvent" : Str) = true) by decide)) (fa_cons (fun z => absurd z (show ¬ (cs_number.contains ("BadKey" : Str) = true) by decide)) (fa_cons (fun z => absurd z (show ¬ (cs_number.contains ("BadBoard" : Str) = true) by decide)) (fa_cons (fun z => absurd z (show ¬ (cs_number.contains ("BadQuestion" : Str) = true) by decide)) (fa_cons (fun _ => rfl) (fa_nil))))))))))) c C f h hc,
      fo_place := fun c hc C f h => cl_all (l := [("BadMachine", (C_BadMachine, "place")), ("BadPlay", (C_BadPlay, "place")), ("BadState", (C_BadState, "place")), ("BadTrace", (C_BadTrace, "place")), ("BadText", (C_BadText, "place")), ("BadEvent", (C_BadEvent, "event")), ("BadKey", (C_BadKey, "key")), ("BadBoard", (C_BadBoard, "many")), ("BadQuestion", (C_BadQuestion, "")), ("Missing", (C_Missing, "number"))]) (R := fun cn _ f => cs_place.contains cn = true → f = "place") (fa_cons (fun _ => rfl) (fa_cons (fun _ => rfl) (fa_cons (fun _ => rfl) (fa_cons (fun _ => rfl) (fa_cons (fun _ => rfl) (fa_cons (fun z => absurd z (show ¬ (cs_place.contains ("BadEvent" : Str) = true) by decide)) (fa_cons (fun z => absurd z (show ¬ (cs_place.contains ("BadKey" : Str) = true) by decide)) (fa_cons (fun z => absurd z (show ¬ (cs_place.contains ("BadBoard" : Str) = true) by decide)) (fa_cons (fun z => absurd z (show ¬ (cs_place.contains ("BadQuestion" : Str) = true) by decide)) (fa_cons (fun z => absurd z (show ¬ (cs_place.contains ("Missing" : Str) = true) by decide)) (fa_nil))))))))))) c C f h hc,
      k := cl_all (fa_cons (⟨E_BadMachine.x, E_BadMachine.e, E_BadMachine.s, E_BadMachine.c.noF⟩) (fa_cons (⟨E_BadPlay.x, E_BadPlay.e, E_BadPlay.s, E_BadPlay.c.noF⟩) (fa_cons (⟨E_BadState.x, E_BadState.e, E_BadState.s, E_BadState.c.noF⟩) (fa_cons (⟨E_BadTrace.x, E_BadTrace.e, E_BadTrace.s, E_BadTrace.c.noF⟩) (fa_cons (⟨E_BadText.x, E_BadText.e, E_BadText.s, E_BadText.c.noF⟩) (fa_cons (⟨E_BadEvent.x, E_BadEvent.e, E_BadEvent.s, E_BadEvent.c.noF⟩) (fa_cons (⟨E_BadKey.x, E_BadKey.e, E_BadKey.s, E_BadKey.c.noF⟩) (fa_cons (⟨E_BadBoard.x, E_BadBoard.e, E_BadBoard.s, E_BadBoard.c.noF⟩) (fa_cons (⟨E_BadQuestion.x, E_BadQuestion.e, E_BadQuestion.s, E_BadQuestion.noF⟩) (fa_cons (⟨E_Missing.x, E_Missing.e, E_Missing.s, E_Missing.c.noF⟩) (fa_nil))))))))))) }
  have F__law_begun := fun_mk (st := s__law_begun) l__law_begun c__law_begun k__law_begun
  have F__law_draw := fun_mk (st := s__law_draw) l__law_draw c__law_draw k__law_draw
  have F__law_of := fun_mk (st := s__law_of) l__law_of c__law_of k__law_of
  have F__law_marks := fun_mk (st := s__law_marks) l__law_marks c__law_marks k__law_marks
  have F__law_fields := fun_mk (st := s__law_fields) l__law_fields c__law_fields k__law_fields
  have F_law := fun_mk (st := s_law) l_law c_law k_law
  have K__law_begun : Kf P w K mg base 1 "_law_begun" (spBeg K) := kf__law_begun ⟨PySem.W.mg_none_of X G z_int⟩ F__law_begun (PySem.W.mg_of X G a__law_begun)
  have K__law_draw := fun M : Addr => kf__law_draw (T M) F__law_draw (PySem.W.mg_of X G a__law_draw) 
  have K__law_marks := fun M : Addr => kf__law_marks (T M) F__law_marks (PySem.W.mg_of X G a__law_marks) 
  have K__law_of := fun M : Addr => kf__law_of (T M) F__law_of (PySem.W.mg_of X G a__law_of) (K__law_draw M)
  have K__law_fields := fun M : Addr => kf__law_fields (T M) F__law_fields (PySem.W.mg_of X G a__law_fields) 
  exact fn_law T F_law K__law_begun K__law_draw K__law_of K__law_marks K__law_fields hSM
end
end K01
open PySem PySem.W PyProof.Rows in
set_option maxRecDepth 100000 in
set_option maxHeartbeats 0 in
theorem PySem.Challenge.cw_stolenvoices_k01_errors_holds : PySem.Challenge.rw_stolenvoices_k01_errors.Holds := by
  w_on; o_law; k_head; (case hw => w_witness2)
  k_fill
  refine' DE.walk_deN (l := PySem.Challenge.rw_stolenvoices_k01_errors) (k := 4) (fb := K01.fb_law) rfl rfl ⟨rfl, by decide, by decide⟩ (fun w h Y => PySem.W.kIn_of Y) ?F ?HIN K01.law_true
  case HIN => rfl
  case F =>
    intro w mg fa h KX G hmg
    refine' K01.all_mk KX G hmg ?z_LookupError ?z_ValueError ?z_enumerate ?z_int ?z_isinstance ?z_len ?z_range ?z_repr ?z_super ?a__law_begun ?l__law_begun ?c__law_begun ?k__law_begun ?a__law_draw ?l__law_draw ?c__law_draw ?k__law_draw ?a__law_of ?l__law_of ?c__law_of ?k__law_of ?a__law_marks ?l__law_marks ?c__law_marks ?k__law_marks ?a__law_fields ?l__law_fields ?c__law_fields ?k__law_fields ?a_law ?l_law ?c_law ?k_law ?a_BadMachine ?e_BadMachine ?a_BadPlay ?e_BadPlay ?a_BadState ?e_BadState ?a_BadTrace ?e_BadTrace ?a_BadText ?e_BadText ?a_BadEvent ?e_BadEvent ?a_BadKey ?e_BadKey ?a_BadBoard ?e_BadBoard ?a_BadQuestion ?e_BadQuestion ?a_Missing ?e_Missing ?h_BadBoard_BadMachine ?h_BadBoard_BadPlay ?h_BadBoard_BadState ?h_BadBoard_BadTrace ?h_BadBoard_BadText ?h_BadBoard_BadEvent ?h_BadBoard_BadKey ?h_BadBoard_BadBoard ?h_BadBoard_BadQuestion ?h_BadBoard_Missing ?h_BadEvent_BadMachine ?h_BadEvent_BadPlay ?h_BadEvent_BadState ?h_BadEvent_BadTrace ?h_BadEvent_BadText ?h_BadEvent_BadEvent ?h_BadEvent_BadKey ?h_BadEvent_BadBoard ?h_BadEvent_BadQuestion ?h_BadEvent_Missing ?h_BadKey_BadMachine ?h_BadKey_BadPlay ?h_BadKey_BadState ?h_BadKey_BadTrace ?h_BadKey_BadText ?h_BadKey_BadEvent ?h_BadKey_BadKey ?h_BadKey_BadBoard ?h_BadKey_BadQuestion ?h_BadKey_Missing ?h_BadMachine_BadMachine ?h_BadMachine_BadPlay ?h_BadMachine_BadState ?h_BadMachine_BadTrace ?h_BadMachine_BadText ?h_BadMachine_BadEvent ?h_BadMachine_BadKey ?h_BadMachine_BadBoard ?h_BadMachine_BadQuestion ?h_BadMachine_Missing ?h_BadPlay_BadMachine ?h_BadPlay_BadPlay ?h_BadPlay_BadState ?h_BadPlay_BadTrace ?h_BadPlay_BadText ?h_BadPlay_BadEvent ?h_BadPlay_BadKey ?h_BadPlay_BadBoard ?h_BadPlay_BadQuestion ?h_BadPlay_Missing ?h_BadQuestion_BadMachine ?h_BadQuestion_BadPlay ?h_BadQuestion_BadState ?h_BadQuestion_BadTrace ?h_BadQuestion_BadText ?h_BadQuestion_BadEvent ?h_BadQuestion_BadKey ?h_BadQuestion_BadBoard ?h_BadQuestion_BadQuestion ?h_BadQuestion_Missing ?h_BadState_BadMachine ?h_BadState_BadPlay ?h_BadState_BadState ?h_BadState_BadTrace ?h_BadState_BadText ?h_BadState_BadEvent ?h_BadState_BadKey ?h_BadState_BadBoard ?h_BadState_BadQuestion ?h_BadState_Missing ?h_BadText_BadMachine ?h_BadText_BadPlay ?h_BadText_BadState ?h_BadText_BadTrace ?h_BadText_BadText ?h_BadText_BadEvent ?h_BadText_BadKey ?h_BadText_BadBoard ?h_BadText_BadQuestion ?h_BadText_Missing ?h_BadTrace_BadMachine ?h_BadTrace_BadPlay ?h_BadTrace_BadState ?h_BadTrace_BadTrace ?h_BadTrace_BadText ?h_BadTrace_BadEvent ?h_BadTrace_BadKey ?h_BadTrace_BadBoard ?h_BadTrace_BadQuestion ?h_BadTrace_Missing ?h_Missing_BadMachine ?h_Missing_BadPlay ?h_Missing_BadState ?h_Missing_BadTrace ?h_Missing_BadText ?h_Missing_BadEvent ?h_Missing_BadKey ?h_Missing_BadBoard ?h_Missing_BadQuestion ?h_Missing_Missing ?a_VoiceError ?h_VoiceError_BadMachine ?h_VoiceError_BadPlay ?h_VoiceError_BadState ?h_VoiceError_BadTrace ?h_VoiceError_BadText ?h_VoiceError_BadEvent ?h_VoiceError_BadKey ?h_VoiceError_BadBoard ?h_VoiceError_BadQuestion ?h_VoiceError_Missing ?h_LookupError_BadMachine ?h_LookupError_BadPlay ?h_LookupError_BadState ?h_LookupError_BadTrace ?h_LookupError_BadText ?h_LookupError_BadEvent ?h_LookupError_BadKey ?h_LookupError_BadBoard ?h_LookupError_BadQuestion ?h_LookupError_Missing ?h_ValueError_BadMachine ?h_ValueError_BadPlay ?h_ValueError_BadState ?h_ValueError_BadTrace ?h_ValueError_BadText ?h_ValueError_BadEvent ?h_ValueError_BadKey ?h_ValueError_BadBoard ?h_ValueError_BadQuestion ?h_ValueError_Missing
    (case z_LookupError => k_is)
    (case z_ValueError => k_is)
    (case z_enumerate => k_is)
    (case z_int => k_is)
    (case z_isinstance => k_is)
    (case z_len => k_is)
    (case z_range => k_is)
    (case z_repr => k_is)
    (case z_super => k_is)
    (case a__law_begun => k_is)
    (case l__law_begun => k_is)
    (case c__law_begun => k_is)
    (case k__law_begun => k_is)
    (case a__law_draw => k_is)
    (case l__law_draw => k_is)
    (case c__law_draw => k_is)
    (case k__law_draw => k_is)
    (case a__law_of => k_is)
    (case l__law_of => k_is)
    (case c__law_of => k_is)
    (case k__law_of => k_is)
    (case a__law_marks => k_is)
    (case l__law_marks => k_is)
    (case c__law_marks => k_is)
    (case k__law_marks => k_is)
    (case a__law_fields => k_is)
    (case l__law_fields => k_is)
    (case c__law_fields => k_is)
    (case k__law_fields => k_is)
    (case a_law => k_is)
    (case l_law => k_is)
    (case c_law => k_is)
    (case k_law => k_is)
    (case a_BadMachine => k_is)
    (case e_BadMachine => (refine' DE.err_mkK ?xL ?rb ?sa ?exC ?tyC ?kC ?iC ?tI ?noF ?sup ?sVE ?mroC ?noAny ?noSup ?top ?lI ?cI ?lcda ?hvs ?hfile ?lcc ?ga ?gg ?hdC ?ha ?hn ?ht ?hm ?hs ?S ?hsup ?har ?hev ?hp1 ?hp2 ?hw1 ?hw2 ?hb ?hbk; (case xL => k_is); (case rb => rfl); (case sa => k_is); (case exC => k_is); (case tyC => k_is); (case kC => k_is); (case iC => k_is); (case tI => k_is); (case lI => k_is); (case noF => k_is); (case sup => ks_is); (case sVE => k_is); (case mroC => k_is); (case noAny => k_is); (case noSup => k_is); (case top => rfl); (case cI => k_is); (case lcda => k_is); (case hvs => rfl); (case hfile => rfl); (case lcc => k_is); (case ga => k_is); (case gg => k_is); (case hdC => k_is); (case ha => k_is); (case hn => k_is); (case ht => k_is); (case hm => k_is); (case hs => k_is); (case S => decide +kernel); (case hsup => rfl); (case har => exact ⟨_, rfl, rfl⟩); (case hev => exact ⟨_, fun _ => rfl⟩); (case hp1 => decide); (case hp2 => decide); (case hw1 => exact fun _ => rfl); (case hw2 => exact fun _ => rfl); (case hb => exact fun us hl => match us, hl with | [_, _], _ => rfl); (case hbk => exact fun _ _ => rfl)))
    (case a_BadPlay => k_is)
    (case e_BadPlay => (refine' DE.err_mkK ?xL ?rb ?sa ?exC ?tyC ?kC ?iC ?tI ?noF ?sup ?sVE ?mroC ?noAny ?noSup ?top ?lI ?cI ?lcda ?hvs ?hfile ?lcc ?ga ?gg ?hdC ?ha ?hn ?ht ?hm ?hs ?S ?hsup ?har ?hev ?hp1 ?hp2 ?hw1 ?hw2 ?hb ?hbk; (case xL => k_is); (case rb => rfl); (case sa => k_is); (case exC => k_is); (case tyC => k_is); (case kC => k_is); (case iC => k_is); (case tI => k_is); (case lI => k_is); (case noF => k_is); (case sup => ks_is); (case sVE => k_is); (case mroC => k_is); (case noAny => k_is); (case noSup => k_is); (case top => rfl); (case cI => k_is); (case lcda => k_is); (case hvs => rfl); (case hfile => rfl); (case lcc => k_is); (case ga => k_is); (case gg => k_is); (case hdC => k_is); (case ha => k_is); (case hn => k_is); (case ht => k_is); (case hm => k_is); (case hs => k_is); (case S => decide +kernel); (case hsup => rfl); (case har => exact ⟨_, rfl, rfl⟩); (case hev => exact ⟨_, fun _ => rfl⟩); (case hp1 => decide); (case hp2 => decide); (case hw1 => exact fun _ => rfl); (case hw2 => exact fun _ => rfl); (case hb => exact fun us hl => match us, hl with | [_, _], _ => rfl); (case hbk => exact fun _ _ => rfl)))
    (case a_BadState => k_is)
    (case e_BadState => (refine' DE.err_mkK ?xL ?rb ?sa ?exC ?tyC ?kC ?iC ?tI ?noF ?sup ?sVE ?mroC ?noAny ?noSup ?top ?lI ?cI ?lcda ?hvs ?hfile ?lcc ?ga ?gg ?hdC ?ha ?hn ?ht ?hm ?hs ?S ?hsup ?har ?hev ?hp1 ?hp2 ?hw1 ?hw2 ?hb ?hbk; (case xL => k_is); (case rb => rfl); (case sa => k_is); (case exC => k_is); (case tyC => k_is); (case kC => k_is); (case iC => k_is); (case tI => k_is); (case lI => k_is); (case noF => k_is); (case sup => ks_is); (case sVE => k_is); (case mroC => k_is); (case noAny => k_is); (case noSup => k_is); (case top => rfl); (case cI => k_is); (case lcda => k_is); (case hvs => rfl); (case hfile => rfl); (case lcc => k_is); (case ga => k_is); (case gg => k_is); (case hdC => k_is); (case ha => k_is); (case hn => k_is); (case ht => k_is); (case hm => k_is); (case hs => k_is); (case S => decide +kernel); (case hsup => rfl); (case har => exact ⟨_, rfl, rfl⟩); (case hev => exact ⟨_, fun _ => rfl⟩); (case hp1 => decide); (case hp2 => decide); (case hw1 => exact fun _ => rfl); (case hw2 => exact fun _ => rfl); (case hb => exact fun us hl => match us, hl with | [_, _], _ => rfl); (case hbk => exact fun _ _ => rfl)))
    (case a_BadTrace => k_is)
    (case e_BadTrace => (refine' DE.err_mkK ?xL ?rb ?sa ?exC ?tyC ?kC ?iC ?tI ?noF ?sup ?sVE ?mroC ?noAny ?noSup ?top ?lI ?cI ?lcda ?hvs ?hfile ?lcc ?ga ?gg ?hdC ?ha ?hn ?ht ?hm ?hs ?S ?hsup ?har ?hev ?hp1 ?hp2 ?hw1 ?hw2 ?hb ?hbk; (case xL => k_is); (case rb => rfl); (case sa => k_is); (case exC => k_is); (case tyC => k_is); (case kC => k_is); (case iC => k_is); (case tI => k_is); (case lI => k_is); (case noF => k_is); (case sup => ks_is); (case sVE => k_is); (case mroC => k_is); (case noAny => k_is); (case noSup => k_is); (case top => rfl); (case cI => k_is); (case lcda => k_is); (case hvs => rfl); (case hfile => rfl); (case lcc => k_is); (case ga => k_is); (case gg => k_is); (case hdC => k_is); (case ha => k_is); (case hn => k_is); (case ht => k_is); (case hm => k_is); (case hs => k_is); (case S => decide +kernel); (case hsup => rfl); (case har => exact ⟨_, rfl, rfl⟩); (case hev => exact ⟨_, fun _ => rfl⟩); (case hp1 => decide); (case hp2 => decide); (case hw1 => exact fun _ => rfl); (case hw2 => exact fun _ => rfl); (case hb => exact fun us hl => match us, hl with | [_, _], _ => rfl); (case hbk => exact fun _ _ => rfl)))
    (case a_BadText => k_is)
    (case e_BadText => (refine' DE.err_mkK ?xL ?rb ?sa ?exC ?tyC ?kC ?iC ?tI ?noF ?sup ?sVE ?mroC ?noAny ?noSup ?top ?lI ?cI ?lcda ?hvs ?hfile ?lcc ?ga ?gg ?hdC ?ha ?hn ?ht ?hm ?hs ?S ?hsup ?har ?hev ?hp1 ?hp2 ?hw1 ?hw2 ?hb ?hbk; (case xL => k_is); (case rb => rfl); (case sa => k_is); (case exC => k_is); (case tyC => k_is); (case kC => k_is); (case iC => k_is); (case tI => k_is); (case lI => k_is); (case noF => k_is); (case sup => ks_is); (case sVE => k_is); (case mroC => k_is); (case noAny => k_is); (case noSup => k_is); (case top => rfl); (case cI => k_is); (case lcda => k_is); (case hvs => rfl); (case hfile => rfl); (case lcc => k_is); (case ga => k_is); (case gg => k_is); (case hdC => k_is); (case ha => k_is); (case hn => k_is); (case ht => k_is); (case hm => k_is); (case hs => k_is); (case S => decide +kernel); (case hsup => rfl); (case har => exact ⟨_, rfl, rfl⟩); (case hev => exact ⟨_, fun _ => rfl⟩); (case hp1 => decide); (case hp2 => decide); (case hw1 => exact fun _ => rfl); (case hw2 => exact fun _ => rfl); (case hb => exact fun us hl => match us, hl with | [_, _], _ => rfl); (case hbk => exact fun _ _ => rfl)))
    (case a_BadEvent => k_is)
    (case e_BadEvent => (refine' DE.err_mkK ?xL ?rb ?sa ?exC ?tyC ?kC ?iC ?tI ?noF ?sup ?sVE ?mroC ?noAny ?noSup ?top ?lI ?cI ?lcda ?hvs ?hfile ?lcc ?ga ?gg ?hdC ?ha ?hn ?ht ?hm ?hs ?S ?hsup ?har ?hev ?hp1 ?hp2 ?hw1 ?hw2 ?hb ?hbk; (case xL => k_is); (case rb => rfl); (case sa => k_is); (case exC => k_is); (case tyC => k_is); (case kC => k_is); (case iC => k_is); (case tI => k_is); (case lI => k_is); (case noF => k_is); (case sup => ks_is); (case sVE => k_is); (case mroC => k_is); (case noAny => k_is); (case noSup => k_is); (case top => rfl); (case cI => k_is); (case lcda => k_is); (case hvs => rfl); (case hfile => rfl); (case lcc => k_is); (case ga => k_is); (case gg => k_is); (case hdC => k_is); (case ha => k_is); (case hn => k_is); (case ht => k_is); (case hm => k_is); (case hs => k_is); (case S => decide +kernel); (case hsup => rfl); (case har => exact ⟨_, rfl, rfl⟩); (case hev => exact ⟨_, fun _ => rfl⟩); (case hp1 => decide); (case hp2 => decide); (case hw1 => exact fun _ => rfl); (case hw2 => exact fun _ => rfl); (case hb => exact fun us hl => match us, hl with | [_, _], _ => rfl); (case hbk => exact fun _ _ => rfl)))
    (case a_BadKey => k_is)
    (case e_BadKey => (refine' DE.err_mkK ?xL ?rb ?sa ?exC ?tyC ?kC ?iC ?tI ?noF ?sup ?sVE ?mroC ?noAny ?noSup ?top ?lI ?cI ?lcda ?hvs ?hfile ?lcc ?ga ?gg ?hdC ?ha ?hn ?ht ?hm ?hs ?S ?hsup ?har ?hev ?hp1 ?hp2 ?hw1 ?hw2 ?hb ?hbk; (case xL => k_is); (case rb => rfl); (case sa => k_is); (case exC => k_is); (case tyC => k_is); (case kC => k_is); (case iC => k_is); (case tI => k_is); (case lI => k_is); (case noF => k_is); (case sup => ks_is); (case sVE => k_is); (case mroC => k_is); (case noAny => k_is); (case noSup => k_is); (case top => rfl); (case cI => k_is); (case lcda => k_is); (case hvs => rfl); (case hfile => rfl); (case lcc => k_is); (case ga => k_is); (case gg => k_is); (case hdC => k_is); (case ha => k_is); (case hn => k_is); (case ht => k_is); (case hm => k_is); (case hs => k_is); (case S => decide +kernel); (case hsup => rfl); (case har => exact ⟨_, rfl, rfl⟩); (case hev => exact ⟨_, fun _ => rfl⟩); (case hp1 => decide); (case hp2 => decide); (case hw1 => exact fun _ => rfl); (case hw2 => exact fun _ => rfl); (case hb => exact fun us hl => match us, hl with | [_, _], _ => rfl); (case hbk => exact fun _ _ => rfl)))
    (case a_BadBoard => k_is)
    (case e_BadBoard => (refine' DE.err_mkK ?xL ?rb ?sa ?exC ?tyC ?kC ?iC ?tI ?noF ?sup ?sVE ?mroC ?noAny ?noSup ?top ?lI ?cI ?lcda ?hvs ?hfile ?lcc ?ga ?gg ?hdC ?ha ?hn ?ht ?hm ?hs ?S ?hsup ?har ?hev ?hp1 ?hp2 ?hw1 ?hw2 ?hb ?hbk; (case xL => k_is); (case rb => rfl); (case sa => k_is); (case exC => k_is); (case tyC => k_is); (case kC => k_is); (case iC => k_is); (case tI => k_is); (case lI => k_is); (case noF => k_is); (case sup => ks_is); (case sVE => k_is); (case mroC => k_is); (case noAny => k_is); (case noSup => k_is); (case top => rfl); (case cI => k_is); (case lcda => k_is); (case hvs => rfl); (case hfile => rfl); (case lcc => k_is); (case ga => k_is); (case gg => k_is); (case hdC => k_is); (case ha => k_is); (case hn => k_is); (case ht => k_is); (case hm => k_is); (case hs => k_is); (case S => decide +kernel); (case hsup => rfl); (case har => exact ⟨_, rfl, rfl⟩); (case hev => exact ⟨_, fun _ => rfl⟩); (case hp1 => decide); (case hp2 => decide); (case hw1 => exact fun _ => rfl); (case hw2 => exact fun _ => rfl); (case hb => exact fun us hl => match us, hl with | [_, _], _ => rfl); (case hbk => exact fun _ _ => rfl)))
    (case a_BadQuestion => k_is)
    (case e_BadQuestion => (refine' DE.err0_mk ?ex ?exC ?tyC ?kC ?noF ?ga ?gg ?hdC ?ha ?hn ?ht ?hm ?hs; (case ex => k_exc); (case exC => k_is); (case tyC => k_is); (case kC => k_is); (case noF => k_is); (case ga => k_is); (case gg => k_is); (case hdC => k_is); (case ha => k_is); (case hn => k_is); (case ht => k_is); (case hm => k_is); (case hs => k_is)))
    (case a_Missing => k_is)
    (case e_Missing => (refine' DE.err_mkL ?xL ?sa ?exC ?tyC ?kC ?iC ?tI ?noF ?sup ?sLE ?mroC ?noAny ?noSup ?top ?lI ?cI ?lcda ?hvs ?hfile ?lcc ?ga ?gg ?hdC ?ha ?hn ?ht ?hm ?hs ?S ?hsup ?har ?hev ?hp1 ?hp2 ?hw1 ?hw2 ?hb ?hbk; (case xL => k_is); (case sa => k_is); (case exC => k_is); (case tyC => k_is); (case kC => k_is); (case iC => k_is); (case tI => k_is); (case lI => k_is); (case noF => k_is); (case sup => ks_is); (case sLE => k_is); (case mroC => k_is); (case noAny => k_is); (case noSup => k_is); (case top => rfl); (case cI => k_is); (case lcda => k_is); (case hvs => rfl); (case hfile => rfl); (case lcc => k_is); (case ga => k_is); (case gg => k_is); (case hdC => k_is); (case ha => k_is); (case hn => k_is); (case ht => k_is); (case hm => k_is); (case hs => k_is); (case S => decide +kernel); (case hsup => rfl); (case har => exact ⟨_, rfl, rfl⟩); (case hev => exact ⟨_, fun _ => rfl⟩); (case hp1 => decide); (case hp2 => decide); (case hw1 => exact fun _ => rfl); (case hw2 => exact fun _ => rfl); (case hb => exact fun us hl => match us, hl with | [_, _], _ => rfl); (case hbk => exact fun _ _ => rfl)))
    (case h_BadBoard_BadMachine => (refine' DE.hd_ref ?h1 ?h2 ?h3 ?h4 ?h5; (case h1 => k_is); (case h2 => k_is); (case h3 => k_is); (case h4 => k_is); (case h5 => exact Or.inr (by decide))))
    (case h_BadBoard_BadPlay => (refine' DE.hd_ref ?h1 ?h2 ?h3 ?h4 ?h5; (case h1 => k_is); (case h2 => k_is); (case h3 => k_is); (case h4 => k_is); (case h5 => exact Or.inr (by decide))))
    (case h_BadBoard_BadState => (refine' DE.hd_ref ?h1 ?h2 ?h3 ?h4 ?h5; (case h1 => k_is); (case h2 => k_is); (case h3 => k_is); (case h4 => k_is); (case h5 => exact Or.inr (by decide))))
    (case h_BadBoard_BadTrace => (refine' DE.hd_ref ?h1 ?h2 ?h3 ?h4 ?h5; (case h1 => k_is); (case h2 => k_is); (case h3 => k_is); (case h4 => k_is); (case h5 => exact Or.inr (by decide))))
    (case h_BadBoard_BadText => (refine' DE.hd_ref ?h1 ?h2 ?h3 ?h4 ?h5; (case h1 => k_is); (case h2 => k_is); (case h3 => k_is); (case h4 => k_is); (case h5 => exact Or.inr (by decide))))
    (case h_BadBoard_BadEvent => (refine' DE.hd_ref ?h1 ?h2 ?h3 ?h4 ?h5; (case h1 => k_is); (case h2 => k_is); (case h3 => k_is); (case h4 => k_is); (case h5 => exact Or.inr (by decide))))
    (case h_BadBoard_BadKey => (refine' DE.hd_ref ?h1 ?h2 ?h3 ?h4 ?h5; (case h1 => k_is); (case h2 => k_is); (case h3 => k_is); (case h4 => k_is); (case h5 => exact Or.inr (by decide))))
    (case h_BadBoard_BadBoard => (refine' DE.hd_ref ?h1 ?h2 ?h3 ?h4 ?h5; (case h1 => k_is); (case h2 => k_is); (case h3 => k_is); (case h4 => k_is); (case h5 => exact Or.inl rfl)))
    (case h_BadBoard_BadQuestion => (refine' DE.hd_ref ?h1 ?h2 ?h3 ?h4 ?h5; (case h1 => k_is); (case h2 => k_is); (case h3 => k_is); (case h4 => k_is); (case h5 => exact Or.inr (by decide))))
    (case h_BadBoard_Missing => (refine' DE.hd_ref ?h1 ?h2 ?h3 ?h4 ?h5; (case h1 => k_is); (case h2 => k_is); (case h3 => k_is); (case h4 => k_is); (case h5 => exact Or.inr (by decide))))
    (case h_BadEvent_BadMachine => (refine' DE.hd_ref ?h1 ?h2 ?h3 ?h4 ?h5; (case h1 => k_is); (case h2 => k_is); (case h3 => k_is); (case h4 => k_is); (case h5 => exact Or.inr (by decide))))
    (case h_BadEvent_BadPlay => (refine' DE.hd_ref ?h1 ?h2 ?h3 ?h4 ?h5; (case h1 => k_is); (case h2 => k_is); (case h3 => k_is); (case h4 => k_is); (case h5 => exact Or.inr (by decide))))
    (case h_BadEvent_BadState => (refine' DE.hd_ref ?h1 ?h2 ?h3 ?h4 ?h5; (case h1 => k_is); (case h2 => k_is); (case h3 => k_is); (case h4 => k_is); (case h5 => exact Or.inr (by decide))))
    (case h_BadEvent_BadTrace => (refine' DE.hd_ref ?h1 ?h2 ?h3 ?h4 ?h5; (case h1 => k_is); (case h2 => k_is); (case h3 => k_is); (case h4 => k_is); (case h5 => exact Or.inr (by decide))))
    (case h_BadEvent_BadText => (refine' DE.hd_ref ?h1 ?h2 ?h3 ?h4 ?h5; (case h1 => k_is); (case h2 => k_is); (case h3 => k_is); (case h4 => k_is); (case h5 => exact Or.inr (by decide))))
    (case h_BadEvent_BadEvent => (refine' DE.hd_ref ?h1 ?h2 ?h3 ?h4 ?h5; (case h1 => k_is); (case h2 => k_is); (case h3 => k_is); (case h4 => k_is); (case h5 => exact Or.inl rfl)))
    (case h_BadEvent_BadKey => (refine' DE.hd_ref ?h1 ?h2 ?h3 ?h4 ?h5; (case h1 => k_is); (case h2 => k_is); (case h3 => k_is); (case h4 => k_is); (case h5 => exact Or.inr (by decide))))
    (case h_BadEvent_BadBoard => (refine' DE.hd_ref ?h1 ?h2 ?h3 ?h4 ?h5; (case h1 => k_is); (case h2 => k_is); (case h3 => k_is); (case h4 => k_is); (case h5 => exact Or.inr (by decide))))
    (case h_BadEvent_BadQuestion => (refine' DE.hd_ref ?h1 ?h2 ?h3 ?h4 ?h5; (case h1 => k_is); (case h2 => k_is); (case h3 => k_is); (case h4 => k_is); (case h5 => exact Or.inr (by decide))))
    (case h_BadEvent_Missing => (refine' DE.hd_ref ?h1 ?h2 ?h3 ?h4 ?h5; (case h1 => k_is); (case h2 => k_is); (case h3 => k_is); (case h4 => k_is); (case h5 => exact Or.inr (by decide))))
    (case h_BadKey_BadMachine => (refine' DE.hd_ref ?h1 ?h2 ?h3 ?h4 ?h5; (case h1 => k_is); (case h2 => k_is); (case h3 => k_is); (case h4 => k_is); (case h5 => exact Or.inr (by decide))))
    (case h_BadKey_BadPlay => (refine' DE.hd_ref ?h1 ?h2 ?h3 ?h4 ?h5; (case h1 => k_is); (case h2 => k_is); (case h3 => k_is); (case h4 => k_is); (case h5 => exact Or.inr (by decide))))
    (case h_BadKey_BadState => (refine' DE.hd_ref ?h1 ?h2 ?h3 ?h4 ?h5; (case h1 => k_is); (case h2 => k_is); (case h3 => k_is); (case h4 => k_is); (case h5 => exact Or.inr (by decide))))
    (case h_BadKey_BadTrace => (refine' DE.hd_ref ?h1 ?h2 ?h3 ?h4 ?h5; (case h1 => k_is); (case h2 => k_is); (case h3 => k_is); (case h4 => k_is); (case h5 => exact Or.inr (by decide))))
    (case h_BadKey_BadText => (refine' DE.hd_ref ?h1 ?h2 ?h3 ?h4 ?h5; (case h1 => k_is); (case h2 => k_is); (case h3 => k_is); (case h4 => k_is); (case h5 => exact Or.inr (by decide))))
    (case h_BadKey_BadEvent => (refine' DE.hd_ref ?h1 ?h2 ?h3 ?h4 ?h5; (case h1 => k_is); (case h2 => k_is); (case h3 => k_is); (case h4 => k_is); (case h5 => exact Or.inr (by decide))))
    (case h_BadKey_BadKey => (refine' DE.hd_ref ?h1 ?h2 ?h3 ?h4 ?h5; (case h1 => k_is); (case h2 => k_is); (case h3 => k_is); (case h4 => k_is); (case h5 => exact Or.inl rfl)))
    (case h_BadKey_BadBoard => (refine' DE.hd_ref ?h1 ?h2 ?h3 ?h4 ?h5; (case h1 => k_is); (case h2 => k_is); (case h3 => k_is); (case h4 => k_is); (case h5 => exact Or.inr (by decide))))
    (case h_BadKey_BadQuestion => (refine' DE.hd_ref ?h1 ?h2 ?h3 ?h4 ?h5; (case h1 => k_is); (case h2 => k_is); (case h3 => k_is); (case h4 => k_is); (case h5 => exact Or.inr (by decide))))
    (case h_BadKey_Missing => (refine' DE.hd_ref ?h1 ?h2 ?h3 ?h4 ?h5; (case h1 => k_is); (case h2 => k_is); (case h3 => k_is); (case h4 => k_is); (case h5 => exact Or.inr (by decide))))
    (case h_BadMachine_BadMachine => (refine' DE.hd_ref ?h1 ?h2 ?h3 ?h4 ?h5; (case h1 => k_is); (case h2 => k_is); (case h3 => k_is); (case h4 => k_is); (case h5 => exact Or.inl rfl)))
    (case h_BadMachine_BadPlay => (refine' DE.hd_ref ?h1 ?h2 ?h3 ?h4 ?h5; (case h1 => k_is); (case h2 => k_is); (case h3 => k_is); (case h4 => k_is); (case h5 => exact Or.inr (by decide))))
    (case h_BadMachine_BadState => (refine' DE.hd_ref ?h1 ?h2 ?h3 ?h4 ?h5; (case h1 => k_is); (case h2 => k_is); (case h3 => k_is); (case h4 => k_is); (case h5 => exact Or.inr (by decide))))
    (case h_BadMachine_BadTrace => (refine' DE.hd_ref ?h1 ?h2 ?h3 ?h4 ?h5; (case h1 => k_is); (case h2 => k_is); (case h3 => k_is); (case h4 => k_is); (case h5 => exact Or.inr (by decide))))
    (case h_BadMachine_BadText => (refine' DE.hd_ref ?h1 ?h2 ?h3 ?h4 ?h5; (case h1 => k_is); (case h2 => k_is); (case h3 => k_is); (case h4 => k_is); (case h5 => exact Or.inr (by decide))))
    (case h_BadMachine_BadEvent => (refine' DE.hd_ref ?h1 ?h2 ?h3 ?h4 ?h5; (case h1 => k_is); (case h2 => k_is); (case h3 => k_is); (case h4 => k_is); (case h5 => exact Or.inr (by decide))))
    (case h_BadMachine_BadKey => (refine' DE.hd_ref ?h1 ?h2 ?h3 ?h4 ?h5; (case h1 => k_is); (case h2 => k_is); (case h3 => k_is); (case h4 => k_is); (case h5 => exact Or.inr (by decide))))
    (case h_BadMachine_BadBoard => (refine' DE.hd_ref ?h1 ?h2 ?h3 ?h4 ?h5; (case h1 => k_is); (case h2 => k_is); (case h3 => k_is); (case h4 => k_is); (case h5 => exact Or.inr (by decide))))
    (case h_BadMachine_BadQuestion => (refine' DE.hd_ref ?h1 ?h2 ?h3 ?h4 ?h5; (case h1 => k_is); (case h2 => k_is); (case h3 => k_is); (case h4 => k_is); (case h5 => exact Or.inr (by decide))))
    (case h_BadMachine_Missing => (refine' DE.hd_ref ?h1 ?h2 ?h3 ?h4 ?h5; (case h1 => k_is); (case h2 => k_is); (case h3 => k_is); (case h4 => k_is); (case h5 => exact Or.inr (by decide))))
    (case h_BadPlay_BadMachine => (refine' DE.hd_ref ?h1 ?h2 ?h3 ?h4 ?h5; (case h1 => k_is); (case h2 => k_is); (case h3 => k_is); (case h4 => k_is); (case h5 => exact Or.inr (by decide))))
    (case h_BadPlay_BadPlay => (refine' DE.hd_ref ?h1 ?h2 ?h3 ?h4 ?h5; (case h1 => k_is); (case h2 => k_is); (case h3 => k_is); (case h4 => k_is); (case h5 => exact Or.inl rfl)))
    (case h_BadPlay_BadState => (refine' DE.hd_ref ?h1 ?h2 ?h3 ?h4 ?h5; (case h1 => k_is); (case h2 => k_is); (case h3 => k_is); (case h4 => k_is); (case h5 => exact Or.inr (by decide))))
    (case h_BadPlay_BadTrace => (refine' DE.hd_ref ?h1 ?h2 ?h3 ?h4 ?h5; (case h1 => k_is); (case h2 => k_is); (case h3 => k_is); (case h4 => k_is); (case h5 => exact Or.inr (by decide))))
    (case h_BadPlay_BadText => (refine' DE.hd_ref ?h1 ?h2 ?h3 ?h4 ?h5; (case h1 => k_is); (case h2 => k_is); (case h3 => k_is); (case h4 => k_is); (case h5 => exact Or.inr (by decide))))
    (case h_BadPlay_BadEvent => (refine' DE.hd_ref ?h1 ?h2 ?h3 ?h4 ?h5; (case h1 => k_is); (case h2 => k_is); (case h3 => k_is); (case h4 => k_is); (case h5 => exact Or.inr (by decide))))
    (case h_BadPlay_BadKey => (refine' DE.hd_ref ?h1 ?h2 ?h3 ?h4 ?h5; (case h1 => k_is); (case h2 => k_is); (case h3 => k_is); (case h4 => k_is); (case h5 => exact Or.inr (by decide))))
    (case h_BadPlay_BadBoard => (refine' DE.hd_ref ?h1 ?h2 ?h3 ?h4 ?h5; (case h1 => k_is); (case h2 => k_is); (case h3 => k_is); (case h4 => k_is); (case h5 => exact Or.inr (by decide))))
    (case h_BadPlay_BadQuestion => (refine' DE.hd_ref ?h1 ?h2 ?h3 ?h4 ?h5; (case h1 => k_is); (case h2 => k_is); (case h3 => k_is); (case h4 => k_is); (case h5 => exact Or.inr (by decide))))
    (case h_BadPlay_Missing => (refine' DE.hd_ref ?h1 ?h2 ?h3 ?h4 ?h5; (case h1 => k_is); (case h2 => k_is); (case h3 => k_is); (case h4 => k_is); (case h5 => exact Or.inr (by decide))))
    (case h_BadQuestion_BadMachine => (refine' DE.hd_ref ?h1 ?h2 ?h3 ?h4 ?h5; (case h1 => k_is); (case h2 => k_is); (case h3 => k_is); (case h4 => k_is); (case h5 => exact Or.inr (by decide))))
    (case h_BadQuestion_BadPlay => (refine' DE.hd_ref ?h1 ?h2 ?h3 ?h4 ?h5; (case h1 => k_is); (case h2 => k_is); (case h3 => k_is); (case h4 => k_is); (case h5 => exact Or.inr (by decide))))
    (case h_BadQuestion_BadState => (refine' DE.hd_ref ?h1 ?h2 ?h3 ?h4 ?h5; (case h1 => k_is); (case h2 => k_is); (case h3 => k_is); (case h4 => k_is); (case h5 => exact Or.inr (by decide))))
    (case h_BadQuestion_BadTrace => (refine' DE.hd_ref ?h1 ?h2 ?h3 ?h4 ?h5; (case h1 => k_is); (case h2 => k_is); (case h3 => k_is); (case h4 => k_is); (case h5 => exact Or.inr (by decide))))
    (case h_BadQuestion_BadText => (refine' DE.hd_ref ?h1 ?h2 ?h3 ?h4 ?h5; (case h1 => k_is); (case h2 => k_is); (case h3 => k_is); (case h4 => k_is); (case h5 => exact Or.inr (by decide))))
    (case h_BadQuestion_BadEvent => (refine' DE.hd_ref ?h1 ?h2 ?h3 ?h4 ?h5; (case h1 => k_is); (case h2 => k_is); (case h3 => k_is); (case h4 => k_is); (case h5 => exact Or.inr (by decide))))
    (case h_BadQuestion_BadKey => (refine' DE.hd_ref ?h1 ?h2 ?h3 ?h4 ?h5; (case h1 => k_is); (case h2 => k_is); (case h3 => k_is); (case h4 => k_is); (case h5 => exact Or.inr (by decide))))
    (case h_BadQuestion_BadBoard => (refine' DE.hd_ref ?h1 ?h2 ?h3 ?h4 ?h5; (case h1 => k_is); (case h2 => k_is); (case h3 => k_is); (case h4 => k_is); (case h5 => exact Or.inr (by decide))))
    (case h_BadQuestion_BadQuestion => (refine' DE.hd_ref ?h1 ?h2 ?h3 ?h4 ?h5; (case h1 => k_is); (case h2 => k_is); (case h3 => k_is); (case h4 => k_is); (case h5 => exact Or.inl rfl)))
    (case h_BadQuestion_Missing => (refine' DE.hd_ref ?h1 ?h2 ?h3 ?h4 ?h5; (case h1 => k_is); (case h2 => k_is); (case h3 => k_is); (case h4 => k_is); (case h5 => exact Or.inr (by decide))))
    (case h_BadState_BadMachine => (refine' DE.hd_ref ?h1 ?h2 ?h3 ?h4 ?h5; (case h1 => k_is); (case h2 => k_is); (case h3 => k_is); (case h4 => k_is); (case h5 => exact Or.inr (by decide))))
    (case h_BadState_BadPlay => (refine' DE.hd_ref ?h1 ?h2 ?h3 ?h4 ?h5; (case h1 => k_is); (case h2 => k_is); (case h3 => k_is); (case h4 => k_is); (case h5 => exact Or.inr (by decide))))
    (case h_BadState_BadState => (refine' DE.hd_ref ?h1 ?h2 ?h3 ?h4 ?h5; (case h1 => k_is); (case h2 => k_is); (case h3 => k_is); (case h4 => k_is); (case h5 => exact Or.inl rfl)))
    (case h_BadState_BadTrace => (refine' DE.hd_ref ?h1 ?h2 ?h3 ?h4 ?h5; (case h1 => k_is); (case h2 => k_is); (case h3 => k_is); (case h4 => k_is); (case h5 => exact Or.inr (by decide))))
    (case h_BadState_BadText => (refine' DE.hd_ref ?h1 ?h2 ?h3 ?h4 ?h5; (case h1 => k_is); (case h2 => k_is); (case h3 => k_is); (case h4 => k_is); (case h5 => exact Or.inr (by decide))))
    (case h_BadState_BadEvent => (refine' DE.hd_ref ?h1 ?h2 ?h3 ?h4 ?h5; (case h1 => k_is); (case h2 => k_is); (case h3 => k_is); (case h4 => k_is); (case h5 => exact Or.inr (by decide))))
    (case h_BadState_BadKey => (refine' DE.hd_ref ?h1 ?h2 ?h3 ?h4 ?h5; (case h1 => k_is); (case h2 => k_is); (case h3 => k_is); (case h4 => k_is); (case h5 => exact Or.inr (by decide))))
    (case h_BadState_BadBoard => (refine' DE.hd_ref ?h1 ?h2 ?h3 ?h4 ?h5; (case h1 => k_is); (case h2 => k_is); (case h3 => k_is); (case h4 => k_is); (case h5 => exact Or.inr (by decide))))
    (case h_BadState_BadQuestion => (refine' DE.hd_ref ?h1 ?h2 ?h3 ?h4 ?h5; (case h1 => k_is); (case h2 => k_is); (case h3 => k_is); (case h4 => k_is); (case h5 => exact Or.inr (by decide))))
    (case h_BadState_Missing => (refine' DE.hd_ref ?h1 ?h2 ?h3 ?h4 ?h5; (case h1 => k_is); (case h2 => k_is); (case h3 => k_is); (case h4 => k_is); (case h5 => exact Or.inr (by decide))))
    (case h_BadText_BadMachine => (refine' DE.hd_ref ?h1 ?h2 ?h3 ?h4 ?h5; (case h1 => k_is); (case h2 => k_is); (case h3 => k_is); (case h4 => k_is); (case h5 => exact Or.inr (by decide))))
    (case h_BadText_BadPlay => (refine' DE.hd_ref ?h1 ?h2 ?h3 ?h4 ?h5; (case h1 => k_is); (case h2 => k_is); (case h3 => k_is); (case h4 => k_is); (case h5 => exact Or.inr (by decide))))
    (case h_BadText_BadState => (refine' DE.hd_ref ?h1 ?h2 ?h3 ?h4 ?h5; (case h1 => k_is); (case h2 => k_is); (case h3 => k_is); (case h4 => k_is); (case h5 => exact Or.inr (by decide))))
    (case h_BadText_BadTrace => (refine' DE.hd_ref ?h1 ?h2 ?h3 ?h4 ?h5; (case h1 => k_is); (case h2 => k_is); (case h3 => k_is); (case h4 => k_is); (case h5 => exact Or.inr (by decide))))
    (case h_BadText_BadText => (refine' DE.hd_ref ?h1 ?h2 ?h3 ?h4 ?h5; (case h1 => k_is); (case h2 => k_is); (case h3 => k_is); (case h4 => k_is); (case h5 => exact Or.inl rfl)))
    (case h_BadText_BadEvent => (refine' DE.hd_ref ?h1 ?h2 ?h3 ?h4 ?h5; (case h1 => k_is); (case h2 => k_is); (case h3 => k_is); (case h4 => k_is); (case h5 => exact Or.inr (by decide))))
    (case h_BadText_BadKey => (refine' DE.hd_ref ?h1 ?h2 ?h3 ?h4 ?h5; (case h1 => k_is); (case h2 => k_is); (case h3 => k_is); (case h4 => k_is); (case h5 => exact Or.inr (by decide))))
    (case h_BadText_BadBoard => (refine' DE.hd_ref ?h1 ?h2 ?h3 ?h4 ?h5; (case h1 => k_is); (case h2 => k_is); (case h3 => k_is); (case h4 => k_is); (case h5 => exact Or.inr (by decide))))
    (case h_BadText_BadQuestion => (refine' DE.hd_ref ?h1 ?h2 ?h3 ?h4 ?h5; (case h1 => k_is); (case h2 => k_is); (case h3 => k_is); (case h4 => k_is); (case h5 => exact Or.inr (by decide))))
    (case h_BadText_Missing => (refine' DE.hd_ref ?h1 ?h2 ?h3 ?h4 ?h5; (case h1 => k_is); (case h2 => k_is); (case h3 => k_is); (case h4 => k_is); (case h5 => exact Or.inr (by decide))))
    (case h_BadTrace_BadMachine => (refine' DE.hd_ref ?h1 ?h2 ?h3 ?h4 ?h5; (case h1 => k_is); (case h2 => k_is); (case h3 => k_is); (case h4 => k_is); (case h5 => exact Or.inr (by decide))))
    (case h_BadTrace_BadPlay => (refine' DE.hd_ref ?h1 ?h2 ?h3 ?h4 ?h5; (case h1 => k_is); (case h2 => k_is); (case h3 => k_is); (case h4 => k_is); (case h5 => exact Or.inr (by decide))))
    (case h_BadTrace_BadState => (refine' DE.hd_ref ?h1 ?h2 ?h3 ?h4 ?h5; (case h1 => k_is); (case h2 => k_is); (case h3 => k_is); (case h4 => k_is); (case h5 => exact Or.inr (by decide))))
    (case h_BadTrace_BadTrace => (refine' DE.hd_ref ?h1 ?h2 ?h3 ?h4 ?h5; (case h1 => k_is); (case h2 => k_is); (case h3 => k_is); (case h4 => k_is); (case h5 => exact Or.inl rfl)))
    (case h_BadTrace_BadText => (refine' DE.hd_ref ?h1 ?h2 ?h3 ?h4 ?h5; (case h1 => k_is); (case h2 => k_is); (case h3 => k_is); (case h4 => k_is); (case h5 => exact Or.inr (by decide))))
    (case h_BadTrace_BadEvent => (refine' DE.hd_ref ?h1 ?h2 ?h3 ?h4 ?h5; (case h1 => k_is); (case h2 => k_is); (case h3 => k_is); (case h4 => k_is); (case h5 => exact Or.inr (by decide))))
    (case h_BadTrace_BadKey => (refine' DE.hd_ref ?h1 ?h2 ?h3 ?h4 ?h5; (case h1 => k_is); (case h2 => k_is); (case h3 => k_is); (case h4 => k_is); (case h5 => exact Or.inr (by decide))))
    (case h_BadTrace_BadBoard => (refine' DE.hd_ref ?h1 ?h2 ?h3 ?h4 ?h5; (case h1 => k_is); (case h2 => k_is); (case h3 => k_is); (case h4 => k_is); (case h5 => exact Or.inr (by decide))))
    (case h_BadTrace_BadQuestion => (refine' DE.hd_ref ?h1 ?h2 ?h3 ?h4 ?h5; (case h1 => k_is); (case h2 => k_is); (case h3 => k_is); (case h4 => k_is); (case h5 => exact Or.inr (by decide))))
    (case h_BadTrace_Missing => (refine' DE.hd_ref ?h1 ?h2 ?h3 ?h4 ?h5; (case h1 => k_is); (case h2 => k_is); (case h3 => k_is); (case h4 => k_is); (case h5 => exact Or.inr (by decide))))
    (case h_Missing_BadMachine => (refine' DE.hd_ref ?h1 ?h2 ?h3 ?h4 ?h5; (case h1 => k_is); (case h2 => k_is); (case h3 => k_is); (case h4 => k_is); (case h5 => exact Or.inr (by decide))))
    (case h_Missing_BadPlay => (refine' DE.hd_ref ?h1 ?h2 ?h3 ?h4 ?h5; (case h1 => k_is); (case h2 => k_is); (case h3 => k_is); (case h4 => k_is); (case h5 => exact Or.inr (by decide))))
    (case h_Missing_BadState => (refine' DE.hd_ref ?h1 ?h2 ?h3 ?h4 ?h5; (case h1 => k_is); (case h2 => k_is); (case h3 => k_is); (case h4 => k_is); (case h5 => exact Or.inr (by decide))))
    (case h_Missing_BadTrace => (refine' DE.hd_ref ?h1 ?h2 ?h3 ?h4 ?h5; (case h1 => k_is); (case h2 => k_is); (case h3 => k_is); (case h4 => k_is); (case h5 => exact Or.inr (by decide))))
    (case h_Missing_BadText => (refine' DE.hd_ref ?h1 ?h2 ?h3 ?h4 ?h5; (case h1 => k_is); (case h2 => k_is); (case h3 => k_is); (case h4 => k_is); (case h5 => exact Or.inr (by decide))))
    (case h_Missing_BadEvent => (refine' DE.hd_ref ?h1 ?h2 ?h3 ?h4 ?h5; (case h1 => k_is); (case h2 => k_is); (case h3 => k_is); (case h4 => k_is); (case h5 => exact Or.inr (by decide))))
    (case h_Missing_BadKey => (refine' DE.hd_ref ?h1 ?h2 ?h3 ?h4 ?h5; (case h1 => k_is); (case h2 => k_is); (case h3 => k_is); (case h4 => k_is); (case h5 => exact Or.inr (by decide))))
    (case h_Missing_BadBoard => (refine' DE.hd_ref ?h1 ?h2 ?h3 ?h4 ?h5; (case h1 => k_is); (case h2 => k_is); (case h3 => k_is); (case h4 => k_is); (case h5 => exact Or.inr (by decide))))
    (case h_Missing_BadQuestion => (refine' DE.hd_ref ?h1 ?h2 ?h3 ?h4 ?h5; (case h1 => k_is); (case h2 => k_is); (case h3 => k_is); (case h4 => k_is); (case h5 => exact Or.inr (by decide))))
    (case h_Missing_Missing => (refine' DE.hd_ref ?h1 ?h2 ?h3 ?h4 ?h5; (case h1 => k_is); (case h2 => k_is); (case h3 => k_is); (case h4 => k_is); (case h5 => exact Or.inl rfl)))
    (case a_VoiceError => k_is)
    (case h_VoiceError_BadMachine => (refine' DE.hd_ref ?h1 ?h2 ?h3 ?h4 ?h5; (case h1 => k_is); (case h2 => k_is); (case h3 => k_is); (case h4 => k_is); (case h5 => exact Or.inl rfl)))
    (case h_VoiceError_BadPlay => (refine' DE.hd_ref ?h1 ?h2 ?h3 ?h4 ?h5; (case h1 => k_is); (case h2 => k_is); (case h3 => k_is); (case h4 => k_is); (case h5 => exact Or.inl rfl)))
    (case h_VoiceError_BadState => (refine' DE.hd_ref ?h1 ?h2 ?h3 ?h4 ?h5; (case h1 => k_is); (case h2 => k_is); (case h3 => k_is); (case h4 => k_is); (case h5 => exact Or.inl rfl)))
    (case h_VoiceError_BadTrace => (refine' DE.hd_ref ?h1 ?h2 ?h3 ?h4 ?h5; (case h1 => k_is); (case h2 => k_is); (case h3 => k_is); (case h4 => k_is); (case h5 => exact Or.inl rfl)))
    (case h_VoiceError_BadText => (refine' DE.hd_ref ?h1 ?h2 ?h3 ?h4 ?h5; (case h1 => k_is); (case h2 => k_is); (case h3 => k_is); (case h4 => k_is); (case h5 => exact Or.inl rfl)))
    (case h_VoiceError_BadEvent => (refine' DE.hd_ref ?h1 ?h2 ?h3 ?h4 ?h5; (case h1 => k_is); (case h2 => k_is); (case h3 => k_is); (case h4 => k_is); (case h5 => exact Or.inl rfl)))
    (case h_VoiceError_BadKey => (refine' DE.hd_ref ?h1 ?h2 ?h3 ?h4 ?h5; (case h1 => k_is); (case h2 => k_is); (case h3 => k_is); (case h4 => k_is); (case h5 => exact Or.inl rfl)))
    (case h_VoiceError_BadBoard => (refine' DE.hd_ref ?h1 ?h2 ?h3 ?h4 ?h5; (case h1 => k_is); (case h2 => k_is); (case h3 => k_is); (case h4 => k_is); (case h5 => exact Or.inl rfl)))
    (case h_VoiceError_BadQuestion => (refine' DE.hd_ref ?h1 ?h2 ?h3 ?h4 ?h5; (case h1 => k_is); (case h2 => k_is); (case h3 => k_is); (case h4 => k_is); (case h5 => exact Or.inl rfl)))
    (case h_VoiceError_Missing => (refine' DE.hd_ref ?h1 ?h2 ?h3 ?h4 ?h5; (case h1 => k_is); (case h2 => k_is); (case h3 => k_is); (case h4 => k_is); (case h5 => exact Or.inr (by decide))))
    (case h_LookupError_BadMachine => (refine' DE.hd_type ?h1 ?h2 ?h4; (case h1 => k_is); (case h2 => decide +kernel); (case h4 => k_is)))
    (case h_LookupError_BadPlay => (refine' DE.hd_type ?h1 ?h2 ?h4; (case h1 => k_is); (case h2 => decide +kernel); (case h4 => k_is)))
    (case h_LookupError_BadState => (refine' DE.hd_type ?h1 ?h2 ?h4; (case h1 => k_is); (case h2 => decide +kernel); (case h4 => k_is)))
    (case h_LookupError_BadTrace => (refine' DE.hd_type ?h1 ?h2 ?h4; (case h1 => k_is); (case h2 => decide +kernel); (case h4 => k_is)))
    (case h_LookupError_BadText => (refine' DE.hd_type ?h1 ?h2 ?h4; (case h1 => k_is); (case h2 => decide +kernel); (case h4 => k_is)))
    (case h_LookupError_BadEvent => (refine' DE.hd_type ?h1 ?h2 ?h4; (case h1 => k_is); (case h2 => decide +kernel); (case h4 => k_is)))
    (case h_LookupError_BadKey => (refine' DE.hd_type ?h1 ?h2 ?h4; (case h1 => k_is); (case h2 => decide +kernel); (case h4 => k_is)))
    (case h_LookupError_BadBoard => (refine' DE.hd_type ?h1 ?h2 ?h4; (case h1 => k_is); (case h2 => decide +kernel); (case h4 => k_is)))
    (case h_LookupError_BadQuestion => (refine' DE.hd_type ?h1 ?h2 ?h4; (case h1 => k_is); (case h2 => decide +kernel); (case h4 => k_is)))
    (case h_LookupError_Missing => (refine' DE.hd_type ?h1 ?h2 ?h4; (case h1 => k_is); (case h2 => decide +kernel); (case h4 => k_is)))
    (case h_ValueError_BadMachine => (refine' DE.hd_type ?h1 ?h2 ?h4; (case h1 => k_is); (case h2 => decide +kernel); (case h4 => k_is)))
    (case h_ValueError_BadPlay => (refine' DE.hd_type ?h1 ?h2 ?h4; (case h1 => k_is); (case h2 => decide +kernel); (case h4 => k_is)))
    (case h_ValueError_BadState => (refine' DE.hd_type ?h1 ?h2 ?h4; (case h1 => k_is); (case h2 => decide +kernel); (case h4 => k_is)))
    (case h_ValueError_BadTrace => (refine' DE.hd_type ?h1 ?h2 ?h4; (case h1 => k_is); (case h2 => decide +kernel); (case h4 => k_is)))
    (case h_ValueError_BadText => (refine' DE.hd_type ?h1 ?h2 ?h4; (case h1 => k_is); (case h2 => decide +kernel); (case h4 => k_is)))
    (case h_ValueError_BadEvent => (refine' DE.hd_type ?h1 ?h2 ?h4; (case h1 => k_is); (case h2 => decide +kernel); (case h4 => k_is)))
    (case h_ValueError_BadKey => (refine' DE.hd_type ?h1 ?h2 ?h4; (case h1 => k_is); (case h2 => decide +kernel); (case h4 => k_is)))
    (case h_ValueError_BadBoard => (refine' DE.hd_type ?h1 ?h2 ?h4; (case h1 => k_is); (case h2 => decide +kernel); (case h4 => k_is)))
    (case h_ValueError_BadQuestion => (refine' DE.hd_type ?h1 ?h2 ?h4; (case h1 => k_is); (case h2 => decide +kernel); (case h4 => k_is)))
    (case h_ValueError_Missing => (refine' DE.hd_type ?h1 ?h2 ?h4; (case h1 => k_is); (case h2 => decide +kernel); (case h4 => k_is)))

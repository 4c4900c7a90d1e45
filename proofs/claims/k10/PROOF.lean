import PyProof.Rows.All
import Wide.All
import OpenK.AllK
import Wide.FinOn
import HandS.ForMost
import HandS.Exc
import HandS.ExcOwn
import HandS.ExcInit
import HandS.IsInst
import HandS.Style
import HandS.Flow
import HandS.Lambda
import HandS.TupAny
import KE.DatumIndex
import HandS.ExcSuper
import HandS.ExcIs
import HandS.ExcField
import HandS.ExcValue
import HandS.TryMany
import HandS.Nested
import KE.KExcSuper
import KE.KExcIs
import HandS.RaiseMore
import KE.KEqDict
import PyProof.NeKinds
import PyProof.EqKinds
import HandS.Ends
import KE.GoesEnum
import HandS.TupMul
import HandS.Walk
import KE.KDflt
import HandS.More
import HandS.Deep
import HandS.SortInts
import HandS.Star
import HandS.SetFor
import HandS.Remove
import HandS.Conv
import PyProof.P3In
import PySem.Challenge.RW_stolenvoices_k10_plays_refused
set_option Elab.async false
set_option linter.all false
set_option maxRecDepth 100000
set_option maxHeartbeats 4000001
namespace DE
open PyProof.Rows PySem.Spec PySem L2

inductive D where
  | non | bl (b : Bool) | int (i : Int) | str (s : Str) | lst (xs : List D) | tup (xs : List D) | dic (kvs : List (Key × D)) | m | exc (c : Str) (v : D) | scr (ns : List Int)

structure DS where
  great : List Int
  seed : Int
  turns : Int
inductive Sl where
  | no | dat (d : D) | own (xs : List D) | fn (f c : Addr) (q : Str) (G1 : Hp)
structure Sg where
  r : List Sl
  s : DS
structure Exn where
  c : Str
  v : D
/-- the draw dict's address; the own error classes: address, field -/
structure Gam where
  M : Addr
  cl : Str → Option (Addr × Str)
  T : List (Addr × Str)
/-- what stays as it is: neither the draw dict nor a table of code objects -/
def Gam.Ok (Γ : Gam) (a : Addr) : Prop := a ≠ Γ.M ∧ ∀ p ∈ Γ.T, a ≠ p.1

/-- a caught exception: the class at C, its dict at d -/
def xob (a C d : Addr) : HO := .ext fun h => ∃ (oe : Obj) (vs : Array Value), h.get? a = some oe ∧ Zc (.ref C) (some d) oe ∧ oe.data = .fields vs
mutual
inductive Dv (K : PySem.W.Frag) (Γ : Gam) (G : Hp) : V → D → Prop
  | non : Dv K Γ G .non .non
  | bl (b : Bool) : Dv K Γ G (.bl b) (.bl b)
  | int (i : Int) : Dv K Γ G (.int i) (.int i)
  | str (s : Str) : Dv K Γ G (.str s) (.str s)
  | lst {a : Addr} {xs : List V} {ds : List D} : G a = some (.lst xs) → DvA K Γ G xs ds → Dv K Γ G (.ref a) (.lst ds)
  | tup {a : Addr} {xs : List V} {ds : List D} : SqT K G a xs → DvA K Γ G xs ds → Dv K Γ G (.ref a) (.tup ds)
  | dic {a : Addr} {xs : List (Key × V)} {ds : List (Key × D)} : G a = some (.dK xs) → DvK K Γ G xs ds → Dv K Γ G (.ref a) (.dic ds)
  | m : Dv K Γ G (.ref Γ.M) .m
  | scr {a : Addr} {ns : List Int} : SqL K G a (ns.map V.int) → Dv K Γ G (.ref a) (.scr ns)
  | exc {a d C : Addr} {f c : Str} {v : V} {w : D} : Γ.cl c = some (C, f) → G a = some (xob a C d) → G d = some (.xd [(f, v)]) → Dv K Γ G v w → Dv K Γ G (.ref a) (.exc c w)
inductive DvA (K : PySem.W.Frag) (Γ : Gam) (G : Hp) : List V → List D → Prop
  | nil : DvA K Γ G [] []
  | cons {v : V} {vs : List V} {d : D} {ds : List D} : Dv K Γ G v d → DvA K Γ G vs ds → DvA K Γ G (v :: vs) (d :: ds)
inductive DvK (K : PySem.W.Frag) (Γ : Gam) (G : Hp) : List (Key × V) → List (Key × D) → Prop
  | nil : DvK K Γ G [] []
  | cons {k : Key} {v : V} {vs : List (Key × V)} {d : D} {ds : List (Key × D)} : Dv K Γ G v d → DvK K Γ G vs ds → DvK K Γ G ((k, v) :: vs) ((k, d) :: ds)
end

def Gr (G G' : Hp) : Prop := ∀ a o, G a = some o → G' a = some o
theorem Gr.refl (G : Hp) : Gr G G := fun _ _ h => h
theorem Gr.trans {G G1 G2 : Hp} (a : Gr G G1) (b : Gr G1 G2) : Gr G G2 := fun x o h => b x o (a x o h)
theorem Gr.upd {G : Hp} {p : Addr} {o : HO} (h : G p = none) : Gr G (upd G p o) := fun a u e => by
  rw [upd_ne (ne_of_none e h)]; exact e
theorem Gr.rd {G G' : Hp} {a : Addr} {u : HO} (e : Gr G G') (h : Rd G a u) : Rd G' a u := h.imp (e a _) fun ⟨o, h⟩ => ⟨o, e a _ h⟩
theorem Gr.sqL {K : PySem.W.Frag} {G G' : Hp} {a : Addr} {xs : List V} (e : Gr G G') (h : SqL K G a xs) : SqL K G' a xs := h.imp e.rd id
theorem Gr.sqT {K : PySem.W.Frag} {G G' : Hp} {a : Addr} {xs : List V} (e : Gr G G') (h : SqT K G a xs) : SqT K G' a xs := h.imp e.rd id

section
variable {K : PySem.W.Frag} {Γ : Gam} {G G' : Hp}
mutual
theorem Dv.mono (e : Gr G G') : ∀ {v : V} {d : D}, Dv K Γ G v d → Dv K Γ G' v d
  | _, _, .non => .non
  | _, _, .bl b => .bl b
  | _, _, .int i => .int i
  | _, _, .str s => .str s
  | _, _, .lst h t => .lst (e _ _ h) (DvA.mono e t)
  | _, _, .tup h t => .tup (e.sqT h) (DvA.mono e t)
  | _, _, .dic h t => .dic (e _ _ h) (DvK.mono e t)
  | _, _, .m => .m
  | _, _, .scr h => .scr (e.sqL h)
  | _, _, .exc h1 h2 h3 t => .exc h1 (e _ _ h2) (e _ _ h3) (Dv.mono e t)
theorem DvA.mono (e : Gr G G') : ∀ {v : List V} {d : List D}, DvA K Γ G v d → DvA K Γ G' v d
  | _, _, .nil => .nil
  | _, _, .cons h t => .cons (Dv.mono e h) (DvA.mono e t)
theorem DvK.mono (e : Gr G G') : ∀ {v : List (Key × V)} {d : List (Key × D)}, DvK K Γ G v d → DvK K Γ G' v d
  | _, _, .nil => .nil
  | _, _, .cons h t => .cons (Dv.mono e h) (DvK.mono e t)
end
theorem DvA.length : ∀ {vs : List V} {ds : List D}, DvA K Γ G vs ds → vs.length = ds.length
  | _, _, .nil => rfl
  | _, _, .cons _ t => congrArg (· + 1) t.length
theorem DvA.get : ∀ {vs : List V} {ds : List D}, DvA K Γ G vs ds → ∀ (i : Nat) {d : D}, ds[i]? = some d → ∃ v, vs[i]? = some v ∧ Dv K Γ G v d
  | _, _, .nil, _, _, h => by simp at h
  | _, _, .cons h _, 0, _, e => by simp at e; subst e; exact ⟨_, rfl, h⟩
  | _, _, .cons _ t, i + 1, d, e => by
    obtain ⟨v, h1, h2⟩ := t.get i (d := d) (by simpa using e)
    exact ⟨v, by simpa using h1, h2⟩
theorem DvA.get' : ∀ {vs : List V} {ds : List D}, DvA K Γ G vs ds → ∀ (i : Nat) {v : V}, vs[i]? = some v → ∃ d, ds[i]? = some d ∧ Dv K Γ G v d
  | _, _, .nil, _, _, h => by simp at h
  | _, _, .cons h _, 0, _, e => by simp at e; subst e; exact ⟨_, rfl, h⟩
  | _, _, .cons _ t, i + 1, v, e => by
    obtain ⟨d, h1, h2⟩ := t.get' i (v := v) (by simpa using e)
    exact ⟨d, by simpa using h1, h2⟩
theorem DvA.append : ∀ {vs ws : List V} {ds es : List D}, DvA K Γ G vs ds → DvA K Γ G ws es → DvA K Γ G (vs ++ ws) (ds ++ es)
  | _, _, _, _, .nil, u => u
  | _, _, _, _, .cons h t, u => .cons h (t.append u)
theorem DvA.take : ∀ {vs : List V} {ds : List D} (n : Nat), DvA K Γ G vs ds → DvA K Γ G (vs.take n) (ds.take n)
  | _, _, 0, _ => by simp only [List.take_zero]; exact .nil
  | _, _, _ + 1, .nil => by simp only [List.take_nil]; exact .nil
  | _, _, n + 1, .cons h t => by simp only [List.take_succ_cons]; exact .cons h (t.take n)
theorem DvA.drop : ∀ {vs : List V} {ds : List D} (n : Nat), DvA K Γ G vs ds → DvA K Γ G (vs.drop n) (ds.drop n)
  | _, _, 0, h => h
  | _, _, _ + 1, .nil => by simp only [List.drop_nil]; exact .nil
  | _, _, n + 1, .cons _ t => by simp only [List.drop_succ_cons]; exact t.drop n
theorem DvA.eraseIdx : ∀ {vs : List V} {ds : List D} (n : Nat), DvA K Γ G vs ds → DvA K Γ G (vs.eraseIdx n) (ds.eraseIdx n)
  | _, _, _, .nil => by simp only [List.eraseIdx_nil]; exact .nil
  | _, _, 0, .cons _ t => t
  | _, _, n + 1, .cons h t => .cons h (t.eraseIdx n)
theorem DvA.set : ∀ {vs : List V} {ds : List D} (n : Nat) {v : V} {d : D}, DvA K Γ G vs ds → Dv K Γ G v d → DvA K Γ G (vs.set n v) (ds.set n d)
  | _, _, _, _, _, .nil, _ => by simp only [List.set_nil]; exact .nil
  | _, _, 0, _, _, .cons _ t, e => .cons e t
  | _, _, n + 1, _, _, .cons h t, e => .cons h (t.set n e)
end

/-- the draw state stands -/
def StM (Γ : Gam) (G H : Hp) (s : DS) : Prop := ∃ l, H Γ.M = some (.dK [(Sum.inr "great", .ref l), (Sum.inr "seed", .int s.seed), (Sum.inr "turns", .int s.turns)]) ∧ G l = some (.lst (s.great.map V.int))

/-- an address whose object is neither a table nor a code object -/
def Sf (H : Hp) (a : Addr) : Prop := H a = none ∨ ∃ o, H a = some o ∧ (∀ ps, o ≠ .tbl ps) ∧ ∀ c q, o ≠ LamX.CodeO c q
section
variable {H : Hp} {a : Addr}
theorem sf_new (h : H a = none) : Sf H a := .inl h
theorem sf_lst {xs : List V} (h : H a = some (.lst xs)) : Sf H a := .inr ⟨_, h, (fun _ z => by cases z), (fun _ _ z => by unfold LamX.CodeO at z; cases z)⟩
theorem sf_dK {xs : List (Key × V)} (h : H a = some (.dK xs)) : Sf H a := .inr ⟨_, h, (fun _ z => by cases z), (fun _ _ z => by unfold LamX.CodeO at z; cases z)⟩
theorem Sf.ne_code (s : Sf H a) {c : Addr} {q : Str} (h : H c = some (LamX.CodeO c q)) : c ≠ a := by
  rintro rfl
  rcases s with z | ⟨o, z, _, n⟩
  · rw [z] at h; cases h
  · rw [z] at h; cases h; exact n _ _ rfl
theorem Sf.ne_tab (s : Sf H a) {T : List (Addr × Str)} (t : LamX.Tabs T H) : ∀ p ∈ T, a ≠ p.1 := by
  rintro p hp rfl
  obtain ⟨ps, h, _⟩ := t p hp
  rcases s with z | ⟨o, z, n, _⟩
  · rw [z] at h; cases h
  · rw [z] at h; cases h; exact n _ rfl
theorem Sf.tabs (s : Sf H a) {T : List (Addr × Str)} (t : LamX.Tabs T H) {o : HO} : LamX.Tabs T (upd H a o) := fun p hp => by
  obtain ⟨ps, h1, h2, h3⟩ := t p hp
  refine ⟨ps, by rw [upd_ne (Ne.symm (s.ne_tab t p hp))]; exact h1, h2, fun pos cv hcv => ?_⟩
  obtain ⟨c, e1, e2⟩ := h3 pos cv hcv
  exact ⟨c, e1, by rw [upd_ne (s.ne_code e2)]; exact e2⟩
end
/-- what is known between two steps of a def: H0, G0 its entry -/
structure En (K : PySem.W.Frag) (Γ : Gam) (H0 G0 G H : Hp) (σ : L2.St) (g : Sg) : Prop where
  base : ∀ a o, Γ.Ok a → H0 a = some o → H a = some o
  gfr : ∀ a o, H0 a = some o → G0 a = none → G a = none
  g0 : Gr G0 G
  sub : Gr G H
  gm : G Γ.M = none
  st : StM Γ G H g.s
  len : g.r.length = σ.length
  dat : ∀ (i : Nat) d, g.r[i]? = some (Sl.dat d) → ∃ v, σ[i]? = some (some v) ∧ Dv K Γ G v d
  own : ∀ (i : Nat) xs, g.r[i]? = some (Sl.own xs) → ∃ l vs, σ[i]? = some (some (V.ref l)) ∧ H l = some (.lst vs) ∧ G l = none ∧ H0 l = none ∧ DvA K Γ G vs xs
  dis : ∀ (i j : Nat) xs ys l, g.r[i]? = some (Sl.own xs) → g.r[j]? = some (Sl.own ys) → σ[i]? = some (some (V.ref l)) → σ[j]? = some (some (V.ref l)) → i = j
  tb : LamX.Tabs Γ.T H
  gt : ∀ p ∈ Γ.T, G p.1 = none
  fn : ∀ (i : Nat) f c q G1, g.r[i]? = some (Sl.fn f c q G1) → σ[i]? = some (some (V.ref f)) ∧ H c = some (LamX.CodeO c q) ∧ Gr G1 G

theorem StM.gr {Γ : Gam} {G G' H H' : Hp} {s : DS} (h : StM Γ G H s) (e : Gr G G') (hm : H' Γ.M = H Γ.M) : StM Γ G' H' s := by
  obtain ⟨l, h1, h2⟩ := h
  exact ⟨l, hm.trans h1, e _ _ h2⟩

section
variable {K : PySem.W.Frag} {Γ : Gam} {H0 G0 G H : Hp} {σ : L2.St} {g : Sg}
theorem En.hm (E : En K Γ H0 G0 G H σ g) : ∃ o, H Γ.M = some o := let ⟨_, h, _⟩ := E.st; ⟨_, h⟩
theorem En.ok_new (E : En K Γ H0 G0 G H σ g) {a : Addr} (h : H a = none) : Γ.Ok a := ⟨let ⟨_, hM⟩ := E.hm; Ne.symm (ne_of_none hM h), (sf_new h).ne_tab E.tb⟩
theorem En.ok_lst (E : En K Γ H0 G0 G H σ g) {a : Addr} {xs : List V} (h : H a = some (.lst xs)) : Γ.Ok a := by
  refine ⟨?_, (sf_lst h).ne_tab E.tb⟩
  obtain ⟨lm, hM, _⟩ := E.st
  rintro rfl
  rw [hM] at h; cases h
theorem En.ok_code (E : En K Γ H0 G0 G H σ g) {c : Addr} {q : Str} (h : H c = some (LamX.CodeO c q)) : Γ.Ok c := by
  refine ⟨?_, fun p hp z => ?_⟩
  · obtain ⟨lm, hM, _⟩ := E.st
    exact (sf_dK hM).ne_code h
  · obtain ⟨ps, h1, _⟩ := E.tb p hp
    rw [← z, h] at h1
    exact LamX.codeO_ne ps (Option.some.inj h1)
/-- where the entry has an object there is one -/
theorem En.there (E : En K Γ H0 G0 G H σ g) {a : Addr} {o : HO} (h : H0 a = some o) : ∃ u, H a = some u := by
  by_cases n : Γ.Ok a
  · exact ⟨o, E.base a o n h⟩
  · by_cases m : a = Γ.M
    · rw [m]; exact E.hm
    · have : ∃ p ∈ Γ.T, a = p.1 := Classical.byContradiction fun z => n ⟨m, fun p hp e => z ⟨p, hp, e⟩⟩
      obtain ⟨p, hp, rfl⟩ := this
      obtain ⟨ps, h1, _⟩ := E.tb p hp
      exact ⟨_, h1⟩
theorem En.fnU (E : En K Γ H0 G0 G H σ g) {a : Addr} {o : HO} (s : Sf H a) {f c : Addr} {q : Str} {G1 G' : Hp} {i : Nat} (h : g.r[i]? = some (.fn f c q G1)) (gr : Gr G G') : σ[i]? = some (some (V.ref f)) ∧ upd H a o c = some (LamX.CodeO c q) ∧ Gr G1 G' :=
  let ⟨x, y, z⟩ := E.fn i f c q G1 h; ⟨x, by rw [upd_ne (s.ne_code y)]; exact y, z.trans gr⟩
/-- a slot that holds a function, behind a store elsewhere -/
theorem En.fnSet (E : En K Γ H0 G0 G H σ g) {i : Nat} {x : Option V} {z : Sl} (n : ∀ f c q G1, z ≠ .fn f c q G1) {j : Nat} {f c : Addr} {q : Str} {G1 : Hp} (h : (g.r.set i z)[j]? = some (.fn f c q G1)) : (σ.set i x)[j]? = some (some (V.ref f)) ∧ H c = some (LamX.CodeO c q) ∧ Gr G1 G := by
  by_cases e : j = i
  · subst e
    have il : j < g.r.length := by have := (List.getElem?_eq_some_iff.mp h).1; simpa using this
    rw [List.getElem?_set_self il] at h
    exact absurd (Option.some.inj h) (n f c q G1)
  · rw [List.getElem?_set_ne (Ne.symm e)] at h ⊢; exact E.fn j f c q G1 h
theorem gtU {T : List (Addr × Str)} {G H : Hp} {a : Addr} {o : HO} (h : ∀ p ∈ T, G p.1 = none) (t : LamX.Tabs T H) (s : Sf H a) : ∀ p ∈ T, upd G a o p.1 = none := fun p hp => by
  rw [upd_ne (Ne.symm (s.ne_tab t p hp))]; exact h p hp
/-- a new object that is known and never changes -/
theorem En.new (E : En K Γ H0 G0 G H σ g) {p : Addr} {o : HO} (hp : H p = none) : En K Γ H0 G0 (upd G p o) (upd H p o) σ g := by
  have gp : G p = none := by
    cases h : G p with
    | none => rfl
    | some u => rw [E.sub _ _ h] at hp; cases hp
  have gr : Gr G (upd G p o) := Gr.upd gp
  have hr : Gr H (upd H p o) := Gr.upd hp
  obtain ⟨om, hM⟩ := E.hm
  have pm : Γ.M ≠ p := ne_of_none hM hp
  refine ⟨fun a u n h => hr _ _ (E.base a u n h), fun a u h h' => ?_, E.g0.trans gr, fun a u h => ?_, by rw [upd_ne pm]; exact E.gm, E.st.gr gr (upd_ne pm), E.len, fun i d h => ?_, fun i xs h => ?_, E.dis, (sf_new hp).tabs E.tb, gtU E.gt E.tb (sf_new hp), fun i f c q G1 h => E.fnU (sf_new hp) h gr⟩
  · have : a ≠ p := by
      rintro rfl
      obtain ⟨u', z⟩ := E.there h
      rw [hp] at z; cases z
    rw [upd_ne this]; exact E.gfr a u h h'
  · by_cases e : a = p
    · subst e; rw [upd_same] at h ⊢; exact h
    · rw [upd_ne e] at h ⊢; exact E.sub a u h
  · obtain ⟨v, h1, h2⟩ := E.dat i d h
    exact ⟨v, h1, h2.mono gr⟩
  · obtain ⟨l, vs, h1, h2, h3, h4, h5⟩ := E.own i xs h
    have lp : l ≠ p := ne_of_none h2 hp
    exact ⟨l, vs, h1, hr _ _ h2, by rw [upd_ne lp]; exact h3, h4, h5.mono gr⟩
/-- a new object that is kept apart -/
theorem En.newO (E : En K Γ H0 G0 G H σ g) {p : Addr} {o : HO} (hp : H p = none) : En K Γ H0 G0 G (upd H p o) σ g := by
  have hr : Gr H (upd H p o) := Gr.upd hp
  obtain ⟨om, hM⟩ := E.hm
  have pm : Γ.M ≠ p := ne_of_none hM hp
  refine ⟨fun a u n h => hr _ _ (E.base a u n h), E.gfr, E.g0, E.sub.trans hr, E.gm, E.st.gr (Gr.refl _) (upd_ne pm), E.len, E.dat, fun i xs h => ?_, E.dis, (sf_new hp).tabs E.tb, E.gt, fun i f c q G1 h => E.fnU (sf_new hp) h (Gr.refl _)⟩
  obtain ⟨l, vs, h1, h2, h3, h4, h5⟩ := E.own i xs h
  exact ⟨l, vs, h1, hr _ _ h2, h3, h4, h5⟩
/-- an owned list changes -/
theorem En.put (E : En K Γ H0 G0 G H σ g) {i : Nat} {xs ys : List D} {l : Addr} {ws : List V} (hi : g.r[i]? = some (.own xs)) (hl : σ[i]? = some (some (.ref l))) (hd : DvA K Γ G ws ys) :
    En K Γ H0 G0 G (upd H l (.lst ws)) σ ⟨g.r.set i (.own ys), g.s⟩ := by
  obtain ⟨l', vs, h1, h2, h3, h4, h5⟩ := E.own i xs hi
  rw [hl] at h1; cases h1
  obtain ⟨lm, hM, hG⟩ := E.st
  have ml : Γ.M ≠ l := by rintro rfl; rw [hM] at h2; cases h2
  have il : i < g.r.length := (List.getElem?_eq_some_iff.mp hi).1
  refine ⟨fun a u n h => ?_, E.gfr, E.g0, fun a u h => ?_, E.gm, ⟨lm, by rw [upd_ne ml]; exact hM, hG⟩, by simpa using E.len, fun j d h => ?_, fun j zs h => ?_, fun j k zs us q h1 h2 h3 h4 => ?_, (sf_lst h2).tabs E.tb, E.gt, fun j f c q G1 h => ?_⟩
  · have : a ≠ l := by rintro rfl; rw [h4] at h; cases h
    rw [upd_ne this]; exact E.base a u n h
  · have : a ≠ l := by rintro rfl; rw [h3] at h; cases h
    rw [upd_ne this]; exact E.sub a u h
  · by_cases e : j = i
    · subst e; rw [List.getElem?_set_self il] at h; cases h
    · rw [List.getElem?_set_ne (Ne.symm e)] at h; exact E.dat j d h
  · by_cases e : j = i
    · subst e
      rw [List.getElem?_set_self il] at h; cases h
      exact ⟨l, ws, hl, upd_same, h3, h4, hd⟩
    · rw [List.getElem?_set_ne (Ne.symm e)] at h
      obtain ⟨l2, v2, k1, k2, k3, k4, k5⟩ := E.own j zs h
      have : l2 ≠ l := by rintro rfl; exact e (E.dis j i zs xs l2 h hi k1 hl)
      exact ⟨l2, v2, k1, by rw [upd_ne this]; exact k2, k3, k4, k5⟩
  · have e1 : ∃ z, g.r[j]? = some (.own z) := by
      by_cases e : j = i
      · subst e; exact ⟨_, hi⟩
      · rw [List.getElem?_set_ne (Ne.symm e)] at h1; exact ⟨_, h1⟩
    have e2 : ∃ z, g.r[k]? = some (.own z) := by
      by_cases e : k = i
      · subst e; exact ⟨_, hi⟩
      · rw [List.getElem?_set_ne (Ne.symm e)] at h2; exact ⟨_, h2⟩
    obtain ⟨z1, e1⟩ := e1
    obtain ⟨z2, e2⟩ := e2
    exact E.dis j k z1 z2 q e1 e2 h3 h4
  · by_cases e : j = i
    · subst e; rw [List.getElem?_set_self il] at h; cases h
    · rw [List.getElem?_set_ne (Ne.symm e)] at h; exact E.fnU (sf_lst h2) h (Gr.refl _)
/-- an owned list is let go: it is known from now on -/
theorem En.rel (E : En K Γ H0 G0 G H σ g) {i : Nat} {xs : List D} (hi : g.r[i]? = some (.own xs)) :
    ∃ l G', σ[i]? = some (some (.ref l)) ∧ Gr G G' ∧ Dv K Γ G' (.ref l) (.lst xs) ∧ En K Γ H0 G0 G' H σ ⟨g.r.set i (.dat (.lst xs)), g.s⟩ := by
  obtain ⟨l, vs, h1, h2, h3, h4, h5⟩ := E.own i xs hi
  have gr : Gr G (upd G l (.lst vs)) := Gr.upd h3
  obtain ⟨lm, hM, hG⟩ := E.st
  have ml : Γ.M ≠ l := by rintro rfl; rw [hM] at h2; cases h2
  have il : i < g.r.length := (List.getElem?_eq_some_iff.mp hi).1
  have dl : Dv K Γ (upd G l (.lst vs)) (.ref l) (.lst xs) := .lst upd_same (h5.mono gr)
  refine ⟨l, upd G l (.lst vs), h1, gr, dl, E.base, fun a u h h' => ?_, E.g0.trans gr, fun a u h => ?_, by rw [upd_ne ml]; exact E.gm, ⟨lm, hM, gr _ _ hG⟩, by simpa using E.len, fun j d h => ?_, fun j zs h => ?_, fun j k zs us q e1 e2 e3 e4 => ?_, E.tb, gtU E.gt E.tb (sf_lst h2), fun j f c q G1 h => ?_⟩
  · have : a ≠ l := by rintro rfl; rw [h4] at h; cases h
    rw [upd_ne this]; exact E.gfr a u h h'
  · by_cases e : a = l
    · subst e; rw [upd_same] at h; cases h; exact h2
    · rw [upd_ne e] at h; exact E.sub a u h
  · by_cases e : j = i
    · subst e; rw [List.getElem?_set_self il] at h; cases h
      exact ⟨_, h1, dl⟩
    · rw [List.getElem?_set_ne (Ne.symm e)] at h
      obtain ⟨v, k1, k2⟩ := E.dat j d h
      exact ⟨v, k1, k2.mono gr⟩
  · by_cases e : j = i
    · subst e; rw [List.getElem?_set_self il] at h; cases h
    · rw [List.getElem?_set_ne (Ne.symm e)] at h
      obtain ⟨l2, v2, k1, k2, k3, k4, k5⟩ := E.own j zs h
      have : l2 ≠ l := by rintro rfl; exact e (E.dis j i zs xs l2 h hi k1 h1)
      exact ⟨l2, v2, k1, k2, by rw [upd_ne this]; exact k3, k4, k5.mono gr⟩
  · have e1' : ∃ z, g.r[j]? = some (.own z) := by
      by_cases e : j = i
      · subst e; exact ⟨_, hi⟩
      · rw [List.getElem?_set_ne (Ne.symm e)] at e1; exact ⟨_, e1⟩
    have e2' : ∃ z, g.r[k]? = some (.own z) := by
      by_cases e : k = i
      · subst e; exact ⟨_, hi⟩
      · rw [List.getElem?_set_ne (Ne.symm e)] at e2; exact ⟨_, e2⟩
    obtain ⟨z1, e1'⟩ := e1'
    obtain ⟨z2, e2'⟩ := e2'
    exact E.dis j k z1 z2 q e1' e2' e3 e4
  · by_cases e : j = i
    · subst e; rw [List.getElem?_set_self il] at h; cases h
    · rw [List.getElem?_set_ne (Ne.symm e)] at h; exact (let ⟨x, y, z⟩ := E.fn j f c q G1 h; ⟨x, y, z.trans gr⟩)
/-- a slot gets a value -/
theorem En.set (E : En K Γ H0 G0 G H σ g) (i : Nat) {v : V} {d : D} (h : Dv K Γ G v d) : En K Γ H0 G0 G H (σ.set i (some v)) ⟨g.r.set i (.dat d), g.s⟩ := by
  refine ⟨E.base, E.gfr, E.g0, E.sub, E.gm, E.st, by simpa using E.len, fun j d' h' => ?_, fun j zs h' => ?_, fun j k zs us q e1 e2 e3 e4 => ?_, E.tb, E.gt, fun j f c q G1 h' => E.fnSet (fun _ _ _ _ z => by cases z) h'⟩
  · by_cases e : j = i
    · subst e
      have il : j < g.r.length := by have := (List.getElem?_eq_some_iff.mp h').1; simpa using this
      rw [List.getElem?_set_self il] at h'; cases h'
      exact ⟨v, by rw [List.getElem?_set_self (by rw [← E.len]; exact il)], h⟩
    · rw [List.getElem?_set_ne (Ne.symm e)] at h' ⊢; exact E.dat j d' h'
  · by_cases e : j = i
    · subst e
      have il : j < g.r.length := by have := (List.getElem?_eq_some_iff.mp h').1; simpa using this
      rw [List.getElem?_set_self il] at h'; cases h'
    · rw [List.getElem?_set_ne (Ne.symm e)] at h' ⊢; exact E.own j zs h'
  · have f : ∀ (j : Nat) z, (g.r.set i (.dat d))[j]? = some (.own z) → j ≠ i ∧ g.r[j]? = some (.own z) := fun j z h' => by
      by_cases e : j = i
      · subst e
        have il : j < g.r.length := by have := (List.getElem?_eq_some_iff.mp h').1; simpa using this
        rw [List.getElem?_set_self il] at h'; cases h'
      · rw [List.getElem?_set_ne (Ne.symm e)] at h'; exact ⟨e, h'⟩
    obtain ⟨n1, f1⟩ := f j zs e1
    obtain ⟨n2, f2⟩ := f k us e2
    rw [List.getElem?_set_ne (Ne.symm n1)] at e3
    rw [List.getElem?_set_ne (Ne.symm n2)] at e4
    exact E.dis j k zs us q f1 f2 e3 e4
/-- a list that stands apart -/
structure Fre (K : PySem.W.Frag) (Γ : Gam) (H0 G H : Hp) (σ : L2.St) (g : Sg) (v : V) (ds : List D) : Prop where
  at_ : ∃ p vs, v = .ref p ∧ H p = some (.lst vs) ∧ G p = none ∧ H0 p = none ∧ DvA K Γ G vs ds ∧ ∀ (i : Nat) zs, g.r[i]? = some (.own zs) → σ[i]? ≠ some (some (.ref p))
theorem En.setO (E : En K Γ H0 G0 G H σ g) (i : Nat) {v : V} {ds : List D} (h : Fre K Γ H0 G H σ g v ds) : En K Γ H0 G0 G H (σ.set i (some v)) ⟨g.r.set i (.own ds), g.s⟩ := by
  obtain ⟨p, vs, rfl, h1, h2, h3, h4, h5⟩ := h.at_
  have f : ∀ (j : Nat) z, (g.r.set i (.own ds))[j]? = some (.own z) → (j = i ∧ z = ds ∧ i < g.r.length) ∨ j ≠ i ∧ g.r[j]? = some (.own z) := fun j z h' => by
      by_cases e : j = i
      · subst e
        have il : j < g.r.length := by have := (List.getElem?_eq_some_iff.mp h').1; simpa using this
        rw [List.getElem?_set_self il] at h'; cases h'; exact .inl ⟨rfl, rfl, il⟩
      · rw [List.getElem?_set_ne (Ne.symm e)] at h'; exact .inr ⟨e, h'⟩
  have s_ : ∀ il : i < g.r.length, (σ.set i (some (V.ref p)))[i]? = some (some (V.ref p)) := fun il => by rw [List.getElem?_set_self (by rw [← E.len]; exact il)]
  refine ⟨E.base, E.gfr, E.g0, E.sub, E.gm, E.st, by simpa using E.len, fun j d' h' => ?_, fun j zs h' => ?_, fun j k zs us q e1 e2 e3 e4 => ?_, E.tb, E.gt, fun j f c q G1 h' => E.fnSet (fun _ _ _ _ z => by cases z) h'⟩
  · by_cases e : j = i
    · subst e
      have il : j < g.r.length := by have := (List.getElem?_eq_some_iff.mp h').1; simpa using this
      rw [List.getElem?_set_self il] at h'; cases h'
    · rw [List.getElem?_set_ne (Ne.symm e)] at h' ⊢; exact E.dat j d' h'
  · rcases f j zs h' with ⟨rfl, rfl, il⟩ | ⟨n, h'⟩
    · exact ⟨p, vs, s_ il, h1, h2, h3, h4⟩
    · rw [List.getElem?_set_ne (Ne.symm n)]; exact E.own j zs h'
  · rcases f j zs e1 with ⟨rfl, rfl, il⟩ | ⟨n1, f1⟩
    · rcases f k us e2 with ⟨rfl, _, _⟩ | ⟨n2, f2⟩
      · rfl
      · rw [s_ il] at e3; cases e3
        rw [List.getElem?_set_ne (Ne.symm n2)] at e4
        exact absurd e4 (h5 k us f2)
    · rw [List.getElem?_set_ne (Ne.symm n1)] at e3
      rcases f k us e2 with ⟨rfl, _, il⟩ | ⟨n2, f2⟩
      · rw [s_ il] at e4; cases e4
        exact absurd e3 (h5 j zs f1)
      · rw [List.getElem?_set_ne (Ne.symm n2)] at e4
        exact E.dis j k zs us q f1 f2 e3 e4
/-- the same, all that stands now taken for the entry's -/
theorem En.rebase (E : En K Γ H0 G0 G H σ g) : ∃ H1 : Hp, (∀ a o, H1 a = some o → H a = some o) ∧ (∀ a o, H a = some o → a ≠ Γ.M → (∀ (i : Nat) xs, g.r[i]? = some (Sl.own xs) → σ[i]? ≠ some (some (V.ref a))) → H1 a = some o) ∧ En K Γ H1 G G H σ g ∧
    ∀ G' H' σ' g', En K Γ H1 G G' H' σ' g' → En K Γ H0 G0 G' H' σ' g' := by
  classical
  have hH1 : ∃ H1 : Hp, ∀ a, (a ≠ Γ.M ∧ (∀ (i : Nat) xs, g.r[i]? = some (Sl.own xs) → σ[i]? ≠ some (some (V.ref a))) ∧ H1 a = H a) ∨ (¬ (a ≠ Γ.M ∧ ∀ (i : Nat) xs, g.r[i]? = some (Sl.own xs) → σ[i]? ≠ some (some (V.ref a))) ∧ H1 a = none) := by
    refine ⟨fun a => if a ≠ Γ.M ∧ ∀ (i : Nat) xs, g.r[i]? = some (Sl.own xs) → σ[i]? ≠ some (some (V.ref a)) then H a else none, fun a => ?_⟩
    by_cases c : a ≠ Γ.M ∧ ∀ (i : Nat) xs, g.r[i]? = some (Sl.own xs) → σ[i]? ≠ some (some (V.ref a))
    · exact .inl ⟨c.1, c.2, if_pos c⟩
    · exact .inr ⟨c, if_neg c⟩
  obtain ⟨H1, hH1⟩ := hH1
  have up : ∀ a o, H1 a = some o → H a = some o ∧ a ≠ Γ.M := fun a o h => by
    rcases hH1 a with ⟨n, _, e⟩ | ⟨_, e⟩
    · exact ⟨e ▸ h, n⟩
    · rw [e] at h; cases h
  have dn : ∀ a o, H a = some o → a ≠ Γ.M → (∀ (i : Nat) xs, g.r[i]? = some (Sl.own xs) → σ[i]? ≠ some (some (V.ref a))) → H1 a = some o := fun a o h n k => by
    rcases hH1 a with ⟨_, _, e⟩ | ⟨c, _⟩
    · rw [e]; exact h
    · exact absurd ⟨n, k⟩ c
  have ow : ∀ (i : Nat) xs l, g.r[i]? = some (Sl.own xs) → σ[i]? = some (some (V.ref l)) → H1 l = none := fun i xs l h k => by
    rcases hH1 l with ⟨_, c, _⟩ | ⟨_, e⟩
    · exact absurd k (c i xs h)
    · exact e
  refine ⟨H1, fun a o h => (up a o h).1, dn, ⟨fun a o _ h => (up a o h).1, fun a o _ h => h, Gr.refl _, E.sub, E.gm, E.st, E.len, E.dat, fun i xs h => ?_, E.dis, E.tb, E.gt, E.fn⟩, fun G' H' σ' g' F => ⟨fun a o n h => ?_, fun a o h h' => ?_, E.g0.trans F.g0, F.sub, F.gm, F.st, F.len, F.dat, fun i xs h => ?_, F.dis, F.tb, F.gt, F.fn⟩⟩
  · obtain ⟨l, vs, h1, h2, h3, _, h5⟩ := E.own i xs h
    exact ⟨l, vs, h1, h2, h3, ow i xs l h h1, h5⟩
  · have ha := E.base a o n h
    refine F.base a o n (dn a o ha n.1 fun i xs hi hs => ?_)
    obtain ⟨l, vs, h1, _, _, h4, _⟩ := E.own i xs hi
    rw [hs] at h1; cases h1; rw [h4] at h; cases h
  · by_cases n : Γ.Ok a
    case neg =>
      by_cases m : a = Γ.M
      · rw [m]; exact F.gm
      · have : ∃ p ∈ Γ.T, a = p.1 := Classical.byContradiction fun z => n ⟨m, fun p hp e => z ⟨p, hp, e⟩⟩
        obtain ⟨p, hp, rfl⟩ := this
        exact F.gt p hp
    · have ha := E.base a o n h
      refine F.gfr a o (dn a o ha n.1 fun i xs hi hs => ?_) (E.gfr a o h h')
      obtain ⟨l, vs, h1, _, _, h4, _⟩ := E.own i xs hi
      rw [hs] at h1; cases h1; rw [h4] at h; cases h
  · obtain ⟨l, vs, h1, h2, h3, h4, h5⟩ := F.own i xs h
    refine ⟨l, vs, h1, h2, h3, ?_, h5⟩
    cases z : H0 l with
    | none => rfl
    | some o =>
      exfalso
      have n := F.ok_lst h2
      · have ha := E.base l o n z
        have : H1 l = some o := dn l o ha n.1 fun j ys hi hs => by
          obtain ⟨l2, vs2, k1, _, _, k4, _⟩ := E.own j ys hi
          rw [hs] at k1; cases k1; rw [k4] at z; cases z
        rw [h4] at this; cases this
end
end DE
namespace DE
open PyProof.Rows PySem.Spec PySem L2

/-! ### programs over data -/
abbrev Res (α : Type) := Option (Except Exn α × Sg)
abbrev Mo (α : Type) := Sg → Res α
def bd {α β : Type} (f : Mo α) (k : α → Mo β) : Mo β := fun g => match f g with
  | none => none
  | some (.error x, g1) => some (.error x, g1)
  | some (.ok a, g1) => k a g1
def rt {α : Type} (a : α) : Mo α := fun g => some (.ok a, g)
def stop {α : Type} : Mo α := fun _ => none
def ofO {α : Type} : Option α → Mo α
  | some a => rt a
  | none => stop
@[simp] theorem bd_rt {α β : Type} (a : α) (k : α → Mo β) : bd (rt a) k = k a := rfl
@[simp] theorem bd_stop {α β : Type} (k : α → Mo β) : bd (stop : Mo α) k = stop := rfl

def ExD (K : PySem.W.Frag) (Γ : Gam) (G : Hp) (C : Value) (dd : Option Addr) (x : Exn) : Prop := ∃ a d f v, Γ.cl x.c = some (a, f) ∧ C = .ref a ∧ dd = some d ∧ G d = some (.xd [(f, v)]) ∧ Dv K Γ G v x.v

abbrev Rel (β α : Type) := Hp → Hp → Hp → L2.St → Sg → β → α → Prop
section
variable (K : PySem.W.Frag) (Γ : Gam) (W : WX) {α β : Type}
def tAt (R : Rel β α) (f : Mo α) (H0 G0 G : Hp) (g : Sg) (σ : L2.St) (H : Hp) (Q : β → Hp → Prop) : Prop :=
  En K Γ H0 G0 G H σ g ∧ ∃ r g', f g = some (r, g') ∧ match r with
    | .ok d => ∀ v G' H', Gr G G' → En K Γ H0 G0 G' H' σ g' → R H0 G' H' σ g' v d → Q v H'
    | .error x => ∀ C dd G' H', Gr G G' → En K Γ H0 G0 G' H' σ g' → ExD K Γ G' C dd x → W C dd σ H'
def tG (R : Rel β α) (f : Mo α) : L2.St → Hp → (β → Hp → Prop) → Prop := fun σ H Q => ∃ H0 G0 G g, tAt K Γ W R f H0 G0 G g σ H Q
def RD : Rel V D := fun _ G _ _ _ v d => Dv K Γ G v d
def RA : Rel (List V) (List D) := fun _ G _ _ _ v d => DvA K Γ G v d
def RB : Rel Bool Bool := fun _ _ _ _ _ v d => v = d
def RF : Rel V (List D) := fun H0 G H σ g v d => Fre K Γ H0 G H σ g v d
/-- a list as it stands, of one's own or known -/
def RP : Rel V (List D) := fun _ G H _ _ v d => ∃ l vs, v = .ref l ∧ (SqL K H l vs ∨ SqT K G l vs) ∧ DvA K Γ G vs d
end

section
variable {K : PySem.W.Frag} {Γ : Gam} {W : WX} {α β α' β' : Type}
theorem tAt.bind {R : Rel β α} {R1 : Rel β' α'} {f : Mo α'} {k : α' → Mo α} {H0 G0 G H : Hp} {g : Sg} {σ : L2.St} {Q : β → Hp → Prop} {P : β' → Hp → Prop}
    (h : tAt K Γ W R (bd f k) H0 G0 G g σ H Q) (hp : ∀ d v g1 G1 H1, Gr G G1 → R1 H0 G1 H1 σ g1 v d → tAt K Γ W R (k d) H0 G0 G1 g1 σ H1 Q → P v H1) : tAt K Γ W R1 f H0 G0 G g σ H P := by
  obtain ⟨E, r, g', e, q⟩ := h
  refine ⟨E, ?_⟩
  unfold bd at e
  cases hf : f g with
  | none => (rw [hf] at e); cases e
  | some p =>
    obtain ⟨r1, g1⟩ := p
    rw [hf] at e
    cases r1 with
    | error x =>
      cases e
      exact ⟨.error x, _, rfl, q⟩
    | ok d =>
      refine ⟨.ok d, g1, rfl, fun v G1 H1 gr E1 r1 => hp d v g1 G1 H1 gr r1 ⟨E1, r, g', e, ?_⟩⟩
      cases r with
      | ok d2 => exact fun v2 G2 H2 gr2 => q v2 G2 H2 (gr.trans gr2)
      | error x => exact fun C dd G2 H2 gr2 => q C dd G2 H2 (gr.trans gr2)
theorem tG.bind {R : Rel β α} {R1 : Rel β' α'} {f : Mo α'} {k : α' → Mo α} {H : Hp} {σ : L2.St} {Q : β → Hp → Prop} {P : β' → Hp → Prop}
    (h : tG K Γ W R (bd f k) σ H Q) (hp : ∀ H0 G0 d v g1 G1 H1, R1 H0 G1 H1 σ g1 v d → tAt K Γ W R (k d) H0 G0 G1 g1 σ H1 Q → P v H1) : tG K Γ W R1 f σ H P := by
  obtain ⟨H0, G0, G, g, h⟩ := h
  exact ⟨H0, G0, G, g, h.bind fun d v g1 G1 H1 _ => hp H0 G0 d v g1 G1 H1⟩
theorem tAt.g {R : Rel β α} {f : Mo α} {H0 G0 G H : Hp} {g : Sg} {σ : L2.St} {Q : β → Hp → Prop} (h : tAt K Γ W R f H0 G0 G g σ H Q) : tG K Γ W R f σ H Q := ⟨H0, G0, G, g, h⟩
theorem tAt.stop {R : Rel β α} {H0 G0 G H : Hp} {g : Sg} {σ : L2.St} {Q : β → Hp → Prop} {P : Prop} (h : tAt K Γ W R stop H0 G0 G g σ H Q) : P := by
  obtain ⟨_, _, _, e, _⟩ := h
  cases e
/-- the end: the very value -/
theorem tAt.here {R : Rel β α} {d : α} {v : β} {H0 G0 G H : Hp} {g : Sg} {σ : L2.St} {Q : β → Hp → Prop} (h : tAt K Γ W R (rt d) H0 G0 G g σ H Q) (r : R H0 G H σ g v d) : Q v H := by
  obtain ⟨E, _, _, e, q⟩ := h
  cases e
  exact q v G H (Gr.refl _) E r
/-- the end: a new known object -/
theorem tAt.new {d : D} {p : Addr} {o : HO} {H0 G0 G H : Hp} {g : Sg} {σ : L2.St} {Q : VK} (h : tAt K Γ W (RD K Γ) (rt d) H0 G0 G g σ H Q) (hp : H p = none) (r : Dv K Γ (upd G p o) (.ref p) d) : Q (.ref p) (upd H p o) := by
  obtain ⟨E, _, _, e, q⟩ := h
  cases e
  have gp : G p = none := by
    cases h : G p with
    | none => rfl
    | some u => rw [E.sub _ _ h] at hp; cases hp
  exact q (.ref p) _ _ (Gr.upd gp) (E.new hp) r
/-- the end: a new list of one's own -/
theorem tAt.newO {ds : List D} {vs : List V} {p : Addr} {H0 G0 G H : Hp} {g : Sg} {σ : L2.St} {Q : VK} (h : tAt K Γ W (RF K Γ) (rt ds) H0 G0 G g σ H Q) (hp : H p = none) (r : DvA K Γ G vs ds) : Q (.ref p) (upd H p (.lst vs)) := by
  obtain ⟨E, _, _, e, q⟩ := h
  cases e
  have gp : G p = none := by
    cases h : G p with
    | none => rfl
    | some u => rw [E.sub _ _ h] at hp; cases hp
  have h0 : H0 p = none := by
    cases h : H0 p with
    | none => rfl
    | some u =>
      obtain ⟨u', z⟩ := E.there h
      rw [hp] at z; cases z
  refine q (.ref p) _ _ (Gr.refl _) (E.newO hp) ⟨p, vs, rfl, upd_same, gp, h0, r, fun i zs hi => ?_⟩
  obtain ⟨l, _, k1, k2, _⟩ := E.own i zs hi
  rw [k1]
  intro z
  cases z
  rw [k2] at hp; cases hp
theorem tAt.en {R : Rel β α} {f : Mo α} {H0 G0 G H : Hp} {g : Sg} {σ : L2.St} {Q : β → Hp → Prop} (h : tAt K Γ W R f H0 G0 G g σ H Q) : En K Γ H0 G0 G H σ g := h.1
/-- a list of one's own that no name holds is known from now on -/
theorem En.free {H0 G0 G H : Hp} {σ : L2.St} {g : Sg} (E : En K Γ H0 G0 G H σ g) {v : V} {ds : List D} (hF : Fre K Γ H0 G H σ g v ds) : ∃ G', Gr G G' ∧ Dv K Γ G' v (.lst ds) ∧ En K Γ H0 G0 G' H σ g := by
  obtain ⟨p, vs, rfl, h1, h2, h3, h4, h5⟩ := hF.at_
  have gr : Gr G (upd G p (.lst vs)) := Gr.upd h2
  obtain ⟨lm, hM, hG⟩ := E.st
  have ml : Γ.M ≠ p := by rintro rfl; rw [hM] at h1; cases h1
  refine ⟨_, gr, .lst upd_same (h4.mono gr), E.base, fun a u h h' => ?_, E.g0.trans gr, fun a u h => ?_, by rw [upd_ne ml]; exact E.gm, ⟨lm, hM, gr _ _ hG⟩, E.len, fun j d h => ?_, fun j zs h => ?_, E.dis, E.tb, gtU E.gt E.tb (sf_lst h1), fun i f c q G1 h => (let ⟨x, y, z⟩ := E.fn i f c q G1 h; ⟨x, y, z.trans gr⟩)⟩
  · have : a ≠ p := by rintro rfl; rw [h3] at h; cases h
    rw [upd_ne this]; exact E.gfr a u h h'
  · by_cases e : a = p
    · subst e; rw [upd_same] at h; cases h; exact h1
    · rw [upd_ne e] at h; exact E.sub a u h
  · obtain ⟨v, k1, k2⟩ := E.dat j d h
    exact ⟨v, k1, k2.mono gr⟩
  · obtain ⟨l2, v2, k1, k2, k3, k4, k5⟩ := E.own j zs h
    have : l2 ≠ p := by rintro rfl; exact h5 j zs h k1
    exact ⟨l2, v2, k1, k2, by rw [upd_ne this]; exact k3, k4, k5.mono gr⟩
end

/-! ### judgements -/
theorem _root_.L2.PE.imp {X : Cx} {e : Expr} {t t' : TE} (h : PE X e t) (k : ∀ σ H Q, t' σ H Q → t σ H Q) : PE X e t' := ⟨fun p s σ H Q I q => h.run p s σ H Q I (k _ _ _ q)⟩
theorem _root_.L2.PT.imp {X : Cx} {e : Expr} {t t' : TT} (h : PT X e t) (k : ∀ σ H Q, t' σ H Q → t σ H Q) : PT X e t' := ⟨fun p s σ H Q I q => h.run p s σ H Q I (k _ _ _ q)⟩
theorem _root_.L2.PW.imp {X : Cx} {e : Expr} {t t' : TT} (h : PW X e t) (k : ∀ σ H Q, t' σ H Q → t σ H Q) : PW X e t' := ⟨fun w p s σ H Q I q => h.run w p s σ H Q I (k _ _ _ q)⟩
theorem _root_.L2.PA.imp {X : Cx} {e : List Expr} {t t' : TA} (h : PA X e t) (k : ∀ σ H Q, t' σ H Q → t σ H Q) : PA X e t' := ⟨fun w p s σ H Q I q => h.run w p s σ H Q I (k _ _ _ q)⟩
theorem _root_.L2.PS.imp {X : Cx} {e : Stmt} {t t' : TS} (h : PS X e t) (k : ∀ D σ H, t' D σ H → t D σ H) : PS X e t' := ⟨fun p s σ H D I q => h.run p s σ H D I (k _ _ _ q)⟩
theorem _root_.L2.PSs.imp {X : Cx} {e : List Stmt} {t t' : TS} (h : PSs X e t) (k : ∀ D σ H, t' D σ H → t D σ H) : PSs X e t' := ⟨fun p s σ H D I q => h.run p s σ H D I (k _ _ _ q)⟩

abbrev DX (X : Cx) (Γ : Gam) (W : WX) (e : Expr) (f : Mo D) : Prop := PE X e (tG X.K Γ W (RD X.K Γ) f)
abbrev DF (X : Cx) (Γ : Gam) (W : WX) (e : Expr) (f : Mo (List D)) : Prop := PE X e (tG X.K Γ W (RF X.K Γ) f)
abbrev DP (X : Cx) (Γ : Gam) (W : WX) (e : Expr) (f : Mo (List D)) : Prop := PE X e (tG X.K Γ W (RP X.K Γ) f)
abbrev DA (X : Cx) (Γ : Gam) (W : WX) (e : List Expr) (f : Mo (List D)) : Prop := PA X e (tG X.K Γ W (RA X.K Γ) f)
abbrev DT (X : Cx) (Γ : Gam) (W : WX) (e : Expr) (f : Mo Bool) : Prop := PT X e (tG X.K Γ W RB f)
abbrev DW (X : Cx) (Γ : Gam) (W : WX) (e : Expr) (f : Mo Bool) : Prop := PW X e (tG X.K Γ W RB f)

section
variable {X : Cx} {Γ : Gam} {W : WX} {a b e : Expr} {es : List Expr} {pos : Pos}
/-! ### names, constants -/
def fName (i : Nat) : Mo D := fun g => match g.r[i]? with
  | some (.dat d) => some (.ok d, g)
  | some (.own xs) => some (.ok (.lst xs), ⟨g.r.set i (.dat (.lst xs)), g.s⟩)
  | _ => none
theorem dv_ (i : Nat) {x : Str} {pos : Pos} (hN : X.N[i]? = some x := by rfl) (hv : Vis X.env.scope x := by first | exact Or.inl rfl | exact Or.inr (Or.inl rfl) | exact Or.inr (Or.inr rfl)) (hd : (x == ("__debug__" : Str)) = false := by decide)
    (hcd : (x == ("__classdict__" : Str)) = false := by decide) : DX X Γ W (.Name x pos) (fName i) :=
  (pe_var hN hv hd hcd).imp fun σ H Q ⟨H0, G0, G, g, E, r, g', e, q⟩ => by
    unfold fName at e
    split at e
    · rename_i d hi
      cases e
      obtain ⟨v, h1, h2⟩ := E.dat i d hi
      exact ⟨v, h1, q v G H (Gr.refl _) E h2⟩
    · rename_i xs hi
      cases e
      obtain ⟨l, G', h1, gr, h2, E2⟩ := E.rel hi
      exact ⟨_, h1, q _ G' H gr E2 h2⟩
    · cases e
/-- a list that a name holds, looked at -/
def fPeek (i : Nat) : Mo (List D) := fun g => match g.r[i]? with
  | some (.dat (.lst xs)) => some (.ok xs, g)
  | some (.dat (.tup xs)) => some (.ok xs, g)
  | some (.own xs) => some (.ok xs, g)
  | _ => none
theorem Dv.lst_inv {K : PySem.W.Frag} {G : Hp} {v : V} {xs : List D} (h : Dv K Γ G v (.lst xs)) : ∃ l vs, v = .ref l ∧ G l = some (.lst vs) ∧ DvA K Γ G vs xs := by
  cases h with
  | lst h t => exact ⟨_, _, rfl, h, t⟩
theorem Dv.tup_inv {K : PySem.W.Frag} {G : Hp} {v : V} {xs : List D} (h : Dv K Γ G v (.tup xs)) : ∃ l vs, v = .ref l ∧ SqT K G l vs ∧ DvA K Γ G vs xs := by
  cases h with
  | tup h t => exact ⟨_, _, rfl, h, t⟩
theorem dp_ (i : Nat) {x : Str} {pos : Pos} (hN : X.N[i]? = some x := by rfl) (hv : Vis X.env.scope x := by first | exact Or.inl rfl | exact Or.inr (Or.inl rfl) | exact Or.inr (Or.inr rfl)) (hd : (x == ("__debug__" : Str)) = false := by decide)
    (hcd : (x == ("__classdict__" : Str)) = false := by decide) : DP X Γ W (.Name x pos) (fPeek i) :=
  (pe_var hN hv hd hcd).imp fun σ H Q ⟨H0, G0, G, g, E, r, g', e, q⟩ => by
    unfold fPeek at e
    split at e
    · rename_i xs hi
      cases e
      obtain ⟨v, h1, h2⟩ := E.dat i _ hi
      obtain ⟨l, vs, rfl, h3, h4⟩ := h2.lst_inv
      exact ⟨_, h1, q _ G H (Gr.refl _) E ⟨l, vs, rfl, .inl (SqL.of (E.sub _ _ h3)), h4⟩⟩
    · rename_i xs hi
      cases e
      obtain ⟨v, h1, h2⟩ := E.dat i _ hi
      obtain ⟨l, vs, rfl, h3, h4⟩ := h2.tup_inv
      exact ⟨_, h1, q _ G H (Gr.refl _) E ⟨l, vs, rfl, .inr h3, h4⟩⟩
    · rename_i xs hi
      cases e
      obtain ⟨l, vs, h1, h2, _, _, h5⟩ := E.own i xs hi
      exact ⟨_, h1, q _ G H (Gr.refl _) E ⟨l, vs, rfl, .inl (SqL.of h2), h5⟩⟩
    · cases e
theorem dc_of {e : Expr} {v : V} {d : D} (h : PE X e (tC v)) (r : ∀ G, Dv X.K Γ G v d) : DX X Γ W e (rt d) := h.imp fun σ H Q ⟨H0, G0, G, g, h⟩ => h.here (v := v) (r _)
theorem d_int {i j pos} : DX X Γ W (.Constant (.int i) j pos) (rt (.int i)) := dc_of pe_int fun _ => .int i
theorem d_bl {i j pos} : DX X Γ W (.Constant (.bool i) j pos) (rt (.bl i)) := dc_of pe_bl fun _ => .bl i
theorem d_non {j pos} : DX X Γ W (.Constant .none j pos) (rt .non) := dc_of pe_non fun _ => .non
theorem d_str {x j pos} : DX X Γ W (.Constant (.str x) j pos) (rt (.str x)) := dc_of pe_str fun _ => .str x
theorem d_glob {x : Str} {v : V} {u : Value} {d : D} {pos : Pos} (hg : Gl X x) (hm : X.mg x = some u) (r : RelV v u) (h : ∀ G, Dv X.K Γ G v d) (hd : (x == ("__debug__" : Str)) = false := by decide) : DX X Γ W (.Name x pos) (rt d) := dc_of (pe_glob hg hm r hd) h

/-! ### arguments, displays -/
def fCons (f : Mo D) (fs : Mo (List D)) : Mo (List D) := bd f fun d => bd fs fun ds => rt (d :: ds)
theorem da_nil : DA X Γ W [] (rt []) := pa_nil.imp fun σ H Q ⟨H0, G0, G, g, h⟩ => h.here (v := []) .nil
theorem da_cons {f : Mo D} {fs : Mo (List D)} (ha : DX X Γ W e f) (hr : DA X Γ W es fs) (hs : starEach (e :: es) X.env = (false, eval e X.env) :: starEach es X.env := by rfl) : DA X Γ W (e :: es) (fCons f fs) :=
  (pa_cons ha hr hs).imp fun σ H Q h => h.bind fun H0 G0 d v g1 G1 H1 r1 h1 => (h1.bind fun ds vs g2 G2 H2 gr r2 h2 => h2.here (v := v :: vs) (.cons (r1.mono gr) r2)).g
def fTup (f : Mo (List D)) : Mo D := bd f fun ds => if ds.length ≤ 100000 then rt (.tup ds) else stop
def fLst (f : Mo (List D)) : Mo (List D) := bd f fun ds => if ds.length ≤ 100000 then rt ds else stop
theorem sz5 {n : Nat} (h : n ≤ 100000) : n ≤ sizeLine := Nat.le_trans h (by decide)
theorem d_tup {x1} {f : Mo (List D)} (h : DA X Γ W es f) : DX X Γ W (.Tuple es x1 pos) (fTup f) :=
  (pe_tup h).imp fun σ H Q h => h.bind fun H0 G0 ds vs g1 G1 H1 r1 h1 => by
    by_cases c : ds.length ≤ 100000
    · rw [if_pos c] at h1
      refine ⟨by rw [r1.length]; exact sz5 c, fun p hp => h1.new hp (.tup (SqT.of upd_same) (r1.mono (Gr.upd ?_)))⟩
      cases z : G1 p with
      | none => rfl
      | some u => rw [h1.en.sub _ _ z] at hp; cases hp
    · rw [if_neg c] at h1; exact h1.stop
theorem d_lstO {f : Mo (List D)} (h : DA X Γ W es f) : DF X Γ W (.List es pos) (fLst f) :=
  (pe_lst h).imp fun σ H Q h => h.bind fun H0 G0 ds vs g1 G1 H1 r1 h1 => by
    by_cases c : ds.length ≤ 100000
    · rw [if_pos c] at h1
      exact ⟨by rw [r1.length]; exact sz5 c, fun p hp => h1.newO hp r1⟩
    · rw [if_neg c] at h1; exact h1.stop
/-- a new list, let go at once -/
def fLet (f : Mo (List D)) : Mo D := bd f fun ds => rt (.lst ds)
theorem d_let {f : Mo (List D)} (h : DF X Γ W e f) : DX X Γ W e (fLet f) :=
  h.imp fun σ H Q h => h.bind fun H0 G0 ds v g1 G1 H1 r1 h1 => by
    obtain ⟨G', gr, dv, E⟩ := h1.en.free r1
    obtain ⟨_, _, _, e, q⟩ := h1
    cases e
    exact q v G' H1 gr E dv
theorem d_pk {f : Mo (List D)} (h : DF X Γ W e f) : DP X Γ W e f :=
  h.imp fun σ H Q ⟨H0, G0, G, g, E, r, g', e, q⟩ => ⟨H0, G0, G, g, E, r, g', e, by
    cases r with
    | error x => exact q
    | ok ds => exact fun v G' H' gr E' ⟨p, vs, h0, h1, h2, h3, h4, h5⟩ => q v G' H' gr E' ⟨p, vs, h0, .inl (SqL.of h1), h4⟩⟩
def aLst : D → Mo (List D)
  | .lst xs => rt xs
  | .tup xs => rt xs
  | _ => stop
def fPk (f : Mo D) : Mo (List D) := bd f aLst
theorem d_pkD {f : Mo D} (h : DX X Γ W e f) : DP X Γ W e (fPk f) :=
  h.imp fun σ H Q h => h.bind fun H0 G0 d v g1 G1 H1 r1 h1 => by
    unfold aLst at h1
    split at h1
    · obtain ⟨l, vs, rfl, h3, h4⟩ := Dv.lst_inv r1
      exact h1.here ⟨l, vs, rfl, .inl (SqL.of (h1.en.sub _ _ h3)), h4⟩
    · obtain ⟨l, vs, rfl, h3, h4⟩ := Dv.tup_inv r1
      exact h1.here ⟨l, vs, rfl, .inr h3, h4⟩
    · exact h1.stop

/-! ### operators -/
def f2 (p : D → D → Mo D) (f h : Mo D) : Mo D := bd f fun d => bd h fun e => p d e
/-- a two-place operation by data -/
def BinD (X : Cx) (Γ : Gam) (W : WX) (F : Value → Value → Sem Value) (p : D → D → Mo D) : Prop :=
  OpR X F fun x y H Q => ∃ H0 G0 G g σ d e, Dv X.K Γ G x d ∧ Dv X.K Γ G y e ∧ tAt X.K Γ W (RD X.K Γ) (p d e) H0 G0 G g σ H Q
theorem d_bin {op : Operator} {p : D → D → Mo D} {f h : Mo D} (ho : BinD X Γ W (binaryOp op) p) (ha : DX X Γ W a f) (hb : DX X Γ W b h) : DX X Γ W (.BinOp a op b pos) (f2 p f h) :=
  (pe_op ho ha hb).imp fun σ H Q h => h.bind fun H0 G0 d v g1 G1 H1 r1 h1 => (h1.bind fun e u g2 G2 H2 gr r2 h2 => ⟨H0, G0, G2, g2, σ, d, e, r1.mono gr, r2, h2⟩).g
theorem d_cmp {op : CmpOp} {p : D → D → Mo D} {f h : Mo D} (ho : BinD X Γ W (compareOp op) p) (ha : DX X Γ W a f) (hb : DX X Γ W b h) (hm : behindInMarks op b = false) : DX X Γ W (.Compare a [op] [b] pos) (f2 p f h) :=
  (pe_cmpR ho ha hb hm).imp fun σ H Q h => h.bind fun H0 G0 d v g1 G1 H1 r1 h1 => (h1.bind fun e u g2 G2 H2 gr r2 h2 => ⟨H0, G0, G2, g2, σ, d, e, r1.mono gr, r2, h2⟩).g
def aB : D → Mo Bool
  | .bl b => rt b
  | _ => stop
def fT (f : Mo D) : Mo Bool := bd f aB
theorem Dv.bl_inv {K : PySem.W.Frag} {G : Hp} {v : V} {d : D} {b : Bool} (h : Dv K Γ G v (.bl b)) : v = .bl b := by cases h; rfl
theorem tT {k : L2.St → Hp → VK → Prop} {f : Mo D} {σ : L2.St} {H : Hp} {Q : Bool → Hp → Prop} (h : tG X.K Γ W RB (fT f) σ H Q) : tG X.K Γ W (RD X.K Γ) f σ H (fun x H1 => ∃ c, x = .bl c ∧ Q c H1) :=
  h.bind fun H0 G0 d v g1 G1 H1 r1 h1 => by
    unfold aB at h1
    split at h1
    · cases r1
      exact ⟨_, rfl, h1.here rfl⟩
    · exact h1.stop
theorem t_val {f : Mo D} (h : DX X Γ W e f) (he : ∀ whole, isTrue e X.env whole = (do let v ← whole; standAt e.pos; holding [v] (truthy v)) := by intro _; rfl) : DT X Γ W e (fT f) :=
  (pt_val h he).imp fun σ H Q h => tT (k := fun _ _ _ => True) h
theorem t_cmp {op : CmpOp} {p : D → D → Mo D} {f h : Mo D} (ho : BinD X Γ W (compareOp op) p) (ha : DX X Γ W a f) (hb : DX X Γ W b h) (hm : behindInMarks op b = false) : DT X Γ W (.Compare a [op] [b] pos) (fT (f2 p f h)) :=
  (pt_cmpR ho ha hb hm).imp fun σ H Q h => (tT (k := fun _ _ _ => True) h).bind fun H0 G0 d v g1 G1 H1 r1 h1 => (h1.bind fun e u g2 G2 H2 gr r2 h2 => ⟨H0, G0, G2, g2, σ, d, e, r1.mono gr, r2, h2⟩).g
/-! ### tests -/
def fNot (f : Mo Bool) : Mo Bool := bd f fun b => rt (!b)
def fAnd (f h : Mo Bool) : Mo Bool := bd f fun b => if b = true then h else rt false
def fOr (f h : Mo Bool) : Mo Bool := bd f fun b => if b = true then rt true else h
theorem t_not {f : Mo Bool} (h : DT X Γ W a f) : DT X Γ W (.UnaryOp .Not a pos) (fNot f) :=
  (pt_not h).imp fun σ H Q h => h.bind fun H0 G0 d v g1 G1 H1 r1 h1 => by
    cases r1; exact h1.here rfl
variable {rest : List Expr}
theorem w_and1 {f : Mo Bool} (h : DT X Γ W a f) : DW X Γ W (.BoolOp .And [a] pos) f := pw_and1 h
theorem w_or1 {f : Mo Bool} (h : DT X Γ W a f) : DW X Γ W (.BoolOp .Or [a] pos) f := pw_or1 h
theorem w_and {f h : Mo Bool} (ha : DT X Γ W a f) (hb : DW X Γ W (.BoolOp .And (b :: rest) pos) h) : DW X Γ W (.BoolOp .And (a :: b :: rest) pos) (fAnd f h) :=
  (pw_and ha hb).imp fun σ H Q h => h.bind fun H0 G0 d v g1 G1 H1 r1 h1 => by
    cases r1
    cases d with
    | true => rw [if_pos rfl] at h1 ⊢; exact h1.g
    | false => rw [if_neg Bool.false_ne_true] at h1 ⊢; exact h1.here rfl
theorem w_or {f h : Mo Bool} (ha : DT X Γ W a f) (hb : DW X Γ W (.BoolOp .Or (b :: rest) pos) h) : DW X Γ W (.BoolOp .Or (a :: b :: rest) pos) (fOr f h) :=
  (pw_or ha hb).imp fun σ H Q h => h.bind fun H0 G0 d v g1 G1 H1 r1 h1 => by
    cases r1
    cases d with
    | true => rw [if_pos rfl] at h1 ⊢; exact h1.here rfl
    | false => rw [if_neg Bool.false_ne_true] at h1 ⊢; exact h1.g
theorem t_w {f : Mo Bool} (h : DW X Γ W e f) : DT X Γ W e f := h.pt
/-- values that are bools -/
def fNotV (f : Mo D) : Mo D := bd f fun d => bd (aB d) fun b => rt (.bl (!b))
def fAndV (f h : Mo D) : Mo D := bd f fun d => bd (aB d) fun b => if b = true then h else rt (.bl false)
def fOrV (f h : Mo D) : Mo D := bd f fun d => bd (aB d) fun b => if b = true then rt (.bl true) else h
theorem tAt.bl {β : Type} {α : Type} {R : Rel β α} {k : Bool → Mo α} {d : D} {v : V} {H0 G0 G H : Hp} {g : Sg} {σ : L2.St} {Q : β → Hp → Prop} {K : PySem.W.Frag} (h : tAt K Γ W R (bd (aB d) k) H0 G0 G g σ H Q) (r : Dv K Γ G v d) : ∃ b, v = .bl b ∧ tAt K Γ W R (k b) H0 G0 G g σ H Q := by
  unfold aB at h
  split at h
  · cases r; exact ⟨_, rfl, h⟩
  · exact h.stop
theorem d_not {f : Mo D} (h : DX X Γ W a f) : DX X Γ W (.UnaryOp .Not a pos) (fNotV f) :=
  (pe_not h).imp fun σ H Q h => h.bind fun H0 G0 d v g1 G1 H1 r1 h1 => by
    obtain ⟨b, rfl, h2⟩ := h1.bl r1
    exact ⟨b, rfl, h2.here (.bl _)⟩
theorem d_one {op} {f : Mo D} (h : DX X Γ W a f) : DX X Γ W (.BoolOp op [a] pos) f := pe_one h
theorem d_and {f h : Mo D} (ha : DX X Γ W a f) (hb : DX X Γ W (.BoolOp .And (b :: rest) pos) h) : DX X Γ W (.BoolOp .And (a :: b :: rest) pos) (fAndV f h) :=
  (pe_and ha hb).imp fun σ H Q h => h.bind fun H0 G0 d v g1 G1 H1 r1 h1 => by
    obtain ⟨b, rfl, h2⟩ := h1.bl r1
    refine ⟨b, rfl, ?_⟩
    cases b with
    | true => rw [if_pos rfl] at h2 ⊢; exact h2.g
    | false => rw [if_neg Bool.false_ne_true] at h2 ⊢; exact h2.here (.bl _)
theorem d_or {f h : Mo D} (ha : DX X Γ W a f) (hb : DX X Γ W (.BoolOp .Or (b :: rest) pos) h) : DX X Γ W (.BoolOp .Or (a :: b :: rest) pos) (fOrV f h) :=
  (pe_or ha hb).imp fun σ H Q h => h.bind fun H0 G0 d v g1 G1 H1 r1 h1 => by
    obtain ⟨b, rfl, h2⟩ := h1.bl r1
    refine ⟨b, rfl, ?_⟩
    cases b with
    | true => rw [if_pos rfl] at h2 ⊢; exact h2.here (.bl _)
    | false => rw [if_neg Bool.false_ne_true] at h2 ⊢; exact h2.g
def fIfE {α : Type} (c : Mo Bool) (f h : Mo α) : Mo α := bd c fun b => if b = true then f else h
theorem d_ifE {c : Expr} {fc : Mo Bool} {f h : Mo D} (hc : DT X Γ W c fc) (ha : DX X Γ W a f) (hb : DX X Γ W b h) : DX X Γ W (.IfExp c a b pos) (fIfE fc f h) :=
  (pe_ifExp hc ha hb).imp fun σ H Q h => h.bind fun H0 G0 d v g1 G1 H1 r1 h1 => by
    cases r1
    cases d with
    | true => rw [if_pos rfl] at h1 ⊢; exact h1.g
    | false => rw [if_neg Bool.false_ne_true] at h1 ⊢; exact h1.g
end
end DE
namespace DE
open PyProof.Rows PySem.Spec PySem L2

/-! ### statements -/
inductive Out where
  | nx | ret (d : D) | brk | ct | exc (x : Exn)
abbrev Ms := Sg → Option (Out × Sg)
def sb {α : Type} (f : Mo α) (k : α → Ms) : Ms := fun g => match f g with
  | none => none
  | some (.error x, g1) => some (.exc x, g1)
  | some (.ok a, g1) => k a g1
def sOut (o : Out) : Ms := fun g => some (o, g)
def sStop : Ms := fun _ => none
@[simp] theorem sb_rt {α : Type} (a : α) (k : α → Ms) : sb (rt a) k = k a := rfl
@[simp] theorem sb_stop {α : Type} (k : α → Ms) : sb (stop : Mo α) k = sStop := rfl
def fSeq (f k : Ms) : Ms := fun g => match f g with
  | some (.nx, g1) => k g1
  | o => o
section
variable (K : PySem.W.Frag) (Γ : Gam) (W : WX)
def tSt (f : Ms) (H0 G0 G : Hp) (g : Sg) (Ds : Ends) (σ : L2.St) (H : Hp) : Prop :=
  En K Γ H0 G0 G H σ g ∧ ∃ o g', f g = some (o, g') ∧ match o with
    | .nx => ∀ σ' G' H', Gr G G' → En K Γ H0 G0 G' H' σ' g' → Ds.nx σ' H'
    | .brk => ∀ σ' G' H', Gr G G' → En K Γ H0 G0 G' H' σ' g' → Ds.bk σ' H'
    | .ct => ∀ σ' G' H', Gr G G' → En K Γ H0 G0 G' H' σ' g' → Ds.ct σ' H'
    | .ret d => ∀ v σ' G' H', Gr G G' → En K Γ H0 G0 G' H' σ' g' → Dv K Γ G' v d → Ds.rt v H'
    | .exc x => ∀ C dd σ' G' H', Gr G G' → En K Γ H0 G0 G' H' σ' g' → ExD K Γ G' C dd x → W C dd σ' H'
def tS (f : Ms) : TS := fun Ds σ H => ∃ H0 G0 G g, tSt K Γ W f H0 G0 G g Ds σ H
end
section
variable {K : PySem.W.Frag} {Γ : Gam} {W : WX} {α β : Type}
theorem tSt.bind {R1 : Rel β α} {f : Mo α} {k : α → Ms} {H0 G0 G H : Hp} {g : Sg} {σ : L2.St} {Ds : Ends} {P : β → Hp → Prop}
    (h : tSt K Γ W (sb f k) H0 G0 G g Ds σ H) (hp : ∀ d v g1 G1 H1, f g = some (.ok d, g1) → Gr G G1 → R1 H0 G1 H1 σ g1 v d → tSt K Γ W (k d) H0 G0 G1 g1 Ds σ H1 → P v H1) : tAt K Γ W R1 f H0 G0 G g σ H P := by
  obtain ⟨E, o, g', e, q⟩ := h
  refine ⟨E, ?_⟩
  unfold sb at e
  cases hf : f g with
  | none => (rw [hf] at e); cases e
  | some p =>
    obtain ⟨r1, g1⟩ := p
    rw [hf] at e
    cases r1 with
    | error x =>
      cases e
      exact ⟨.error x, _, rfl, fun C dd G' H' gr E' hx => q C dd σ G' H' gr E' hx⟩
    | ok d =>
      refine ⟨.ok d, g1, rfl, fun v G1 H1 gr E1 r1 => hp d v g1 G1 H1 hf gr r1 ⟨E1, o, g', e, ?_⟩⟩
      cases o with
      | nx => exact fun σ2 G2 H2 gr2 => q σ2 G2 H2 (gr.trans gr2)
      | brk => exact fun σ2 G2 H2 gr2 => q σ2 G2 H2 (gr.trans gr2)
      | ct => exact fun σ2 G2 H2 gr2 => q σ2 G2 H2 (gr.trans gr2)
      | ret d2 => exact fun v2 σ2 G2 H2 gr2 => q v2 σ2 G2 H2 (gr.trans gr2)
      | exc x => exact fun C dd σ2 G2 H2 gr2 => q C dd σ2 G2 H2 (gr.trans gr2)
theorem tS.bind {R1 : Rel β α} {f : Mo α} {k : α → Ms} {H : Hp} {σ : L2.St} {Ds : Ends} {P : β → Hp → Prop}
    (h : tS K Γ W (sb f k) Ds σ H) (hp : ∀ H0 G0 d v g1 G1 H1, R1 H0 G1 H1 σ g1 v d → tSt K Γ W (k d) H0 G0 G1 g1 Ds σ H1 → P v H1) : tG K Γ W R1 f σ H P := by
  obtain ⟨H0, G0, G, g, h⟩ := h
  exact ⟨H0, G0, G, g, h.bind fun d v g1 G1 H1 _ _ => hp H0 G0 d v g1 G1 H1⟩
theorem tSt.s {f : Ms} {H0 G0 G H : Hp} {g : Sg} {σ : L2.St} {Ds : Ends} (h : tSt K Γ W f H0 G0 G g Ds σ H) : tS K Γ W f Ds σ H := ⟨H0, G0, G, g, h⟩
theorem tSt.stop {H0 G0 G H : Hp} {g : Sg} {σ : L2.St} {Ds : Ends} {P : Prop} (h : tSt K Γ W sStop H0 G0 G g Ds σ H) : P := by
  obtain ⟨_, _, _, e, _⟩ := h
  cases e
theorem tSt.no {f : Ms} {H0 G0 G H : Hp} {g : Sg} {σ : L2.St} {Ds : Ends} {P : Prop} (h : tSt K Γ W f H0 G0 G g Ds σ H) (e : f g = none) : P := by
  obtain ⟨_, _, _, e', _⟩ := h
  rw [e] at e'; cases e'
theorem tSt.next {f : Ms} {g g' : Sg} {H0 G0 G H H' : Hp} {σ σ' : L2.St} {Ds : Ends} (h : tSt K Γ W f H0 G0 G g Ds σ H) (e : f g = some (.nx, g')) {G' : Hp} (gr : Gr G G') (E : En K Γ H0 G0 G' H' σ' g') : Ds.nx σ' H' := by
  obtain ⟨_, _, _, e', q⟩ := h
  rw [e] at e'; cases e'
  exact q σ' G' H' gr E
/-- .. the next state, then the rest -/
theorem tSt.seq {f k : Ms} {H0 G0 G H : Hp} {g : Sg} {σ : L2.St} {Ds : Ends} (h : tSt K Γ W (fSeq f k) H0 G0 G g Ds σ H) {N : L2.St → Hp → Prop}
    (hn : ∀ σ1 G1 H1 g1, Gr G G1 → tSt K Γ W k H0 G0 G1 g1 Ds σ1 H1 → N σ1 H1) : tSt K Γ W f H0 G0 G g { Ds with nx := N } σ H := by
  obtain ⟨E, o, g', e, q⟩ := h
  refine ⟨E, ?_⟩
  unfold fSeq at e
  cases hf : f g with
  | none => simp only [hf] at e; cases e
  | some p =>
    obtain ⟨o1, g1⟩ := p
    simp only [hf] at e
    cases o1 with
    | nx =>
      refine ⟨.nx, g1, rfl, fun σ1 G1 H1 gr E1 => hn σ1 G1 H1 g1 gr ⟨E1, o, g', e, ?_⟩⟩
      cases o with
      | nx => exact fun σ2 G2 H2 gr2 => q σ2 G2 H2 (gr.trans gr2)
      | brk => exact fun σ2 G2 H2 gr2 => q σ2 G2 H2 (gr.trans gr2)
      | ct => exact fun σ2 G2 H2 gr2 => q σ2 G2 H2 (gr.trans gr2)
      | ret d2 => exact fun v2 σ2 G2 H2 gr2 => q v2 σ2 G2 H2 (gr.trans gr2)
      | exc x => exact fun C dd σ2 G2 H2 gr2 => q C dd σ2 G2 H2 (gr.trans gr2)
    | brk => cases e; exact ⟨.brk, _, rfl, q⟩
    | ct => cases e; exact ⟨.ct, _, rfl, q⟩
    | ret d => cases e; exact ⟨.ret d, _, rfl, q⟩
    | exc x => cases e; exact ⟨.exc x, _, rfl, q⟩
end

abbrev DS_ (X : Cx) (Γ : Gam) (W : WX) (st : Stmt) (f : Ms) : Prop := PS X st (tS X.K Γ W f)
abbrev DB (X : Cx) (Γ : Gam) (W : WX) (st : List Stmt) (f : Ms) : Prop := PSs X st (tS X.K Γ W f)
section
variable {X : Cx} {Γ : Gam} {W : WX} {a b e : Expr} {es : List Expr} {pos : Pos} {st : Stmt} {rest body : List Stmt}
theorem b_nil : DB X Γ W [] (sOut .nx) := pss_nil.imp fun Ds σ H ⟨H0, G0, G, g, h⟩ => h.next rfl (Gr.refl _) h.1
theorem b_cons {f k : Ms} (h1 : DS_ X Γ W st f) (h2 : DB X Γ W rest k) : DB X Γ W (st :: rest) (fSeq f k) :=
  (pss_cons h1 h2).imp fun Ds σ H ⟨H0, G0, G, g, h⟩ => ⟨H0, G0, G, g, h.seq fun σ1 G1 H1 g1 _ h1 => h1.s⟩
theorem b_one {f : Ms} (h1 : DS_ X Γ W st f) : DB X Γ W [st] f := pss_one h1
theorem s_pass : DS_ X Γ W (.Pass pos) (sOut .nx) := ps_pass.imp fun Ds σ H ⟨H0, G0, G, g, h⟩ => h.next rfl (Gr.refl _) h.1
theorem s_brk : DS_ X Γ W (.Break pos) (sOut .brk) := ps_break.imp fun Ds σ H ⟨H0, G0, G, g, E, o, g', e, q⟩ => by cases e; exact q σ G H (Gr.refl _) E
theorem s_ct : DS_ X Γ W (.Continue pos) (sOut .ct) := ps_continue.imp fun Ds σ H ⟨H0, G0, G, g, E, o, g', e, q⟩ => by cases e; exact q σ G H (Gr.refl _) E
theorem s_doc {x j pos pos'} : DS_ X Γ W (.Expr (.Constant (.str x) j pos) pos') (sOut .nx) := ps_doc.imp fun Ds σ H ⟨H0, G0, G, g, h⟩ => h.next rfl (Gr.refl _) h.1
def fSet (i : Nat) (f : Mo D) : Ms := sb f fun d g => some (.nx, ⟨g.r.set i (.dat d), g.s⟩)
def fSetO (i : Nat) (f : Mo (List D)) : Ms := sb f fun d g => some (.nx, ⟨g.r.set i (.own d), g.s⟩)
theorem s_set (i : Nat) {x : Str} {pos' : Pos} {f : Mo D} (hN : X.N.Nodup) (he : DX X Γ W e f) (hi : X.N[i]? = some x := by rfl) (hx : Loc X.env.scope x := by first | exact Or.inl rfl | exact Or.inr rfl) (hs : swapsWith e (some (.Name x pos')) pos.line X.env = pure false := by rfl)
    (hf : X.fn x = true ∨ X.env.scope.names.lookup x = some .local := by first | exact .inl rfl | exact .inr rfl | assumption) : DS_ X Γ W (.Assign [.Name x pos'] e pos) (fSet i f) :=
  (ps_set hN hi hx he hs hf).imp fun Ds σ H h => h.bind fun H0 G0 d v g1 G1 H1 r1 h1 => h1.next rfl (Gr.refl _) (h1.1.set i r1)
theorem s_setO (i : Nat) {x : Str} {pos' : Pos} {f : Mo (List D)} (hN : X.N.Nodup) (he : DF X Γ W e f) (hi : X.N[i]? = some x := by rfl) (hx : Loc X.env.scope x := by first | exact Or.inl rfl | exact Or.inr rfl) (hs : swapsWith e (some (.Name x pos')) pos.line X.env = pure false := by rfl)
    (hf : X.fn x = true ∨ X.env.scope.names.lookup x = some .local := by first | exact .inl rfl | exact .inr rfl | assumption) : DS_ X Γ W (.Assign [.Name x pos'] e pos) (fSetO i f) :=
  (ps_set hN hi hx he hs hf).imp fun Ds σ H h => h.bind fun H0 G0 d v g1 G1 H1 r1 h1 => h1.next rfl (Gr.refl _) (h1.1.setO i r1)
def fRet (f : Mo D) : Ms := sb f fun d => sOut (.ret d)
theorem s_ret {f : Mo D} (he : DX X Γ W e f) : DS_ X Γ W (.Return (some e) pos) (fRet f) :=
  (ps_ret he).imp fun Ds σ H h => h.bind fun H0 G0 d v g1 G1 H1 r1 ⟨E, o, g', e, q⟩ => by
    cases e; exact q v σ G1 H1 (Gr.refl _) E r1
def fExp (f : Mo D) : Ms := sb f fun _ => sOut .nx
theorem s_exp {f : Mo D} (he : DX X Γ W e f) (hs : swapsWith e none pos.line X.env = pure false := by rfl) : DS_ X Γ W (.Expr e pos) (fExp f) :=
  (ps_expr he hs).imp fun Ds σ H h => h.bind fun H0 G0 d v g1 G1 H1 r1 h1 => h1.next rfl (Gr.refl _) h1.1
def fIf (c : Mo Bool) (t u : Ms) : Ms := sb c fun b => if b = true then t else u
theorem s_if {c : Expr} {p q : List Stmt} {fc : Mo Bool} {t u : Ms} (hc : DT X Γ W c fc) (ha : DB X Γ W p t) (hb : DB X Γ W q u) : DS_ X Γ W (.If c p q pos) (fIf fc t u) :=
  (ps_if hc ha hb).imp fun Ds σ H h => h.bind fun H0 G0 d v g1 G1 H1 r1 h1 => by
    cases r1
    cases d with
    | true => rw [if_pos rfl] at h1 ⊢; exact h1.s
    | false => rw [if_neg Bool.false_ne_true] at h1 ⊢; exact h1.s
theorem s_never : DS_ X Γ W st sStop := ps_never.imp fun Ds σ H ⟨H0, G0, G, g, h⟩ => h.stop
theorem b_never : DB X Γ W body sStop := pss_never.imp fun Ds σ H ⟨H0, G0, G, g, h⟩ => h.stop

/-! ### targets -/
abbrev Mt := D → Sg → Option Sg
def TgS (K : PySem.W.Frag) (Γ : Gam) (gt : TG) (js : List Nat) (ft : Mt) : Prop := ∀ (v : V) (σ : L2.St) (H : Hp) (Q : L2.St → Hp → Prop) (H0 G0 G : Hp) (g g' : Sg) (d : D), En K Γ H0 G0 G H σ g → Dv K Γ G v d → ft d g = some g' →
  (∀ σ', En K Γ H0 G0 G H σ' g' → (σ'.length = σ.length ∧ ∀ i, i ∉ js → σ'[i]? = σ[i]?) → Q σ' H) → gt v σ H Q
def DG (X : Cx) (Γ : Gam) (tg : Expr) (gt : TG) (js : List Nat) (ft : Mt) : Prop := PG X tg gt ∧ TgS X.K Γ gt js ft
def gN (i : Nat) : Mt := fun d g => some ⟨g.r.set i (.dat d), g.s⟩
theorem g_name (i : Nat) {x : Str} {pos : Pos} (hN : X.N.Nodup) (hi : X.N[i]? = some x := by rfl) (hx : Loc X.env.scope x := by first | exact Or.inl rfl | exact Or.inr rfl)
    (hf : X.fn x = true ∨ X.env.scope.names.lookup x = some .local := by first | exact .inl rfl | exact .inr rfl | assumption) : DG X Γ (.Name x pos) (gName i) [i] (gN i) :=
  ⟨pg_name hN hi hx hf, fun v σ H Q H0 G0 G g g' d E dv e k => by
    cases e
    exact k _ (E.set i dv) ⟨List.length_set, fun j hj => List.getElem?_set_ne (by simp at hj; omega)⟩⟩
abbrev Mts := List D → Sg → Option Sg
def DGs (X : Cx) (Γ : Gam) (tg : List Expr) (gt : TGs) (js : List Nat) (ft : Mts) : Prop := PGs X tg gt ∧ ∀ (vs : List V) (σ : L2.St) (H : Hp) (Q : L2.St → Hp → Prop) (H0 G0 G : Hp) (g g' : Sg) (ds : List D), En X.K Γ H0 G0 G H σ g → DvA X.K Γ G vs ds → ft ds g = some g' →
  (∀ σ', En X.K Γ H0 G0 G H σ' g' → (σ'.length = σ.length ∧ ∀ i, i ∉ js → σ'[i]? = σ[i]?) → Q σ' H) → gt vs σ H Q
def gsNil : Mts := fun ds g => match ds with
  | [] => some g
  | _ => none
def gsCons (t : Mt) (u : Mts) : Mts := fun ds g => match ds with
  | [] => none
  | d :: ds => (t d g).bind (u ds)
theorem gs_nil : DGs X Γ [] gNil [] gsNil := ⟨pgs_nil, fun vs σ H Q H0 G0 G g g' ds E dv e k => by
  cases ds with
  | nil => cases dv; cases e; exact ⟨rfl, k _ E ⟨rfl, fun _ _ => rfl⟩⟩
  | cons d ds => cases e⟩
theorem gs_cons {t : Mt} {u : Mts} {j1 j2 : List Nat} {t' : TG} {u' : TGs} (h1 : DG X Γ e t' j1 t) (h2 : DGs X Γ es u' j2 u) (hs : (assignEach (e :: es) X.env).map (·.2) = assign e X.env :: (assignEach es X.env).map (·.2) := by rfl) : DGs X Γ (e :: es) (gCons t' u') (j1 ++ j2) (gsCons t u) := by
  obtain ⟨p1, k1⟩ := h1
  obtain ⟨p2, k2⟩ := h2
  refine ⟨pgs_cons p1 p2 hs, fun vs σ H Q H0 G0 G g g' ds E dv e k => ?_⟩
  cases ds with
  | nil => cases e
  | cons d ds =>
    cases dv with
    | cons dv dvs =>
      cases ht : t d g with
      | none => unfold gsCons at e; simp only [ht] at e; cases e
      | some g1 =>
        have e : u ds g1 = some g' := by unfold gsCons at e; simp only [ht, Option.bind_some] at e; exact e
        exact ⟨_, _, rfl, k1 _ σ H _ H0 G0 G g g1 d E dv ht fun σ1 E1 f1 => k2 _ σ1 H Q H0 G0 G g1 g' ds E1 dvs e fun σ2 E2 f2 => k σ2 E2 ⟨f2.1.trans f1.1, fun i hi => (f2.2 i fun z => hi (List.mem_append_right _ z)).trans (f1.2 i fun z => hi (List.mem_append_left _ z))⟩⟩
def gT (n : Nat) (u : Mts) : Mt := fun d g => match d with
  | .tup ds => if ds.length = n then u ds g else none
  | _ => none
theorem g_tup {k : Nat} {u : Mts} {n : Nat} {js : List Nat} {u' : TGs} (hc : X.calm = true) (h : DGs X Γ es u' js u) (hn : (assignEach es X.env).length = n := by rfl) (hst : (assignEach es X.env).findIdx? (·.1) = none := by rfl) : DG X Γ (.Tuple es k pos) (gTup X.K n u') js (gT n u) := by
  obtain ⟨p, q⟩ := h
  refine ⟨pg_tup hc p hn hst, fun v σ H Q H0 G0 G g g' d E dv e k => ?_⟩
  unfold gT at e
  split at e
  · split at e
    · rename_i hl
      obtain ⟨a, xs, rfl, h1, h2⟩ := Dv.tup_inv dv
      exact ⟨a, xs, rfl, E.sub.sqT h1, by rw [h2.length]; exact hl, q xs σ H Q H0 G0 G g g' _ E h2 e k⟩
    · cases e
  · cases e
def fAsg (f : Mo D) (t : Mt) : Ms := sb f fun d g => (t d g).map fun g' => (.nx, g')
theorem s_asg {tg : Expr} {f : Mo D} {t : Mt} {js : List Nat} {gt : TG} (he : DX X Γ W e f) (hg : DG X Γ tg gt js t) (hs : swapsWithSole [tg] e pos.line X.env = pure false := by rfl) (hw : swappedStores [tg] e X.env = pure none := by rfl)
    (h1 : (assignEach [tg] X.env).map (·.2) = [assign tg X.env] := by rfl) : DS_ X Γ W (.Assign [tg] e pos) (fAsg f t) := by
  obtain ⟨p, k⟩ := hg
  refine (ps_asg he p hs hw h1).imp fun Ds σ H h => h.bind fun H0 G0 d v g1 G1 H1 r1 h1 => ?_
  cases ht : t d g1 with
  | none => exact h1.no (by rw [ht]; rfl)
  | some g2 => exact k v σ H1 _ H0 G0 G1 g1 g2 d h1.1 r1 ht fun σ' E' _ => h1.next (by rw [ht]; rfl) (Gr.refl _) E'

/-! ### for -/
def loop (t : Mt) (b : Ms) : List D → Ms
  | [] => sOut .nx
  | d :: ds => fun g => match t d g with
    | none => none
    | some g1 => match b g1 with
      | some (.nx, g2) => loop t b ds g2
      | some (.ct, g2) => loop t b ds g2
      | some (.brk, g2) => some (.nx, g2)
      | o => o
theorem loop_turn {K : PySem.W.Frag} {t : Mt} {f : Ms} {d : D} {ds : List D} {H0 G0 G H : Hp} {g : Sg} {σ : L2.St} {Ds : Ends} {N : L2.St → Hp → Prop} (h : tSt K Γ W (loop t f (d :: ds)) H0 G0 G g Ds σ H) {v : V} {gt : TG} (dv : Dv K Γ G v d)
    (hgt : ∀ (Q : L2.St → Hp → Prop) (g' : Sg), t d g = some g' → (∀ σ', En K Γ H0 G0 G H σ' g' → Q σ' H) → gt v σ H Q)
    (hN : ∀ σ1 G1 H1 g1, Gr G G1 → tSt K Γ W (loop t f ds) H0 G0 G1 g1 Ds σ1 H1 → N σ1 H1) : gt v σ H fun σ2 H2 => tS K Γ W f { Ds with nx := N, ct := N, bk := Ds.nx } σ2 H2 := by
  obtain ⟨E, o, g', e, q⟩ := h
  unfold loop at e
  cases ht : t d g with
  | none => simp only [ht] at e; cases e
  | some g1 =>
    simp only [ht] at e
    refine hgt _ g1 ht fun σ1 E1 => ⟨H0, G0, G, g1, E1, ?_⟩
    cases hf : f g1 with
    | none => simp only [hf] at e; cases e
    | some p =>
      obtain ⟨o1, g2⟩ := p
      simp only [hf] at e
      have nxt : ∀ {e : loop t f ds g2 = some (o, g')} σ2 G2 H2, Gr G G2 → En K Γ H0 G0 G2 H2 σ2 g2 → N σ2 H2 := fun {e} σ2 G2 H2 gr E2 => hN σ2 G2 H2 g2 gr ⟨E2, o, g', e, by
        cases o with
        | nx => exact fun σ3 G3 H3 gr3 => q σ3 G3 H3 (gr.trans gr3)
        | brk => exact fun σ3 G3 H3 gr3 => q σ3 G3 H3 (gr.trans gr3)
        | ct => exact fun σ3 G3 H3 gr3 => q σ3 G3 H3 (gr.trans gr3)
        | ret d2 => exact fun v3 σ3 G3 H3 gr3 => q v3 σ3 G3 H3 (gr.trans gr3)
        | exc x => exact fun C dd σ3 G3 H3 gr3 => q C dd σ3 G3 H3 (gr.trans gr3)⟩
      cases o1 with
      | nx => exact ⟨.nx, g2, rfl, fun σ2 G2 H2 gr E2 => nxt (e := e) σ2 G2 H2 gr E2⟩
      | ct => exact ⟨.ct, g2, rfl, fun σ2 G2 H2 gr E2 => nxt (e := e) σ2 G2 H2 gr E2⟩
      | brk => cases e; exact ⟨.brk, _, rfl, q⟩
      | ret d => cases e; exact ⟨.ret d, _, rfl, q⟩
      | exc x => cases e; exact ⟨.exc x, _, rfl, q⟩
/-- iteration over a known list or tuple -/
def aSeq : D → Option (List D)
  | .lst xs => some xs
  | .tup xs => some xs
  | _ => none
def fFor (f : Mo D) (t : Mt) (b : Ms) : Ms := sb f fun d => match aSeq d with
  | some ds => loop t b ds
  | none => sStop
theorem PI.or {tg iter : Expr} {w u : TI} (h1 : PI X tg iter w) (h2 : PI X tg iter u) : PI X tg iter (fun σ H R => w σ H R ∨ u σ H R) :=
  ⟨fun pins s σ H R I h => h.elim (h1.run pins s σ H R I) (h2.run pins s σ H R I)⟩
theorem s_for {tg iter : Expr} {f : Mo D} {t : Mt} {k : Ms} {js : List Nat} {gt : TG} (hc : X.calm = true) (hp : PassesOwn (model X.prog X.w) X.A X.env X.xe) (hi : DX X Γ W iter f) (hg : DG X Γ tg gt js t) (hb : DB X Γ W body k)
    (hs : ∀ x, foldedSetIterable iter X.env x = pure x := by intro _; rfl) : DS_ X Γ W (.For tg iter body [] pos) (fFor f t k) := by
  obtain ⟨pg, kg⟩ := hg
  refine (ps_for hp hc (PI.or (pi_list (tl := tG X.K Γ W (RD X.K Γ) f) hi) (pi_tup (tl := tG X.K Γ W (RD X.K Γ) f) hi)) pg hb hs).imp fun Ds σ H h => ?_
  obtain ⟨H0, G0, G, g, h⟩ := h
  by_cases hl : ∃ xs g1, f g = some (.ok (D.lst xs), g1)
  · refine .inl ⟨H0, G0, G, g, h.bind (R1 := RD X.K Γ) fun d v g1 G1 H1 hfe gr r1 h1 => ?_⟩
    cases d with
    | lst ds =>
      obtain ⟨l, vs, rfl, h3, h4⟩ := Dv.lst_inv r1
      have h1 : tSt X.K Γ W (loop t k ds) H0 G0 G1 g1 Ds σ H1 := h1
      refine ⟨l, rfl, ⟨vs, SqL.of (h1.1.sub _ _ h3)⟩, for_list (xs := vs) (fun i σ2 H2 => ∃ G2 g2, Gr G1 G2 ∧ tSt X.K Γ W (loop t k (ds.drop i)) H0 G0 G2 g2 Ds σ2 H2) ⟨G1, g1, Gr.refl _, h1⟩ (fun i σ2 H2 _ ⟨G2, g2, gr2, h2⟩ => SqL.of (h2.1.sub _ _ (gr2 _ _ h3))) ?_ ?_⟩
      · rintro i x σ2 H2 hx ⟨G2, g2, gr2, h2⟩
        obtain ⟨d, hd, dv⟩ := h4.get' i hx
        have ed : ds.drop i = d :: ds.drop (i + 1) := by
          obtain ⟨il, e⟩ := List.getElem?_eq_some_iff.mp hd
          rw [← e]; exact List.drop_eq_getElem_cons il
        rw [ed] at h2
        exact loop_turn h2 (dv.mono gr2) (fun Q g' e k => kg x σ2 H2 Q H0 G0 G2 g2 g' d h2.1 (dv.mono gr2) e fun σ' E' _ => k σ' E') fun σ3 G3 H3 g3 gr3 h3 => ⟨G3, g3, gr2.trans gr3, h3⟩
      · rintro σ2 H2 ⟨G2, g2, gr2, h2⟩
        rw [h4.length, List.drop_length] at h2
        exact h2.next rfl (Gr.refl _) h2.1
    | tup ds =>
      obtain ⟨xs, g2, hl⟩ := hl
      rw [hl] at hfe; cases hfe
    | _ => exact h1.stop
  · refine .inr ⟨H0, G0, G, g, ?_⟩
    refine h.bind (R1 := RD X.K Γ) fun d v g1 G1 H1 hfe gr r1 h1 => ?_
    cases d with
    | tup ds =>
      obtain ⟨l, vs, rfl, h3, h4⟩ := Dv.tup_inv r1
      have h1 : tSt X.K Γ W (loop t k ds) H0 G0 G1 g1 Ds σ H1 := h1
      refine ⟨l, rfl, ⟨vs, h1.1.sub.sqT h3⟩, for_tup (xs := vs) (fun i σ2 H2 => ∃ G2 g2, Gr G1 G2 ∧ tSt X.K Γ W (loop t k (ds.drop i)) H0 G0 G2 g2 Ds σ2 H2) ⟨G1, g1, Gr.refl _, h1⟩ (fun i σ2 H2 _ ⟨G2, g2, gr2, h2⟩ => h2.1.sub.sqT (gr2.sqT h3)) ?_ ?_⟩
      · rintro i x σ2 H2 hx ⟨G2, g2, gr2, h2⟩
        obtain ⟨d, hd, dv⟩ := h4.get' i hx
        have ed : ds.drop i = d :: ds.drop (i + 1) := by
          obtain ⟨il, e⟩ := List.getElem?_eq_some_iff.mp hd
          rw [← e]; exact List.drop_eq_getElem_cons il
        rw [ed] at h2
        exact loop_turn h2 (dv.mono gr2) (fun Q g' e k => kg x σ2 H2 Q H0 G0 G2 g2 g' d h2.1 (dv.mono gr2) e fun σ' E' _ => k σ' E') fun σ3 G3 H3 g3 gr3 h3 => ⟨G3, g3, gr2.trans gr3, h3⟩
      · rintro σ2 H2 ⟨G2, g2, gr2, h2⟩
        rw [h4.length, List.drop_length] at h2
        exact h2.next rfl (Gr.refl _) h2.1
    | lst ds =>
      exact absurd ⟨ds, g1, hfe⟩ hl
    | _ => exact h1.stop
end
end DE
namespace DE
open PyProof.Rows PySem.Spec PySem L2

/-! ### comprehensions -/
def wipeR (r : List Sl) : List Nat → List Sl
  | [] => r
  | v :: vs => (wipeR r vs).set v .no
theorem wipeR_length (r : List Sl) : ∀ vs, (wipeR r vs).length = r.length
  | [] => rfl
  | v :: vs => by unfold wipeR; rw [List.length_set, wipeR_length r vs]
theorem wipeR_get {r : List Sl} {i : Nat} {x : Sl} (hx : x ≠ .no) : ∀ {vs : List Nat}, (wipeR r vs)[i]? = some x → r[i]? = some x ∧ i ∉ vs
  | [], h => ⟨h, by simp⟩
  | v :: vs, h => by
    unfold wipeR at h
    by_cases e : i = v
    · subst e
      have il : i < (wipeR r vs).length := by have := (List.getElem?_eq_some_iff.mp h).1; simpa using this
      rw [List.getElem?_set_self il] at h
      exact absurd (Option.some.inj h).symm hx
    · rw [List.getElem?_set_ne (Ne.symm e)] at h
      obtain ⟨a, b⟩ := wipeR_get hx h
      exact ⟨a, by simp [e, b]⟩
theorem wipe_at {σ : L2.St} {i : Nat} : ∀ {vs : List Nat}, i ∉ vs → (wipe σ vs)[i]? = σ[i]?
  | [], _ => rfl
  | v :: vs, h => by
    unfold wipe
    have e : i ≠ v := fun z => h (by simp [z])
    rw [List.getElem?_set_ne (Ne.symm e)]
    exact wipe_at fun z => h (by simp [z])
theorem wipe_in {σ : L2.St} {i : Nat} : ∀ {vs : List Nat}, i ∈ vs → (wipe σ vs)[i]? = if i < σ.length then some none else none
  | [], h => by simp at h
  | v :: vs, h => by
    unfold wipe
    by_cases e : i = v
    · subst e
      by_cases l : i < σ.length
      · rw [List.getElem?_set_self (by rw [wipe_length]; exact l), if_pos l]
      · rw [if_neg l, List.getElem?_eq_none_iff.mpr]
        rw [List.length_set, wipe_length]; omega
    · rw [List.getElem?_set_ne (Ne.symm e)]
      exact wipe_in (by simpa [e] using h)
theorem wipe_congr {σ σ' : L2.St} {vs : List Nat} (hl : σ'.length = σ.length) (h : ∀ i, i ∉ vs → σ'[i]? = σ[i]?) : wipe σ' vs = wipe σ vs := by
  refine List.ext_getElem? fun i => ?_
  by_cases m : i ∈ vs
  · rw [wipe_in m, wipe_in m, hl]
  · rw [wipe_at m, wipe_at m, h i m]
section
variable {K : PySem.W.Frag} {Γ : Gam} {H0 G0 G H : Hp} {σ : L2.St} {g : Sg}
theorem En.wipe (E : En K Γ H0 G0 G H σ g) (vs : List Nat) : En K Γ H0 G0 G H (wipe σ vs) ⟨wipeR g.r vs, g.s⟩ := by
  refine ⟨E.base, E.gfr, E.g0, E.sub, E.gm, E.st, by rw [wipeR_length, wipe_length]; exact E.len, fun i d h => ?_, fun i xs h => ?_, fun i j xs ys l h1 h2 h3 h4 => ?_, E.tb, E.gt, fun i f c q G1 h => by obtain ⟨h, n⟩ := wipeR_get (by intro z; cases z) h; (rw [wipe_at n]; exact E.fn i f c q G1 h)⟩
  · obtain ⟨h, n⟩ := wipeR_get (by intro z; cases z) h
    rw [wipe_at n]; exact E.dat i d h
  · obtain ⟨h, n⟩ := wipeR_get (by intro z; cases z) h
    rw [wipe_at n]; exact E.own i xs h
  · obtain ⟨h1, n1⟩ := wipeR_get (by intro z; cases z) h1
    obtain ⟨h2, n2⟩ := wipeR_get (by intro z; cases z) h2
    rw [wipe_at n1] at h3
    rw [wipe_at n2] at h4
    exact E.dis i j xs ys l h1 h2 h3 h4
theorem En.unwipe {vs : List Nat} (E : En K Γ H0 G0 G H (L2.wipe σ vs) g) : En K Γ H0 G0 G H σ g := by
  refine ⟨E.base, E.gfr, E.g0, E.sub, E.gm, E.st, by rw [E.len, wipe_length], fun i d h => ?_, fun i xs h => ?_, fun i j xs ys l h1 h2 h3 h4 => ?_, E.tb, E.gt, fun i f c q G1 h => let ⟨x, y⟩ := E.fn i f c q G1 h; ⟨(wipe_some x).1, y⟩⟩
  · obtain ⟨v, k1, k2⟩ := E.dat i d h
    exact ⟨v, (wipe_some k1).1, k2⟩
  · obtain ⟨l, ws, k1, k2⟩ := E.own i xs h
    exact ⟨l, ws, (wipe_some k1).1, k2⟩
  · obtain ⟨l1, _, k1, _⟩ := E.own i xs h1
    obtain ⟨l2, _, k2, _⟩ := E.own j ys h2
    have e1 := (wipe_some k1)
    have e2 := (wipe_some k2)
    rw [e1.1] at h3; cases h3
    rw [e2.1] at h4; cases h4
    exact E.dis i j xs ys l h1 h2 k1 k2
/-- an object that none of these tells of -/
theorem En.touch (E : En K Γ H0 G0 G H σ g) {p : Addr} {o : HO} (g1 : G p = none) (h0 : H0 p = none) (m : p ≠ Γ.M) (sf : Sf H p) (ow : ∀ (i : Nat) xs, g.r[i]? = some (Sl.own xs) → σ[i]? ≠ some (some (V.ref p))) : En K Γ H0 G0 G (upd H p o) σ g := by
  refine ⟨fun a u n h => ?_, E.gfr, E.g0, fun a u h => ?_, E.gm, ?_, E.len, E.dat, fun i xs h => ?_, E.dis, sf.tabs E.tb, E.gt, fun i f c q G1 h => E.fnU sf h (Gr.refl _)⟩
  · have : a ≠ p := by rintro rfl; rw [h0] at h; cases h
    rw [upd_ne this]; exact E.base a u n h
  · have : a ≠ p := by rintro rfl; rw [g1] at h; cases h
    rw [upd_ne this]; exact E.sub a u h
  · exact E.st.gr (Gr.refl _) (upd_ne (Ne.symm m))
  · obtain ⟨l, vs, h1, h2, h3⟩ := E.own i xs h
    have : l ≠ p := by rintro rfl; exact ow i xs h h1
    exact ⟨l, vs, h1, by rw [upd_ne this]; exact h2, h3⟩
end
def compL (vs : List Nat) (t : Mt) (c : Mo Bool) (e : Mo D) : List D → Sg → Option (List D × Sg)
  | [], g => some ([], g)
  | d :: ds, g => match t d g with
    | none => none
    | some g1 => match c g1 with
      | some (.ok true, g2) => match e g2 with
        | some (.ok x, g3) => (compL vs t c e ds ⟨wipeR g3.r vs, g3.s⟩).map fun p => (x :: p.1, p.2)
        | _ => none
      | some (.ok false, g2) => compL vs t c e ds ⟨wipeR g2.r vs, g2.s⟩
      | _ => none
def compF (vs : List Nat) (t : Mt) (c : Mo Bool) (e : Mo D) (ds : List D) : Mo (List D) := fun g => if ds.length ≤ 100000 then (compL vs t c e ds ⟨wipeR g.r vs, g.s⟩).map fun p => (.ok p.1, p.2) else none
theorem compL_len {vs : List Nat} {t : Mt} {c : Mo Bool} {e : Mo D} : ∀ {ds : List D} {g : Sg} {p : List D × Sg}, compL vs t c e ds g = some p → p.1.length ≤ ds.length
  | [], g, p, h => by cases h; exact Nat.le_refl _
  | d :: ds, g, p, h => by
    unfold compL at h
    split at h
    · cases h
    · split at h
      · split at h
        · obtain ⟨q, hq, e⟩ := Option.map_eq_some_iff.mp h
          subst e
          exact Nat.succ_le_succ (compL_len hq)
        · cases h
      · exact Nat.le_succ_of_le (compL_len h)
      · cases h
abbrev Wn : WX := fun _ _ _ _ => False
/-- between two turns of a comprehension -/
structure CI (K : PySem.W.Frag) (Γ : Gam) (H0 G0 G1 : Hp) (σw : L2.St) (vs : List Nat) (t : Mt) (c : Mo Bool) (e : Mo D) (out : List D) (ge : Sg) (Dl : Addr) (ds : List D) (m : Nat) (H : Hp) : Prop where
  ex : ∃ G g acc as r, Gr G1 G ∧ En K Γ H0 G0 G H σw g ∧ H Dl = some (.lst acc) ∧ DvA K Γ G acc as ∧ G Dl = none ∧ H0 Dl = none ∧ Dl ≠ Γ.M ∧ (∀ (i : Nat) xs, g.r[i]? = some (Sl.own xs) → σw[i]? ≠ some (some (V.ref Dl))) ∧
    compL vs t c e ds g = some (r, ge) ∧ out = as ++ r ∧ as.length + ds.length ≤ m
theorem comp_turn {K : PySem.W.Frag} {Γ : Gam} {H0 G0 G1 : Hp} {σ : L2.St} {vs : List Nat} {t : Mt} {c : Mo Bool} {e : Mo D} {out : List D} {ge : Sg} {Dl : Addr} {d : D} {ds : List D} {m : Nat} {H : Hp} {v : V} {gt : TG} {js : List Nat}
    (hm : m ≤ 100000) (hj : ∀ j ∈ js, j ∈ vs) (C : CI K Γ H0 G0 G1 (L2.wipe σ vs) vs t c e out ge Dl (d :: ds) m H) (dv : Dv K Γ G1 v d)
    (kg : ∀ (v : V) (σ : L2.St) (H : Hp) (Q : L2.St → Hp → Prop) (H0 G0 G : Hp) (g g' : Sg) (d : D), En K Γ H0 G0 G H σ g → Dv K Γ G v d → t d g = some g' → (∀ σ', En K Γ H0 G0 G H σ' g' → (σ'.length = σ.length ∧ ∀ i, i ∉ js → σ'[i]? = σ[i]?) → Q σ' H) → gt v σ H Q) :
    gt v (L2.wipe σ vs) H fun σ2 H2 => L2.wipe σ2 vs = L2.wipe σ vs ∧ tG K Γ Wn RB c σ2 H2 fun b H3 =>
      if b = true then tG K Γ Wn (RD K Γ) e σ2 H3 fun y H4 => ∃ acc, H4 Dl = some (.lst acc) ∧ acc.length < sizeLine ∧ CI K Γ H0 G0 G1 (L2.wipe σ vs) vs t c e out ge Dl ds m (upd H4 Dl (.lst (acc ++ [y])))
      else CI K Γ H0 G0 G1 (L2.wipe σ vs) vs t c e out ge Dl ds m H3 := by
  obtain ⟨G, g, acc, as, r, gr, E, hD, da, gD, h0, mD, ow, hc, ho, hl⟩ := C.ex
  unfold compL at hc
  cases ht : t d g with
  | none => simp only [ht] at hc; cases hc
  | some g1 =>
    simp only [ht] at hc
    obtain ⟨H1, up, dn, F0, back⟩ := E.rebase
    have hD1 : H1 Dl = some (.lst acc) := dn Dl _ hD mD ow
    refine kg v _ H _ H1 G G g g1 d F0 (dv.mono gr) ht fun σ2 F f2 => ?_
    have ew : L2.wipe σ2 vs = L2.wipe σ vs := by
      refine wipe_congr (f2.1.trans (wipe_length _ _)) fun i hi => ?_
      rw [f2.2 i fun z => hi (hj i z), wipe_at hi]
    refine ⟨ew, ?_⟩
    -- what own slots hold is not the new list
    have own_ne : ∀ {G0' G' H' : Hp} {σ' : L2.St} {g' : Sg} {H1 : Hp}, En K Γ H1 G0' G' H' σ' g' → H1 Dl = some (.lst acc) → ∀ (i : Nat) xs, g'.r[i]? = some (Sl.own xs) → σ'[i]? ≠ some (some (V.ref Dl)) := fun {G0' G' H' σ' g' H1} F hF i xs hi hs => by
      obtain ⟨l, _, k1, _, _, k4, _⟩ := F.own i xs hi
      rw [hs] at k1; cases k1; rw [hF] at k4; cases k4
    cases hcf : c g1 with
    | none => simp only [hcf] at hc; cases hc
    | some p =>
      obtain ⟨rc, g2⟩ := p
      cases rc with
      | error x => simp only [hcf] at hc; cases hc
      | ok b =>
        refine ⟨H1, G, G, g1, F, .ok b, g2, hcf, fun b' G2 H2 gr2 F2 rb => ?_⟩
        obtain rfl : b' = b := rb
        have hD2 : H2 Dl = some (.lst acc) := F2.base Dl _ (F.ok_lst hD) hD1
        have gD2 : G2 Dl = none := F2.gfr Dl _ hD1 gD
        cases b' with
        | false =>
          simp only [hcf] at hc
          rw [if_neg Bool.false_ne_true]; have W2 := (back _ _ _ _ F2).wipe vs
          rw [ew] at W2
          refine ⟨G2, _, acc, as, r, gr.trans gr2, W2, hD2, da.mono gr2, gD2, h0, mD, fun i xs hi => ?_, hc, ho, by simp at hl; omega⟩
          obtain ⟨hi, n⟩ := wipeR_get (by intro z; cases z) hi
          rw [← ew, wipe_at n]
          exact own_ne F2 hD1 i xs hi
        | true =>
          simp only [hcf] at hc
          rw [if_pos rfl]
          cases hef : e g2 with
          | none => simp only [hef] at hc; cases hc
          | some p =>
            obtain ⟨re, g3⟩ := p
            cases re with
            | error x => simp only [hef] at hc; cases hc
            | ok x =>
              simp only [hef] at hc
              obtain ⟨q, hq, eq⟩ := Option.map_eq_some_iff.mp hc
              cases eq
              refine ⟨H1, G, G2, g2, F2, .ok x, g3, hef, fun y G3 H3 gr3 F3 dy => ⟨acc, F3.base Dl _ (F.ok_lst hD) hD1, ?_, ?_⟩⟩
              · have := da.length
                simp at hl
                exact Nat.lt_of_lt_of_le (show acc.length < 100001 by omega) (by decide)
              · have gD3 : G3 Dl = none := F3.gfr Dl _ hD1 gD
                have B3 := back _ _ _ _ F3
                have W3 := (B3.touch (o := .lst (acc ++ [y])) gD3 h0 mD (sf_lst (F3.base Dl _ (F.ok_lst hD) hD1)) (own_ne F3 hD1)).wipe vs
                rw [ew] at W3
                refine ⟨G3, _, acc ++ [y], as ++ [x], q.1, (gr.trans gr2).trans gr3, W3, upd_same, ((da.mono gr2).mono gr3).append (.cons dy .nil), gD3, h0, mD, fun i xs hi => ?_, hq, by rw [ho]; simp, by simp at hl ⊢; omega⟩
                obtain ⟨hi, n⟩ := wipeR_get (by intro z; cases z) hi
                rw [← ew, wipe_at n]
                exact own_ne F3 hD1 i xs hi

theorem _root_.L2.PTs.imp {X : Cx} {e : List Expr} {t t' : TT} (h : PTs X e t) (k : ∀ σ H Q, t' σ H Q → t σ H Q) : PTs X e t' := ⟨fun p s σ H Q I q => h.run p s σ H Q I (k _ _ _ q)⟩
abbrev DTs (X : Cx) (Γ : Gam) (W : WX) (e : List Expr) (f : Mo Bool) : Prop := PTs X e (tG X.K Γ W RB f)
def fComp (vs : List Nat) (fi : Mo D) (t : Mt) (c : Mo Bool) (e : Mo D) : Mo (List D) := bd fi fun d => match aSeq d with
  | some ds => compF vs t c e ds
  | none => stop
theorem tAt.bindE {K : PySem.W.Frag} {Γ : Gam} {W : WX} {α β α' β' : Type} {R : Rel β α} {R1 : Rel β' α'} {f : Mo α'} {k : α' → Mo α} {H0 G0 G H : Hp} {g : Sg} {σ : L2.St} {Q : β → Hp → Prop} {P : β' → Hp → Prop}
    (h : tAt K Γ W R (bd f k) H0 G0 G g σ H Q) (hp : ∀ d v g1 G1 H1, f g = some (.ok d, g1) → Gr G G1 → R1 H0 G1 H1 σ g1 v d → tAt K Γ W R (k d) H0 G0 G1 g1 σ H1 Q → P v H1) : tAt K Γ W R1 f H0 G0 G g σ H P := by
  obtain ⟨E, r, g', e, q⟩ := h
  refine ⟨E, ?_⟩
  unfold bd at e
  cases hf : f g with
  | none => (rw [hf] at e); cases e
  | some p =>
    obtain ⟨r1, g1⟩ := p
    rw [hf] at e
    cases r1 with
    | error x =>
      cases e
      exact ⟨.error x, _, rfl, q⟩
    | ok d =>
      refine ⟨.ok d, g1, rfl, fun v G1 H1 gr E1 r1 => hp d v g1 G1 H1 hf gr r1 ⟨E1, r, g', e, ?_⟩⟩
      cases r with
      | ok d2 => exact fun v2 G2 H2 gr2 => q v2 G2 H2 (gr.trans gr2)
      | error x => exact fun C dd G2 H2 gr2 => q C dd G2 H2 (gr.trans gr2)
section
variable {K : PySem.W.Frag} {Γ : Gam} {W : WX}
/-- what the walk over the items gives -/
theorem comp_start {H0 G0 G1 H1 : Hp} {σ : L2.St} {g1 : Sg} {vs : List Nat} {t : Mt} {c : Mo Bool} {e : Mo D} {ds : List D} {Q : VK} (h : tAt K Γ W (RF K Γ) (compF vs t c e ds) H0 G0 G1 g1 σ H1 Q) {Dl : Addr} (hD : H1 Dl = none) :
    ∃ out ge, ds.length ≤ 100000 ∧ CI K Γ H0 G0 G1 (L2.wipe σ vs) vs t c e out ge Dl ds ds.length (upd H1 Dl (.lst [])) ∧ ∀ H', CI K Γ H0 G0 G1 (L2.wipe σ vs) vs t c e out ge Dl [] ds.length H' → Q (.ref Dl) H' := by
  obtain ⟨E, r, g', e', q⟩ := h
  unfold compF at e'
  split at e'
  · rename_i hl
    obtain ⟨p, hp, ep⟩ := Option.map_eq_some_iff.mp e'
    cases ep
    obtain ⟨om, hM⟩ := E.hm
    have mD : Dl ≠ Γ.M := Ne.symm (ne_of_none hM hD)
    have gD : G1 Dl = none := by
      cases z : G1 Dl with
      | none => rfl
      | some u => rw [E.sub _ _ z] at hD; cases hD
    have h0 : H0 Dl = none := by
      cases z : H0 Dl with
      | none => rfl
      | some u => obtain ⟨u', z⟩ := E.there z; rw [hD] at z; cases z
    have ow : ∀ (i : Nat) xs, (wipeR g1.r vs)[i]? = some (Sl.own xs) → (L2.wipe σ vs)[i]? ≠ some (some (V.ref Dl)) := fun i xs hi hs => by
      obtain ⟨l, _, k1, k2, _⟩ := (E.wipe vs).own i xs hi
      rw [hs] at k1; cases k1; rw [k2] at hD; cases hD
    refine ⟨p.1, p.2, hl, ⟨G1, _, [], [], p.1, Gr.refl _, ((E.newO hD).wipe vs), upd_same, .nil, gD, h0, mD, ow, hp, rfl, by simp⟩, fun H' C => ?_⟩
    obtain ⟨G, g, acc, as, r, gr, E2, hD2, da, gD2, h02, _, ow2, hc, ho, _⟩ := C.ex
    cases hc
    rw [List.append_nil] at ho
    refine q _ G H' gr E2.unwipe ⟨Dl, acc, rfl, hD2, gD2, h02, by rw [ho]; exact da, fun i zs hi hs => ?_⟩
    obtain ⟨l, _, k1, _⟩ := E2.own i zs hi
    have k2 := (wipe_some k1).1
    rw [hs] at k2; cases k2
    exact ow2 i zs hi k1
  · cases e'
end
section
variable {X : Cx} {Γ : Gam} {W : WX} {elt tg iter : Expr} {ifs : List Expr} {scope : Scope} {own : List (Str × Nat)} {pos : Pos}
/-- a statement's reading as an expression's -/
theorem sOf {K : PySem.W.Frag} {Γ : Gam} {W : WX} {i : Nat} {f : Mo (List D)} {Ds : Ends} {σ : L2.St} {H : Hp} (h : tS K Γ W (fSetO i f) Ds σ H) : tG K Γ W (RF K Γ) f σ H (fun x H1 => gName i x σ H1 Ds.nx) :=
  h.bind fun H0 G0 d v g1 G1 H1 r1 h1 => h1.next rfl (Gr.refl _) (h1.1.setO i r1)
theorem lc_read {K : PySem.W.Frag} {fi : Mo D} {t : Mt} {c : Mo Bool} {e : Mo D} {gt : TG} {js vs : List Nat} (hj : ∀ j ∈ js, j ∈ vs)
    (kg : ∀ (v : V) (σ : L2.St) (H : Hp) (Q : L2.St → Hp → Prop) (H0 G0 G : Hp) (g g' : Sg) (d : D), En K Γ H0 G0 G H σ g → Dv K Γ G v d → t d g = some g' → (∀ σ', En K Γ H0 G0 G H σ' g' → (σ'.length = σ.length ∧ ∀ i, i ∉ js → σ'[i]? = σ[i]?) → Q σ' H) → gt v σ H Q)
    {σ : L2.St} {H : Hp} {Q : VK} (h : tG K Γ W (RF K Γ) (fComp vs fi t c e) σ H Q) :
    tLc (fun σ H R => iList K (tG K Γ W (RD K Γ) fi) σ H R ∨ iTup K (tG K Γ W (RD K Γ) fi) σ H R) gt (tG K Γ Wn RB c) (tG K Γ Wn (RD K Γ) e) vs σ H Q := by
  obtain ⟨H0, G0, G, g, h⟩ := h
  by_cases hl : ∃ xs g1, fi g = some (.ok (D.lst xs), g1)
  · refine .inl ⟨H0, G0, G, g, h.bindE (R1 := RD K Γ) fun d v g1 G1 H1 hfe gr r1 h1 => ?_⟩
    cases d with
    | lst ds =>
      obtain ⟨l, ws, rfl, h3, h4⟩ := Dv.lst_inv r1
      have h1 : tAt K Γ W (RF K Γ) (compF vs t c e ds) H0 G0 G1 g1 σ H1 Q := h1
      refine ⟨l, rfl, ⟨ws, SqL.of (h1.1.sub _ _ h3)⟩, fun Dl hD => ?_⟩
      obtain ⟨out, ge, hm, c0, fin⟩ := comp_start h1 hD
      refine lc_list (xs := ws) (fun i H2 => CI K Γ H0 G0 G1 (L2.wipe σ vs) vs t c e out ge Dl (ds.drop i) ds.length H2) c0 (fun i H2 _ C => ?_) (fun i x H2 hx C => ?_) (fun H2 C => ?_)
      · obtain ⟨G2, _, _, _, _, gr2, E2, _⟩ := C.ex
        exact SqL.of (E2.sub _ _ (gr2 _ _ h3))
      · obtain ⟨d, hd, dv⟩ := h4.get' i hx
        have ed : ds.drop i = d :: ds.drop (i + 1) := by
          obtain ⟨il, e⟩ := List.getElem?_eq_some_iff.mp hd
          rw [← e]; exact List.drop_eq_getElem_cons il
        rw [ed] at C
        exact comp_turn hm hj C dv kg
      · rw [h4.length, List.drop_length] at C
        exact fin H2 C
    | tup ds =>
      obtain ⟨xs, g2, hl⟩ := hl
      rw [hl] at hfe; cases hfe
    | _ => exact h1.stop
  · refine .inr ⟨H0, G0, G, g, h.bindE (R1 := RD K Γ) fun d v g1 G1 H1 hfe gr r1 h1 => ?_⟩
    cases d with
    | tup ds =>
      obtain ⟨l, ws, rfl, h3, h4⟩ := Dv.tup_inv r1
      have h1 : tAt K Γ W (RF K Γ) (compF vs t c e ds) H0 G0 G1 g1 σ H1 Q := h1
      refine ⟨l, rfl, ⟨ws, h1.1.sub.sqT h3⟩, fun Dl hD => ?_⟩
      obtain ⟨out, ge, hm, c0, fin⟩ := comp_start h1 hD
      refine lc_tup (xs := ws) (fun i H2 => CI K Γ H0 G0 G1 (L2.wipe σ vs) vs t c e out ge Dl (ds.drop i) ds.length H2) c0 (fun i H2 _ C => ?_) (fun i x H2 hx C => ?_) (fun H2 C => ?_)
      · obtain ⟨G2, _, _, _, _, gr2, E2, _⟩ := C.ex
        exact E2.sub.sqT (gr2.sqT h3)
      · obtain ⟨d, hd, dv⟩ := h4.get' i hx
        have ed : ds.drop i = d :: ds.drop (i + 1) := by
          obtain ⟨il, e⟩ := List.getElem?_eq_some_iff.mp hd
          rw [← e]; exact List.drop_eq_getElem_cons il
        rw [ed] at C
        exact comp_turn hm hj C dv kg
      · rw [h4.length, List.drop_length] at C
        exact fin H2 C
    | lst ds => exact absurd ⟨ds, g1, hfe⟩ hl
    | _ => exact h1.stop
/-- the parts of a comprehension, in its block -/
def CompOk (X : Cx) (Γ : Gam) (elt tg : Expr) (ifs : List Expr) (scope : Scope) (gt : TG) (js : List Nat) (t : Mt) (c : Mo Bool) (e : Mo D) : Prop :=
  (∀ (s : Shared) (H : Hp) (C : Addr) (cl : List (Str × Addr)) (fp : List Addr), DG (X.blk s H scope (compEnvC scope cl C X.env) fp) Γ tg gt js t) ∧
  (∀ (s : Shared) (H : Hp) (C : Addr) (cl : List (Str × Addr)) (fp : List Addr), DTs (X.blk s H scope (compEnvC scope cl C X.env) fp) Γ Wn ifs c) ∧
  ∀ (s : Shared) (H : Hp) (C : Addr) (cl : List (Str × Addr)) (fp : List Addr), DX (X.blk s H scope (compEnvC scope cl C X.env) fp) Γ Wn elt e
theorem CompOk.sem {gt : TG} {js : List Nat} {t : Mt} {c : Mo Bool} {e : Mo D} (k : CompOk X Γ elt tg ifs scope gt js t c e) : TgS X.K Γ gt js t :=
  (k.1 X.s_0 (fun _ => none) X.env.locals [] []).2
theorem d_comp {fi : Mo D} {t : Mt} {c : Mo Bool} {e : Mo D} {gt : TG} {js : List Nat} (hc : X.calm = true) (hN : X.N.Nodup) (hi : DX X Γ W iter fi) (ok : BlkOk X.N X.env.scope scope own) (hj : ∀ j ∈ js, j ∈ own.map (·.2)) (k : CompOk X Γ elt tg ifs scope gt js t c e)
    (hs : ∀ x, foldedSetIterable iter X.env x = pure x := by intro _; rfl) : DF X Γ W (.ListComp elt [⟨tg, iter, ifs, 0⟩] scope pos) (fComp (own.map (·.2)) fi t c e) := by
  have kg := k.sem
  obtain ⟨pg, kt, ke⟩ := k
  exact (pe_lc hc hN (PI.or (pi_list (tl := tG X.K Γ W (RD X.K Γ) fi) hi) (pi_tup (tl := tG X.K Γ W (RD X.K Γ) fi) hi)) ok (fun s H C cl fp => (pg s H C cl fp).1) kt ke hs).imp fun σ H Q h => lc_read hj kg h
theorem s_setC {i : Nat} {y : Str} {py spos : Pos} {fi : Mo D} {t : Mt} {c : Mo Bool} {e : Mo D} {gt : TG} {js : List Nat} (hc : X.calm = true) (hN : X.N.Nodup) (hy : X.N[i]? = some y) (hyl : X.env.scope.names.lookup y = some .local)
    (hsw : swapsWith (.ListComp elt [⟨tg, iter, ifs, 0⟩] scope pos) (some (.Name y py)) spos.line X.env = pure true) (hi : DX X Γ W iter fi) (ok : BlkOk X.N X.env.scope scope own) (hj : ∀ j ∈ js, j ∈ own.map (·.2)) (k : CompOk X Γ elt tg ifs scope gt js t c e)
    (hs : ∀ x, foldedSetIterable iter X.env x = pure x := by intro _; rfl) : DS_ X Γ W (.Assign [.Name y py] (.ListComp elt [⟨tg, iter, ifs, 0⟩] scope pos) spos) (fSetO i (fComp (own.map (·.2)) fi t c e)) := by
  have kg := k.sem
  obtain ⟨pg, kt, ke⟩ := k
  refine (ps_setLc (tt := tG X.K Γ Wn RB c) (te := tG X.K Γ Wn (RD X.K Γ) e) hc hN hy hyl hsw (PI.or (pi_list (tl := tG X.K Γ W (RD X.K Γ) fi) hi) (pi_tup (tl := tG X.K Γ W (RD X.K Γ) fi) hi)) ok (fun s H C cl fp => (pg s H C cl fp).1) kt ke hs).imp fun Ds σ H h => ?_
  exact lc_read hj kg (sOf h)
end
end DE
namespace DE
open PyProof.Rows PySem.Spec PySem L2

/-! ### a def's promise over data -/
/-- what a call may have done to the heap -/
structure Aft (Γ : Gam) (G H G' H' : Hp) : Prop where
  keep : ∀ a o, Γ.Ok a → H a = some o → H' a = some o
  gr : Gr G G'
  sub : Gr G' H'
  gm : G' Γ.M = none
  fr : ∀ a o, H a = some o → G a = none → G' a = none
  tb : LamX.Tabs Γ.T H'
  gt : ∀ p ∈ Γ.T, G' p.1 = none
abbrev Fd := List D → DS → Option (Except Exn D × DS)
def dsp (K : PySem.W.Frag) (Γ : Gam) (n : Nat) (gm : Fd) : Sp := fun vs H Q E => ∃ G s ds r s', Gr G H ∧ (G Γ.M = none ∧ LamX.Tabs Γ.T H ∧ ∀ p ∈ Γ.T, G p.1 = none) ∧ StM Γ G H s ∧ DvA K Γ G vs ds ∧ ds.length = n ∧ gm ds s = some (r, s') ∧ match r with
  | .ok d => ∀ v G' H', Aft Γ G H G' H' → StM Γ G' H' s' → Dv K Γ G' v d → Q v H'
  | .error x => ∀ C dd G' H', Aft Γ G H G' H' → StM Γ G' H' s' → ExD K Γ G' C dd x → E C dd H'
theorem En.aft {K : PySem.W.Frag} {Γ : Gam} {H0 G0 G H G' H' : Hp} {σ : L2.St} {g : Sg} {s' : DS} (E : En K Γ H0 G0 G H σ g) (A : Aft Γ G H G' H') (h : StM Γ G' H' s') : En K Γ H0 G0 G' H' σ ⟨g.r, s'⟩ := by
  refine ⟨fun a o n h => A.keep a o n (E.base a o n h), fun a o h h' => ?_, E.g0.trans A.gr, A.sub, A.gm, h, E.len, fun i d h => ?_, fun i xs h => ?_, E.dis, A.tb, A.gt, fun i f c q G1 h => let ⟨x, y, z⟩ := E.fn i f c q G1 h; ⟨x, A.keep c _ (E.ok_code y) y, z.trans A.gr⟩⟩
  · by_cases n : Γ.Ok a
    case neg =>
      by_cases m : a = Γ.M
      · rw [m]; exact A.gm
      · have : ∃ p ∈ Γ.T, a = p.1 := Classical.byContradiction fun z => n ⟨m, fun p hp e => z ⟨p, hp, e⟩⟩
        obtain ⟨p, hp, rfl⟩ := this
        exact A.gt p hp
    · exact A.fr a o (E.base a o n h) (E.gfr a o h h')
  · obtain ⟨v, h1, h2⟩ := E.dat i d h
    exact ⟨v, h1, h2.mono A.gr⟩
  · obtain ⟨l, vs, h1, h2, h3, h4, h5⟩ := E.own i xs h
    exact ⟨l, vs, h1, A.keep l _ (E.ok_lst h2) h2, A.fr l _ h2 h3, h4, h5.mono A.gr⟩

/-- FnOk where no guarded code is under way -/
structure FnG (P : Program) (w : World) (K : PySem.W.Frag) (mg : Str → Option Value) (base : Heap) (k : Nat) (f : Addr) (fd : FuncData) (ps : List Str) (sp : Sp) : Prop where
  len : ∀ us H Q E, sp us H Q E → us.length = ps.length
  run : ∀ (A : Around) (outer : List Env) (s : Shared) (H : Hp) (args : Args) (us : List Value) (vs : List V) (Q : VK) (E : XK), Room k A → A.guards = some [] → Env0 P w K mg base A outer s H → BindsTo s fd args (ps.zip us) → Vals vs us → sp vs H Q E →
    codeAny (model P w) A (.call (.ref f) args) (CR (L2.CX P w) outer P w H s Q E) s
theorem FnG.mono {P : Program} {w : World} {K : PySem.W.Frag} {mg : Str → Option Value} {base : Heap} {j k : Nat} {f : Addr} {fd : FuncData} {ps : List Str} {sp : Sp} (F : FnG P w K mg base j f fd ps sp) (h : j ≤ k) : FnG P w K mg base k f fd ps sp :=
  ⟨F.len, fun A outer s H args us vs Q E hr hg => F.run A outer s H args us vs Q E (hr.mono h) hg⟩

abbrev cxD (P : Program) (w : World) (K : PySem.W.Frag) (mg : Str → Option Value) (base : Heap) (N : List Str) (qual : Str) (st : Stmt) (f : Addr) (cdv : Value) (A : Around) (outer : List Env) (s : Shared) (H : Hp) (E : XK) : Cx :=
  cxOf (L2.CX P w) P w K mg base N qual (defScope st) f cdv A outer s H E
/-- what a body's derivation may lean on -/
structure Ct (X : Cx) (W : WX) (k : Nat) : Prop where
  calm : X.calm = true
  tk : Takes X W
  pas : PassesOwn (model X.prog X.w) X.A X.env X.xe
  room : Room k X.A
  gua : X.A.guards = some []
theorem fnG_ofC {P : Program} {w : World} {K : PySem.W.Frag} {mg : Str → Option Value} {base : Heap} {x qual : Str} {st : Stmt} {f : Addr} {fd : FuncData} {N ps : List Str} {k : Nat} {sp : Sp}
    (F : Fun K x qual st f fd) (S : FnScope N ps (defScope st)) (len : ∀ vs H Q E, sp vs H Q E → vs.length = ps.length)
    (hbody : ∀ (cdv : Value) (A : Around) (outer : List Env) (s : Shared) (H : Hp) (vs : List V) (Q : VK) (E : XK), fd.code = cdv →
      Ct (cxD P w K mg base N qual st f cdv A outer s H E) (fun c d _ H => E c d H) k → sp vs H Q E →
      ∃ t, PSs (cxD P w K mg base N qual st f cdv A outer s H E) (defBody st) t ∧ t { nx := fun _ H' => Q .non H', rt := Q } (L2.start N vs) H) :
    FnG P w K mg base (k + 1) f fd ps sp := by
  obtain ⟨oc, od, kV, doc, pm, an, cdv, ct, osl, rfl, lk, hcd⟩ := F.ex; refine ⟨len, fun A outer s H args us vs Q E hr hg e0 hb r hsp => ?_⟩; have KX : K.In s.heap := e0.mod.kin.keeps fun b o e => (e0.bs b o e).1
  have kinds : ∀ y ∈ ps.zip us, (defScope st).names.lookup y.1 = some .local ∨ ((defScope st).names.lookup y.1 = some .cell ∧ ((cellsFrom (s.heap.objs.size + 1) (defScope st).names []).lookup y.1).isSome = true) := by
    rintro ⟨n, v⟩ hy
    exact (S.par n (List.of_mem_zip hy).1).imp id fun q => ⟨q, PySem.W.cellsFrom_some _ _ _ (.inl q)⟩
  refine codeAny_call_function hr.depth (KX _ _ lk) rfl S.co S.gen rfl (PySem.W.codeRec_of KX hcd) (hb _ _ _ _ ?_); refine wpAny_newFunctionEnv_cells S.kind kinds fun env he s1 x => ?_
  subst he
  have lim : s.heap.NoLimit := e0.mod.nolimit.keeps fun b o e => (e0.bs b o e).1; refine ⟨lim.keeps x.toInCall.keep, codeAny_func ?_⟩
  have C : Ct (cxD P w K mg base N qual st f cdv A outer s H E) (fun c d _ H => E c d H) k := ⟨rfl, takes_of rfl rfl rfl rfl, PassesOwn.leaving, hr.deeper _, hg⟩
  obtain ⟨t, ht, hq⟩ := hbody cdv A outer s H vs Q E rfl C hsp
  have I : Inv (cxD P w K mg base N qual st f cdv A outer s H E) [] (L2.start N vs) H s1 := inv_start S hr.hd e0 (len _ _ _ _ hsp) r x
  refine wpAny_mono (ht.run [] s1 _ H _ I hq) (fun fl s' hs => ?_) fun e s' hs => hs
  cases fl with
  | brk => exact hs.elim fun _ z => z.elim fun _ z => z.2.elim
  | cont => exact hs.elim fun _ z => z.elim fun _ z => z.2.elim
  | next =>
    obtain ⟨σ', H', J, q⟩ := hs
    exact ⟨V.non, H', J.os, J.bare, J.base, J.hok, rfl, q⟩
  | ret u =>
    obtain ⟨v, σ', H', J, rv, q⟩ := hs; exact ⟨v, H', J.os, J.bare, J.base, J.hok, rv, q⟩
theorem fnG_of {P : Program} {w : World} {K : PySem.W.Frag} {mg : Str → Option Value} {base : Heap} {x qual : Str} {st : Stmt} {f : Addr} {fd : FuncData} {N ps : List Str} {k : Nat} {sp : Sp}
    (F : Fun K x qual st f fd) (S : FnScope N ps (defScope st)) (len : ∀ vs H Q E, sp vs H Q E → vs.length = ps.length)
    (hbody : ∀ (cdv : Value) (A : Around) (outer : List Env) (s : Shared) (H : Hp) (vs : List V) (Q : VK) (E : XK),
      Ct (cxD P w K mg base N qual st f cdv A outer s H E) (fun c d _ H => E c d H) k → sp vs H Q E →
      ∃ t, PSs (cxD P w K mg base N qual st f cdv A outer s H E) (defBody st) t ∧ t { nx := fun _ H' => Q .non H', rt := Q } (L2.start N vs) H) :
    FnG P w K mg base (k + 1) f fd ps sp :=
  fnG_ofC F S len fun cdv A outer s H vs Q E _ C h => hbody cdv A outer s H vs Q E C h
theorem runG {X : Cx} {W : WX} {k : Nat} {f : Addr} {fd : FuncData} {ps : List Str} {sp : Sp} {pins : List (Addr × Obj)} {σ : L2.St} {H : Hp} {s : Shared} {Q : VK} {us : List Value} {vs : List V}
    (F : FnG X.prog X.w X.K X.mg X.base k f fd ps sp) (C : Ct X W k) (hb : Binds X.K fd ps []) (I : Inv X pins σ H s) (r : Vals vs us) (h : sp vs H Q (WE W σ)) : wpAny (model X.prog X.w) X.A (call (.ref f) us) (EP X pins σ Q) X.xe s := by
  have hl : us.length = ps.length := r.length.symm.trans (F.len _ _ _ _ h)
  have hb' : BindsTo s fd ⟨us, []⟩ (ps.zip us) := by
    have q := hb s us I.kIn (by rw [List.append_nil]; exact hl)
    rw [List.append_nil] at q; exact q
  refine wpAny_call (codeAny_mono (F.run X.A X.stack s H ⟨us, []⟩ us vs Q (WE W σ) C.room C.gua I.env0 hb' r h) fun r s' hq => ?_)
  cases r with
  | error e => exact passAt C.tk σ pins H s e s' I hq
  | ok fl =>
    cases fl with
    | ret u => exact I.after hq
    | next => exact hq.elim
    | brk => exact hq.elim
    | cont => exact hq.elim
section
variable {X : Cx} {Γ : Gam} {W : WX} {a b e : Expr} {es : List Expr} {pos : Pos}
def lift (gm : Fd) (ds : List D) : Mo D := fun g => match gm ds g.s with
  | none => none
  | some (r, s') => some (r, ⟨g.r, s'⟩)
def fCall (gm : Fd) (fa : Mo (List D)) : Mo D := bd fa (lift gm)
/-- the call's data promise from what stands at the call -/
theorem dsp_at {gm : Fd} {n : Nat} {ds : List D} {vs : List V} {H0 G0 G H : Hp} {g : Sg} {σ : L2.St} {Q : VK} (h : tAt X.K Γ W (RD X.K Γ) (lift gm ds) H0 G0 G g σ H Q) (dv : DvA X.K Γ G vs ds) (hn : ds.length = n) : dsp X.K Γ n gm vs H Q (WE W σ) := by
  obtain ⟨E, r, g', e, q⟩ := h
  unfold lift at e
  cases hg : gm ds g.s with
  | none => rw [hg] at e; cases e
  | some p =>
    obtain ⟨r1, s'⟩ := p
    rw [hg] at e
    cases e
    refine ⟨G, g.s, ds, r, s', E.sub, ⟨E.gm, E.tb, E.gt⟩, E.st, dv, hn, hg, ?_⟩
    cases r with
    | ok d => exact fun v G' H' A st dv' => q v G' H' A.gr (E.aft A st) dv'
    | error x => exact fun C dd G' H' A st ex => q C dd G' H' A.gr (E.aft A st) ex
theorem da_len {es : List Expr} : True := trivial
theorem pe_callG {k : Nat} {f : Addr} {fd : FuncData} {ps : List Str} {sp : Sp} {x : Str} {p : Pos} {t : TA} (F : FnG X.prog X.w X.K X.mg X.base k f fd ps sp) (C : Ct X W k) (hg : Gl X x) (hm : X.mg x = some (.ref f)) (hk : PySem.W.keepIn X.K (.ref f) = true) (hb : Binds X.K fd ps [])
    (args : PA X (e :: es) t) (hdb : (x == ("__debug__" : Str)) = false := by decide) (he : starEach (e :: es) X.env = (false, eval e X.env) :: starEach es X.env := by rfl) (hpl : (backTo pos (starEach es X.env)).any (·.1) = false := by rfl) :
    PE X (.Call (.Name x p) (e :: es) [] pos) (fun σ H Q => t σ H fun vs H1 => sp vs H1 Q (WE W σ)) := by
  refine ⟨fun pins s σ H Q I h => ?_⟩; refine wpAny_Call_Name_kw (ld_glob I hg hm ?_ hdb)
  refine PySem.W.callWith_K (h₀ := X.base) I.ok.mod.kin hk (thn (args.run pos pins s σ H _ I h) fun us s1 ⟨vs, H1, I1, r, q⟩ => ⟨I1.kIn, ?_⟩) he hpl; exact runG F C hb I1 r q
/-- f(e, ..) -/
def fCallN (n : Nat) (gm : Fd) (fa : Mo (List D)) : Mo D := bd fa fun ds => if ds.length = n then lift gm ds else stop
theorem d_call {k n : Nat} {f : Addr} {fd : FuncData} {ps : List Str} {gm : Fd} {x : Str} {p : Pos} {fa : Mo (List D)} (F : FnG X.prog X.w X.K X.mg X.base k f fd ps (dsp X.K Γ n gm)) (C : Ct X W k) (hg : Gl X x) (hm : X.mg x = some (.ref f)) (hk : PySem.W.keepIn X.K (.ref f) = true) (hb : Binds X.K fd ps [])
    (ha : DA X Γ W (e :: es) fa) (hdb : (x == ("__debug__" : Str)) = false := by decide) (he : starEach (e :: es) X.env = (false, eval e X.env) :: starEach es X.env := by rfl) (hpl : (backTo pos (starEach es X.env)).any (·.1) = false := by rfl) :
    DX X Γ W (.Call (.Name x p) (e :: es) [] pos) (fCallN n gm fa) :=
  (pe_callG F C hg hm hk hb ha hdb he hpl).imp fun σ H Q h => h.bind fun H0 G0 ds vs g1 G1 H1 r1 h1 => by
    by_cases c : ds.length = n
    · rw [if_pos c] at h1; exact dsp_at h1 r1 c
    · rw [if_neg c] at h1; exact h1.stop
end
/-- THE RULE for a def over data: f runs the body; gm is what it comes to -/
def bodyGives (f : Ms) (N : Nat) (n : Nat) (gm : Fd) : Prop := ∀ (ds : List D) (s : DS) r s', ds.length = n → gm ds s = some (r, s') → ∃ g', g'.s = s' ∧ ((f ⟨ds.map .dat ++ List.replicate (N - n) .no, s⟩ = some ((match r with | .ok d => .ret d | .error x => .exc x), g')) ∨ (r = .ok .non ∧ f ⟨ds.map .dat ++ List.replicate (N - n) .no, s⟩ = some (.nx, g')))
theorem fn_dataC {P : Program} {w : World} {K : PySem.W.Frag} {mg : Str → Option Value} {base : Heap} {x qual : Str} {st : Stmt} {f : Addr} {fd : FuncData} {N ps : List Str} {k : Nat} {Γ : Gam} {gm : Fd}
    (F : Fun K x qual st f fd) (S : FnScope N ps (defScope st)) (fb : Ms) (hb : bodyGives fb N.length ps.length gm)
    (hd : ∀ (cdv : Value) (A : Around) (outer : List Env) (s : Shared) (H : Hp) (E : XK), fd.code = cdv → Ct (cxD P w K mg base N qual st f cdv A outer s H E) (fun c d _ H => E c d H) k → DB (cxD P w K mg base N qual st f cdv A outer s H E) Γ (fun c d _ H => E c d H) (defBody st) fb) :
    FnG P w K mg base (k + 1) f fd ps (dsp K Γ ps.length gm) := by
  refine fnG_ofC F S (fun vs H Q E h => ?_) (fun cdv A outer s H vs Q E hc C h => ⟨_, hd cdv A outer s H E hc C, ?_⟩)
  · obtain ⟨G, s, ds, r, s', _, _, _, dv, hn, _⟩ := h
    rw [dv.length]; exact hn
  · obtain ⟨G, s0, ds, r, s', sub, ⟨gm0, tb0, gt0⟩, st0, dv, hn, hg, q⟩ := h
    obtain ⟨g', hs, hf⟩ := hb ds s0 r s' hn hg
    have hN : ps.length ≤ N.length := by have := congrArg List.length S.pre; rw [List.length_take] at this; omega
    have E0 : En K Γ H G G H (L2.start N vs) ⟨ds.map .dat ++ List.replicate (N.length - ps.length) .no, s0⟩ := by
      have hv := dv.length
      refine ⟨fun a o _ h => h, fun a o _ h => h, Gr.refl _, sub, gm0, st0, ?_, fun i d h => ?_, fun i xs h => ?_, fun i j xs ys l h => ?_, tb0, gt0, fun i f c q G1 h => ?_⟩
      · unfold L2.start; simp [hv, hn]
      · have hi : i < ds.length := by
          by_cases c : i < ds.length
          · exact c
          · rw [List.getElem?_append_right (by simpa using c), List.getElem?_replicate] at h
            split at h <;> cases h
        rw [List.getElem?_append_left (by simpa using hi), List.getElem?_map] at h
        have hd : ds[i]? = some d := by
          cases e : ds[i]? with
          | none => (rw [e] at h); cases h
          | some d' => rw [e] at h; cases h; rfl
        obtain ⟨v, h1, h2⟩ := dv.get i hd
        refine ⟨v, ?_, h2⟩
        unfold L2.start
        rw [List.getElem?_append_left (by simp; omega), List.getElem?_map, h1]; rfl
      · exfalso
        by_cases c : i < ds.length
        · rw [List.getElem?_append_left (by simpa using c), List.getElem?_map] at h
          cases e : ds[i]? with
          | none => (rw [e] at h); cases h
          | some d' => rw [e] at h; cases h
        · rw [List.getElem?_append_right (by simpa using c), List.getElem?_replicate] at h
          split at h <;> cases h
      · exfalso
        by_cases c : i < ds.length
        · rw [List.getElem?_append_left (by simpa using c), List.getElem?_map] at h
          cases e : ds[i]? with
          | none => (rw [e] at h); cases h
          | some d' => rw [e] at h; cases h
        · rw [List.getElem?_append_right (by simpa using c), List.getElem?_replicate] at h
          split at h <;> cases h
      · exfalso
        by_cases c : i < ds.length
        · rw [List.getElem?_append_left (by simpa using c), List.getElem?_map] at h
          cases e : ds[i]? with
          | none => (rw [e] at h); cases h
          | some d' => rw [e] at h; cases h
        · rw [List.getElem?_append_right (by simpa using c), List.getElem?_replicate] at h
          split at h <;> cases h
    have aft : ∀ {σ' : L2.St} {G' H' : Hp}, En K Γ H G G' H' σ' g' → Aft Γ G H G' H' ∧ StM Γ G' H' s' := fun E => ⟨⟨fun a o n h => E.base a o n h, E.g0, E.sub, E.gm, fun a o h h' => E.gfr a o h h', E.tb, E.gt⟩, hs ▸ E.st⟩
    refine ⟨H, G, G, _, E0, ?_⟩
    rcases hf with hf | ⟨rfl, hf⟩
    · cases r with
      | ok d => exact ⟨.ret d, g', hf, fun v σ' G' H' gr E dv' => q v G' H' (aft E).1 (aft E).2 dv'⟩
      | error x => exact ⟨.exc x, g', hf, fun C dd σ' G' H' gr E ex => q C dd G' H' (aft E).1 (aft E).2 ex⟩
    · exact ⟨.nx, g', hf, fun σ' G' H' gr E => q .non G' H' (aft E).1 (aft E).2 .non⟩
theorem fn_data {P : Program} {w : World} {K : PySem.W.Frag} {mg : Str → Option Value} {base : Heap} {x qual : Str} {st : Stmt} {f : Addr} {fd : FuncData} {N ps : List Str} {k : Nat} {Γ : Gam} {gm : Fd}
    (F : Fun K x qual st f fd) (S : FnScope N ps (defScope st)) (fb : Ms) (hb : bodyGives fb N.length ps.length gm)
    (hd : ∀ (cdv : Value) (A : Around) (outer : List Env) (s : Shared) (H : Hp) (E : XK), Ct (cxD P w K mg base N qual st f cdv A outer s H E) (fun c d _ H => E c d H) k → DB (cxD P w K mg base N qual st f cdv A outer s H E) Γ (fun c d _ H => E c d H) (defBody st) fb) :
    FnG P w K mg base (k + 1) f fd ps (dsp K Γ ps.length gm) :=
  fn_dataC F S fb hb fun cdv A outer s H E _ C => hd cdv A outer s H E C
end DE
namespace DE
open PyProof.Rows PySem.Spec PySem L2

/-! ### plain data -/
mutual
def pyd : D → Option PyData
  | .non => some .none
  | .bl b => some (.bool b)
  | .int i => some (.int i)
  | .str s => some (.str s)
  | .lst xs => (pydA xs).map .list
  | .tup xs => (pydA xs).map .tuple
  | .dic _ => none
  | .m => none
  | .exc _ _ => none
  | .scr _ => none
def pydA : List D → Option (List PyData)
  | [] => some []
  | d :: ds => match pyd d, pydA ds with
    | some p, some ps => some (p :: ps)
    | _, _ => none
end
section
variable {K : PySem.W.Frag} {Γ : Gam} {G H : Hp}
mutual
theorem Dv.dp (e : Gr G H) : ∀ {v : V} {d : D} {p : PyData}, Dv K Γ G v d → pyd d = some p → Dp K H v p
  | _, _, _, .non, h => by simp [pyd] at h; subst h; exact .non
  | _, _, _, .bl b, h => by simp [pyd] at h; subst h; exact .bl b
  | _, _, _, .int i, h => by simp [pyd] at h; subst h; exact .int i
  | _, _, _, .str s, h => by simp [pyd] at h; subst h; exact .str s
  | _, _, _, .lst h1 t, h => by
    simp only [pyd, Option.map_eq_some_iff] at h
    obtain ⟨ps, hp, rfl⟩ := h
    exact .lst (SqL.of (e _ _ h1)) (DvA.dp e t hp)
  | _, _, _, .tup h1 t, h => by
    simp only [pyd, Option.map_eq_some_iff] at h
    obtain ⟨ps, hp, rfl⟩ := h
    exact .tup (e.sqT h1) (DvA.dp e t hp)
  | _, _, _, .dic _ _, h => by simp [pyd] at h
  | _, _, _, .m, h => by simp [pyd] at h
  | _, _, _, .scr _, h => by simp [pyd] at h
  | _, _, _, .exc _ _ _ _, h => by simp [pyd] at h
theorem DvA.dp (e : Gr G H) : ∀ {v : List V} {d : List D} {p : List PyData}, DvA K Γ G v d → pydA d = some p → DpAll K H v p
  | _, _, _, .nil, h => by simp [pydA] at h; subst h; exact .nil
  | _, _, _, .cons h1 t, h => by
    unfold pydA at h
    split at h
    · rename_i p ps hp hps
      cases h
      exact .cons (Dv.dp e h1 hp) (DvA.dp e t hps)
    · cases h
end
end
def flat1 : D → Option V
  | .non => some .non
  | .bl b => some (.bl b)
  | .int i => some (.int i)
  | .str s => some (.str s)
  | _ => none
def flatA : List D → Option (List V)
  | [] => some []
  | d :: ds => match flat1 d, flatA ds with
    | some p, some ps => some (p :: ps)
    | _, _ => none
theorem Dv.flat {K : PySem.W.Frag} {Γ : Gam} {G : Hp} {v w : V} {d : D} (h : Dv K Γ G v d) (e : flat1 d = some w) : v = w ∧ flatV w = true := by
  cases h <;> simp [flat1] at e <;> subst e <;> exact ⟨rfl, rfl⟩
theorem DvA.flat {K : PySem.W.Frag} {Γ : Gam} {G : Hp} : ∀ {vs ws : List V} {ds : List D}, DvA K Γ G vs ds → flatA ds = some ws → vs = ws ∧ ws.all flatV = true
  | _, _, _, .nil, e => by simp [flatA] at e; subst e; exact ⟨rfl, rfl⟩
  | _, _, _, .cons h t, e => by
    unfold flatA at e
    split at e
    · rename_i p ps hp hps
      cases e
      obtain ⟨rfl, f⟩ := h.flat hp
      obtain ⟨rfl, g⟩ := t.flat hps
      exact ⟨rfl, by rw [List.all_cons, f, g]; rfl⟩
    · cases e

def pEqD (d e : D) : Mo D := match pyd d, pyd e with
  | some p, some q => if (SeqAt.shaped p && SeqAt.shaped q) = true then rt (.bl (PyData.eqv p q)) else stop
  | _, _ => stop
def pNeD (d e : D) : Mo D := match pyd d, pyd e with
  | some p, some q => if (SeqAt.shaped p && SeqAt.shaped q) = true then rt (.bl (!PyData.eqv p q)) else stop
  | _, _ => stop
def pEq (d e : D) : Mo D := match d, e with
  | .str a, .str b => rt (.bl (decide (a = b)))
  | .int a, .int b => rt (.bl (decide (a = b)))
  | _, _ => pEqD d e
def pNe (d e : D) : Mo D := match d, e with
  | .str a, .str b => rt (.bl (!decide (a = b)))
  | .int a, .int b => rt (.bl (!decide (a = b)))
  | _, _ => pNeD d e
def isNon : D → Bool
  | .non => true
  | _ => false
theorem Dv.isNon {K : PySem.W.Frag} {Γ : Gam} {G : Hp} {v : V} {d : D} (h : Dv K Γ G v d) : decide (v = .non) = isNon d := by cases h <;> simp [DE.isNon]
def pIs (d e : D) : Mo D := match e with
  | .non => rt (.bl (isNon d))
  | .bl b => match d with
    | .bl a => rt (.bl (decide (a = b)))
    | _ => stop
  | _ => stop
def pNis (d e : D) : Mo D := match e with
  | .non => rt (.bl (!isNon d))
  | .bl b => match d with
    | .bl a => rt (.bl (!decide (a = b)))
    | _ => stop
  | _ => stop
def pIn (neg : Bool) (d e : D) : Mo D := match aSeq e with
  | some es => match flat1 d, flatA es with
    | some x, some xs => rt (.bl (if neg then !inV x xs else inV x xs))
    | _, _ => stop
  | none => stop
def pI (g : Int → Int → D) (d e : D) : Mo D := match d, e with
  | .int i, .int j => rt (g i j)
  | _, _ => stop
def pIc (c : Int → Int → Bool) (g : Int → Int → D) (d e : D) : Mo D := match d, e with
  | .int i, .int j => if c i j = true then rt (g i j) else stop
  | _, _ => stop
def pAdd (d e : D) : Mo D := match d, e with
  | .int i, .int j => rt (.int (i + j))
  | .str s, .str t => if s.length + t.length ≤ 100000 then rt (.str (s ++ t)) else stop
  | .tup xs, .tup ys => if xs.length + ys.length ≤ 100000 then rt (.tup (xs ++ ys)) else stop
  | _, _ => stop
abbrev pSub := pI fun i j => .int (i - j)
abbrev pLt := pI fun i j => .bl (decide (i < j))
abbrev pLe := pI fun i j => .bl (decide (i ≤ j))
abbrev pGt := pI fun i j => .bl (decide (j < i))
abbrev pGe := pI fun i j => .bl (decide (j ≤ i))
abbrev pMul := pIc (fun i j => decide (i.natAbs < 2 ^ 60) || decide (j.natAbs < 2 ^ 60)) fun i j => .int (i * j)
abbrev pMod := pIc (fun _ j => decide (0 < j)) fun i j => .int (i % j)
abbrev pDiv := pIc (fun _ j => decide (0 < j) && decide (j < 2 ^ 29)) fun i j => .int (i / j)
abbrev pPow := pIc (fun i j => decide (0 ≤ j) && decide (j ≤ 1000) && decide (i.natAbs < 2 ^ 60)) fun i j => .int (i ^ j.toNat)
section
variable {X : Cx} {Γ : Gam} {W : WX} {k : Nat}
theorem BinD.I {F : Value → Value → Sem Value} {g : Int → Int → V} {g' : Int → Int → D} (h : OpR X F (rI0 g)) (hg : ∀ i j G, Dv X.K Γ G (g i j) (g' i j)) : BinD X Γ W F (pI g') := by
  intro pins s σ H x y v u Q I rx ry ⟨H0, G0, G, gg, σ', d, e, dx, dy, q⟩
  unfold pI at q
  split at q
  · cases dx; cases dy
    exact h pins s σ H _ _ v u Q I rx ry ⟨_, _, rfl, rfl, q.here (hg _ _ _)⟩
  · exact q.stop
theorem BinD.Ic {F : Value → Value → Sem Value} {C : Int → Int → Prop} {c : Int → Int → Bool} {g : Int → Int → V} {g' : Int → Int → D} (h : OpR X F (rI C g)) (hc : ∀ i j, c i j = true → C i j) (hg : ∀ i j G, Dv X.K Γ G (g i j) (g' i j)) : BinD X Γ W F (pIc c g') := by
  intro pins s σ H x y v u Q I rx ry ⟨H0, G0, G, gg, σ', d, e, dx, dy, q⟩
  unfold pIc at q
  split at q
  · split at q
    · rename_i cc
      cases dx; cases dy
      exact h pins s σ H _ _ v u Q I rx ry ⟨_, _, rfl, rfl, hc _ _ cc, q.here (hg _ _ _)⟩
    · exact q.stop
  · exact q.stop
theorem o_sub : BinD X Γ W (binaryOp .Sub) pSub := .I op_sub fun _ _ _ => .int _
theorem o_lt : BinD X Γ W (compareOp .Lt) pLt := .I op_lt fun _ _ _ => .bl _
theorem o_le : BinD X Γ W (compareOp .LtE) pLe := .I op_le fun _ _ _ => .bl _
theorem o_gt : BinD X Γ W (compareOp .Gt) pGt := .I op_gt fun _ _ _ => .bl _
theorem o_ge : BinD X Γ W (compareOp .GtE) pGe := .I op_ge fun _ _ _ => .bl _
theorem o_mul : BinD X Γ W (binaryOp .Mult) pMul := .Ic op_mul (fun i j h => by
  simp only [Bool.or_eq_true, decide_eq_true_eq] at h
  unfold CMul
  rcases h with h | h
  · exact .inl ⟨by omega, by omega⟩
  · exact .inr ⟨by omega, by omega⟩) fun _ _ _ => .int _
theorem o_mod : BinD X Γ W (binaryOp .Mod) pMod := .Ic op_mod (fun i j h => by simpa using h) fun _ _ _ => .int _
theorem o_div : BinD X Γ W (binaryOp .FloorDiv) pDiv := .Ic op_fdiv (fun i j h => by
  simp only [Bool.and_eq_true, decide_eq_true_eq] at h; unfold CDiv
  exact ⟨h.1, by omega⟩) fun _ _ _ => .int _
theorem o_pow : BinD X Γ W (binaryOp .Pow) pPow := .Ic op_pow (fun i j h => by
  simp only [Bool.and_eq_true, decide_eq_true_eq] at h; unfold CPow
  exact ⟨h.1.1, by omega, by omega⟩) fun _ _ _ => .int _
theorem o_add : BinD X Γ W (binaryOp .Add) pAdd := by
  intro pins s σ H x y v u Q I rx ry ⟨H0, G0, G, gg, σ', d, e, dx, dy, q⟩
  unfold pAdd at q
  split at q
  · cases dx; cases dy
    exact op_add pins s σ H _ _ v u Q I rx ry ⟨_, _, rfl, rfl, q.here (.int _)⟩
  · cases dx; cases dy
    split at q
    · rename_i c
      exact op_add_str pins s σ H _ _ v u Q I rx ry ⟨_, _, rfl, rfl, sz5 c, q.here (.str _)⟩
    · exact q.stop
  · split at q
    · rename_i c
      obtain ⟨l, vs, rfl, h3, h4⟩ := Dv.tup_inv dx
      obtain ⟨l', vs', rfl, h3', h4'⟩ := Dv.tup_inv dy
      refine op_catA pins s σ H _ _ v u Q I rx ry ⟨l, l', vs, vs', rfl, rfl, q.1.sub.sqT h3, q.1.sub.sqT h3', by rw [h4.length, h4'.length]; exact sz5 c, fun e => ?_, fun e1 e2 => ?_, fun e1 e2 p hp => ?_⟩
      · subst e
        cases h4
        exact q.here (.tup h3' h4')
      · subst e2
        cases h4'
        rw [List.append_nil] at q
        exact q.here (.tup h3 h4)
      · have gp : G p = none := by
          cases z : G p with
          | none => rfl
          | some u => rw [q.1.sub _ _ z] at hp; cases hp
        exact q.new hp (.tup (SqT.of upd_same) ((h4.append h4').mono (Gr.upd gp)))
    · exact q.stop
  · exact q.stop
theorem o_eqD (hu : X.A.units + 64 < cLine) : BinD X Γ W (compareOp .Eq) pEqD := by
  intro pins s σ H x y v u Q I rx ry ⟨H0, G0, G, gg, σ', d, e, dx, dy, q⟩
  unfold pEqD at q
  split at q
  · rename_i p p' hp hp'
    split at q
    · rename_i c
      rw [Bool.and_eq_true] at c
      exact op_eqD hu pins s σ H _ _ v u Q I rx ry ⟨p, p', dx.dp q.1.sub hp, dy.dp q.1.sub hp', c.1, c.2, q.here (.bl _)⟩
    · exact q.stop
  · exact q.stop
theorem o_neD (hu : X.A.units + 64 < cLine) : BinD X Γ W (compareOp .NotEq) pNeD := by
  intro pins s σ H x y v u Q I rx ry ⟨H0, G0, G, gg, σ', d, e, dx, dy, q⟩
  unfold pNeD at q
  split at q
  · rename_i p p' hp hp'
    split at q
    · rename_i c
      rw [Bool.and_eq_true] at c
      exact op_neD hu pins s σ H _ _ v u Q I rx ry ⟨p, p', dx.dp q.1.sub hp, dy.dp q.1.sub hp', c.1, c.2, q.here (.bl _)⟩
    · exact q.stop
  · exact q.stop
theorem o_eq (hu : X.A.units + 64 < cLine) : BinD X Γ W (compareOp .Eq) pEq := by
  intro pins s σ H x y v u Q I rx ry ⟨H0, G0, G, gg, σ', d, e, dx, dy, q⟩
  unfold pEq at q
  split at q
  · cases dx; cases dy
    exact op_eq pins s σ H _ _ v u Q I rx ry ⟨rfl, by simpa using q.here (.bl _)⟩
  · cases dx; cases dy
    exact op_eq pins s σ H _ _ v u Q I rx ry ⟨rfl, by simpa using q.here (.bl _)⟩
  · exact o_eqD hu pins s σ H x y v u Q I rx ry ⟨H0, G0, G, gg, σ', d, e, dx, dy, q⟩
theorem o_ne (hu : X.A.units + 64 < cLine) : BinD X Γ W (compareOp .NotEq) pNe := by
  intro pins s σ H x y v u Q I rx ry ⟨H0, G0, G, gg, σ', d, e, dx, dy, q⟩
  unfold pNe at q
  split at q
  · cases dx; cases dy
    exact op_ne pins s σ H _ _ v u Q I rx ry ⟨rfl, by simpa using q.here (.bl _)⟩
  · cases dx; cases dy
    exact op_ne pins s σ H _ _ v u Q I rx ry ⟨rfl, by simpa using q.here (.bl _)⟩
  · exact o_neD hu pins s σ H x y v u Q I rx ry ⟨H0, G0, G, gg, σ', d, e, dx, dy, q⟩
theorem o_is : BinD X Γ W (compareOp .Is) pIs := by
  intro pins s σ H x y v u Q I rx ry ⟨H0, G0, G, gg, σ', d, e, dx, dy, q⟩
  unfold pIs at q
  split at q
  · cases dy
    exact op_isN pins s σ H _ _ v u Q I rx ry ⟨rfl, by rw [dx.isNon]; exact q.here (.bl _)⟩
  · cases dy
    split at q
    · cases dx
      exact op_isBl pins s σ H _ _ v u Q I rx ry ⟨_, _, rfl, rfl, q.here (.bl _)⟩
    · exact q.stop
  · exact q.stop
theorem o_nis : BinD X Γ W (compareOp .IsNot) pNis := by
  intro pins s σ H x y v u Q I rx ry ⟨H0, G0, G, gg, σ', d, e, dx, dy, q⟩
  unfold pNis at q
  split at q
  · cases dy
    exact op_notN pins s σ H _ _ v u Q I rx ry ⟨rfl, by rw [dx.isNon]; exact q.here (.bl _)⟩
  · cases dy
    split at q
    · cases dx
      exact op_notBl pins s σ H _ _ v u Q I rx ry ⟨_, _, rfl, rfl, q.here (.bl _)⟩
    · exact q.stop
  · exact q.stop
theorem seq_at {K : PySem.W.Frag} {G H : Hp} {v : V} {d : D} {ds : List D} (h : Dv K Γ G v d) (e : aSeq d = some ds) (s : Gr G H) : ∃ l vs, v = .ref l ∧ (SqL K H l vs ∨ SqT K H l vs) ∧ DvA K Γ G vs ds := by
  cases d <;> simp [aSeq] at e
  · subst e
    obtain ⟨l, vs, rfl, h3, h4⟩ := Dv.lst_inv h
    exact ⟨l, vs, rfl, .inl (SqL.of (s _ _ h3)), h4⟩
  · subst e
    obtain ⟨l, vs, rfl, h3, h4⟩ := Dv.tup_inv h
    exact ⟨l, vs, rfl, .inr (s.sqT h3), h4⟩
theorem in_core {neg : Bool} {F : Value → Value → Sem Value} (h : OpR X F (rIn X.K neg)) : BinD X Γ W F (pIn neg) := by
  intro pins s σ H x y v u Q I rx ry ⟨H0, G0, G, gg, σ', d, e, dx, dy, q⟩
  unfold pIn at q
  split at q
  · rename_i es he
    split at q
    · rename_i x' xs' h1 h2
      obtain ⟨l, vs, rfl, h3, h4⟩ := seq_at dy he q.1.sub
      obtain ⟨rfl, f1⟩ := dx.flat h1
      obtain ⟨rfl, f2⟩ := h4.flat h2
      exact h pins s σ H _ _ v u Q I rx ry ⟨l, _, rfl, h3, f1, f2, q.here (.bl _)⟩
    · exact q.stop
  · exact q.stop
theorem o_in : BinD X Γ W (compareOp .In) (pIn false) := in_core op_in_seq
theorem o_nin : BinD X Γ W (compareOp .NotIn) (pIn true) := in_core op_notIn_seq

/-! ### chains of comparisons -/
variable {a b c e : Expr} {es : List Expr} {pos : Pos}
def fChain (p q : D → D → Mo D) (f h j : Mo D) : Mo D := bd f fun d => bd h fun e => bd (p d e) fun z => bd (aB z) fun t => if t = true then bd j fun w => q e w else rt (.bl false)
theorem chain_read {op op' : CmpOp} {p q : D → D → Mo D} {f h j : Mo D} {σ : L2.St} {H : Hp} {Q : VK} (hh : tG X.K Γ W (RD X.K Γ) (fChain p q f h j) σ H Q) :
    tChain (fun x y H Q => ∃ H0 G0 G g σ d e, Dv X.K Γ G x d ∧ Dv X.K Γ G y e ∧ tAt X.K Γ W (RD X.K Γ) (p d e) H0 G0 G g σ H Q) (fun x y H Q => ∃ H0 G0 G g σ d e, Dv X.K Γ G x d ∧ Dv X.K Γ G y e ∧ tAt X.K Γ W (RD X.K Γ) (q d e) H0 G0 G g σ H Q)
      (tG X.K Γ W (RD X.K Γ) f) (tG X.K Γ W (RD X.K Γ) h) (tG X.K Γ W (RD X.K Γ) j) σ H Q :=
  hh.bind fun H0 G0 d v g1 G1 H1 r1 h1 => (h1.bind fun e u g2 G2 H2 gr2 r2 h2 => ⟨H0, G0, G2, g2, σ, d, e, r1.mono gr2, r2, h2.bind fun z w g3 G3 H3 gr3 r3 h3 => by
    obtain ⟨t, rfl, h4⟩ := h3.bl r3
    refine ⟨t, rfl, ?_⟩
    cases t with
    | true =>
      rw [if_pos rfl] at h4 ⊢
      exact (h4.bind fun w x g4 G4 H4 gr4 r4 h5 => ⟨H0, G0, G4, g4, σ, e, w, (Dv.mono gr3 r2).mono gr4, r4, h5⟩).g
    | false =>
      rw [if_neg Bool.false_ne_true] at h4 ⊢
      exact h4.here (.bl _)⟩).g
theorem d_chain {op op' : CmpOp} {p q : D → D → Mo D} {f h j : Mo D} (ho : BinD X Γ W (compareOp op) p) (ho' : BinD X Γ W (compareOp op') q) (ha : DX X Γ W a f) (hb : DX X Γ W b h) (hc : DX X Γ W c j)
    (hm : lastMarks [op, op'] [b, c] = false := by with_unfolding_all rfl) : DX X Γ W (.Compare a [op, op'] [b, c] pos) (fChain p q f h j) :=
  (pe_chain ho ho' ha hb hc hm).imp fun σ H Q h => chain_read (op := op) (op' := op') h
theorem t_chain {op op' : CmpOp} {p q : D → D → Mo D} {f h j : Mo D} (ho : BinD X Γ W (compareOp op) p) (ho' : BinD X Γ W (compareOp op') q) (ha : DX X Γ W a f) (hb : DX X Γ W b h) (hc : DX X Γ W c j)
    (hm : lastMarks [op, op'] [b, c] = false := by with_unfolding_all rfl) : DT X Γ W (.Compare a [op, op'] [b, c] pos) (fT (fChain p q f h j)) :=
  (pt_chain ho ho' ha hb hc hm).imp fun σ H Q h => chain_read (op := op) (op' := op') (tT (k := fun _ _ _ => True) h)

/-! ### negative numbers, items, slices -/
def fNeg (f : Mo D) : Mo D := bd f fun d => match d with
  | .int i => rt (.int (-i))
  | _ => stop
theorem d_neg {f : Mo D} (ha : DX X Γ W a f) : DX X Γ W (.UnaryOp .USub a pos) (fNeg f) :=
  (pe_un un_neg ha).imp fun σ H Q h => h.bind fun H0 G0 d v g1 G1 H1 r1 h1 => by
    split at h1
    · cases r1; exact ⟨_, rfl, h1.here (.int _)⟩
    · exact h1.stop
def pIx (ds : List D) (e : D) : Mo D := match e with
  | .int i => match atI ds i with
    | some d => rt d
    | none => stop
  | _ => stop
def fIx (f : Mo (List D)) (h : Mo D) : Mo D := bd f fun ds => bd h (pIx ds)
theorem atI_dv {K : PySem.W.Frag} {G : Hp} {vs : List V} {ds : List D} (h : DvA K Γ G vs ds) {i : Int} {d : D} (e : atI ds i = some d) : ∃ v, atI vs i = some v ∧ Dv K Γ G v d := by
  unfold atI at e ⊢
  rw [h.length]
  cases z : ixN ds.length i with
  | none => rw [z] at e; cases e
  | some j =>
    rw [z] at e
    exact h.get j e
/-- a[i], a a known list or tuple -/
def fIxD (f : Mo D) (h : Mo D) : Mo D := bd f fun d => bd h fun e => match aSeq d with
  | some ds => pIx ds e
  | none => stop
theorem d_ix {f h : Mo D} (ha : DX X Γ W a f) (hb : DX X Γ W b h) (hs : PlainIx b) : DX X Γ W (.Subscript a b pos) (fIxD f h) :=
  (pe_ix (ix_list.or ix_tup) ha hb hs).imp fun σ H Q h => h.bind fun H0 G0 d v g1 G1 H1 r1 h1 => (h1.bind fun e u g2 G2 H2 gr2 r2 h2 => by
    split at h2
    · rename_i ds hd
      unfold pIx at h2
      split at h2
      · split at h2
        · rename_i d' hd'
          cases r2
          obtain ⟨l, vs, rfl, h3, h4⟩ := seq_at (Dv.mono gr2 r1) hd h2.1.sub
          obtain ⟨w, hw, dw⟩ := atI_dv h4 hd'
          rcases h3 with h3 | h3
          · exact .inl ⟨l, vs, _, w, rfl, rfl, h3, hw, h2.here dw⟩
          · exact .inr ⟨l, vs, _, w, rfl, rfl, h3, hw, h2.here dw⟩
        · exact h2.stop
      · exact h2.stop
    · exact h2.stop).g
/-- the parts of a slice -/
abbrev DO (X : Cx) (Γ : Gam) (W : WX) (e : Option Expr) (f : Mo (Option Int)) : Prop := PO X e (tG X.K Γ W (fun _ _ _ _ _ v d => v = d) f)
theorem _root_.L2.PO.imp {X : Cx} {e : Option Expr} {t t' : TO} (h : PO X e t) (k : ∀ σ H Q, t' σ H Q → t σ H Q) : PO X e t' := ⟨fun p s σ H Q I q => h.run p s σ H Q I (k _ _ _ q)⟩
theorem do_none : DO X Γ W none (rt none) := po_none.imp fun σ H Q ⟨H0, G0, G, g, h⟩ => h.here rfl
def fPart (f : Mo D) : Mo (Option Int) := bd f fun d => match d with
  | .int i => rt (some i)
  | _ => stop
theorem do_some {f : Mo D} (h : DX X Γ W e f) : DO X Γ W (some e) (fPart f) :=
  (po_some h).imp fun σ H Q h => h.bind fun H0 G0 d v g1 G1 H1 r1 h1 => by
    split at h1
    · cases r1; exact ⟨_, rfl, h1.here rfl⟩
    · exact h1.stop
def cutD {α : Type} (xs : List α) (lo hi : Option Int) : List α := (xs.drop (HT.sIx xs.length 0 lo)).take (HT.sIx xs.length xs.length hi - HT.sIx xs.length 0 lo)
theorem DvA.cut {K : PySem.W.Frag} {G : Hp} {vs : List V} {ds : List D} (h : DvA K Γ G vs ds) (lo hi : Option Int) : DvA K Γ G (cutV vs lo hi) (cutD ds lo hi) := by
  unfold cutV cutD
  rw [h.length]
  exact (h.drop _).take _
/-- t[lo:hi] of a known tuple -/
def fSlT (f : Mo D) (l u : Mo (Option Int)) : Mo D := bd f fun d => bd l fun lo => bd u fun hi => match d with
  | .tup ds => rt (.tup (cutD ds lo hi))
  | _ => stop
theorem d_slT {lo hi : Option Expr} {p2 : Pos} {f : Mo D} {l u : Mo (Option Int)} (ha : DX X Γ W a f) (hl : DO X Γ W lo l) (hh : DO X Γ W hi u) : DX X Γ W (.Subscript a (.Slice lo hi none p2) pos) (fSlT f l u) :=
  (pe_slice sl_tupA ha hl hh).imp fun σ H Q h => h.bind fun H0 G0 d v g1 G1 H1 r1 h1 => (h1.bind fun lo' lo g2 G2 H2 gr2 r2 h2 => (h2.bind fun hi' hi g3 G3 H3 gr3 r3 h3 => by
    obtain rfl := r2
    obtain rfl := r3
    split at h3
    · obtain ⟨l, vs, rfl, k1, k2⟩ := Dv.tup_inv ((Dv.mono gr2 r1).mono gr3)
      refine ⟨l, vs, rfl, h3.1.sub.sqT k1, fun hw => ?_, fun hw p hp => ?_⟩
      · refine h3.here (.tup k1 ?_)
        have e : cutD ‹List D› lo hi = ‹List D› := by
          unfold cutD
          rw [← k2.length, hw.1, hw.2, k2.length]; simp
        rw [e]; exact k2
      · have gp : G3 p = none := by
          cases z : G3 p with
          | none => rfl
          | some u => rw [h3.1.sub _ _ z] at hp; cases hp
        exact h3.new hp (.tup (SqT.of upd_same) ((k2.cut lo hi).mono (Gr.upd gp)))
    · exact h3.stop).g).g
/-- xs[lo:hi] of a known list: a new one -/
def fSlL (f : Mo D) (l u : Mo (Option Int)) : Mo (List D) := bd f fun d => bd l fun lo => bd u fun hi => match d with
  | .lst ds => rt (cutD ds lo hi)
  | _ => stop
theorem d_slL {lo hi : Option Expr} {p2 : Pos} {f : Mo D} {l u : Mo (Option Int)} (ha : DX X Γ W a f) (hl : DO X Γ W lo l) (hh : DO X Γ W hi u) : DF X Γ W (.Subscript a (.Slice lo hi none p2) pos) (fSlL f l u) :=
  (pe_slice sl_list ha hl hh).imp fun σ H Q h => h.bind fun H0 G0 d v g1 G1 H1 r1 h1 => (h1.bind fun lo' lo g2 G2 H2 gr2 r2 h2 => (h2.bind fun hi' hi g3 G3 H3 gr3 r3 h3 => by
    obtain rfl := r2
    obtain rfl := r3
    split at h3
    · obtain ⟨l, vs, rfl, k1, k2⟩ := Dv.lst_inv ((Dv.mono gr2 r1).mono gr3)
      exact ⟨l, vs, rfl, SqL.of (h3.1.sub _ _ k1), fun p hp => h3.newO hp (k2.cut lo hi)⟩
    · exact h3.stop).g).g

/-! ### built-ins -/
def fLen (f : Mo (List D)) : Mo D := bd f fun ds => rt (.int ds.length)
theorem d_len {x : Str} {p : Pos} {f : Mo (List D)} (ha : DP X Γ W e f) (hg : Gl X x) (hm : X.mg x = none) (hv : bootBuiltins x = some (.builtin "len")) (hn : x ≠ "__name__" := by decide) (hdb : (x == ("__debug__" : Str)) = false := by decide)
    (hs : starEach [e] X.env = (false, eval e X.env) :: starEach [] X.env := by rfl) (hpl : (backTo pos (starEach [] X.env)).any (·.1) = false := by rfl) : DX X Γ W (.Call (.Name x p) [e] [] pos) (fLen f) :=
  (pe_callB call_len_seq hg hm hv (pa_cons ha pa_nil hs) hn hdb hs hpl).imp fun σ H Q h => h.bind fun H0 G0 ds v g1 G1 H1 r1 h1 => by
    obtain ⟨l, vs, rfl, h3, h4⟩ := r1
    refine ⟨l, vs, rfl, h3.imp id fun z => h1.1.sub.sqT z, ?_⟩
    rw [h4.length]
    exact h1.here (.int _)
def fTupOf (f : Mo (List D)) : Mo D := bd f fun ds => rt (.tup ds)
theorem d_tuple {x : Str} {p : Pos} {f : Mo (List D)} (ha : DP X Γ W e f) (hg : Gl X x) (hm : X.mg x = none) (hv : bootBuiltins x = some (.type "tuple")) (hn : x ≠ "__name__" := by decide) (hdb : (x == ("__debug__" : Str)) = false := by decide)
    (hs : starEach [e] X.env = (false, eval e X.env) :: starEach [] X.env := by rfl) (hpl : (backTo pos (starEach [] X.env)).any (·.1) = false := by rfl) : DX X Γ W (.Call (.Name x p) [e] [] pos) (fTupOf f) :=
  (pe_callTy call_tuple_of hg hm hv (pa_cons ha pa_nil hs) hn hdb hs hpl).imp fun σ H Q h => h.bind fun H0 G0 ds v g1 G1 H1 r1 h1 => by
    obtain ⟨l, vs, rfl, h3, h4⟩ := r1
    refine ⟨l, vs, rfl, ?_⟩
    rcases h3 with h3 | h3
    · refine .inl ⟨h3, fun q hq => ?_⟩
      have gp : G1 q = none := by
        cases z : G1 q with
        | none => rfl
        | some u => rw [h1.1.sub _ _ z] at hq; cases hq
      exact h1.new hq (.tup (SqT.of upd_same) (h4.mono (Gr.upd gp)))
    · exact .inr ⟨h1.1.sub.sqT h3, h1.here (.tup h3 h4)⟩
def fListOf (f : Mo (List D)) : Mo (List D) := f
theorem d_list {x : Str} {p : Pos} {f : Mo (List D)} (ha : DP X Γ W e f) (hg : Gl X x) (hm : X.mg x = none) (hv : bootBuiltins x = some (.type "list")) (hn : x ≠ "__name__" := by decide) (hdb : (x == ("__debug__" : Str)) = false := by decide)
    (hs : starEach [e] X.env = (false, eval e X.env) :: starEach [] X.env := by rfl) (hpl : (backTo pos (starEach [] X.env)).any (·.1) = false := by rfl) : DF X Γ W (.Call (.Name x p) [e] [] pos) (bd f rt) :=
  (pe_callTy call_list_of hg hm hv (pa_cons ha pa_nil hs) hn hdb hs hpl).imp fun σ H Q h => h.bind fun H0 G0 ds v g1 G1 H1 r1 h1 => by
    obtain ⟨l, vs, rfl, h3, h4⟩ := r1
    exact ⟨l, vs, rfl, h3.imp id fun z => h1.1.sub.sqT z, fun q hq => h1.newO hq h4⟩
def fInt (f : Mo D) : Mo D := bd f fun d => match d with
  | .int i => rt (.int i)
  | .bl b => rt (.int (if b then 1 else 0))
  | _ => stop
theorem d_intOf {x : Str} {p : Pos} {f : Mo D} (ha : DX X Γ W e f) (hg : Gl X x) (hm : X.mg x = none) (hv : bootBuiltins x = some (.type "int")) (hn : x ≠ "__name__" := by decide) (hdb : (x == ("__debug__" : Str)) = false := by decide)
    (hs : starEach [e] X.env = (false, eval e X.env) :: starEach [] X.env := by rfl) (hpl : (backTo pos (starEach [] X.env)).any (·.1) = false := by rfl) : DX X Γ W (.Call (.Name x p) [e] [] pos) (fInt f) :=
  (pe_callTy call_int1 hg hm hv (pa_cons ha pa_nil hs) hn hdb hs hpl).imp fun σ H Q h => h.bind fun H0 G0 d v g1 G1 H1 r1 h1 => by
    split at h1
    · cases r1; exact .inl ⟨_, rfl, h1.here (.int _)⟩
    · cases r1; exact .inr ⟨_, rfl, h1.here (.int _)⟩
    · exact h1.stop
def tyD : D → String
  | .non => "NoneType"
  | .bl _ => "bool"
  | .int _ => "int"
  | .str _ => "str"
  | .lst _ => "list"
  | .tup _ => "tuple"
  | .dic _ => "dict"
  | .m => "dict"
  | .exc _ _ => "?"
  | .scr _ => "?"
def isExc : D → Bool
  | .exc _ _ => true
  | .scr _ => true
  | _ => false
theorem Dv.ty {K : PySem.W.Frag} {G H : Hp} {v : V} {d : D} (h : Dv K Γ G v d) (ne : isExc d = false) (s : Gr G H) {s' : DS} (m : StM Γ G H s') : TyX K H v (.type (tyD d)) := by
  cases h with
  | non => exact .base .non
  | bl b => exact .base (.bl b)
  | int i => exact .base (.int i)
  | str z => exact .base (.str z)
  | lst h1 _ => exact .base (.lst (s _ _ h1))
  | tup h1 _ =>
    rcases h1 with (h1 | ⟨o, h1⟩) | ⟨o, its, n, h1, h2, _⟩
    · exact .base (.tup (s _ _ h1))
    · exact .fTuple (s _ _ h1)
    · exact .kTuple h1 h2
  | dic h1 _ => exact .base (.dK (s _ _ h1))
  | m =>
    obtain ⟨l, h1, _⟩ := m
    exact .base (.dK h1)
  | exc _ _ _ _ => cases ne
  | scr _ => cases ne
def fIsi (T : String) (f : Mo D) : Mo D := bd f fun d => if isExc d = true then stop else match kitB (tyD d) T with
  | some b => rt (.bl b)
  | none => stop
theorem d_isi {x : Str} {T : String} {p : Pos} {f : Mo D} {b : Expr} (ha : DX X Γ W e f) (hT : PE X b (tC (.ty T))) (hg : Gl X x) (hm : X.mg x = none) (hv : bootBuiltins x = some (.builtin "isinstance")) (hn : x ≠ "__name__" := by decide) (hdb : (x == ("__debug__" : Str)) = false := by decide)
    (hs2 : starEach [b] X.env = (false, eval b X.env) :: starEach [] X.env := by rfl) (hs : starEach [e, b] X.env = (false, eval e X.env) :: starEach [b] X.env := by rfl) (hpl : (backTo pos (starEach [b] X.env)).any (·.1) = false := by rfl) : DX X Γ W (.Call (.Name x p) [e, b] [] pos) (fIsi T f) :=
  (pe_callB call_isi hg hm hv (pa_cons ha (pa_cons hT pa_nil hs2) hs) hn hdb hs hpl).imp fun σ H Q h => h.bind fun H0 G0 d v g1 G1 H1 r1 h1 => by
    split at h1
    · exact h1.stop
    · rename_i ne
      split at h1
      · rename_i bb hk
        exact ⟨v, .ty T, _, _, bb, rfl, .ty T, Dv.ty r1 (by simpa using ne) h1.1.sub h1.1.st, kit_ty hk, h1.here (.bl _)⟩
      · exact h1.stop
end
end DE
namespace DE
open PyProof.Rows PySem.Spec PySem L2
/-! ### a def of the text, ready to be called -/
def Kf (P : Program) (w : World) (K : PySem.W.Frag) (mg : Str → Option Value) (base : Heap) (k : Nat) (x : Str) (sp : Sp) : Prop :=
  ∃ f fd ps, FnG P w K mg base k f fd ps sp ∧ mg x = some (.ref f) ∧ PySem.W.keepIn K (.ref f) = true ∧ Binds K fd ps []
theorem Kf.mono {P : Program} {w : World} {K : PySem.W.Frag} {mg : Str → Option Value} {base : Heap} {j k : Nat} {x : Str} {sp : Sp} (h : Kf P w K mg base j x sp) (hk : j ≤ k) : Kf P w K mg base k x sp :=
  let ⟨f, fd, ps, a, b⟩ := h
  ⟨f, fd, ps, a.mono hk, b⟩
section
variable {X : Cx} {Γ : Gam} {W : WX} {a b c e : Expr} {es : List Expr} {pos : Pos} {k : Nat}
theorem d_callK {j n : Nat} {gm : Fd} {x : Str} {p : Pos} {fa : Mo (List D)} (F : Kf X.prog X.w X.K X.mg X.base j x (dsp X.K Γ n gm)) (hk : j ≤ k) (C : Ct X W k) (hg : Gl X x)
    (ha : DA X Γ W (e :: es) fa) (hdb : (x == ("__debug__" : Str)) = false := by decide) (he : starEach (e :: es) X.env = (false, eval e X.env) :: starEach es X.env := by rfl) (hpl : (backTo pos (starEach es X.env)).any (·.1) = false := by rfl) :
    DX X Γ W (.Call (.Name x p) (e :: es) [] pos) (fCallN n gm fa) :=
  let ⟨f, fd, ps, h1, h2, h3, h4⟩ := F.mono hk
  d_call h1 C hg h2 h3 h4 ha hdb he hpl
/-! ### two lists -/
def fCat (f h : Mo D) : Mo (List D) := bd f fun d => bd h fun e => match d, e with
  | .lst xs, .lst ys => if xs.length + ys.length ≤ 100000 then rt (xs ++ ys) else stop
  | _, _ => stop
theorem d_catO {f h : Mo D} (ha : DX X Γ W a f) (hb : DX X Γ W b h) : DF X Γ W (.BinOp a .Add b pos) (fCat f h) :=
  (pe_op op_cat ha hb).imp fun σ H Q h => h.bind fun H0 G0 d v g1 G1 H1 r1 h1 => (h1.bind fun e u g2 G2 H2 gr2 r2 h2 => by
    split at h2
    · split at h2
      · rename_i c
        obtain ⟨l, vs, rfl, h3, h4⟩ := Dv.lst_inv (Dv.mono gr2 r1)
        obtain ⟨l', vs', rfl, h3', h4'⟩ := Dv.lst_inv r2
        exact ⟨l, l', vs, vs', rfl, rfl, h2.1.sub _ _ h3, h2.1.sub _ _ h3', by rw [h4.length, h4'.length]; exact sz5 c, fun p hp => h2.newO hp (h4.append h4')⟩
      · exact h2.stop
    · exact h2.stop).g
theorem d_catL {f h : Mo D} (ha : DX X Γ W a f) (hb : DX X Γ W b h) : DX X Γ W (.BinOp a .Add b pos) (fLet (fCat f h)) := d_let (d_catO ha hb)
/-- a slice of a known tuple or list -/
def fSl (f : Mo D) (l u : Mo (Option Int)) : Mo D := bd f fun d => bd l fun lo => bd u fun hi => match d with
  | .tup ds => rt (.tup (cutD ds lo hi))
  | .lst ds => rt (.lst (cutD ds lo hi))
  | _ => stop
theorem d_sl {lo hi : Option Expr} {p2 : Pos} {f : Mo D} {l u : Mo (Option Int)} (ha : DX X Γ W a f) (hl : DO X Γ W lo l) (hh : DO X Γ W hi u) : DX X Γ W (.Subscript a (.Slice lo hi none p2) pos) (fSl f l u) :=
  (pe_slice (sl_tupA.or sl_list) ha hl hh).imp fun σ H Q h => h.bind fun H0 G0 d v g1 G1 H1 r1 h1 => (h1.bind fun lo' lo g2 G2 H2 gr2 r2 h2 => (h2.bind fun hi' hi g3 G3 H3 gr3 r3 h3 => by
    obtain rfl := r2
    obtain rfl := r3
    have gp : ∀ {p : Addr}, H3 p = none → G3 p = none := fun {p} hp => by
      cases z : G3 p with
      | none => rfl
      | some u => rw [h3.1.sub _ _ z] at hp; cases hp
    split at h3
    · obtain ⟨l, vs, rfl, k1, k2⟩ := Dv.tup_inv ((Dv.mono gr2 r1).mono gr3)
      refine .inl ⟨l, vs, rfl, h3.1.sub.sqT k1, fun hw => ?_, fun hw p hp => ?_⟩
      · refine h3.here (.tup k1 ?_)
        have e : cutD ‹List D› lo hi = ‹List D› := by
          unfold cutD
          rw [← k2.length, hw.1, hw.2, k2.length]; simp
        rw [e]; exact k2
      · exact h3.new hp (.tup (SqT.of upd_same) ((k2.cut lo hi).mono (Gr.upd (gp hp))))
    · obtain ⟨l, vs, rfl, k1, k2⟩ := Dv.lst_inv ((Dv.mono gr2 r1).mono gr3)
      exact .inr ⟨l, vs, rfl, SqL.of (h3.1.sub _ _ k1), fun p hp => h3.new hp (.lst upd_same ((k2.cut lo hi).mono (Gr.upd (gp hp))))⟩
    · exact h3.stop).g).g
/-! ### xs.append(e), xs.pop(e) of a list of one's own -/
def fApp (i : Nat) (f : Mo D) : Mo D := fun g => match g.r[i]? with
  | some (.own _) => bd f (fun d g1 => match g1.r[i]? with
    | some (.own xs) => if xs.length < 100000 then some (.ok .non, ⟨g1.r.set i (.own (xs ++ [d])), g1.s⟩) else none
    | _ => none) g
  | _ => none
theorem d_app (i : Nat) {x : Str} {p apos : Pos} {f : Mo D} (he : DX X Γ W e f) (hN : X.N[i]? = some x := by rfl) (hv : Vis X.env.scope x := by first | exact Or.inl rfl | exact Or.inr (Or.inl rfl) | exact Or.inr (Or.inr rfl)) (hd : (x == ("__debug__" : Str)) = false := by decide)
    (hcd : (x == ("__classdict__" : Str)) = false := by decide)
    (hbase : attributeBase (.Name x p) "append" X.env (eval (.Name x p) X.env) = eval (.Name x p) X.env := by rfl)
    (hfew : ((backTo pos (starEach [e] X.env)).all (fun x => !x.1) && (backToKw pos (keywordEach [] X.env)).all (fun x => x.1.isSome)
      && (decide (([e] : List Expr).length + ([] : List Keyword).length + (if ([] : List Keyword).isEmpty then 0 else 1) < 30))) = true := by rfl)
    (hline : (apos.endLine == pos.line) = true := by rfl) (hs : starEach [e] X.env = (false, eval e X.env) :: starEach [] X.env := by rfl) (hplain : (backTo pos (starEach [] X.env)).any (·.1) = false := by rfl) :
    DX X Γ W (.Call (.Attribute (.Name x p) "append" apos) [e] [] pos) (fApp i f) :=
  (pe_bm PySem.F.plainAttrs_list PySem.F.slot_list_append PySem.F.type_list_append mt_append (pe_var hN hv hd hcd) (pa_cons he pa_nil hs) hbase hfew hline hs hplain).imp fun σ H Q ⟨H0, G0, G, g, h⟩ => by
    obtain ⟨E, r, g', ef, q⟩ := h
    unfold fApp at ef
    split at ef
    · rename_i xs0 hi
      obtain ⟨l, vs, h1, h2, h3, h4, h5⟩ := E.own i _ hi
      refine ⟨_, h1, .inl ⟨rfl, _, SqL.of h2⟩, ?_⟩
      have t0 : tAt X.K Γ W (RD X.K Γ) (bd f (fun d g1 => match g1.r[i]? with
        | some (.own xs) => if xs.length < 100000 then some (.ok D.non, ⟨g1.r.set i (.own (xs ++ [d])), g1.s⟩) else none
        | _ => none)) H0 G0 G g σ H Q := ⟨E, r, g', ef, q⟩
      refine (t0.bind (R1 := RD X.K Γ) fun d v g1 G1 H1 gr r1 t1 => ?_).g
      obtain ⟨E1, r', g1', e1, q1⟩ := t1
      dsimp only at e1
      split at e1
      · rename_i xs hi1
        split at e1
        · rename_i hz
          cases e1
          obtain ⟨l1, vs1, k1, k2, k3, k4, k5⟩ := E1.own i xs hi1
          rw [h1] at k1; cases k1
          refine ⟨l, vs1, v, rfl, rfl, k2, by rw [k5.length]; exact Nat.lt_of_lt_of_le hz (by decide), ?_⟩
          exact q1 .non G1 _ (Gr.refl _) (E1.put hi1 h1 (k5.append (.cons r1 .nil))) .non
        · cases e1
      · cases e1
    · cases ef
def fPopAt (i : Nat) (f : Mo D) : Mo D := fun g => match g.r[i]? with
  | some (.own _) => bd f (fun d g1 => match d, g1.r[i]? with
    | .int j, some (.own xs) => match (if 0 ≤ j ∧ j < 100000 then xs[j.toNat]? else none) with
      | some y => some (.ok y, ⟨g1.r.set i (.own (xs.eraseIdx j.toNat)), g1.s⟩)
      | none => none
    | _, _ => none) g
  | _ => none
theorem d_popAt (i : Nat) {x : Str} {p apos : Pos} {f : Mo D} (he : DX X Γ W e f) (hN : X.N[i]? = some x := by rfl) (hv : Vis X.env.scope x := by first | exact Or.inl rfl | exact Or.inr (Or.inl rfl) | exact Or.inr (Or.inr rfl)) (hd : (x == ("__debug__" : Str)) = false := by decide)
    (hcd : (x == ("__classdict__" : Str)) = false := by decide)
    (hbase : attributeBase (.Name x p) "pop" X.env (eval (.Name x p) X.env) = eval (.Name x p) X.env := by rfl)
    (hfew : ((backTo pos (starEach [e] X.env)).all (fun x => !x.1) && (backToKw pos (keywordEach [] X.env)).all (fun x => x.1.isSome)
      && (decide (([e] : List Expr).length + ([] : List Keyword).length + (if ([] : List Keyword).isEmpty then 0 else 1) < 30))) = true := by rfl)
    (hline : (apos.endLine == pos.line) = true := by rfl) (hs : starEach [e] X.env = (false, eval e X.env) :: starEach [] X.env := by rfl) (hplain : (backTo pos (starEach [] X.env)).any (·.1) = false := by rfl) :
    DX X Γ W (.Call (.Attribute (.Name x p) "pop" apos) [e] [] pos) (fPopAt i f) :=
  (pe_bm PySem.F.plainAttrs_list PySem.F.slot_list_pop PySem.F.type_list_pop mt_popAt (pe_var hN hv hd hcd) (pa_cons he pa_nil hs) hbase hfew hline hs hplain).imp fun σ H Q ⟨H0, G0, G, g, h⟩ => by
    obtain ⟨E, r, g', ef, q⟩ := h
    unfold fPopAt at ef
    split at ef
    · rename_i xs0 hi
      obtain ⟨l, vs, h1, h2, h3, h4, h5⟩ := E.own i _ hi
      refine ⟨_, h1, .inl ⟨rfl, _, SqL.of h2⟩, ?_⟩
      have t0 : tAt X.K Γ W (RD X.K Γ) (bd f (fun d g1 => match d, g1.r[i]? with
        | .int j, some (.own xs) => match (if 0 ≤ j ∧ j < 100000 then xs[j.toNat]? else none) with
          | some y => some (.ok y, ⟨g1.r.set i (.own (xs.eraseIdx j.toNat)), g1.s⟩)
          | none => none
        | _, _ => none)) H0 G0 G g σ H Q := ⟨E, r, g', ef, q⟩
      refine (t0.bind (R1 := RD X.K Γ) fun d v g1 G1 H1 gr r1 t1 => ?_).g
      obtain ⟨E1, r', g1', e1, q1⟩ := t1
      dsimp only at e1
      split at e1
      · rename_i j xs hi1
        split at e1
        · rename_i y hy
          cases e1
          split at hy
          · rename_i hj
            cases r1
            obtain ⟨l1, vs1, k1, k2, k3, k4, k5⟩ := E1.own i xs hi1
            rw [h1] at k1; cases k1
            obtain ⟨w, hw, dw⟩ := k5.get _ hy
            have hlt : j.toNat < vs1.length := (List.getElem?_eq_some_iff.mp hw).1
            refine ⟨l, vs1, j, j.toNat, w, rfl, rfl, k2, by omega, by omega, seqIndex_of hj.1 (by omega), hw, ?_⟩
            exact q1 w G1 _ (Gr.refl _) (E1.put hi1 h1 (k5.eraseIdx _)) dw
          · cases hy
        · cases e1
      · cases e1
    · cases ef
/-! ### for over a range -/
def intsD (n : Int) : List D := (List.range n.toNat).map fun (i : Nat) => D.int (i : Int)
def fForR (f : Mo (List D)) (t : Mt) (b : Ms) : Ms := sb f fun ds => match ds with
  | [.int n] => if n ≤ 1000000 ∧ -1000000 ≤ n then loop t b (intsD n) else sStop
  | _ => sStop
theorem s_forR {tg : Expr} {p2 : Pos} {body : List Stmt} {f : Mo (List D)} {t : Mt} {kk : Ms} {js : List Nat} {gt : TG} {p : Pos} (hc : X.calm = true) (hp : PassesOwn (model X.prog X.w) X.A X.env X.xe) (hi : DA X Γ W [e] f) (hg : DG X Γ tg gt js t) (hb : DB X Γ W body kk)
    (hgl : Gl X "range") (hm : X.mg "range" = none) (hs1 : starEach [e] X.env = [(false, eval e X.env)] := by rfl)
    (hs : ∀ x, foldedSetIterable (.Call (.Name "range" p) [e] [] p2) X.env x = pure x := by intro _; rfl) : DS_ X Γ W (.For tg (.Call (.Name "range" p) [e] [] p2) body [] pos) (fForR f t kk) := by
  obtain ⟨pg, kg⟩ := hg
  refine (ps_for hp hc (pi_range1 hgl hm hi hs1) pg hb hs).imp fun Ds σ H h => h.bind (R1 := RA X.K Γ) fun H0 G0 ds vs g1 G1 H1 r1 h1 => ?_
  split at h1
  · rename_i n
    split at h1
    · rename_i hn
      cases r1 with
      | cons dv t0 =>
        cases t0
        cases dv
        refine ⟨n, rfl, by omega, by omega, for_range (lo := 0) (n := n.toNat) (fun i σ2 H2 => ∃ G2 g2, Gr G1 G2 ∧ tSt X.K Γ W (loop t kk ((intsD n).drop i)) H0 G0 G2 g2 Ds σ2 H2) ⟨G1, g1, Gr.refl _, h1⟩ ?_ ?_⟩
        · rintro i σ2 H2 hi ⟨G2, g2, gr2, h2⟩
          have ed : (intsD n).drop i = D.int (i : Int) :: (intsD n).drop (i + 1) := by
            have il : i < (intsD n).length := by unfold intsD; simpa using hi
            rw [List.drop_eq_getElem_cons il]
            have z : (intsD n)[i]? = some (D.int (i : Int)) := by unfold intsD; rw [List.getElem?_map, List.getElem?_range hi]; rfl
            rw [List.getElem?_eq_getElem il] at z
            rw [Option.some.inj z]
          rw [ed] at h2
          have e0 : (0 : Int) + (i : Int) = (i : Int) := Int.zero_add _; rw [e0]
          exact loop_turn h2 (.int _) (fun Q g' e k => kg _ σ2 H2 Q H0 G0 G2 g2 g' _ h2.1 (.int _) e fun σ' E' _ => k σ' E') fun σ3 G3 H3 g3 gr3 h3 => ⟨G3, g3, gr2.trans gr3, h3⟩
        · rintro σ2 H2 ⟨G2, g2, gr2, h2⟩
          have el : (intsD n).drop n.toNat = [] := by
            apply List.drop_eq_nil_of_le
            unfold intsD; simp
          rw [el] at h2
          exact h2.next rfl (Gr.refl _) h2.1
    · exact h1.stop
  · exact h1.stop
/-- a, b = x, y: no pair is made -/
def fPar (i j : Nat) (f h : Mo D) : Ms := sb f fun d => sb h fun e g => some (.nx, ⟨(g.r.set i (.dat d)).set j (.dat e), g.s⟩)
end
end DE
namespace DE
open PyProof.Rows PySem.Spec PySem L2
/-! ### a def's meaning: its body, run -/
def runB (f : Ms) (N n : Nat) : Fd := fun ds s => if ds.length = n then
    match f ⟨ds.map .dat ++ List.replicate (N - n) .no, s⟩ with
    | some (.ret d, g') => some (.ok d, g'.s)
    | some (.nx, g') => some (.ok .non, g'.s)
    | some (.exc x, g') => some (.error x, g'.s)
    | _ => none
  else none
theorem runB_gives (f : Ms) (N n : Nat) : bodyGives f N n (runB f N n) := by
  intro ds s r s' hn h
  unfold runB at h
  rw [if_pos hn] at h
  split at h
  · rename_i d g' e
    cases h
    exact ⟨g', rfl, .inl e⟩
  · rename_i g' e
    cases h
    exact ⟨g', rfl, .inr ⟨rfl, e⟩⟩
  · rename_i x g' e
    cases h
    exact ⟨g', rfl, .inl e⟩
  · cases h
theorem kf_of {P : Program} {w : World} {K : PySem.W.Frag} {mg : Str → Option Value} {base : Heap} {x qual : Str} {st : Stmt} {f : Addr} {fd : FuncData} {N ps : List Str} {k : Nat} {Γ : Gam} {fb : Ms}
    (F : Fun K x qual st f fd) (hm : mg x = some (.ref f)) (S : FnScope N ps (defScope st)) (hb : Binds K fd ps [])
    (hd : ∀ (cdv : Value) (A : Around) (outer : List Env) (s : Shared) (H : Hp) (E : XK), Ct (cxD P w K mg base N qual st f cdv A outer s H E) (fun c d _ H => E c d H) k → DB (cxD P w K mg base N qual st f cdv A outer s H E) Γ (fun c d _ H => E c d H) (defBody st) fb) :
    Kf P w K mg base (k + 1) x (dsp K Γ ps.length (runB fb N.length ps.length)) :=
  ⟨f, fd, ps, fn_data F S fb (runB_gives _ _ _) hd, hm, F.kp, hb⟩
theorem kf_ofC {P : Program} {w : World} {K : PySem.W.Frag} {mg : Str → Option Value} {base : Heap} {x qual : Str} {st : Stmt} {f : Addr} {fd : FuncData} {N ps : List Str} {k : Nat} {Γ : Gam} {fb : Ms}
    (F : Fun K x qual st f fd) (hm : mg x = some (.ref f)) (S : FnScope N ps (defScope st)) (hb : Binds K fd ps [])
    (hd : ∀ (cdv : Value) (A : Around) (outer : List Env) (s : Shared) (H : Hp) (E : XK), fd.code = cdv → Ct (cxD P w K mg base N qual st f cdv A outer s H E) (fun c d _ H => E c d H) k → DB (cxD P w K mg base N qual st f cdv A outer s H E) Γ (fun c d _ H => E c d H) (defBody st) fb) :
    Kf P w K mg base (k + 1) x (dsp K Γ ps.length (runB fb N.length ps.length)) :=
  ⟨f, fd, ps, fn_dataC F S fb (runB_gives _ _ _) hd, hm, F.kp, hb⟩
section
variable {X : Cx} {Γ : Gam} {W : WX} {a b c e : Expr} {es : List Expr} {pos : Pos} {k : Nat}
theorem takesB {X : Cx} : Takes X Wn := fun _ _ x => by
  obtain ⟨_, _, _, _, _, _, _, _, _, _, _, _, _, _, _, _, z⟩ := x; exact z.elim
theorem Ct.blk (C : Ct X W k) {s : Shared} {H : Hp} {scope : Scope} {env : Env} {fp : List Addr} : Ct (X.blk s H scope env fp) Wn k := ⟨C.calm, takesB, PassesOwn.never, C.room, C.gua⟩
theorem Ct.mono {j : Nat} (C : Ct X W k) (h : j ≤ k) : Ct X W j := ⟨C.calm, C.tk, C.pas, C.room.mono h, C.gua⟩
theorem pts_yes : DTs X Γ W [] (rt true) := pts_nil.imp fun σ H Q ⟨H0, G0, G, g, h⟩ => h.here rfl
theorem pts_1 {f : Mo Bool} (h : DT X Γ W e f) : DTs X Γ W [e] f := pts_one h
theorem s_retN : DS_ X Γ W (.Return none pos) (sOut (.ret .non)) := ps_retN.imp fun Ds σ H ⟨H0, G0, G, g, E, o, g', e, q⟩ => by cases e; exact q .non σ G H (Gr.refl _) E .non
/-! ### a, b = e1, e2 -/
def fParOO (i j : Nat) (f h : Mo (List D)) : Ms := sb f fun xs => sb h fun ys g => some (.nx, ⟨(g.r.set i (.own xs)).set j (.own ys), g.s⟩)
def fParDO (i j : Nat) (f : Mo D) (h : Mo (List D)) : Ms := sb f fun d => sb h fun ys g => some (.nx, ⟨(g.r.set i (.dat d)).set j (.own ys), g.s⟩)
def fParDD (i j : Nat) (f h : Mo D) : Ms := sb f fun d => sb h fun e g => some (.nx, ⟨(g.r.set i (.dat d)).set j (.dat e), g.s⟩)
theorem s_parDD {i j : Nat} {x y : Str} {px py pt : Pos} {kt k2 : Nat} {pt2 : Pos} {f h : Mo D} (hc : X.calm = true) (hN : X.N.Nodup) (ha : DX X Γ W a f) (hb : DX X Γ W b h) (hi : X.N[i]? = some x := by rfl) (hj : X.N[j]? = some y := by rfl) (hij : i ≠ j := by decide)
    (hx : X.env.scope.names.lookup x = some .local := by rfl) (hy : X.env.scope.names.lookup y = some .local := by rfl) (h1 : starEach [a, b] X.env = (false, eval a X.env) :: starEach [b] X.env := by rfl) (h2 : starEach [b] X.env = (false, eval b X.env) :: starEach [] X.env := by rfl)
    (hw : swappedStores [.Tuple [.Name x px, .Name y py] kt pt] (.Tuple [a, b] k2 pt2) X.env = pure (some [x, y]) := by rfl)
    (hs : swapsWithSole [.Tuple [.Name x px, .Name y py] kt pt] (.Tuple [a, b] k2 pt2) pos.line X.env = pure false := by rfl) : DS_ X Γ W (.Assign [.Tuple [.Name x px, .Name y py] kt pt] (.Tuple [a, b] k2 pt2) pos) (fParDD i j f h) :=
  (ps_par hc hN hi hj hij hx hy (pa_cons ha (pa_cons hb pa_nil h2) h1) hw hs).imp fun Ds σ H hh => hh.bind fun H0 G0 d v g1 G1 H1 r1 t1 => (t1.bind (R1 := RD X.K Γ) fun e u g2 G2 H2 _ gr2 r2 t2 =>
    ⟨v, u, rfl, t2.next rfl (Gr.refl _) ((t2.1.set i (Dv.mono gr2 r1)).set j r2)⟩).g
/-- the lists of a tuple display that is never made: both one's own -/
theorem par_own {K : PySem.W.Frag} {f h : Mo (List D)} {k : List D → List D → Ms} {Ds : Ends} {σ : L2.St} {H : Hp} {Q : V → V → Hp → Prop} (hh : tS K Γ W (sb f fun xs => sb h (k xs)) Ds σ H)
    (hQ : ∀ H0 G0 G2 H2 g2 xs ys v u, Fre K Γ H0 G2 H2 σ g2 v xs → Fre K Γ H0 G2 H2 σ g2 u ys → v ≠ u → tSt K Γ W (k xs ys) H0 G0 G2 g2 Ds σ H2 → Q v u H2) :
    tG K Γ W (RF K Γ) f σ H fun v H1 => tG K Γ W (RF K Γ) h σ H1 fun u H2 => Q v u H2 :=
  hh.bind fun H0 G0 xs v g1 G1 H1 r1 t1 => by
    obtain ⟨E1, o, g', e, q⟩ := t1
    obtain ⟨p, vs, rfl, p1, p2, p3, p4, p5⟩ := r1.at_
    obtain ⟨Hr, up, dn, F, back⟩ := E1.rebase
    have pm : p ≠ Γ.M := by
      obtain ⟨lm, hM, _⟩ := E1.st
      rintro rfl
      rw [hM] at p1; cases p1
    have hp : Hr p = some (.lst vs) := dn p _ p1 pm fun i zs hi hs => p5 i zs hi hs
    refine ⟨Hr, G1, G1, g1, F, ?_⟩
    unfold sb at e
    cases hf : h g1 with
    | none => (rw [hf] at e); cases e
    | some w =>
      obtain ⟨rr, g2⟩ := w
      rw [hf] at e
      cases rr with
      | error x =>
        cases e
        exact ⟨.error x, _, rfl, fun C dd G' H' gr E' hx => q C dd σ G' H' gr (back _ _ _ _ E') hx⟩
      | ok ys =>
        refine ⟨.ok ys, g2, rfl, fun u G2 H2 gr2 E2 r2 => ?_⟩
        have B2 := back _ _ _ _ E2
        obtain ⟨p', vs', rfl, q1, q2, q3, q4, q5⟩ := r2.at_
        have hpq : p ≠ p' := by rintro rfl; rw [hp] at q3; cases q3
        have h0 : H0 p' = none := by
          cases z : H0 p' with
          | none => rfl
          | some u =>
            exfalso
            have ok' : p' ≠ Γ.M → Γ.Ok p' := fun _ => E2.ok_lst q1
            have pm' : p' ≠ Γ.M := by
              obtain ⟨lm, hM, _⟩ := E2.st
              rintro rfl
              rw [hM] at q1; cases q1
            have a1 := E1.base p' u (ok' pm') z
            have a2 : Hr p' = some u := dn p' u a1 pm' fun i zs hi hs => by
              obtain ⟨l, _, k1, _, _, k4, _⟩ := E1.own i zs hi
              rw [hs] at k1; cases k1; rw [k4] at z; cases z
            rw [q3] at a2; cases a2
        refine hQ H0 G0 G2 H2 g2 xs ys _ _ ⟨p, vs, rfl, E2.base p _ (E1.ok_lst p1) hp, E2.gfr p _ hp p2, p3, p4.mono gr2, fun i zs hi hs => ?_⟩ ⟨p', vs', rfl, q1, q2, h0, q4, q5⟩ (fun z => by cases z; exact hpq rfl) ⟨B2, o, g', e, ?_⟩
        · obtain ⟨l, _, k1, _, _, k4, _⟩ := E2.own i zs hi
          rw [hs] at k1; cases k1; rw [hp] at k4; cases k4
        · cases o with
          | nx => exact fun σ2 G3 H3 gr3 => q σ2 G3 H3 (gr2.trans gr3)
          | brk => exact fun σ2 G3 H3 gr3 => q σ2 G3 H3 (gr2.trans gr3)
          | ct => exact fun σ2 G3 H3 gr3 => q σ2 G3 H3 (gr2.trans gr3)
          | ret d2 => exact fun v2 σ2 G3 H3 gr3 => q v2 σ2 G3 H3 (gr2.trans gr3)
          | exc x => exact fun C dd σ2 G3 H3 gr3 => q C dd σ2 G3 H3 (gr2.trans gr3)
theorem s_parOO {i j : Nat} {x y : Str} {px py pt : Pos} {kt k2 : Nat} {pt2 : Pos} {f h : Mo (List D)} (hc : X.calm = true) (hN : X.N.Nodup) (ha : DF X Γ W a f) (hb : DF X Γ W b h) (hi : X.N[i]? = some x := by rfl) (hj : X.N[j]? = some y := by rfl) (hij : i ≠ j := by decide)
    (hx : X.env.scope.names.lookup x = some .local := by rfl) (hy : X.env.scope.names.lookup y = some .local := by rfl) (h1 : starEach [a, b] X.env = (false, eval a X.env) :: starEach [b] X.env := by rfl) (h2 : starEach [b] X.env = (false, eval b X.env) :: starEach [] X.env := by rfl)
    (hw : swappedStores [.Tuple [.Name x px, .Name y py] kt pt] (.Tuple [a, b] k2 pt2) X.env = pure (some [x, y]) := by rfl)
    (hs : swapsWithSole [.Tuple [.Name x px, .Name y py] kt pt] (.Tuple [a, b] k2 pt2) pos.line X.env = pure false := by rfl) : DS_ X Γ W (.Assign [.Tuple [.Name x px, .Name y py] kt pt] (.Tuple [a, b] k2 pt2) pos) (fParOO i j f h) :=
  (ps_par hc hN hi hj hij hx hy (pa_cons ha (pa_cons hb pa_nil h2) h1) hw hs).imp fun Ds σ H hh => par_own hh fun H0 G0 G2 H2 g2 xs ys v u r1 r2 hne t => by
    refine ⟨v, u, rfl, t.next rfl (Gr.refl _) ((t.1.setO i r1).setO j ?_)⟩
    obtain ⟨p', vs', rfl, q1, q2, q3, q4, q5⟩ := r2.at_
    refine ⟨p', vs', rfl, q1, q2, q3, q4, fun l zs hl hs => ?_⟩
    by_cases z : l = i
    · subst z
      have il : l < g2.r.length := by have := (List.getElem?_eq_some_iff.mp hl).1; simpa using this
      rw [List.getElem?_set_self (by rw [← t.1.len]; exact il)] at hs
      exact hne (Option.some.inj (Option.some.inj hs))
    · rw [List.getElem?_set_ne (Ne.symm z)] at hl hs
      exact q5 l zs hl hs
/-! ### for i, x in enumerate(list) -/
def fForE (f : Mo (List D)) (t : Mt) (b : Ms) : Ms := sb f fun ds => match ds with
  | [.lst xs] => loop t b (xs.zipIdx.map fun p => D.tup [.int p.2, p.1])
  | _ => sStop
end
end DE
namespace DE
open PyProof.Rows PySem.Spec PySem L2
/-! ### the draw dict -/
def mkvs (l : Addr) (s : DS) : List (Key × V) := [(Sum.inr "great", .ref l), (Sum.inr "seed", .int s.seed), (Sum.inr "turns", .int s.turns)]
theorem gs_ : ¬ (("great" : Str) = "seed") := by decide +kernel
theorem gt_ : ¬ (("great" : Str) = "turns") := by decide +kernel
theorem st_ : ¬ (("seed" : Str) = "turns") := by decide +kernel
theorem val_g (l : Addr) (s : DS) : valV (mkvs l s) (Sum.inr "great") = some (.ref l) := by simp [mkvs, valV, List.find?_cons]
theorem val_s (l : Addr) (s : DS) : valV (mkvs l s) (Sum.inr "seed") = some (.int s.seed) := by simp [mkvs, valV, List.find?_cons, gs_]
theorem val_t (l : Addr) (s : DS) : valV (mkvs l s) (Sum.inr "turns") = some (.int s.turns) := by simp [mkvs, valV, List.find?_cons, gt_, st_]
theorem put_g (l l' : Addr) (s : DS) (xs : List Int) : putK (mkvs l s) (Sum.inr "great") (.ref l') = mkvs l' { s with great := xs } := by
  simp [mkvs, putK, gs_, gt_, Ne.symm gs_, Ne.symm gt_, fun h => gs_ (Eq.symm h), fun h => gt_ (Eq.symm h)]
theorem put_t (l : Addr) (s : DS) (n : Int) : putK (mkvs l s) (Sum.inr "turns") (.int n) = mkvs l { s with turns := n } := by
  simp [mkvs, putK, gt_, st_]
inductive MK where
  | great | seed | turns
def MK.key : MK → Str
  | .great => "great"
  | .seed => "seed"
  | .turns => "turns"
def fMg (k : MK) (f : Mo D) : Mo D := bd f fun d g => match d with
  | .m => some (.ok (match k with | .great => .lst (g.s.great.map .int) | .seed => .int g.s.seed | .turns => .int g.s.turns), g)
  | _ => none
theorem dva_ints {K : PySem.W.Frag} {Γ : Gam} {G : Hp} : ∀ xs : List Int, DvA K Γ G (xs.map V.int) (xs.map D.int)
  | [] => .nil
  | x :: xs => .cons (.int x) (dva_ints xs)
theorem dva_ints' {K : PySem.W.Frag} {Γ : Gam} {G : Hp} : ∀ {xs : List Int} {vs : List V}, DvA K Γ G vs (xs.map D.int) → vs = xs.map V.int
  | [], _, h => by cases h; rfl
  | x :: xs, _, h => by
    cases h with
    | cons h t =>
      cases h
      rw [dva_ints' t]; rfl
section
variable {X : Cx} {Γ : Gam} {W : WX} {a b c e : Expr} {es : List Expr} {pos p2 pos' : Pos} {k : Nat} {j : Nat}
theorem d_mget (mk : MK) {f : Mo D} (hu : X.A.units + 1 < cLine) (ha : DX X Γ W a f) (hs : NoSl (.Constant (.str mk.key) j p2) := by exact fun _ _ => rfl) : DX X Γ W (.Subscript a (.Constant (.str mk.key) j p2) pos) (fMg mk f) :=
  (pe_dget hu ha pe_str hs).imp fun σ H Q h => h.bind fun H0 G0 d v g1 G1 H1 r1 h1 => by
    obtain ⟨E, r, g', e, q⟩ := h1
    dsimp only at e
    split at e
    · cases e
      cases r1
      obtain ⟨l, hM, hG⟩ := E.st
      cases mk with
      | great => exact ⟨Γ.M, .ref l, rfl, by rw [← val_g l g1.s]; exact DGet.k (k := Sum.inr "great") hM, q _ _ _ (Gr.refl _) E (.lst hG (dva_ints _))⟩
      | seed => exact ⟨Γ.M, .int g1.s.seed, rfl, by rw [← val_s l g1.s]; exact DGet.k (k := Sum.inr "seed") hM, q _ _ _ (Gr.refl _) E (.int _)⟩
      | turns => exact ⟨Γ.M, .int g1.s.turns, rfl, by rw [← val_t l g1.s]; exact DGet.k (k := Sum.inr "turns") hM, q _ _ _ (Gr.refl _) E (.int _)⟩
    · cases e
theorem En.putM {K : PySem.W.Frag} {H0 G0 G H : Hp} {σ : L2.St} {g : Sg} (E : En K Γ H0 G0 G H σ g) {l : Addr} {s' : DS} (hl : G l = some (.lst (s'.great.map V.int))) : En K Γ H0 G0 G (upd H Γ.M (.dK (mkvs l s'))) σ ⟨g.r, s'⟩ := by
  refine ⟨fun a o n h => by rw [upd_ne n.1]; exact E.base a o n h, E.gfr, E.g0, fun a o h => ?_, E.gm, ⟨l, upd_same, hl⟩, E.len, E.dat, fun i xs h => ?_, E.dis, (let ⟨_, z, _⟩ := E.st; (sf_dK z).tabs E.tb), E.gt, fun i f c q G1 h => (let ⟨_, z, _⟩ := E.st; E.fnU (sf_dK z) h (Gr.refl _))⟩
  · have : a ≠ Γ.M := by rintro rfl; rw [E.gm] at h; cases h
    rw [upd_ne this]; exact E.sub a o h
  · obtain ⟨q, vs, h1, h2, h3⟩ := E.own i xs h
    have : q ≠ Γ.M := by
      obtain ⟨lm, hM, _⟩ := E.st
      rintro rfl
      rw [hM] at h2; cases h2
    exact ⟨q, vs, h1, by rw [upd_ne this]; exact h2, h3⟩
def intsOf : List D → Option (List Int)
  | [] => some []
  | .int i :: ds => (intsOf ds).map (i :: ·)
  | _ => none
theorem intsOf_eq : ∀ {ds : List D} {xs : List Int}, intsOf ds = some xs → ds = xs.map D.int
  | [], xs, h => by simp [intsOf] at h; subst h; rfl
  | d :: ds, xs, h => by
    cases d <;> simp [intsOf] at h
    obtain ⟨ys, h1, rfl⟩ := h
    rw [intsOf_eq h1]; rfl
/-- m["great"] = e, m["turns"] = e -/
def fMp (k : MK) (i : Nat) (f : Mo D) : Ms := sb f fun d => sb (fName i) fun m g => match m, k, d with
  | .m, .great, .lst ds => match intsOf ds with
    | some xs => some (.nx, ⟨g.r, { g.s with great := xs }⟩)
    | none => none
  | .m, .turns, .int n => some (.nx, ⟨g.r, { g.s with turns := n }⟩)
  | _, _, _ => none
theorem s_mput (mk : MK) (i : Nat) {f : Mo D} (hu : X.A.units + 1 < cLine) (ha : DX X Γ W a (fName i)) (hv : DX X Γ W e f) (hs : swapsWith e (some (.Subscript a (.Constant (.str mk.key) j p2) pos')) pos.line X.env = pure false := by rfl) :
    DS_ X Γ W (.Assign [.Subscript a (.Constant (.str mk.key) j p2) pos'] e pos) (fMp mk i f) :=
  (ps_dput hu ha pe_str hv hs).imp fun Ds σ H h => h.bind fun H0 G0 d v g1 G1 H1 r1 h1 => (h1.bind fun m u g2 G2 H2 hfe gr2 r2 h2 => by
    obtain ⟨E, o, g', e, q⟩ := h2
    obtain ⟨l, hM, hG⟩ := E.st
    dsimp only at e
    split at e
    · split at e
      · rename_i ds xs hx
        cases e
        cases r2
        obtain ⟨l2, vs, rfl, k1, k2⟩ := Dv.lst_inv (Dv.mono gr2 r1)
        have hd := intsOf_eq hx
        subst hd
        have hv := dva_ints' k2
        subst hv
        exact ⟨Γ.M, _, rfl, DPut.k (k := Sum.inr "great") hM (by show 3 < sizeLine; decide), by
          rw [show ([(Sum.inr "great", V.ref l), (Sum.inr "seed", V.int g2.s.seed), (Sum.inr "turns", V.int g2.s.turns)] : List (Key × V)) = mkvs l g2.s from rfl, put_g l l2 g2.s xs]
          exact q σ G2 _ (Gr.refl _) (E.putM k1)⟩
      · cases e
    · cases e
      cases r2
      cases (show Dv X.K Γ G1 v (.int _) from r1)
      exact ⟨Γ.M, _, rfl, DPut.k (k := Sum.inr "turns") hM (by show 3 < sizeLine; decide), by
        rw [show ([(Sum.inr "great", V.ref l), (Sum.inr "seed", V.int g2.s.seed), (Sum.inr "turns", V.int g2.s.turns)] : List (Key × V)) = mkvs l g2.s from rfl, put_t l g2.s _]
        exact q σ G2 _ (Gr.refl _) (E.putM hG)⟩
    · cases e).g
/-! ### while, with fuel -/
def whl (c : Mo Bool) (b : Ms) : Nat → Ms
  | 0 => sStop
  | n + 1 => sb c fun t => if t = true then (fun g => match b g with
      | some (.nx, g2) => whl c b n g2
      | some (.ct, g2) => whl c b n g2
      | some (.brk, g2) => some (.nx, g2)
      | o => o) else sOut .nx
def fWhl (fuel : Sg → Nat) (c : Mo Bool) (b : Ms) : Ms := fun g => whl c b (fuel g) g
theorem s_while (fuel : Sg → Nat) {test : Expr} {body : List Stmt} {c : Mo Bool} {b : Ms} (hp : PassesOwn (model X.prog X.w) X.A X.env X.xe) (hc : DT X Γ W test c) (hb : DB X Γ W body b) : DS_ X Γ W (.While test body [] pos) (fWhl fuel c b) := by
  refine (ps_while hp hc hb).imp fun Ds σ H ⟨H0, G0, G, g, h⟩ => ?_
  have h0 : tSt X.K Γ W (whl c b (fuel g)) H0 G0 G g Ds σ H := h
  refine ⟨fun n σ H => tS X.K Γ W (whl c b n) Ds σ H, ⟨fuel g, h0.s⟩, fun n σ H hn => ?_⟩
  cases n with
  | zero =>
    obtain ⟨H0, G0, G, g, h⟩ := hn
    exact h.stop
  | succ n =>
    refine hn.bind fun H0 G0 t t' g1 G1 H1 r1 h1 => ?_
    cases r1
    cases t with
    | false =>
      rw [if_neg Bool.false_ne_true] at h1 ⊢
      exact h1.next rfl (Gr.refl _) h1.1
    | true =>
      rw [if_pos rfl] at h1 ⊢
      refine ⟨fun σ' H' => tS X.K Γ W (whl c b n) Ds σ' H', fun σ' H' q => ⟨n, Nat.lt_succ_self n, q⟩, ?_⟩
      obtain ⟨E, o, g', e, q⟩ := h1
      dsimp only at e
      refine ⟨H0, G0, G1, g1, E, ?_⟩
      cases hf : b g1 with
      | none => (rw [hf] at e); cases e
      | some p =>
        obtain ⟨o1, g2⟩ := p
        rw [hf] at e
        have nxt : ∀ {e : whl c b n g2 = some (o, g')} σ2 G2 H2, Gr G1 G2 → En X.K Γ H0 G0 G2 H2 σ2 g2 → tS X.K Γ W (whl c b n) Ds σ2 H2 := fun {e} σ2 G2 H2 gr E2 => ⟨H0, G0, G2, g2, E2, o, g', e, by
          cases o with
          | nx => exact fun σ3 G3 H3 gr3 => q σ3 G3 H3 (gr.trans gr3)
          | brk => exact fun σ3 G3 H3 gr3 => q σ3 G3 H3 (gr.trans gr3)
          | ct => exact fun σ3 G3 H3 gr3 => q σ3 G3 H3 (gr.trans gr3)
          | ret d2 => exact fun v3 σ3 G3 H3 gr3 => q v3 σ3 G3 H3 (gr.trans gr3)
          | exc x => exact fun C dd σ3 G3 H3 gr3 => q C dd σ3 G3 H3 (gr.trans gr3)⟩
        cases o1 with
        | nx => exact ⟨.nx, g2, rfl, fun σ2 G2 H2 gr E2 => nxt (e := e) σ2 G2 H2 gr E2⟩
        | ct => exact ⟨.ct, g2, rfl, fun σ2 G2 H2 gr E2 => nxt (e := e) σ2 G2 H2 gr E2⟩
        | brk => cases e; exact ⟨.brk, _, rfl, q⟩
        | ret d => cases e; exact ⟨.ret d, _, rfl, q⟩
        | exc x => cases e; exact ⟨.exc x, _, rfl, q⟩
end
end DE
namespace DE
open PyProof.Rows PySem.Spec PySem L2
def Cst (K : PySem.W.Frag) (mg : Str → Option Value) (x : Str) (d : D) : Prop := ∃ v u, mg x = some u ∧ RelV v u ∧ ∀ Γ G, Dv K Γ G v d
theorem d_gl {X : Cx} {Γ : Gam} {W : WX} {x : Str} {d : D} {pos : Pos} (h : Cst X.K X.mg x d) (hg : Gl X x) (hd : (x == ("__debug__" : Str)) = false := by decide) : DX X Γ W (.Name x pos) (rt d) :=
  let ⟨v, u, h1, h2, h3⟩ := h
  d_glob hg h1 h2 (fun G => h3 Γ G) hd
end DE
namespace DE
open PyProof.Rows PySem.Spec PySem L2
open NdefX (NF envF ncx startF NScope CellsAt inv_startN)
/-! ### own error classes: super().__init__(text), then self.f = p -/
structure ErrC (P : Program) (K : PySem.W.Frag) (C fI : Addr) (fld par txt qual : Str) (fd : FuncData) : Prop where
  T : OexC K C
  iC : PySem.W.findIn K (.ref C) "__init__" = some (some (.ref fI))
  tI : PySem.W.typeIn K (.ref fI) = some (.type "function")
  noF : PySem.W.findIn K (.ref C) fld = some none
  sup : PySem.W.ks_superIn K C C "__init__" = some (some (.builtin "ValueError.__init__"))
  sVE : PySem.W.subIn K (.ref C) (.type "ValueError") = some true
  mroC : PySem.W.mroIn K C (.ref C) = some true
  noAny : PySem.W.nsIn K cStatics "thirdparty.any" = some none
  noSup : PySem.W.nsIn K mainGlobals "super" = some none
  top : (P.main.scope.names.lookup ("super" : Str)).isSome = false
  fn : ∃ (oc : Value) (od : Option Addr) (osl : Array (Option Value)) (params : Arguments) (body : List Stmt) (scope : Scope) (dV kV doc pm : Value) (an : Option Addr) (cda : Addr) (ct : Value) (cc : Addr) (ccl : Value) (cdd : Option Addr) (vs : Array Value) (ccs : Array (Option Value)) (file : Str) (tf : Tok) (cl : Value) (cld : Option Addr) (csl : Array (Option Value)) (p0 p1 p2 p3 p4 p5 q1 q2 q3 q4 : Pos) (j : Nat) (ar : Arg),
    fd = PySem.W.ksFn "__init__" qual params body scope dV kV doc pm an (.ref cda) ct cc ∧ K.lookup fI = some ⟨oc, od, .func fd, osl⟩ ∧ PySem.W.codeIn K (.ref cda) qual = true ∧ K.lookup cda = some ⟨ccl, cdd, .fields vs, ccs⟩ ∧ vs[2]? = some (.str file tf) ∧ ((P.main.file : Str) == file) = true ∧
      K.lookup cc = some ⟨cl, cld, .cell (some (.ref C)), csl⟩ ∧ NScope (["self", par, "__class__"] : List Str) (["self", par] : List Str) (["__class__"] : List Str) scope ∧ scope.names.lookup ("super" : Str) = some .globalImplicit ∧ (params.posonlyargs ++ params.args).head? = some ar ∧ ar.arg = "self" ∧
      (∃ pl : Env → Sem Bool, ∀ env : Env, eval (.Call (.Attribute (.Call (.Name "super" p0) [] [] p1) "__init__" p2) [.Constant (.str txt) j p3] [] p4) env = (do
        let ov ← attributeBase (.Call (.Name "super" p0) [] [] p1) "__init__" env (eval (.Call (.Name "super" p0) [] [] p1) env)
        standAt p2.atName
        let (f, first) ← holding [ov] (getMethod ov "__init__" (pl env))
        callWith p4 f first (backTo p4 (starEach [.Constant (.str txt) j p3] env)) [])) ∧ (par == ("__debug__" : Str)) = false ∧ (par == ("__classdict__" : Str)) = false ∧
      (∀ env : Env, swapsWith (.Call (.Attribute (.Call (.Name "super" p0) [] [] p1) "__init__" p2) [.Constant (.str txt) j p3] [] p4) none p5.line env = pure false) ∧ (∀ env : Env, swapsWith (.Name par q3) (some (.Attribute (.Name "self" q1) fld q2)) q4.line env = pure false) ∧
      body = [.Expr (.Call (.Attribute (.Call (.Name "super" p0) [] [] p1) "__init__" p2) [.Constant (.str txt) j p3] [] p4) p5, .Assign [.Attribute (.Name "self" q1) fld q2] (.Name par q3) q4] ∧
      (∀ us : List Value, us.length = 2 → bindArgs fd ⟨us, []⟩ = pure ((["self", par] : List Str).zip us))
section
variable {w : World} {prog : Program} {A : Around} {E : Value → Shared → Prop} {h : Heap} {g : Array GenState} {d : Drawn} {t : Nat} {os : OsState}
variable {q nm : Str} {C N : Addr} {bs bm : List Value} {hdct : Bool} {sn : List Str} {sub : List Value} {ab : Bool} {col : Option Bool} {dd : Option Addr} {k0 k1 k2 k3 k5 : Option Value}
/-- ValueError.__init__, bound to the exception at e, called -/
theorem call_mw {u e t0 : Addr} {rest : List Value} {Q : Value → Shared → Prop}
    (hC : h.get? C = some (excClassObj nm q C N bs bm hdct sn sub ab col dd k0 k1 k2 k3 k5 "ValueError.__new__")) (he : h.get? e = some (HandSPX.excO C t0)) (hu : h.get? u = some (PySem.W.kxs_mw "ValueError.__init__" e)) (hrest : rest.length ≤ sizeLine)
    (done : ∀ h' t1, (∀ b o, b ≠ e → h.get? b = some o → h'.get? b = some o) → h'.get? e = some (HandSPX.excO C t1) → Q .none ⟨h', g, d, t, os⟩) :
    wpAny (model prog w) A (call (Value.ref u) rest) Q E ⟨h, g, d, t, os⟩ := by
  refine wpAny_call (codeAny_of_tree ?_); show wpAny _ A.in1 (callAny (.ref u) ⟨rest, []⟩) _ _ _
  simp only [callAny]
  refine wpAny_bind (wpAny_load hu ?_); simp only [PySem.W.kxs_mw, show (Value.type "method-wrapper" == Value.type "method" || Value.type "method-wrapper" == Value.type "builtin_function_or_method" || Value.type "method-wrapper" == Value.type "method-wrapper") = true by decide, if_true]
  refine PySem.W.KFB.if_so (by decide) ?_; refine wpAny_bind (PySem.ESX.check_bound PySem.F.excBase_ValueError hC he rfl ?_)
  refine wpAny_bind (wpAny_pure (wpAny_pure ?_)); refine ⟨Code.quiet_builtin _ (by decide +kernel), codeAny_builtin PySem.F.excBase_ValueError.initEntry ?_⟩
  rw [Around.under_plainId PySem.F.excBase_ValueError.init.plain _]
  wp_walk
  exact done _ h.objs.size (fun b o hb ho => (Heap.get?_update_other _ _ (Ne.symm hb)).trans (Heap.get?_push_of_some _ ho)) ((Heap.get?_update_self _ (Heap.get?_push_of_some _ he) rfl).trans rfl)
end
/-- super().__init__(text), self an exception that is being made -/
theorem super_init {X : Cx} {σ : L2.St} {H : Hp} {s : Shared} {a C f cc cda : Addr} {fd : FuncData} {oc ccl cl : Value} {od cdd cld : Option Addr} {osl ccs csl : Array (Option Value)} {vs : Array Value} {file : Str} {tf : Tok} {ar : Arg} {body : List Stmt} {p0 p1 p2 p3 p4 : Pos} {j : Nat} {txt : Str}
    (I : Inv X [] σ H s) (T : OexC X.K C) (hks : X.env.kindOf "super" = some .globalImplicit) (hkc : X.env.kindOf "__class__" = some .free) (hka : X.env.kindOf "self" = some .local) (hfu : X.env.func = some f) (hco : X.env.code = .ref cda) (hcell : X.env.cells.lookup ("__class__" : Str) = some cc)
    (hN : X.N[0]? = some ("self" : Str)) (hσ : σ[0]? = some (some (.ref a))) (ha : H a = some (exo a C none)) (lk : X.K.lookup f = some ⟨oc, od, .func fd, osl⟩) (hp : (fd.params.posonlyargs ++ fd.params.args).head? = some ar) (hself : ar.arg = "self")
    (lcda : X.K.lookup cda = some ⟨ccl, cdd, .fields vs, ccs⟩) (hvs : vs[2]? = some (.str file tf)) (hfile : ((X.prog.main.file : Str) == file) = true) (htop : (X.prog.main.scope.names.lookup ("super" : Str)).isSome = false) (lcc : X.K.lookup cc = some ⟨cl, cld, .cell (some (.ref C)), csl⟩)
    (hm : X.mg "super" = none) (mroC : PySem.W.mroIn X.K C (.ref C) = some true) (noAny : PySem.W.nsIn X.K cStatics "thirdparty.any" = some none) (sup : PySem.W.ks_superIn X.K C C "__init__" = some (some (.builtin "ValueError.__init__"))) (sVE : PySem.W.subIn X.K (.ref C) (.type "ValueError") = some true)
    {pl : Sem Bool} (hev : eval (.Call (.Attribute (.Call (.Name "super" p0) [] [] p1) "__init__" p2) [.Constant (.str txt) j p3] [] p4) X.env = (do
      let ov ← attributeBase (.Call (.Name "super" p0) [] [] p1) "__init__" X.env (eval (.Call (.Name "super" p0) [] [] p1) X.env)
      standAt p2.atName
      let (f, first) ← (holding [ov] (getMethod ov "__init__" pl))
      callWith p4 f first (backTo p4 (starEach [.Constant (.str txt) j p3] X.env)) [])) :
    PySem.wpAt (model X.prog X.w) X.A (.func body X.env) (eval (.Call (.Attribute (.Call (.Name "super" p0) [] [] p1) "__init__" p2) [.Constant (.str txt) j p3] [] p4) X.env) (fun _ s' => Inv X [] σ H s') X.xe s := by
  obtain ⟨nm, q, N, bs, bm, sn, sub, ab, col, dd, k0, k1, k2, k3, k5, hC, hbm⟩ := T.cls; have KX := I.kIn
  obtain ⟨cdC, hcd⟩ : ∃ cd, PySem.W.clsIn X.K C = some cd := by
    cases e : PySem.W.clsIn X.K C with
    | none => unfold PySem.W.ks_superIn at sup; rw [e] at sup; cases sup
    | some cd => exact ⟨cd, rfl⟩
  obtain ⟨oD, hD1, hD2⟩ : ∃ oD, s.heap.get? C = some oD ∧ oD.data = .cls cdC := by
    unfold PySem.W.clsIn at hcd
    split at hcd
    · rename_i c d cd' sl ho
      cases hcd
      exact ⟨_, KX _ _ ho, rfl⟩
    · cases hcd
  obtain ⟨t1, hoa⟩ := exo_at I.hok ha
  obtain ⟨m, hns, hlk⟩ := I.loc
  obtain ⟨u, ru, lku⟩ := hlk 0 "self" (.ref a) hN hσ (.inl hka); obtain rfl : u = Value.ref a := ru
  have hms : m "self" = some (.ref a) := by
    rcases lku with ⟨_, e⟩ | ⟨k | k, _⟩
    · exact e
    · rw [hka] at k; cases k
    · rw [hka] at k; cases k
  refine ks_wpAt_MethodCall ?_ hev
  refine ks_wpAt_super_base hks hkc (by decide) hfu (KX _ _ lk) rfl hp hco (KX _ _ lcda) rfl hvs hfile htop ?_
  obtain ⟨mb, hb1, hb2⟩ := I.mod.blt
  refine PySem.W.ks_loadName_global I.ok.kind hks (Calls.loadGlobal_builtin (by rw [I.ok.glob]; exact I.mod.glob.keeps I.bk) hm (by rw [I.ok.blt]; exact hb1.keeps I.bk) ((hb2 _ (by decide)).trans (show bootBuiltins "super" = some (.type "super") from by decide +kernel)) ⟨rfl, ?_⟩)
  refine wpAny_loadName_free I.ok.kind hkc hcell ⟨_, KX _ _ lcc, rfl⟩ ?_
  rw [hself]
  refine wpAny_loadName_local I.ok.kind hka hns hms ?_
  refine ks_wpAny_isType_cls hD1 hD2 ⟨rfl, ?_⟩; refine ks_wpAny_call_super hD1 hD2 hoa rfl (fun c e => by cases e) (PySem.W.looks_mroIn KX mroC) (fun h1 e1 k1' => ?_)
  -- the bound __init__
  have I1 : Inv X [] σ H { s with heap := h1 } := I.kept (t' := s.toks) k1'
  have hoa1 := k1' _ _ hoa
  have IA : PySem.W.InstAt h1 a (HandSPX.excO C t1) C none := ⟨hoa1, rfl, rfl, trivial⟩
  unfold PySem.W.ks_superIn at sup
  rw [hcd] at sup
  refine PySem.W.kxs_getMethod PySem.W.kxs_ValueError e1 (PySem.W.looks_opaque I1.kIn noAny) (l₀ := cdC.mro) (fun A Q E s k q => wpAny_bind ((PySem.W.looks_clsIn I1.kIn hcd) A _ E s k (wpAny_pure q))) rfl I1.kIn sup (IA.type.andThen (PySem.W.looks_subIn I1.kIn sVE)) (PySem.W.ks_ne I1.kIn IA hcd) (by decide) ?_
  have k2' : ∀ b o, h1.get? b = some o → (h1.push (PySem.W.kxs_mw "ValueError.__init__" a)).get? b = some o := fun b o e => Heap.get?_push_of_some _ e
  have I2 : Inv X [] σ H { s with heap := h1.push (PySem.W.kxs_mw "ValueError.__init__" a), toks := s.toks + 1 } := I1.kept (t' := s.toks + 1) k2'
  have hu : (h1.push (PySem.W.kxs_mw "ValueError.__init__" a)).get? h1.objs.size = some (PySem.W.kxs_mw "ValueError.__init__" a) := Heap.get?_push_at rfl rfl
  have nH : H h1.objs.size = none := I1.hok.fresh (Nat.le_refl _)
  have nL : h1.objs.size ≠ X.env.locals := Ne.symm (Nat.ne_of_lt I1.lt)
  have nF : h1.objs.size ∉ X.fs := fun hb => by
    obtain ⟨_, o, e, _⟩ := I1.ok.funs.mem hb
    exact absurd (Nat.lt_of_lt_of_le (Heap.lt_size e) I1.sz) (Nat.lt_irrefl _)
  have I3 : Inv X [(h1.objs.size, PySem.W.kxs_mw "ValueError.__init__" a)] σ H { s with heap := h1.push (PySem.W.kxs_mw "ValueError.__init__" a), toks := s.toks + 1 } :=
    ⟨I2.ok, I2.os, I2.bare, I2.base, I2.loc, I2.cell, I2.free, I2.freeC, fun p hp => by
      rcases List.mem_append.mp hp with hp' | hp'
      · exact I2.pin p (List.mem_append_left _ hp')
      · obtain rfl := List.mem_singleton.mp hp'
        exact ⟨hu, nH, nL, nF, fun v e => by cases e⟩, I2.hok, I2.len⟩
  refine PySem.W.kxs_callWith (i := "ValueError.__init__") (x := a) rfl (Calls.evalArgs_plain ?_)
  refine thn ((pa_cons (X := X) (pe_str (X := X)) (pa_nil (X := X))).run p4 [(h1.objs.size, PySem.W.kxs_mw "ValueError.__init__" a)] _ σ H (fun vs' H1 => vs' = [V.str txt] ∧ H = H1) I3 ⟨rfl, rfl⟩) fun us s4 hh => ?_
  obtain ⟨vs', H1, I4, r4, ev, eH⟩ := hh
  subst ev
  rw [← eH] at I4
  have hpin := I4.pin (h1.objs.size, PySem.W.kxs_mw "ValueError.__init__" a) (List.mem_append_right _ List.mem_cons_self)
  refine ⟨hpin.1, ?_⟩
  have I5 : Inv X [] σ H s4 := ⟨I4.ok, I4.os, I4.bare, I4.base, I4.loc, I4.cell, I4.free, I4.freeC, fun p hp => I4.pin p (by rw [List.append_nil] at hp; exact List.mem_append_left _ hp), I4.hok, I4.len⟩
  obtain ⟨t4, ho4⟩ := exo_at I5.hok ha
  have hz : us.length ≤ sizeLine := by rw [← Paired.length r4, sizeLine_eq]; show 1 ≤ _; decide
  obtain ⟨hp4, g4, d4, tk4, os4⟩ := s4
  refine call_mw (I5.kIn _ _ hC) ho4 hpin.1 hz fun h' t2 k hx => ?_
  have J := I5.write (t' := tk4) (x := a) (e := a) (o := exo a C none) (by rw [ha]; exact True.intro) (.inl rfl) k ⟨_, hx⟩ (exo_ok hx)
  have same : upd H a (exo a C none) = H := by
    funext b
    by_cases hb : b = a
    · rw [hb, upd_same, ha]
    · rw [upd_ne hb]
  rw [same] at J
  exact J
/-- what such an __init__ keeps -/
def spI (C : Addr) (fld : Str) : Sp := fun vs H Q _ => ∃ a y, vs = [.ref a, y] ∧ H a = some (exo a C none) ∧ ∀ dx, H dx = none → dx ≠ a → Q .non (upd (upd H dx (exd dx [(fld, y)])) a (exo a C (some dx)))
theorem fn_init {P : Program} {w : World} {K : PySem.W.Frag} {mg : Str → Option Value} {base : Heap} {C fI : Addr} {fld par txt qual : Str} {fd : FuncData} (R : ErrC P K C fI fld par txt qual fd) (hmg : mg "super" = none) :
    FnOk P w K mg base (L2.CX P w) 1 fI fd ["self", par] (spI C fld) := by
  obtain ⟨oc, od, osl, params, body, scope, dV, kV, doc, pm, an, cda, ct, cc, ccl, cdd, vs, ccs, file, tf, cl, cld, csl, p0, p1, p2, p3, p4, p5, q1, q2, q3, q4, j, ar, efd, lk, hcd, lcda, hvs, hfile, lcc, S, hsup, har, hself, ⟨pl, hev⟩, hpdb, hpcd, hsw1, hsw2, ebody, hbind⟩ := R.fn
  refine ⟨fun vs H Q E h => ?_, fun A outer s H args us vs' Q E hr e0 hb r hsp => ?_⟩
  · obtain ⟨a, y, rfl, _⟩ := h; rfl
  · obtain ⟨a, y, rfl, ha, hq⟩ := hsp
    have KX : K.In s.heap := e0.mod.kin.keeps fun b o e => (e0.bs b o e).1; have lim : s.heap.NoLimit := e0.mod.nolimit.keeps fun b o e => (e0.bs b o e).1
    have hnocell : ∀ x ∈ scope.names, x.2 ≠ .cell := S.nocell
    have hscope : fd.scope = scope := by rw [efd]
    refine ks_codeAny_call_defAt (fd := fd) (body := body) (binds := (["self", par] : List Str).zip us) hr.depth (KX _ _ lk) rfl lim (by rw [efd]; exact PySem.W.codeRec_of KX hcd) (by rw [efd]) hb (by rw [hscope]; exact hnocell) (fun x hx => by rw [hscope]; exact S.par x.1 (List.of_mem_zip hx).1) (fun h₀ hns hk => ?_) (by rw [hscope]; exact S.co) (by rw [hscope]; exact S.gen) (by rw [hscope]; exact S.kind)
    have C0 : CellsAt [("__class__", cc)] ["__class__"] [none] s.heap H := by
      have hcc : s.heap.get? cc = some ⟨cl, cld, .cell (some (.ref C)), csl⟩ := KX _ _ lcc
      have hbase := e0.bs cc _ (e0.mod.kin _ _ lcc)
      have lk1 : ∀ {y c}, ([(("__class__" : Str), cc)] : List (Str × Addr)).lookup y = some c → y = "__class__" ∧ c = cc := fun {y c} e => by
        by_cases hy : y = "__class__"
        · subst hy; simp [List.lookup] at e; exact ⟨rfl, e.symm⟩
        · have : (y == ("__class__" : Str)) = false := by simpa using hy
          simp [List.lookup, this] at e
      refine ⟨rfl, fun y c e => ?_, fun x y c e1 e2 => (lk1 e1).1.trans (lk1 e2).1.symm, fun i y hi => ?_⟩
      · obtain ⟨_, rfl⟩ := lk1 e
        exact ⟨hbase.2, _, _, hcc, rfl⟩
      · cases i with
        | zero =>
          simp at hi; subst hi
          exact ⟨cc, by simp [List.lookup], fun v hv => by simp at hv⟩
        | succ i => simp at hi
    obtain ⟨F, hF⟩ : ∃ F : NF, F = ⟨"__init__", qual, params, body, scope, [("__class__", cc)], cda⟩ := ⟨_, rfl⟩
    have I0 : L2.Inv (ncx (L2.CX P w) P w K mg base (["self", par, "__class__"] : List Str) F fI A outer s H E) [] (startF (["self", par, "__class__"] : List Str) [.ref a, y] [none]) H { s with heap := h₀, toks := s.toks + ((["self", par] : List Str).zip us).length } :=
      inv_startN (F := F) (by rw [hF]; exact S) hr.hd e0 rfl r (by rw [hF]; exact C0) hns hk
    have henv : callEnv fd s.heap.objs.size fI = envF F fI s.heap.objs.size := by rw [efd, hF]; rfl
    rw [henv]
    obtain ⟨X, hX⟩ : ∃ X : Cx, X = ncx (L2.CX P w) P w K mg base (["self", par, "__class__"] : List Str) F fI A outer s H E := ⟨_, rfl⟩
    have e1 : envF F fI s.heap.objs.size = X.env := by rw [hX]; rfl
    have eA : A.deeper (envF F fI s.heap.objs.size) = X.A := by rw [hX]; rfl
    rw [← hX] at I0
    have kself : scope.names.lookup ("self" : Str) = some .local := S.par _ (by simp)
    have kpar : scope.names.lookup par = some .local := S.par _ (by simp)
    have kcls : scope.names.lookup ("__class__" : Str) = some .free := S.frk _ (by simp)
    have EE : ∀ u s', X.xe u s' ↔ wpAny (model P w) (A.deeper (envF F fI s.heap.objs.size)) (leaving (envF F fI s.heap.objs.size) u) (fun _ s'' => L2.CX P w outer H s E u s'') (fun e' s'' => L2.CX P w outer H s E e' s'') s' := fun u s' => by rw [hX]; exact Iff.rfl
    have base : ∀ {σ' : L2.St} {H' : Hp} {s' : Shared}, L2.Inv X [] σ' H' s' → Q .non H' → CE outer P w H s Q .none s' := fun {σ' H' s'} J q => by
      rw [hX] at J
      exact ⟨.non, H', J.os, J.bare, J.base, J.hok, rfl, q⟩
    rw [eA, e1]
    have hXs : X.env.scope = scope := by rw [hX, hF]; rfl
    have hint : interactive X.env = false := by
      unfold interactive
      rw [hXs, S.kind]; rfl
    have hXp : X.prog = P := by rw [hX]; rfl
    have hXw : X.w = w := by rw [hX]; rfl
    have hXK : X.K = K := by rw [hX]; rfl
    have hXm : X.mg = mg := by rw [hX]; rfl
    have hXN : X.N = (["self", par, "__class__"] : List Str) := by rw [hX]; rfl
    have hkind : ∀ x, X.env.kindOf x = scope.names.lookup x := fun x => by rw [hX, hF]; rfl
    have hinit := super_init (X := X) (σ := startF (["self", par, "__class__"] : List Str) [.ref a, y] [none]) (H := H) (a := a) (C := C) (f := fI) (cc := cc) (cda := cda) (body := body) (txt := txt) (j := j) (p0 := p0) (p1 := p1) (p2 := p2) (p3 := p3) (p4 := p4) (pl := pl X.env) I0 (by rw [hXK]; exact R.T) (by rw [hkind]; exact hsup) (by rw [hkind]; exact kcls) (by rw [hkind]; exact kself) (by rw [hX, hF]; rfl) (by rw [hX, hF]; rfl) (by rw [hX, hF]; simp [ncx, envF, List.lookup]) (by rw [hXN]; rfl) rfl ha (by rw [hXK]; exact lk) (by rw [efd]; exact har) hself
      (by rw [hXK]; exact lcda) hvs (by rw [hXp]; exact hfile) (by rw [hXp]; exact R.top) (by rw [hXK]; exact lcc) (by rw [hXm]; exact hmg) (by rw [hXK]; exact R.mroC) (by rw [hXK]; exact R.noAny) (by rw [hXK]; exact R.sup) (by rw [hXK]; exact R.sVE) (hev X.env)
    have hrest : PSs X [.Assign [.Attribute (.Name "self" q1) fld q2] (.Name par q3) q4] _ := pss_one (ps_ost (X := X) (pe_var (i := 0) (by rw [hXN]; rfl) (.inl (by rw [hXs]; exact kself)) (by decide) (by decide)) (pe_var (i := 1) (by rw [hXN]; rfl) (.inl (by rw [hXs]; exact kpar)) hpdb hpcd) (hsw2 X.env))
    rw [hXp, hXw] at hinit
    have key : PySem.wpAt (model P w) X.A (.func body X.env) (execs [.Expr (.Call (.Attribute (.Call (.Name "super" p0) [] [] p1) "__init__" p2) [.Constant (.str txt) j p3] [] p4) p5, .Assign [.Attribute (.Name "self" q1) fld q2] (.Name par q3) q4] X.env)
        (fun f s' => CR (L2.CX P w) outer P w H s Q E (.ok (.ret (match f with | .ret v => v | _ => .none))) s') X.xe { s with heap := h₀, toks := s.toks + ((["self", par] : List Str).zip us).length } := by
      refine ks_wpAt_execs_cons (ks_wpAt_Expr_any (ks_wpAt_mono hinit (fun v s' J => ?_) fun _ _ z => z) hint (hsw1 X.env))
      refine wpAt_of_wpAny ?_
      have run := hrest.run [] s' _ H { nx := fun _ H' => Q .non H', rt := fun _ _ => False } J
        ⟨y, rfl, .ref a, rfl, a, C, rfl, by rw [hXK]; exact R.T, by rw [hXK]; exact R.noF, .inl ⟨ha, fun dx hd hne => hq dx hd hne⟩⟩
      rw [hXp, hXw] at run
      refine wpAny_mono run (fun f s2 hs2 => ?_) fun _ _ z => z
      cases f with
      | next =>
        obtain ⟨σ', H', J', q⟩ := hs2
        exact base J' q
      | brk => obtain ⟨_, _, _, q⟩ := hs2; exact q.elim
      | cont => obtain ⟨_, _, _, q⟩ := hs2; exact q.elim
      | ret u => obtain ⟨_, _, _, _, _, q⟩ := hs2; exact q.elim
    rw [← ebody] at key
    refine ks_wpAt_mono key (fun f s' z => z) fun u s' z => ?_
    have z := (EE u s').mp z
    rw [eA, e1] at z
    exact z
end DE
namespace DE
open PyProof.Rows PySem.Spec PySem L2
/-! ### raise X(e) -/
/-- an own error class under its name -/
def ErrX (P : Program) (w : World) (K : PySem.W.Frag) (mg : Str → Option Value) (base : Heap) (Γ : Gam) (x : Str) : Prop :=
  ∃ (C fI : Addr) (fld par txt qual : Str) (fd : FuncData), mg x = some (.ref C) ∧ Γ.cl x = some (C, fld) ∧ mg "super" = none ∧ ErrC P K C fI fld par txt qual fd
theorem ErrC.bnd {P : Program} {K : PySem.W.Frag} {C fI : Addr} {fld par txt qual : Str} {fd : FuncData} (R : ErrC P K C fI fld par txt qual fd) : Binds K fd ["self", par] [] := by
  obtain ⟨oc, od, osl, params, body, scope, dV, kV, doc, pm, an, cda, ct, cc, ccl, cdd, vs, ccs, file, tf, cl, cld, csl, p0, p1, p2, p3, p4, p5, q1, q2, q3, q4, j, ar, efd, lk, hcd, lcda, hvs, hfile, lcc, S, hsup, har, hself, ⟨pl, hev⟩, hpdb, hpcd, hsw1, hsw2, ebody, hbind⟩ := R.fn
  exact Binds.all fun us hl => hbind us hl
def fRaise (c : Str) (f : Mo D) : Ms := sb f fun d g => some (.exc ⟨c, d⟩, g)
theorem upd_two {H : Hp} {a d : Addr} {o1 o2 o3 o4 : HO} (hn : H a = none) (hne : d ≠ a) : upd (del (upd (upd (upd H a o1) d o2) a o3) a) d o4 = upd H d o4 := by
  funext b
  by_cases hd : b = d
  · subst hd; rw [upd_same, upd_same]
  · rw [upd_ne hd, upd_ne hd]
    by_cases ha : b = a
    · subst ha; rw [del_same, hn]
    · rw [del_ne ha, upd_ne ha, upd_ne hd, upd_ne ha]
section
variable {X : Cx} {Γ : Gam} {W : WX} {a b c e : Expr} {es : List Expr} {pos pos2 : Pos} {k : Nat}
theorem s_raise {x : Str} {p : Pos} {f : Mo D} (R : ErrX X.prog X.w X.K X.mg X.base Γ x) (C : Ct X W k) (hk : 2 ≤ k) (hg : Gl X x) (ha : DX X Γ W e f) (hdb : (x == ("__debug__" : Str)) = false := by decide)
    (he : starEach [e] X.env = (false, eval e X.env) :: starEach [] X.env := by rfl) (hpl : (backTo pos (starEach [] X.env)).any (·.1) = false := by rfl) : DS_ X Γ W (.Raise (some (.Call (.Name x p) [e] [] pos)) none pos2) (fRaise x f) := by
  obtain ⟨Cl, fI, fld, par, txt, qual, fd, hm, hcl, hsup, R⟩ := R
  refine (ps_raise C.calm C.tk (pmk_oex (k := 1) R.T R.iC R.tI (fn_init R hsup) (C.room.mono hk) R.bnd (dvs := []) (ds := []) .nil ?_ hg hm (pa_cons ha pa_nil he) hdb he hpl)).imp fun Ds σ H h => ?_
  · intro pins σ H s u s' _ cx
    obtain ⟨_, _, _, _, _, _, _, _, _, _, _, _, z⟩ := cx
    exact z.elim
  · refine h.bind fun H0 G0 d v g1 G1 H1 r1 h1 => ⟨by show 1 ≤ 1000; decide, fun a0 ha0 => ?_⟩
    refine ⟨a0, v, rfl, upd_same, fun dx hdx hne => ⟨rfl, dx, [(fld, v)], upd_same, ?_, ?_, ?_⟩⟩
    · rw [upd_ne hne, upd_same]
    · rw [upd_ne hne] at hdx; exact hdx
    · rw [upd_ne hne] at hdx
      rw [upd_two ha0 hne]
      obtain ⟨E, o, g', e, q⟩ := h1
      cases e
      have gp : G1 dx = none := by
        cases z : G1 dx with
        | none => rfl
        | some u => rw [E.sub _ _ z] at hdx; cases hdx
      exact q _ _ σ _ _ (Gr.upd gp) (E.new hdx) ⟨Cl, dx, fld, v, hcl, rfl, rfl, upd_same, Dv.mono (Gr.upd gp) r1⟩
end
/-! ### try: body / except X as e: suite / .. -/
section
variable {X : Cx} {σ : L2.St} {H : Hp} {s : Shared} {pins : List (Addr × Obj)}
/-- an object that stands already is tracked from now on -/
theorem inv_track {a : Addr} {o : HO} (I : L2.Inv X pins σ H s) (hn : H a = none) (new0 : X.s_0.heap.get? a = none) (offL : a ≠ X.env.locals) (nC : ∀ x c, X.env.cells.lookup x = some c → c ≠ a) (nP : ∀ p ∈ X.pn ++ pins, p.1 ≠ a) (okX : ObjOk X.prog X.w (upd H a o) s.heap a o) :
    L2.Inv X pins σ (upd H a o) s := by
  refine ⟨I.ok, I.os, I.bare, ⟨I.base.keep, I.base.slot, fun b u e n hx => ?_, I.base.there, fun b xs e => ?_, fun b u v e => ?_, fun b ps e => ?_⟩, I.loc, I.cell, ?_, fun x c e => ?_, fun p hp => ?_, I.hok.laidN (fun _ _ z => z) hn okX, I.len⟩
  · have : b ≠ a := by rintro rfl; rw [new0] at e; cases e
    rw [upd_ne this]; exact I.base.free b u e n hx
  · rw [upd_ne (ne_of_none (I.base.tups b xs e) hn)]; exact I.base.tups b xs e
  · have q := I.base.frzs b u v e
    rw [upd_ne (ne_of_none q hn)]; exact q
  · obtain ⟨more, q⟩ := I.base.tbls b ps e
    exact ⟨more, by rw [upd_ne (ne_of_none q hn)]; exact q⟩
  · rw [upd_ne (Ne.symm offL)]; exact I.free
  · rw [upd_ne (nC x c e)]; exact I.freeC x c e
  · obtain ⟨h1, h2, h3, h4, h5⟩ := I.pin p hp
    exact ⟨h1, by rw [upd_ne (nP p hp)]; exact h2, h3, h4, h5⟩
theorem inv_suiteN (I : L2.Inv X pins σ H s) (a : Addr) : L2.Inv (X.suite a (X.pn ++ pins)) [] σ H s :=
  ⟨I.ok.suite _ _, I.os, I.bare, I.base, I.loc, I.cell, I.free, I.freeC, fun p hp => I.pin p (by rw [List.append_nil] at hp; exact hp), I.hok, I.len⟩
theorem inv_unsuiteN {a : Addr} {pn' : List (Addr × Obj)} (I : L2.Inv (X.suite a (X.pn ++ pins)) pn' σ H s) (okX : X.Ok) : L2.Inv X pins σ H s :=
  ⟨okX, I.os, I.bare, I.base, I.loc, I.cell, I.free, I.freeC, fun p hp => I.pin p (List.mem_append_left _ hp), I.hok, I.len⟩
theorem xob_ok {P : Program} {w : World} {H : Hp} {h : Heap} {a C d : Addr} {oe : Obj} {vs : Array Value} (e : h.get? a = some oe) (z : Zc (.ref C) (some d) oe) (hd : oe.data = .fields vs) : ObjOk P w H h a (xob a C d) :=
  ⟨⟨oe, vs, e, z, hd⟩, ⟨oe, e⟩, fun _ _ ⟨o, v, q, r⟩ k => ⟨o, v, k o q, r⟩⟩
end
/-- a slot is empty from now on -/
theorem En.unset {K : PySem.W.Frag} {Γ : Gam} {H0 G0 G H : Hp} {σ : L2.St} {g : Sg} (E : En K Γ H0 G0 G H σ g) (i : Nat) : En K Γ H0 G0 G H (σ.set i none) ⟨g.r.set i .no, g.s⟩ := by
  have f : ∀ (j : Nat) z, z ≠ Sl.no → (g.r.set i .no)[j]? = some z → j ≠ i ∧ g.r[j]? = some z := fun j z hz h' => by
    by_cases e : j = i
    · subst e
      have il : j < g.r.length := by have := (List.getElem?_eq_some_iff.mp h').1; simpa using this
      rw [List.getElem?_set_self il] at h'; cases h'; exact absurd rfl hz
    · rw [List.getElem?_set_ne (Ne.symm e)] at h'; exact ⟨e, h'⟩
  refine ⟨E.base, E.gfr, E.g0, E.sub, E.gm, E.st, by simpa using E.len, fun j d' h' => ?_, fun j zs h' => ?_, fun j k zs us q e1 e2 e3 e4 => ?_, E.tb, E.gt, fun j f c q G1 h' => E.fnSet (fun _ _ _ _ z => by cases z) h'⟩
  · obtain ⟨n, h'⟩ := f j _ (by intro z; cases z) h'
    rw [List.getElem?_set_ne (Ne.symm n)]; exact E.dat j d' h'
  · obtain ⟨n, h'⟩ := f j _ (by intro z; cases z) h'
    rw [List.getElem?_set_ne (Ne.symm n)]; exact E.own j zs h'
  · obtain ⟨n1, f1⟩ := f j _ (by intro z; cases z) e1
    obtain ⟨n2, f2⟩ := f k _ (by intro z; cases z) e2
    rw [List.getElem?_set_ne (Ne.symm n1)] at e3
    rw [List.getElem?_set_ne (Ne.symm n2)] at e4
    exact E.dis j k zs us q f1 f2 e3 e4
structure HSem where
  t : List (Str × Bool)
  i : Option Nat
  f : Ms
def hsuite (x : Exn) (h : HSem) : Ms := fun g => match h.i with
  | none => match h.f g with
    | some (.exc _, _) => none
    | o => o
  | some i => match h.f ⟨g.r.set i (.dat (.exc x.c x.v)), g.s⟩ with
    | some (.exc _, _) => none
    | some (o, g2) => some (o, ⟨g2.r.set i .no, g2.s⟩)
    | none => none
def hdl (x : Exn) : List HSem → Ms
  | [] => sOut (.exc x)
  | h :: r => match h.t.lookup x.c with
    | none => sStop
    | some false => hdl x r
    | some true => hsuite x h
def fTry (fb : Ms) (l : List HSem) : Ms := fun g => match fb g with
  | some (.exc x, g1) => hdl x l g1
  | o => o
/-- a class under its name: own or built-in -/
inductive ClN (mg : Str → Option Value) (x : Str) : V → Value → Prop
  | own {C : Addr} : mg x = some (.ref C) → ClN mg x (.ref C) (.ref C)
  | blt {T : String} : mg x = none → bootBuiltins x = some (.type T) → x ≠ "__name__" → ClN mg x (.ty T) (.type T)
/-- what the own error classes are to the class under the name x -/
def HdX (K : PySem.W.Frag) (mg : Str → Option Value) (Γ : Gam) (x : Str) (tb : List (Str × Bool)) : Prop :=
  ∃ v c, ClN mg x v c ∧ ∀ cn C f b, Γ.cl cn = some (C, f) → tb.lookup cn = some b → PySem.W.exmOne K (.ref C) c = some b ∧ PySem.W.kitOne K (.ref C) c = some b
theorem ClN.names {X : Cx} {x : Str} {v : V} {c : Value} (h : ClN X.mg x v c) (hg : Gl X x) (hd : (x == ("__debug__" : Str)) = false) : Names X x c := by
  cases h with
  | own h => exact ⟨hg, hd, .inl h⟩
  | blt h1 h2 h3 => exact ⟨hg, hd, .inr ⟨h1, h2, h3⟩⟩
theorem ClN.pe {X : Cx} {x : Str} {v : V} {c : Value} (h : ClN X.mg x v c) (hg : Gl X x) {pos : Pos} (hd : (x == ("__debug__" : Str)) = false) : PE X (.Name x pos) (tC v) := by
  cases h with
  | own h => exact pe_glob hg h rfl hd
  | blt h1 h2 h3 => exact pe_bltn hg h1 h2 rfl h3 hd
theorem ClN.rel {mg : Str → Option Value} {x : Str} {v : V} {c : Value} (h : ClN mg x v c) : ∀ u, RelV v u → u = c := by
  cases h with
  | own h => exact fun u r => r
  | blt h1 h2 h3 => exact fun u r => r
inductive HdsD (X : Cx) (Γ : Gam) : List ExceptHandler → List HSem → Prop
  | nil : HdsD X Γ [] []
  | as_ {x n : Str} {tb : List (Str × Bool)} {i : Nat} {f : Ms} {b₀ : Stmt} {suite : List Stmt} {np pos' : Pos} {hds : List ExceptHandler} {l : List HSem} (hc : HdX X.K X.mg Γ x tb) (hg : Gl X x) (hi : X.N[i]? = some n) (hln : X.env.kindOf n = some .local)
      (hsu : ∀ (a : Addr) (pn : List (Addr × Obj)), DB (X.suite a pn) Γ Wn (b₀ :: suite) f) (r : HdsD X Γ hds l) (hd : (x == ("__debug__" : Str)) = false) :
      HdsD X Γ (.ExceptHandler (some (.Name x np)) (some n) (b₀ :: suite) pos' :: hds) (⟨tb, some i, f⟩ :: l)
  | no_ {x : Str} {tb : List (Str × Bool)} {f : Ms} {b₀ : Stmt} {suite : List Stmt} {np pos' : Pos} {hds : List ExceptHandler} {l : List HSem} (hc : HdX X.K X.mg Γ x tb) (hg : Gl X x)
      (hsu : ∀ (a : Addr) (pn : List (Addr × Obj)), DB (X.suite a pn) Γ Wn (b₀ :: suite) f) (r : HdsD X Γ hds l) (hd : (x == ("__debug__" : Str)) = false) :
      HdsD X Γ (.ExceptHandler (some (.Name x np)) none (b₀ :: suite) pos' :: hds) (⟨tb, none, f⟩ :: l)
/-- what the clauses wish of an exception of the body -/
def wTry (K : PySem.W.Frag) (Γ : Gam) (W : WX) (Ds : Ends) (l : List HSem) : WX := fun kls dd σ H => ∃ H0 G0 G g x, ExD K Γ G kls dd x ∧ tSt K Γ W (hdl x l) H0 G0 G g Ds σ H
theorem post_gr {K : PySem.W.Frag} {Γ : Gam} {W : WX} {o : Out} {g' : Sg} {H0 G0 G G1 : Hp} {Ds : Ends} (gr : Gr G G1) : (match o with
    | .nx => ∀ σ' G' H', Gr G G' → En K Γ H0 G0 G' H' σ' g' → Ds.nx σ' H'
    | .brk => ∀ σ' G' H', Gr G G' → En K Γ H0 G0 G' H' σ' g' → Ds.bk σ' H'
    | .ct => ∀ σ' G' H', Gr G G' → En K Γ H0 G0 G' H' σ' g' → Ds.ct σ' H'
    | .ret d => ∀ v σ' G' H', Gr G G' → En K Γ H0 G0 G' H' σ' g' → Dv K Γ G' v d → Ds.rt v H'
    | .exc x => ∀ C dd σ' G' H', Gr G G' → En K Γ H0 G0 G' H' σ' g' → ExD K Γ G' C dd x → W C dd σ' H') → (match o with
    | .nx => ∀ σ' G' H', Gr G1 G' → En K Γ H0 G0 G' H' σ' g' → Ds.nx σ' H'
    | .brk => ∀ σ' G' H', Gr G1 G' → En K Γ H0 G0 G' H' σ' g' → Ds.bk σ' H'
    | .ct => ∀ σ' G' H', Gr G1 G' → En K Γ H0 G0 G' H' σ' g' → Ds.ct σ' H'
    | .ret d => ∀ v σ' G' H', Gr G1 G' → En K Γ H0 G0 G' H' σ' g' → Dv K Γ G' v d → Ds.rt v H'
    | .exc x => ∀ C dd σ' G' H', Gr G1 G' → En K Γ H0 G0 G' H' σ' g' → ExD K Γ G' C dd x → W C dd σ' H') := by
  cases o with
  | nx => exact fun q σ2 G2 H2 gr2 => q σ2 G2 H2 (gr.trans gr2)
  | brk => exact fun q σ2 G2 H2 gr2 => q σ2 G2 H2 (gr.trans gr2)
  | ct => exact fun q σ2 G2 H2 gr2 => q σ2 G2 H2 (gr.trans gr2)
  | ret d2 => exact fun q v2 σ2 G2 H2 gr2 => q v2 σ2 G2 H2 (gr.trans gr2)
  | exc x => exact fun q C dd σ2 G2 H2 gr2 => q C dd σ2 G2 H2 (gr.trans gr2)
theorem try_body {K : PySem.W.Frag} {Γ : Gam} {W : WX} {fb : Ms} {l : List HSem} {Ds : Ends} {σ : L2.St} {H : Hp} (h : tS K Γ W (fTry fb l) Ds σ H) : tS K Γ (wTry K Γ W Ds l) fb Ds σ H := by
  obtain ⟨H0, G0, G, g, E, o, g', e, q⟩ := h
  refine ⟨H0, G0, G, g, E, ?_⟩
  unfold fTry at e
  cases hf : fb g with
  | none => simp only [hf] at e; cases e
  | some p =>
    obtain ⟨ob, g1⟩ := p
    simp only [hf] at e
    cases ob with
    | exc x => exact ⟨.exc x, g1, rfl, fun C dd σ' G' H' gr E' hx => ⟨H0, G0, G', g1, x, hx, E', o, g', e, post_gr gr q⟩⟩
    | nx => cases e; exact ⟨.nx, _, rfl, q⟩
    | brk => cases e; exact ⟨.brk, _, rfl, q⟩
    | ct => cases e; exact ⟨.ct, _, rfl, q⟩
    | ret d => cases e; exact ⟨.ret d, _, rfl, q⟩
theorem suite_as {K : PySem.W.Frag} {Γ : Gam} {W : WX} {Ds : Ends} {x : Exn} {tb : List (Str × Bool)} {i : Nat} {f : Ms} {o : Out} {g g' : Sg} {H0 G0 G H : Hp} {σ : L2.St} {a C dd : Addr} {fld : Str} {v : V} (h : tSt K Γ W (hsuite x ⟨tb, some i, f⟩) H0 G0 G g Ds σ H) (na : H a = none)
    (e1 : Γ.cl x.c = some (C, fld)) (e4 : G dd = some (.xd [(fld, v)])) (e5 : Dv K Γ G v x.v) :
    tS K Γ Wn f { nx := fun σ' H' => Ds.nx (σ'.set i none) H', rt := Ds.rt, bk := fun σ' H' => Ds.bk (σ'.set i none) H', ct := fun σ' H' => Ds.ct (σ'.set i none) H' } (σ.set i (some (.ref a))) (upd H a (xob a C dd)) := by
  obtain ⟨E, o, g', e, q⟩ := h
  have ga : G a = none := by
    cases z : G a with
    | none => rfl
    | some u => rw [E.sub _ _ z] at na; cases na
  have gr : Gr G (upd G a (xob a C dd)) := Gr.upd ga
  have dv : Dv K Γ (upd G a (xob a C dd)) (.ref a) (.exc x.c x.v) := .exc e1 upd_same (gr _ _ e4) (Dv.mono gr e5)
  have E2 := (E.new (o := xob a C dd) na).set i dv
  refine ⟨H0, G0, _, _, E2, ?_⟩
  unfold hsuite at e
  dsimp only at e
  cases hf : f ⟨g.r.set i (.dat (.exc x.c x.v)), g.s⟩ with
  | none => (rw [hf] at e); cases e
  | some p =>
    obtain ⟨ob, g2⟩ := p
    rw [hf] at e
    cases ob with
    | exc y => cases e
    | nx => cases e; exact ⟨.nx, _, rfl, fun σ' G' H' gr' E' => q _ G' H' (gr.trans gr') (E'.unset i)⟩
    | brk => cases e; exact ⟨.brk, _, rfl, fun σ' G' H' gr' E' => q _ G' H' (gr.trans gr') (E'.unset i)⟩
    | ct => cases e; exact ⟨.ct, _, rfl, fun σ' G' H' gr' E' => q _ G' H' (gr.trans gr') (E'.unset i)⟩
    | ret d => cases e; exact ⟨.ret d, _, rfl, fun v σ' G' H' gr' E' dv' => q v _ G' H' (gr.trans gr') (E'.unset i) dv'⟩
theorem suite_no {K : PySem.W.Frag} {Γ : Gam} {W : WX} {Ds : Ends} {x : Exn} {tb : List (Str × Bool)} {f : Ms} {o : Out} {g g' : Sg} {H0 G0 G H : Hp} {σ : L2.St} {a C dd : Addr} (h : tSt K Γ W (hsuite x ⟨tb, none, f⟩) H0 G0 G g Ds σ H) (na : H a = none) :
    tS K Γ Wn f Ds σ (upd H a (xob a C dd)) := by
  obtain ⟨E, o, g', e, q⟩ := h
  have ga : G a = none := by
    cases z : G a with
    | none => rfl
    | some u => rw [E.sub _ _ z] at na; cases na
  have gr : Gr G (upd G a (xob a C dd)) := Gr.upd ga
  refine ⟨H0, G0, _, g, E.new (o := xob a C dd) na, ?_⟩
  unfold hsuite at e
  dsimp only at e
  cases hf : f g with
  | none => (rw [hf] at e); cases e
  | some p =>
    obtain ⟨ob, g2⟩ := p
    rw [hf] at e
    cases ob with
    | exc y => cases e
    | nx => cases e; exact ⟨.nx, _, rfl, fun σ' G' H' gr' E' => q _ G' H' (gr.trans gr') E'⟩
    | brk => cases e; exact ⟨.brk, _, rfl, fun σ' G' H' gr' E' => q _ G' H' (gr.trans gr') E'⟩
    | ct => cases e; exact ⟨.ct, _, rfl, fun σ' G' H' gr' E' => q _ G' H' (gr.trans gr') E'⟩
    | ret d => cases e; exact ⟨.ret d, _, rfl, fun v σ' G' H' gr' E' dv' => q v _ G' H' (gr.trans gr') E' dv'⟩
section
variable {X : Cx} {Γ : Gam} {W : WX} {body : List Stmt} {h₀ : ExceptHandler} {hds : List ExceptHandler} {l : List HSem} {pos : Pos} {fb : Ms} {k : Nat}
theorem s_try (hs : X.stack = X.env :: X.outer) (hf : X.env.frame = some X.env.locals) (hex : X.ex = []) (hN : X.N.Nodup) (C : Ct X W k)
    (hb : ∀ (W' : WX) (pn : List (Addr × Obj)) (xe : Value → Shared → Prop), Ct (X.tr pn xe) W' k → DB (X.tr pn xe) Γ W' body fb)
    (hh : HdsD X Γ (h₀ :: hds) l) : DS_ X Γ W (.Try body (h₀ :: hds) [] [] pos) (fTry fb l) := by
  refine ⟨fun pins s σ H D I h => ?_⟩; have okX := I.ok
  have frameEq : X.A.frames = some (X.env :: X.outer) := by rw [okX.frames, hs]
  have hbd := try_body h
  refine wpAny_Try_except ?_
  refine wpAny_mono ((hb (wTry X.K Γ W D l) (X.pn ++ pins) (fun e s₁ => wpAny (model X.prog X.w) X.A (noteFrame e X.env) (fun _ s₂ => wpAny (model X.prog X.w) X.A (setFlight e none) (fun _ s₃ =>
    wpAny (model X.prog X.w) X.A (handleBy e X.env (h₀ :: hds)) (SP X pins D) X.xe s₃) X.xe s₂) X.xe s₁) ⟨C.calm, fun u s' xx => ?_, PassesOwn.looking, C.room, C.gua⟩).run [] s σ H D (I.toTry _) hbd) (fun f s1 hsp => ?_) (fun e s1 he => he)
  · -- the catch
    obtain ⟨a, B, sI, pins', σ', H', kls, d, rfl, J', grd, up, air, na, os, ag, w⟩ := xx
    have J : L2.Inv X pins σ' H' sI := J'.ofTry okX
    have sky' : Sky B (X.env :: X.outer) a (Zc kls d) X.env.locals s'.heap := by rw [← hs]; exact air
    show wpAny (model X.prog X.w) X.A (noteFrame (.ref a) X.env) _ _ _; refine Sky.land Zc.steady frameEq hf sky' fun h3 fly3 upA => ?_
    have J3 : L2.Inv X pins σ' H' { s' with heap := h3 } := J.landed grd fly3.1 (up.trans upA) os ag
    obtain ⟨ox3, ws3, hx3, zc3, hdat3⟩ := fly3.there
    have recOff : ∀ {h : Heap} {o : Obj} {vs : Array Value}, h.FunFrames B (X.env :: X.outer) → h.get? a = some o → o.data = .fields vs → a ∉ frs (X.env :: X.outer) := fun {h o vs} ff e dd hm => by
      obtain ⟨_, o', e', noRec⟩ := ff.mem hm
      rw [e] at e'; cases e'
      exact noRec _ dd
    have offFr := recOff fly3.2.2.1 hx3 hdat3
    have offL : a ≠ X.env.locals := fun z => offFr (List.mem_filterMap.mpr ⟨X.env, List.mem_cons_self, by rw [hf, z]⟩)
    have offF : a ∉ X.fs := fun hm => by
      obtain ⟨e, he, q⟩ := List.mem_filterMap.mp hm; exact offFr (List.mem_filterMap.mpr ⟨e, List.mem_cons_of_mem _ he, q⟩)
    have sIn : sI.heap.get? a = none := by
      cases e : sI.heap.get? a with
      | none => rfl
      | some o =>
        have z := grd a o e (by rw [hs]; exact offFr)
        rw [fly3.2.1] at z; cases z
    have new0 : X.s_0.heap.get? a = none := by
      cases e : (X.s_0.heap).get? a with
      | none => rfl
      | some o =>
        obtain ⟨o', z⟩ := J.base.there a o e (by rw [hex]; exact fun z => nomatch z)
        rw [sIn] at z; cases z
    have nP : ∀ p ∈ X.pn ++ pins, p.1 ≠ a := fun p hp z => by
      have q := (J.pin p hp).1
      rw [z, sIn] at q; cases q
    have suite3 := J3.suite hx3 hdat3 na offL offF
    have go : ∀ {hds' : List ExceptHandler} {l' : List HSem}, HdsD X Γ hds' l' → wTry X.K Γ W D l' kls d σ' H' →
        wpAny (model X.prog X.w) X.A (handleBy (Value.ref a) X.env hds') (SP X pins D) X.xe { s' with heap := h3 } := by
      intro hds' l' hk
      induction hk with
      | nil =>
        intro w
        have w : W kls d σ' H' := by
          obtain ⟨H0, G0, G, g, x, hx, E, o, g', e, q⟩ := w
          cases e
          exact q _ _ _ _ _ (Gr.refl _) E hx
        refine wpAny_handleBy_nil ?_
        obtain ⟨k1, k2, k3, oe, vs, T, oT, ts', he, hz, hd, h1, hr⟩ := id fly3
        unfold PySem.passOn
        refine wpAny_bind (wpAny_field he hd h1 ?_); rw [if_neg (show ¬ ((Value.ref T == Value.none) = true) from by simp)]
        have passing : wpAny (model X.prog X.w) X.A (setFlight (.ref a) X.env.frame) (fun _ s4 => wpAny (model X.prog X.w) X.A (throw (.ref a) : Sem Flow) (SP X pins D) X.xe s4) X.xe { s' with heap := h3 } := by
          rw [hf]
          refine HandSPX.setFlight_upZ fly3 fun h4 hh4 upB => wpAny_throw (C.tk _ _ ?_)
          exact ⟨a, B, sI, pins, σ', H', kls, d, rfl, J, grd, (up.trans upA).trans upB, .inr (.inr (by rw [hs]; exact hh4)), na, os, ag, w⟩
        first
          | exact wpAny_bind (wpAny_pure (wpAny_bind passing))
          | exact wpAny_bind passing
      | @as_ xn n tb i f b₀ suite np pos' hds l hc hg hi hln hsu r hd ih =>
        intro w
        obtain ⟨H0, G0, G, g, x, ⟨C1, dd, fld, vv, e1, e2, e3, e4, e5⟩, t⟩ := w
        obtain ⟨v, c, hcl, htab⟩ := hc
        subst e2 e3
        obtain ⟨E, o, g', e, q⟩ := t
        unfold hdl at e
        dsimp only at e
        cases hb1 : tb.lookup x.c with
        | none => rw [hb1] at e; cases e
        | some b =>
          rw [hb1] at e
          refine wpAny_handleBy_cons (codeAny_handlers_test ?_) (by intro q; cases q); have LT : PySem.W.Looks (model X.prog X.w) h3 (typeOf (.ref a)) (.ref C1) := fun A Q E s k q => wpAny_typeOf_ref (k _ _ hx3) (by rw [zc3.1]; exact q)
          have LM := PySem.W.exm_one (M := model X.prog X.w) (J3.kIn) LT (htab _ _ _ _ e1 hb1).1
          have test : ∀ {Q : Value → Shared → Prop} {E : Value → Shared → Prop}, Q c { s' with heap := h3 } → wpAny (model X.prog X.w) (X.A.mark (some (.ref a))) (eval (.Name xn np) X.env) Q E { s' with heap := h3 } := fun {Q E} q => by
            obtain ⟨hg, hdbg, hm | ⟨hm, hv, hnn⟩⟩ := hcl.names hg hd
            · exact ld_glob (X := X.suite a ((a, ox3) :: (X.pn ++ pins))) suite3 hg hm q hdbg
            · exact ld_blt (X := X.suite a ((a, ox3) :: (X.pn ++ pins))) suite3 hg hm hv q hnn hdbg
          refine test (LM.here ?_)
          cases b with
          | true =>
            refine codeAny_handlers_suite_as ?_; refine HandSPX.lands_againZ fly3 fun h4 fly4 upB => ?_
            have J4 : L2.Inv X pins σ' H' { s' with heap := h4 } := J.landed grd fly4.1 ((up.trans upA).trans upB) os ag
            obtain ⟨ox4, ws4, hx4, zc4, hdat4⟩ := fly4.there
            have T4 : L2.Inv X pins σ' (upd H' a (xob a C1 dd)) { s' with heap := h4 } := inv_track J4 na new0 offL (fun y cy ey z => by
              obtain ⟨w, ow, z1, z2⟩ := J4.cell y cy ey
              have z1' : h4.get? cy = some ow := z1
              rw [z, hx4] at z1'; cases z1'
              rw [hdat4] at z2; cases z2) nP (xob_ok hx4 zc4 hdat4)
            refine store_ok (X := X.suite a (X.pn ++ pins)) (v := .ref a) (inv_suiteN T4 a) hN hi (.inl hln) rfl (fun s5 inv5 => ?_) (.inr hln)
            refine wpAny_mono ((hsu a (X.pn ++ pins)).run [] s5 _ _ _ inv5 (suite_as (W := W) (o := o) (g' := g') ⟨E, o, g', e, q⟩ na e1 e4 e5)) (fun f s6 hsp => ?_) (fun _ _ z => False.elim z)
            have goneThen : ∀ {σ6 : L2.St} {H6 : Hp} {Q : Shared → Prop}, L2.Inv (X.suite a (X.pn ++ pins)) [] σ6 H6 s6 → (∀ st7, L2.Inv X pins (σ6.set i none) H6 st7 → Q st7) →
                wpAny (model X.prog X.w) X.A (do bindName X.env n .none; unbindBehindTheSuite X.env n pos') (fun _ st7 => Q st7) X.xe s6 := fun {σ6 H6 Q} inv6 hq => gone_ok (inv_unsuiteN inv6 okX) hN hi hln hq
            cases f with
            | next =>
              obtain ⟨σ6, H6, inv6, fin6⟩ := hsp
              exact goneThen inv6 fun st7 inv7 => ⟨_, _, inv7, fin6⟩
            | brk =>
              obtain ⟨σ6, H6, inv6, fin6⟩ := hsp
              exact goneThen inv6 fun st7 inv7 => ⟨_, _, inv7, fin6⟩
            | cont =>
              obtain ⟨σ6, H6, inv6, fin6⟩ := hsp
              exact goneThen inv6 fun st7 inv7 => ⟨_, _, inv7, fin6⟩
            | ret u =>
              obtain ⟨v6, σ6, H6, inv6, rel6, fin6⟩ := hsp
              exact goneThen inv6 fun st7 inv7 => ⟨_, _, _, inv7, rel6, fin6⟩
          | false =>
            show wpAny _ X.A (handleBy (.ref a) X.env hds) _ _ _
            exact ih ⟨H0, G0, G, g, x, ⟨C1, dd, fld, vv, e1, rfl, rfl, e4, e5⟩, E, o, g', e, q⟩
      | @no_ xn tb f b₀ suite np pos' hds l hc hg hsu r hd ih =>
        intro w
        obtain ⟨H0, G0, G, g, x, ⟨C1, dd, fld, vv, e1, e2, e3, e4, e5⟩, t⟩ := w
        obtain ⟨v, c, hcl, htab⟩ := hc
        subst e2 e3
        obtain ⟨E, o, g', e, q⟩ := t
        unfold hdl at e
        dsimp only at e
        cases hb1 : tb.lookup x.c with
        | none => rw [hb1] at e; cases e
        | some b =>
          rw [hb1] at e
          refine wpAny_handleBy_cons (codeAny_handlers_test ?_) (by intro q; cases q); have LT : PySem.W.Looks (model X.prog X.w) h3 (typeOf (.ref a)) (.ref C1) := fun A Q E s k q => wpAny_typeOf_ref (k _ _ hx3) (by rw [zc3.1]; exact q)
          have LM := PySem.W.exm_one (M := model X.prog X.w) (J3.kIn) LT (htab _ _ _ _ e1 hb1).1
          have test : ∀ {Q : Value → Shared → Prop} {E : Value → Shared → Prop}, Q c { s' with heap := h3 } → wpAny (model X.prog X.w) (X.A.mark (some (.ref a))) (eval (.Name xn np) X.env) Q E { s' with heap := h3 } := fun {Q E} q => by
            obtain ⟨hg, hdbg, hm | ⟨hm, hv, hnn⟩⟩ := hcl.names hg hd
            · exact ld_glob (X := X.suite a ((a, ox3) :: (X.pn ++ pins))) suite3 hg hm q hdbg
            · exact ld_blt (X := X.suite a ((a, ox3) :: (X.pn ++ pins))) suite3 hg hm hv q hnn hdbg
          refine test (LM.here ?_)
          cases b with
          | true =>
            refine codeAny_handlers_suite ?_; refine HandSPX.lands_againZ fly3 fun h4 fly4 upB => ?_
            have J4 : L2.Inv X pins σ' H' { s' with heap := h4 } := J.landed grd fly4.1 ((up.trans upA).trans upB) os ag
            obtain ⟨ox4, ws4, hx4, zc4, hdat4⟩ := fly4.there
            have T4 : L2.Inv X pins σ' (upd H' a (xob a C1 dd)) { s' with heap := h4 } := inv_track J4 na new0 offL (fun y cy ey z => by
              obtain ⟨w, ow, z1, z2⟩ := J4.cell y cy ey
              have z1' : h4.get? cy = some ow := z1
              rw [z, hx4] at z1'; cases z1'
              rw [hdat4] at z2; cases z2) nP (xob_ok hx4 zc4 hdat4)
            refine wpAny_mono ((hsu a (X.pn ++ pins)).run [] _ _ _ _ (inv_suiteN T4 a) (suite_no (W := W) (o := o) (g' := g') ⟨E, o, g', e, q⟩ na)) (fun f s6 hsp => ?_) (fun _ _ z => False.elim z)
            cases f with
            | next =>
              obtain ⟨σ6, H6, inv6, fin6⟩ := hsp
              exact ⟨_, _, inv_unsuiteN inv6 okX, fin6⟩
            | brk =>
              obtain ⟨σ6, H6, inv6, fin6⟩ := hsp
              exact ⟨_, _, inv_unsuiteN inv6 okX, fin6⟩
            | cont =>
              obtain ⟨σ6, H6, inv6, fin6⟩ := hsp
              exact ⟨_, _, inv_unsuiteN inv6 okX, fin6⟩
            | ret u =>
              obtain ⟨v6, σ6, H6, inv6, rel6, fin6⟩ := hsp
              exact ⟨_, _, _, inv_unsuiteN inv6 okX, rel6, fin6⟩
          | false =>
            show wpAny _ X.A (handleBy (.ref a) X.env hds) _ _ _
            exact ih ⟨H0, G0, G, g, x, ⟨C1, dd, fld, vv, e1, rfl, rfl, e4, e5⟩, E, o, g', e, q⟩
    exact go hh w
  · cases f with
    | next =>
      obtain ⟨σ', H', J', q⟩ := hsp
      exact wpAny_execs_nil ⟨σ', H', J'.ofTry okX, q⟩
    | brk =>
      obtain ⟨σ', H', J', q⟩ := hsp
      exact ⟨σ', H', J'.ofTry okX, q⟩
    | cont =>
      obtain ⟨σ', H', J', q⟩ := hsp
      exact ⟨σ', H', J'.ofTry okX, q⟩
    | ret u =>
      obtain ⟨v, σ', H', J', r, q⟩ := hsp; exact ⟨v, σ', H', J'.ofTry okX, r, q⟩
end
end DE
namespace DE
open PyProof.Rows PySem.Spec PySem L2
/-! ### repr -/
def showB (p : PyData) : Bool := p.showable && (decide (p.depth ≤ 50) && (decide (p.shown.length ≤ 16000000) && !p.hasDict))
def aRepr (d : D) : Mo D := match pyd d with
  | some p => if showB p = true then rt (.str p.shown) else stop
  | none => stop
def fRepr (f : Mo D) : Mo D := bd f aRepr
section
variable {X : Cx} {Γ : Gam} {W : WX} {a b c e : Expr} {es : List Expr} {pos : Pos} {k : Nat}
theorem call_repr_d (hu : X.A.units + 64 < cLine) (hg : X.A.guards = some []) : CallR X (.builtin "repr") (fun xs H Q => ∃ v p, xs = [v] ∧ Dp X.K H v p ∧ showB p = true ∧ Q (.str p.shown) H) := by
  intro pins s σ H xs us Q I r h; obtain ⟨v, p, rfl, hp, hs, q⟩ := h
  cases r with
  | cons r0 rr =>
    cases rr
    unfold showB at hs
    simp only [Bool.and_eq_true, decide_eq_true_eq, Bool.not_eq_true'] at hs
    obtain ⟨h1, h2, h3, h4⟩ := hs
    have sz : p.shown.length ≤ sizeLine := Nat.le_trans h3 (by decide)
    obtain ⟨as, rd⟩ := hp.reads I _ _ _ r0
    have go : ∀ (a : Addr) (u : Value), RelV v u → u = .ref a → wpAny (model X.prog X.w) X.A (call (.builtin "repr") [u]) (EP X pins σ Q) X.xe s := fun a u ru e => by
      subst e
      obtain ⟨as, rd⟩ := hp.reads I _ _ _ ru
      exact repr_of_reads' rd h1 (fun z => by rw [h4] at z; cases z) hg (by omega) (fun _ _ z => z) (fun h' u tk k => ⟨.str p.shown, H, I.kept (t' := tk) k, ⟨u, rfl⟩, q⟩) sz
    cases hp with
    | non =>
      cases r0
      exact PySem.P.repr_of_none ⟨.str _, H, I.tok _, ⟨_, rfl⟩, q⟩
    | bl b =>
      cases r0
      exact PySem.P.repr_of_bool ⟨.str _, H, I.tok _, ⟨_, rfl⟩, by cases b <;> exact q⟩
    | int i =>
      obtain ⟨t, rfl⟩ := r0
      exact PySem.P.repr_of_int (by simpa [PyData.showable] using h1) ⟨.str _, H, I.tok _, ⟨_, rfl⟩, q⟩
    | str x =>
      obtain ⟨t, rfl⟩ := r0
      exact PySem.P.repr_of_str ⟨.str _, H, I.tok _, ⟨_, rfl⟩, q⟩ sz
    | lst h1 h2 => exact go _ _ r0 r0
    | tup h1 h2 => exact go _ _ r0 r0
theorem d_repr {x : Str} {p : Pos} {f : Mo D} (C : Ct X W k) (ha : DX X Γ W e f) (hg : Gl X x) (hm : X.mg x = none) (hv : bootBuiltins x = some (.builtin "repr")) (hn : x ≠ "__name__" := by decide) (hdb : (x == ("__debug__" : Str)) = false := by decide)
    (hs : starEach [e] X.env = (false, eval e X.env) :: starEach [] X.env := by rfl) (hpl : (backTo pos (starEach [] X.env)).any (·.1) = false := by rfl) : DX X Γ W (.Call (.Name x p) [e] [] pos) (fRepr f) :=
  (pe_callB (call_repr_d C.room.units C.gua) hg hm hv (pa_cons ha pa_nil hs) hn hdb hs hpl).imp fun σ H Q h => h.bind fun H0 G0 d v g1 G1 H1 r1 h1 => by
    unfold aRepr at h1
    split at h1
    · rename_i p hp
      split at h1
      · rename_i hs
        exact ⟨v, p, rfl, Dv.dp h1.1.sub r1 hp, hs, h1.here (.str _)⟩
      · exact h1.stop
    · exact h1.stop
/-! ### isinstance of a caught error, its field -/
/-- what the written part says of the own error classes -/
def ErrK (K : PySem.W.Frag) (Γ : Gam) : Prop := ∀ cn C f, Γ.cl cn = some (C, f) → XfC K C ∧ ExcC K C ∧ (PySem.W.clsIn K C).isSome = true ∧ PySem.W.findIn K (.ref C) f = some none
theorem xob_at {P : Program} {w : World} {H : Hp} {h : Heap} {a C d : Addr} (hok : HOk P w H h) (he : H a = some (xob a C d)) : ∃ (oe : Obj) (vs : Array Value), h.get? a = some oe ∧ Zc (.ref C) (some d) oe ∧ oe.data = .fields vs := by
  have x : ObjOk P w H h a (.ext fun h => ∃ (oe : Obj) (vs : Array Value), h.get? a = some oe ∧ Zc (.ref C) (some d) oe ∧ oe.data = .fields vs) := hok a _ he
  exact x.1
theorem inst_at {X : Cx} {pins : List (Addr × Obj)} {σ : L2.St} {H : Hp} {s : Shared} {a C d : Addr} {f : Str} {v : V} (I : L2.Inv X pins σ H s) (ha : H a = some (xob a C d)) (hd : H d = some (.xd [(f, v)])) :
    ∃ (oe od : Obj) (mA : Str → Option Value), PySem.W.InstAt s.heap a oe C (some od) ∧ PySem.W.lookIn f od = some (mA f) ∧ RelO (([(f, v)] : List (Str × V)).lookup f) (mA f) := by
  obtain ⟨oe, vs, h1, hz, h2⟩ := xob_at I.hok ha
  have hx : ObjOk X.prog X.w H s.heap d (.xd [(f, v)]) := I.hok d _ hd
  obtain ⟨mA, hns, hr⟩ := hx
  obtain ⟨od, ho, hl⟩ := lookIn_ns hns; exact ⟨oe, od, mA, ⟨h1, hz.1, by unfold PySem.W.notCls; rw [h2] <;> rfl, by rw [hz.2]; exact ho⟩, hl f, hr f⟩
theorem call_isX : CallR X (.builtin "isinstance") (fun xs H Q => ∃ (a C d : Addr) (f : Str) (v cv : V) (c : Value) (b : Bool), xs = [.ref a, cv] ∧ (∀ u, RelV cv u → u = c) ∧ H a = some (xob a C d) ∧ H d = some (.xd [(f, v)]) ∧ ExcC X.K C ∧ (PySem.W.clsIn X.K C).isSome = true ∧ PySem.W.kitOne X.K (.ref C) c = some b ∧ Q (.bl b) H) := by
  intro pins s σ H xs us Q I r h; obtain ⟨a, C, d, f, v, cv, c, b, rfl, hcv, ha, hd, T, hcl, e, q⟩ := h
  cases r with
  | cons rx rr =>
    cases rr with
    | cons rt rr =>
      cases rr
      cases rx
      have ec := hcv _ rt
      subst ec
      obtain ⟨oe, od, mA, J, _, _⟩ := inst_at I ha hd
      exact PySem.W.kia_one (PySem.W.kitx_exc hcl T.hg T.hk T.hs T.ha T.hn T.ht T.hm) I.kIn J e (fun z => nomatch z) fun tk => ⟨.bl b, H, I.kept (t' := tk) fun _ _ z => z, rfl, q⟩
def aIsE (tb : List (Str × Bool)) (d : D) : Mo D := match d with
  | .exc c _ => match tb.lookup c with
    | some b => rt (.bl b)
    | none => stop
  | _ => stop
def fIsE (tb : List (Str × Bool)) (f : Mo D) : Mo D := bd f (aIsE tb)
theorem Dv.exc_inv {K : PySem.W.Frag} {G : Hp} {v : V} {c : Str} {w : D} (h : Dv K Γ G v (.exc c w)) : ∃ a d C f u, v = .ref a ∧ Γ.cl c = some (C, f) ∧ G a = some (xob a C d) ∧ G d = some (.xd [(f, u)]) ∧ Dv K Γ G u w := by
  cases h with
  | exc h1 h2 h3 h4 => exact ⟨_, _, _, _, _, rfl, h1, h2, h3, h4⟩
theorem d_isE {x y : Str} {tb : List (Str × Bool)} {p py : Pos} {f : Mo D} (R : ErrK X.K Γ) (hy : HdX X.K X.mg Γ y tb) (gy : Gl X y) (ha : DX X Γ W e f) (hg : Gl X x) (hm : X.mg x = none) (hv : bootBuiltins x = some (.builtin "isinstance")) (hdy : (y == ("__debug__" : Str)) = false := by decide)
    (hn : x ≠ "__name__" := by decide) (hdb : (x == ("__debug__" : Str)) = false := by decide)
    (hs2 : starEach [.Name y py] X.env = (false, eval (.Name y py) X.env) :: starEach [] X.env := by rfl) (hs : starEach [e, .Name y py] X.env = (false, eval e X.env) :: starEach [.Name y py] X.env := by rfl) (hpl : (backTo pos (starEach [.Name y py] X.env)).any (·.1) = false := by rfl) :
    DX X Γ W (.Call (.Name x p) [e, .Name y py] [] pos) (fIsE tb f) := by
  obtain ⟨cv, c, hc, htab⟩ := hy
  refine (pe_callB call_isX hg hm hv (pa_cons ha (pa_cons (hc.pe gy hdy) pa_nil hs2) hs) hn hdb hs hpl).imp fun σ H Q h => h.bind fun H0 G0 d v g1 G1 H1 r1 h1 => ?_
  unfold aIsE at h1
  split at h1
  · rename_i cn w
    split at h1
    · rename_i b hb
      obtain ⟨a, d, C, f, u, rfl, k1, k2, k3, k4⟩ := Dv.exc_inv r1
      obtain ⟨_, x2, x3, _⟩ := R _ _ _ k1
      exact ⟨a, C, d, f, u, cv, c, b, rfl, hc.rel, h1.1.sub _ _ k2, h1.1.sub _ _ k3, x2, x3, (htab _ _ _ _ k1 hb).2, h1.here (.bl _)⟩
    · exact h1.stop
  · exact h1.stop
/-- e.name -/
def aFld (cs : List Str) (d : D) : Mo D := match d with
  | .exc c w => if cs.contains c = true then rt w else stop
  | _ => stop
def fFld (cs : List Str) (f : Mo D) : Mo D := bd f (aFld cs)
def FldOk (Γ : Gam) (n : Str) (cs : List Str) : Prop := ∀ c, cs.contains c = true → ∀ C f, Γ.cl c = some (C, f) → f = n
theorem d_fld {n : Str} {cs : List Str} {f : Mo D} (R : ErrK X.K Γ) (F : FldOk Γ n cs) (he : DX X Γ W e f) (hb : attributeBase e n X.env (eval e X.env) = eval e X.env := by rfl) : DX X Γ W (.Attribute e n pos) (fFld cs f) := by
  refine ⟨fun pins s σ H Q I h => ?_⟩; refine attr_of hb (thn (he.run pins s σ H _ I (h.bind (P := fun v H1 => ∃ (a C d : Addr) (u : V), v = .ref a ∧ H1 a = some (xob a C d) ∧ H1 d = some (.xd [(n, u)]) ∧ XfC X.K C ∧ PySem.W.findIn X.K (.ref C) n = some none ∧ Q u H1) fun H0 G0 d v g1 G1 H1 r1 h1 => ?_)) fun u s1 hh => ?_)
  · unfold aFld at h1
    split at h1
    · rename_i cn w
      split at h1
      · rename_i hcs
        obtain ⟨a, d, C, f, u, rfl, k1, k2, k3, k4⟩ := Dv.exc_inv r1
        obtain ⟨x1, _, _, x4⟩ := R _ _ _ k1
        obtain rfl := F _ hcs _ _ k1
        exact ⟨a, C, d, u, rfl, h1.1.sub _ _ k2, h1.1.sub _ _ k3, x1, x4, h1.here k4⟩
      · exact h1.stop
    · exact h1.stop
  · obtain ⟨v, H1, I1, rv, a, C, d, u', rfl, k2, k3, T, hno, q⟩ := hh
    obtain rfl : u = Value.ref a := rv
    obtain ⟨oe, od, mA, J, hl, hr⟩ := inst_at I1 k2 k3
    obtain ⟨u2, hu, ru⟩ := RelO.some_of (v := u') (o := mA n) (by
      have z : ([(n, u')] : List (Str × V)).lookup n = some u' := by simp [List.lookup]
      rw [z] at hr; exact hr)
    exact HandSPX.exc_get I1.kIn J T.ga T.gg T.exC (PySem.W.findObj_own T.hdC hno rfl (by rw [hl, hu])) (handed_of ru) ⟨u', H1, I1.tok _, ru, q⟩
end
end DE
namespace DE
open PyProof.Rows PySem.Spec PySem L2
/-! ### isinstance(e, (X, Y, ..)) of a caught error -/
def anyT : List (List (Str × Bool)) → Str → Option Bool
  | [], _ => some false
  | tb :: r, c => match tb.lookup c with
    | some true => some true
    | some false => anyT r c
    | none => none
section
variable {X : Cx} {Γ : Gam} {W : WX} {a b c e : Expr} {es : List Expr} {pos : Pos} {k : Nat}
def DC (X : Cx) (Γ : Gam) (es : List Expr) (tbs : List (List (Str × Bool))) : Prop :=
  ∃ (vs : List V) (cs : List Value), PA X es (fun _ H Q => Q vs H) ∧ vs.length = tbs.length ∧ (∀ us, Vals vs us → us = cs) ∧ ∀ cn C f b, Γ.cl cn = some (C, f) → anyT tbs cn = some b → PySem.W.kitAny X.K (.ref C) cs = some b
theorem dc_nil : DC X Γ [] [] := ⟨[], [], pa_nil, rfl, fun us h => by cases h; rfl, fun cn C f b _ h => h⟩
theorem dc_cons {y : Str} {tb : List (Str × Bool)} {tbs : List (List (Str × Bool))} {py : Pos} (hy : HdX X.K X.mg Γ y tb) (gy : Gl X y) (h : DC X Γ es tbs) (hdy : (y == ("__debug__" : Str)) = false := by decide)
    (hs : starEach (.Name y py :: es) X.env = (false, eval (.Name y py) X.env) :: starEach es X.env := by rfl) : DC X Γ (.Name y py :: es) (tb :: tbs) := by
  obtain ⟨v, c, hc, htab⟩ := hy
  obtain ⟨vs, cs, h1, h2, h3, h4⟩ := h
  refine ⟨v :: vs, c :: cs, pa_cons (hc.pe gy hdy) h1 hs, congrArg (· + 1) h2, fun us r => ?_, fun cn C f b k1 k2 => ?_⟩
  · cases r with
    | cons r0 rr => rw [hc.rel _ r0, h3 _ rr]
  · unfold anyT at k2
    unfold PySem.W.kitAny
    cases z : tb.lookup cn with
    | none => rw [z] at k2; cases k2
    | some b1 =>
      rw [z] at k2
      rw [(htab _ _ _ _ k1 z).2]
      cases b1 with
      | true => exact k2
      | false => exact h4 _ _ _ _ k1 k2
theorem call_isXT : CallR X (.builtin "isinstance") (fun xs H Q => ∃ (a C d p : Addr) (f : Str) (v : V) (vs : List V) (cs : List Value) (b : Bool), xs = [.ref a, .ref p] ∧ H p = some (.tup vs) ∧ (∀ us, Vals vs us → us = cs) ∧ H a = some (xob a C d) ∧ H d = some (.xd [(f, v)]) ∧ ExcC X.K C ∧ (PySem.W.clsIn X.K C).isSome = true ∧ PySem.W.kitAny X.K (.ref C) cs = some b ∧ Q (.bl b) H) := by
  intro pins s σ H xs us Q I r h; obtain ⟨a, C, d, p, f, v, vs, cs, b, rfl, hp, hcs, ha, hd, T, hcl, e, q⟩ := h
  cases r with
  | cons rx rr =>
    cases rr with
    | cons rt rr =>
      cases rr
      cases rx
      cases rt
      obtain ⟨oe, od, mA, J, _, _⟩ := inst_at I ha hd
      have ht : ObjOk X.prog X.w H s.heap p (.tup vs) := I.hok p _ hp
      obtain ⟨z, us, rv, o, ho, hc, n, hdat⟩ := ht
      have ec := hcs _ rv
      subst ec
      obtain ⟨oc, odd, odt, osl⟩ := o
      simp only at hc hdat
      subst hc hdat
      exact PySem.W.kia_tup (PySem.W.kitx_exc hcl T.hg T.hk T.hs T.ha T.hn T.ht T.hm) I.kIn J ho e (fun z => nomatch z) fun tk => ⟨.bl b, H, I.kept (t' := tk) fun _ _ z => z, rfl, q⟩
def aIsT (tbs : List (List (Str × Bool))) (d : D) : Mo D := match d with
  | .exc c _ => match anyT tbs c with
    | some b => rt (.bl b)
    | none => stop
  | _ => stop
def fIsT (tbs : List (List (Str × Bool))) (f : Mo D) : Mo D := bd f (aIsT tbs)
theorem d_isT {x : Str} {tbs : List (List (Str × Bool))} {p pt : Pos} {kt : Nat} {f : Mo D} (R : ErrK X.K Γ) (hy : DC X Γ es tbs) (hlen : tbs.length ≤ 1000) (ha : DX X Γ W e f) (hg : Gl X x) (hm : X.mg x = none) (hv : bootBuiltins x = some (.builtin "isinstance"))
    (hn : x ≠ "__name__" := by decide) (hdb : (x == ("__debug__" : Str)) = false := by decide)
    (hs2 : starEach [.Tuple es kt pt] X.env = (false, eval (.Tuple es kt pt) X.env) :: starEach [] X.env := by rfl) (hs : starEach [e, .Tuple es kt pt] X.env = (false, eval e X.env) :: starEach [.Tuple es kt pt] X.env := by rfl) (hpl : (backTo pos (starEach [.Tuple es kt pt] X.env)).any (·.1) = false := by rfl) :
    DX X Γ W (.Call (.Name x p) [e, .Tuple es kt pt] [] pos) (fIsT tbs f) := by
  obtain ⟨vs, cs, hc, hl, hcs, htab⟩ := hy
  refine (pe_callB call_isXT hg hm hv (pa_cons ha (pa_cons (pe_tup hc) pa_nil hs2) hs) hn hdb hs hpl).imp fun σ H Q h => h.bind fun H0 G0 d v g1 G1 H1 r1 h1 => ?_
  refine ⟨by rw [hl, sizeLine_eq]; omega, fun p hp => ?_⟩
  unfold aIsT at h1
  split at h1
  · rename_i cn w
    split at h1
    · rename_i b hb
      obtain ⟨a, d, C, f, u, rfl, k1, k2, k3, k4⟩ := Dv.exc_inv r1
      obtain ⟨_, x2, x3, _⟩ := R _ _ _ k1
      obtain ⟨E, _, _, e, q⟩ := h1
      cases e
      have gp : G1 p = none := by
        cases z : G1 p with
        | none => rfl
        | some u => rw [E.sub _ _ z] at hp; cases hp
      have ka := E.sub _ _ k2
      have kd := E.sub _ _ k3
      exact ⟨a, C, d, p, f, u, vs, cs, b, rfl, upd_same, hcs, by rw [upd_ne (ne_of_none ka hp)]; exact ka, by rw [upd_ne (ne_of_none kd hp)]; exact kd, x2, x3, htab _ _ _ _ k1 hb, q (.bl b) _ _ (Gr.upd gp) (E.new hp) (.bl b)⟩
    · exact h1.stop
  · exact h1.stop
/-! ### {}, and a dict held against a text -/
theorem d_dic0 : DX X Γ W (.Dict [] [] pos) (rt (.dic [])) :=
  pe_dnewK.imp fun σ H Q ⟨H0, G0, G, g, h⟩ p hp => h.new hp (.dic upd_same .nil)
end
section
variable {M : Model} {prog : Program} {w : World} {A : Around} {E : Value → Shared → Prop} {s : Shared}
theorem str_ne_declines_dict (b : Str) (u : Tok) (l : Addr) (c : Value) (items : Array DictEntry) (n : Nat) (dd : Option Addr) (sl : Array (Option Value)) :
    Meets (Builtin.«str.__ne__» ⟨[.str b u, .ref l], []⟩) (fun _ R s => s.heap.get? l = some { cls := c, dict := dd, data := .dict items n, slots := sl } ∧ R (.ok (.ret .notImplemented)) s) :=
  .of_wp fun prog w A R s hh => by obtain ⟨hp, g, d, tk, os⟩ := s; obtain ⟨hl, h⟩ := hh; wp_walk using wpAny_loadPart' hl, wpAny_load hl; exact ⟨_, rfl, h⟩
theorem dict_ne_str {l : Addr} {items : Array DictEntry} {n : Nat} {dd : Option Addr} {sl : Array (Option Value)} {b : Str} {u : Tok} {Q : Value → Shared → Prop} (ho : s.heap.get? l = some { cls := .type "dict", dict := dd, data := .dict items n, slots := sl }) (hu : A.units < cLine) (h : Q (.bool true) s) :
    wpAny (model prog w) A (richCompare .NotEq (.ref l) (.str b u)) Q E s := by
  have hT : s.TypeIs (.ref l) "dict" := ⟨_, ho, rfl⟩
  refine SeqAt.rc_ne_decline_or (k := false) hT (typeIs_str s b u) (by decide) PySem.F.sub_str_dict PySem.F.slot_dict_ne PySem.F.slot_str_ne_refl (fun _ hq => ?_)
    (fun _ hq => call_meets PySem.F.slot_str_ne_refl (typeIs_str s b u) PySem.F.entry_str_ne (PySem.F.args_str_ne_2 _ _) (str_ne_declines_dict b u l (.type "dict") items n dd sl) ⟨ho, hq⟩)
    (fun _ hr => wpAny_of_eq (rfl : isSame (.ref l) (.str b u) = pure false) hr) (.inr hu) h
  refine wpAny_call_entry PySem.F.slot_dict_ne hT PySem.F.entry_dict_ne ?_ (PySem.F.args_dict_ne_2 _ _)
  show wpAny _ _ (Builtin.Dict.dictSlotArgs "__ne__" ⟨[.ref l, .str b u], []⟩ >>= _) _ _ s
  refine wpAny_bind ?_
  unfold Builtin.Dict.dictSlotArgs; refine wpAny_bind (wpAny_notOrdered_dict hT ?_)
  show wpAny _ _ (pure (Value.ref l, Value.str b u)) _ _ s
  refine wpAny_pure ?_
  refine wpAny_bind (wpAny_isInstance (T := "str") (typeIs_str s b u) PySem.F.sub_str_dict ?_)
  simp only [Bool.not_false, if_true]; refine wpAny_bind (wpAny_rule ?_)
  exact wpAny_pure ⟨_, rfl, hq⟩
end
/-- != where a dict may be held against a text -/
def pNeX (d e : D) : Mo D := match d, e with
  | .dic _, .str _ => rt (.bl true)
  | _, _ => pNe d e
section
variable {X : Cx} {Γ : Gam} {W : WX}
theorem o_nex (hu : X.A.units + 64 < cLine) : BinD X Γ W (compareOp .NotEq) pNeX := by
  intro pins s σ H x y v u Q I rx ry ⟨H0, G0, G, gg, σ', d, e, dx, dy, q⟩
  unfold pNeX at q
  split at q
  · cases dx with
    | dic h1 t =>
      cases dy
      cases rx
      obtain ⟨tk, rfl⟩ := ry
      obtain ⟨z, hd, vs0, r0, dd⟩ := dk_of I.hok (q.1.sub _ _ h1)
      obtain ⟨o, es, ep, ho, hx, hdat, _⟩ := dd
      obtain ⟨oc, od, odt, osl⟩ := o; obtain ⟨h1', h2', h3'⟩ := hx
      simp only at hdat h1' h2' h3'
      subst hdat h1' h2' h3'
      exact dict_ne_str ho (by omega) ⟨.bl true, H, I, rfl, q.here (.bl _)⟩
  · exact o_ne hu pins s σ H x y v u Q I rx ry ⟨H0, G0, G, gg, σ', d, e, dx, dy, q⟩
end
end DE
namespace DE
open PyProof.Rows PySem.Spec PySem L2
/-! ### the script's draws begin -/
def begStep (s c : Int) : Int := (s * 69621 + c % 2147483629 + 7) % 2147483647
def begS (ns : List Int) : DS := ⟨ns.filter (fun c => decide ((10 : Int) ^ 18 ≤ c)), ns.foldl begStep 11, 0⟩
abbrev tBInt (t : TE) : TE := fun σ H Q => tCons t tNil σ H fun xs H1 => (∃ i, xs = [.int i] ∧ Q (.int i) H1) ∨ ∃ k, xs = [.bl k] ∧ Q (.int (if k then 1 else 0)) H1
abbrev tBStep : TE := tOp (rI (fun _ j => 0 < j) fun i j => .int (i % j)) (tBInt (tOp (rI0 fun i j => .int (i + j)) (tOp (rI0 fun i j => .int (i + j)) (tOp (rI CMul fun i j => .int (i * j)) (tVar 1) (tC (.int 69621))) (tOp (rI (fun _ j => 0 < j) fun i j => .int (i % j)) (tBInt (tVar 2)) (tC (.int 2147483629)))) (tC (.int 7)))) (tC (.int 2147483647))
abbrev tBComp (K : PySem.W.Frag) : TE := tLc (iList K (tVar 0)) (gName 2) (tTest (tOp (rI0 fun i j => .bl (decide (j ≤ i))) (tVar 2) (tOp (rI CPow fun i j => .int (i ^ j.toNat)) (tC (.int 10)) (tC (.int 18))))) (tVar 2) [2]
abbrev tBeg (K : PySem.W.Frag) : TS := tSeq (tAsg (tC (.int 11)) (gName 1)) (tSeq (tFor (iList K (tVar 0)) (gName 2) (tAsg tBStep (gName 1)))
  (tRet (tDisp [(tC (.str "great"), tBComp K), (tC (.str "seed"), tVar 1), (tC (.str "turns"), tC (.int 0))])))
def spBeg (K : PySem.W.Frag) : Sp := fun vs H Q _ => ∃ l ns, vs = [.ref l] ∧ SqL K H l (ns.map V.int) ∧ ns.length ≤ 100000 ∧
  ∀ M D H', H M = none → H D = none → M ≠ D → H' M = some (.dK (mkvs D (begS ns))) → H' D = some (.lst ((begS ns).great.map V.int)) → (∀ a, a ≠ M → a ≠ D → H' a = H a) → Q (.ref M) H'
theorem takeOne {α : Type} : ∀ {l : List α} {x : α} {i : Nat}, l[i]? = some x → l.take (i + 1) = l.take i ++ [x]
  | [], x, i, h => by simp at h
  | a :: l, x, 0, h => by simp at h; subst h; rfl
  | a :: l, x, i + 1, h => by
    have ih := takeOne (l := l) (i := i) (x := x) (by simpa using h)
    simp [ih]
theorem beg_run {K : PySem.W.Frag} {l : Addr} {ns : List Int} {H : Hp} {Ds : Ends} {σ : L2.St} (hσ : σ.length = 3) (h0 : σ[0]? = some (some (V.ref l))) (hl : SqL K H l (ns.map V.int)) (hn : ns.length ≤ 100000)
    (hq : ∀ M D H', H M = none → H D = none → M ≠ D → H' M = some (.dK (mkvs D (begS ns))) → H' D = some (.lst ((begS ns).great.map V.int)) → (∀ a, a ≠ M → a ≠ D → H' a = H a) → Ds.rt (.ref M) H') : tBeg K Ds σ H := by
  have set_ne : ∀ {σ : L2.St} {i j : Nat} {v : Option V}, i ≠ j → (σ.set i v)[j]? = σ[j]? := fun h => List.getElem?_set_ne h
  have set_eq : ∀ {σ : L2.St} {i : Nat} {v : Option V}, i < σ.length → (σ.set i v)[i]? = some v := fun h => List.getElem?_set_self h
  show tSeq _ _ Ds (σ.set 1 (some (.int 11))) H
  refine ⟨.ref l, by rw [set_ne (by decide)]; exact h0, l, rfl, ⟨_, hl⟩, for_list (xs := ns.map V.int) (fun i σ2 H2 => H2 = H ∧ σ2.length = 3 ∧ σ2[0]? = some (some (V.ref l)) ∧ σ2[1]? = some (some (V.int ((ns.take i).foldl begStep 11)))) ⟨rfl, by simpa using hσ, by rw [set_ne (by decide)]; exact h0, by rw [set_eq (by omega)]; rfl⟩ (fun i σ2 H2 _ p => by rw [p.1]; exact hl) ?_ ?_⟩
  · rintro i x σ2 H2 hx ⟨rfl, hs, p0, p1⟩
    rw [List.getElem?_map] at hx
    cases hc : ns[i]? with
    | none => rw [hc] at hx; cases hx
    | some c =>
      rw [hc] at hx; cases hx
      refine ⟨.int ((ns.take i).foldl begStep 11), by rw [set_ne (by decide)]; exact p1, _, _, rfl, rfl, .inr ⟨by decide, by decide⟩, .int c, set_eq (by omega), .inl ⟨c, rfl, _, _, rfl, rfl, (show (0 : Int) < 2147483629 by decide), _, _, rfl, rfl, _, _, rfl, rfl, .inl ⟨_, rfl, _, _, rfl, rfl, (show (0 : Int) < 2147483647 by decide), rfl, by simpa using hs, ?_, ?_⟩⟩⟩
      · rw [set_ne (by decide), set_ne (by decide)]; exact p0
      · rw [set_eq (by simpa using (by omega : 1 < σ2.length)), takeOne hc, List.foldl_append]; rfl
  · rintro σ2 H2 ⟨rfl, hs, p0, p1⟩ p hp
    rw [List.length_map, List.take_length] at p1
    refine ⟨.ref l, p0, l, rfl, ⟨_, Gr.sqL (Gr.upd hp) hl⟩, fun D hD => ?_⟩
    have pD : D ≠ p := by rintro rfl; rw [upd_same] at hD; cases hD
    have hD' : H2 D = none := by rw [upd_ne pD] at hD; exact hD
    refine lc_list (xs := ns.map V.int) (fun i H3 => H3 D = some (.lst (((ns.take i).filter (fun c => decide ((10 : Int) ^ 18 ≤ c))).map V.int)) ∧ ∀ a, a ≠ D → H3 a = upd H2 p (.dK []) a) ⟨upd_same, fun a ha => upd_ne ha⟩ (fun i H3 _ q => Gr.sqL (fun a o z => by rw [q.2 a (ne_of_none z hD), ← z]) (Gr.sqL (Gr.upd hp) hl)) ?_ ?_
    · rintro i x H3 hx ⟨q1, q2⟩
      rw [List.getElem?_map] at hx
      cases hc : ns[i]? with
      | none => rw [hc] at hx; cases hx
      | some c =>
        rw [hc] at hx; cases hx
        have wl : (L2.wipe σ2 [2]).length = 3 := by rw [wipe_length]; exact hs
        refine ⟨wipe_congr (by rw [List.length_set, wl, hs]) fun i hi => ?_, .int c, set_eq (by omega), _, _, rfl, rfl, by unfold CPow; decide, _, _, rfl, rfl, ?_⟩
        · have : 2 ≠ i := by simpa [eq_comm] using hi
          rw [set_ne this, wipe_at hi]
        · refine ⟨_, rfl, ?_⟩
          have e18 : ((10 : Int) ^ (18 : Int).toNat) = 10 ^ 18 := rfl
          by_cases hk : (10 : Int) ^ 18 ≤ c
          · have hk' : decide ((10 : Int) ^ (18 : Int).toNat ≤ c) = true := by rw [e18]; exact decide_eq_true hk
            rw [hk']
            show (if true = true then _ else _); rw [if_pos rfl]
            refine ⟨.int c, set_eq (by omega), _, q1, ?_, ?_, fun a ha => by rw [upd_ne ha]; exact q2 a ha⟩
            · rw [List.length_map]
              have h1 := List.length_filter_le (fun c => decide ((10 : Int) ^ 18 ≤ c)) (ns.take i)
              have h2 : (ns.take i).length ≤ ns.length := by rw [List.length_take]; omega
              exact Nat.lt_of_le_of_lt (Nat.le_trans h1 (Nat.le_trans h2 hn)) (by decide)
            · rw [upd_same, takeOne hc, List.filter_append, List.map_append]
              have : List.filter (fun c => decide ((10 : Int) ^ 18 ≤ c)) [c] = [c] := by rw [List.filter_cons]; rw [decide_eq_true hk]; rfl
              rw [this]; rfl
          · have hk' : decide ((10 : Int) ^ (18 : Int).toNat ≤ c) = false := by rw [e18]; exact decide_eq_false hk
            rw [hk']
            show (if false = true then _ else _)
            rw [if_neg Bool.false_ne_true]; refine ⟨?_, q2⟩
            rw [q1, takeOne hc, List.filter_append]
            have : List.filter (fun c => decide ((10 : Int) ^ 18 ≤ c)) [c] = [] := by rw [List.filter_cons]; rw [decide_eq_false hk]; rfl
            rw [this, List.append_nil]
    · rintro H3 ⟨q1, q2⟩
      rw [List.length_map, List.take_length] at q1
      refine ⟨.int (ns.foldl begStep 11), p1, ⟨by rw [q2 p (Ne.symm pD), upd_same], [(Sum.inr "great", .ref D), (Sum.inr "seed", .int (ns.foldl begStep 11)), (Sum.inr "turns", .int 0)], rfl, by show 3 ≤ 15; decide, ?_⟩⟩
      have em : mergeK [] [(Sum.inr "great", V.ref D), (Sum.inr "seed", .int (ns.foldl begStep 11)), (Sum.inr "turns", .int 0)] = mkvs D (begS ns) := by
        simp [mergeK, putK, mkvs, gs_, gt_, st_, begS]
      rw [em]
      refine hq p D _ hp hD' (Ne.symm pD) upd_same ?_ fun a h1 h2 => ?_
      · rw [upd_ne pD]; exact q1
      · rw [upd_ne h1, q2 a h2, upd_ne h1]
end DE
namespace DE
open PyProof.Rows PySem.Spec PySem L2
/-! ### a law's def: m = _law_begun(script), then the rest over data -/
section
variable {X : Cx} {W : WX} {e : Expr} {es : List Expr} {pos : Pos} {k : Nat}
theorem pe_callKs {j : Nat} {sp : Sp} {x : Str} {p : Pos} {t : TA} (F : Kf X.prog X.w X.K X.mg X.base j x sp) (hk : j ≤ k) (C : Ct X W k) (hg : Gl X x) (args : PA X (e :: es) t)
    (hdb : (x == ("__debug__" : Str)) = false := by decide) (he : starEach (e :: es) X.env =
      (false, eval e X.env) :: starEach es X.env := by rfl) (hpl : (backTo pos (starEach es X.env)).any (·.1) = false := by rfl) :
    PE X (.Call (.Name x p) (e :: es) [] pos) (fun σ H Q => t σ H fun vs H1 => sp vs H1 Q (WE W σ)) :=
  let ⟨_, _, _, h1, h2, h3, h4⟩ := F.mono hk
  pe_callG h1 C hg h2 h3 h4 args hdb he hpl
end
theorem pss_ex {X : Cx} {α : Type} {st : List Stmt} {t : α → TS} (h : ∀ a, PSs X st (t a)) : PSs X st (fun Ds σ H => ∃ a, t a Ds σ H) := ⟨fun pins s σ H Ds I ⟨a, q⟩ => (h a).run pins s σ H Ds I q⟩
def initR (n i : Nat) : List Sl := (List.replicate n Sl.no).set i (.dat .m)
def initS (n i : Nat) (ns : List Int) : List Sl := (initR n i).set 0 (.dat (.scr ns))
/-- the law's program gives True, its script known or not -/
def goesL (fb : Ms) (n im : Nat) (ns : List Int) : Prop := (∃ g', fb ⟨initR n im, begS ns⟩ = some (.ret (.bl true), g')) ∨ ∃ g', fb ⟨initS n im ns, begS ns⟩ = some (.ret (.bl true), g')
def spLaw (K : PySem.W.Frag) (T : List (Addr × Str)) (n im : Nat) (fb : Ms) : Sp := fun vs H Q _ => ∃ l ns, vs = [.ref l] ∧ SqL K H l (ns.map V.int) ∧ ns.length ≤ 100000 ∧ LamX.Tabs T H ∧ goesL fb n im ns ∧ ∀ H', Q (.bl true) H'
abbrev tFirst (K : PySem.W.Frag) (E : XK) (im : Nat) : TS := tAsg (fun σ H Q => tCons (tVar 0) tNil σ H fun vs H1 => spBeg K vs H1 Q E) (gName im)
theorem law_fnC {P : Program} {w : World} {K : PySem.W.Frag} {mg : Str → Option Value} {base : Heap} {cl : Str → Option (Addr × Str)} {T : List (Addr × Str)} {st st1 : Stmt} {rest : List Stmt} {f : Addr} {fd : FuncData} {N : List Str} {im k : Nat} {fb : Ms}
    (F : Fun K "law" "law" st f fd) (S : FnScope N ["script"] (defScope st)) (hbody : defBody st = st1 :: rest) (him : im < N.length) (h0 : im ≠ 0)
    (hfirst : ∀ (cdv : Value) (A : Around) (outer : List Env) (s : Shared) (H : Hp) (E : XK), Ct (cxD P w K mg base N "law" st f cdv A outer s H E) (fun c d _ H => E c d H) k → PS (cxD P w K mg base N "law" st f cdv A outer s H E) st1 (tFirst K E im))
    (hd : ∀ (M : Addr) (cdv : Value) (A : Around) (outer : List Env) (s : Shared) (H : Hp) (E : XK), fd.code = cdv → Ct (cxD P w K mg base N "law" st f cdv A outer s H E) (fun c d _ H => E c d H) k → DB (cxD P w K mg base N "law" st f cdv A outer s H E) ⟨M, cl, T⟩ (fun c d _ H => E c d H) rest fb) :
    FnG P w K mg base (k + 1) f fd ["script"] (spLaw K T N.length im fb) := by
  refine fnG_ofC F S (fun vs H Q E h => ?_) (fun cdv A outer s H vs Q E hcv C h => ?_)
  · obtain ⟨l, ns, rfl, _⟩ := h; rfl
  · obtain ⟨l, ns, rfl, hl, hn, tb, hg, q⟩ := h
    rw [hbody]
    refine ⟨_, pss_cons (hfirst cdv A outer s H E C) (pss_ex fun M => hd M cdv A outer s H E hcv C), ?_⟩
    have hN : 1 ≤ N.length := by omega
    have s0 : (L2.start N [V.ref l])[0]? = some (some (V.ref l)) := by unfold L2.start; rfl
    refine ⟨.ref l, s0, l, ns, rfl, hl, hn, fun M D H' hM hD hMD eM eD keep => ?_⟩
    have gne : ∀ a o, (if a = D then H' D else none) = some o → a = D ∧ H' D = some o := fun a o z => by
      by_cases c : a = D
      · rw [if_pos c] at z; exact ⟨c, z⟩
      · rw [if_neg c] at z; cases z
    have lenS : (L2.start N [V.ref l]).length = N.length := by unfold L2.start; simp; omega
    have slot : ∀ (i : Nat) z, z ≠ Sl.no → (initR N.length im)[i]? = some z → i = im ∧ z = .dat .m := fun i z hz h' => by
      unfold initR at h'
      by_cases c : i = im
      · subst c
        rw [List.getElem?_set_self (by simpa using him)] at h'
        exact ⟨rfl, (Option.some.inj h').symm⟩
      · rw [List.getElem?_set_ne (Ne.symm c), List.getElem?_replicate] at h'
        split at h'
        · exact absurd (Option.some.inj h').symm hz
        · cases h'
    have old : ∀ a o, H a = some o → H' a = some o := fun a o z => by
      rw [keep a (ne_of_none z hM) (ne_of_none z hD)]; exact z
    have E0 : En K ⟨M, cl, T⟩ H' (fun a => if a = D then H' D else none) (fun a => if a = D then H' D else none) H' ((L2.start N [V.ref l]).set im (some (.ref M))) ⟨initR N.length im, begS ns⟩ := by
      refine ⟨fun a o _ z => z, fun a o _ z => z, Gr.refl _, fun a o z => ?_, if_neg hMD, ⟨D, eM, ?_⟩, ?_, fun i d z => ?_, fun i xs z => ?_, fun i j xs ys l z => ?_, tb.ext old, fun p hp => ?_, fun i f c q G1 z => ?_⟩
      · obtain ⟨rfl, z⟩ := gne a o z; exact z
      · show (if D = D then H' D else none) = _
        rw [if_pos rfl, eD]
      · rw [List.length_set, lenS]; unfold initR; simp
      · obtain ⟨rfl, zz⟩ := slot i _ (by intro z; cases z) z
        cases zz
        exact ⟨.ref M, List.getElem?_set_self (by rw [lenS]; exact him), .m⟩
      · obtain ⟨_, zz⟩ := slot i _ (by intro z; cases z) z
        cases zz
      · obtain ⟨_, zz⟩ := slot i _ (by intro z; cases z) z
        cases zz
      · obtain ⟨ps, z, _⟩ := tb p hp
        exact if_neg (ne_of_none z hD)
      · obtain ⟨_, zz⟩ := slot i _ (by intro z; cases z) z
        cases zz
    rcases hg with ⟨g', hg⟩ | ⟨g', hg⟩
    · exact ⟨M, H', _, _, _, E0, .ret (.bl true), g', hg, fun v σ' G' H2 gr E' dv => by cases dv; exact q H2⟩
    · -- the script is known, too
      have hlM : l ≠ M ∨ H l = none := by
        by_cases c : l = M
        · subst c; exact .inr hM
        · exact .inl c
      obtain ⟨G2, hG2, hsub, hD2, hM2, hT2⟩ : ∃ G2 : Hp, SqL K G2 l (ns.map V.int) ∧ Gr G2 H' ∧ G2 D = H' D ∧ G2 M = none ∧ ∀ p ∈ T, G2 p.1 = none := by
        have gD : ∀ p ∈ T, p.1 ≠ D := fun p hp z => by
          obtain ⟨ps, y, _⟩ := tb p hp
          rw [z, hD] at y; cases y
        rcases hl with hR | hK
        · have hlH : ∃ o, H l = some o ∧ ∀ ps, o ≠ .tbl ps := by
            rcases hR with h | ⟨o, h⟩
            · exact ⟨_, h, fun _ z => by cases z⟩
            · exact ⟨_, h, fun _ z => by cases z⟩
          obtain ⟨o, ho, no⟩ := hlH
          have lM : l ≠ M := ne_of_none ho hM
          have lD : l ≠ D := ne_of_none ho hD
          refine ⟨fun a => if a = D then H' D else if a = l then H l else none, .inl ?_, fun a u z => ?_, if_pos rfl, ?_, fun p hp => ?_⟩
          · have e : (if l = D then H' D else if l = l then H l else none) = H l := by rw [if_neg lD, if_pos rfl]
            rcases hR with h | ⟨o, h⟩
            · exact .inl (e.trans h)
            · exact .inr ⟨o, e.trans h⟩
          · replace z : (if a = D then H' D else if a = l then H l else none) = some u := z
            by_cases c : a = D
            · rw [if_pos c] at z; rw [c]; exact z
            · rw [if_neg c] at z
              by_cases c2 : a = l
              · rw [if_pos c2] at z; rw [c2]; exact old _ _ z
              · rw [if_neg c2] at z; cases z
          · show (if M = D then H' D else if M = l then H l else none) = none
            rw [if_neg hMD, if_neg (Ne.symm lM)]
          · obtain ⟨ps, y, _⟩ := tb p hp
            have : p.1 ≠ l := fun z => by rw [z, ho] at y; exact no _ (Option.some.inj y)
            show (if p.1 = D then H' D else if p.1 = l then H l else none) = none
            rw [if_neg (gD p hp), if_neg this]
        · refine ⟨fun a => if a = D then H' D else none, .inr hK, fun a u z => ?_, if_pos rfl, if_neg hMD, fun p hp => if_neg (gD p hp)⟩
          obtain ⟨rfl, z⟩ := gne a u z; exact z
      have slotS : ∀ (i : Nat) z, z ≠ Sl.no → (initS N.length im ns)[i]? = some z → (i = 0 ∧ z = .dat (.scr ns)) ∨ (i = im ∧ z = .dat .m) := fun i z hz h' => by
        unfold initS at h'
        by_cases c : i = 0
        · subst c
          rw [List.getElem?_set_self (by unfold initR; simp; omega)] at h'
          exact .inl ⟨rfl, (Option.some.inj h').symm⟩
        · rw [List.getElem?_set_ne (Ne.symm c)] at h'
          exact .inr (slot i z hz h')
      have E1 : En K ⟨M, cl, T⟩ H' G2 G2 H' ((L2.start N [V.ref l]).set im (some (.ref M))) ⟨initS N.length im ns, begS ns⟩ := by
        refine ⟨fun a o _ z => z, fun a o _ z => z, Gr.refl _, hsub, hM2, ⟨D, eM, hD2.trans eD⟩, ?_, fun i d z => ?_, fun i xs z => ?_, fun i j xs ys l z => ?_, tb.ext old, hT2, fun i f c q G1 z => ?_⟩
        · rw [List.length_set, lenS]; unfold initS initR; simp
        · rcases slotS i _ (by intro z; cases z) z with ⟨rfl, zz⟩ | ⟨rfl, zz⟩
          · cases zz
            refine ⟨.ref l, ?_, .scr hG2⟩
            rw [List.getElem?_set_ne h0]; exact s0
          · cases zz
            exact ⟨.ref M, List.getElem?_set_self (by rw [lenS]; exact him), .m⟩
        · rcases slotS i _ (by intro z; cases z) z with ⟨_, zz⟩ | ⟨_, zz⟩ <;> cases zz
        · rcases slotS i _ (by intro z; cases z) z with ⟨_, zz⟩ | ⟨_, zz⟩ <;> cases zz
        · rcases slotS i _ (by intro z; cases z) z with ⟨_, zz⟩ | ⟨_, zz⟩ <;> cases zz
      exact ⟨M, H', _, _, _, E1, .ret (.bl true), g', hg, fun v σ' G' H2 gr E' dv => by cases dv; exact q H2⟩
theorem law_fn {P : Program} {w : World} {K : PySem.W.Frag} {mg : Str → Option Value} {base : Heap} {cl : Str → Option (Addr × Str)} {T : List (Addr × Str)} {st st1 : Stmt} {rest : List Stmt} {f : Addr} {fd : FuncData} {N : List Str} {im k : Nat} {fb : Ms}
    (F : Fun K "law" "law" st f fd) (S : FnScope N ["script"] (defScope st)) (hbody : defBody st = st1 :: rest) (him : im < N.length) (h0 : im ≠ 0)
    (hfirst : ∀ (cdv : Value) (A : Around) (outer : List Env) (s : Shared) (H : Hp) (E : XK), Ct (cxD P w K mg base N "law" st f cdv A outer s H E) (fun c d _ H => E c d H) k → PS (cxD P w K mg base N "law" st f cdv A outer s H E) st1 (tFirst K E im))
    (hd : ∀ (M : Addr) (cdv : Value) (A : Around) (outer : List Env) (s : Shared) (H : Hp) (E : XK), Ct (cxD P w K mg base N "law" st f cdv A outer s H E) (fun c d _ H => E c d H) k → DB (cxD P w K mg base N "law" st f cdv A outer s H E) ⟨M, cl, T⟩ (fun c d _ H => E c d H) rest fb) :
    FnG P w K mg base (k + 1) f fd ["script"] (spLaw K T N.length im fb) :=
  law_fnC F S hbody him h0 hfirst fun M cdv A outer s H E _ C => hd M cdv A outer s H E C
end DE
namespace DE
open PyProof.Rows PySem.Spec PySem L2
theorem blk_ok {P : Program} {w : World} {K : PySem.W.Frag} {mg : Str → Option Value} {base : Heap} {N : List Str} {qual : Str} {st : Stmt} {f : Addr} {cdv : Value} {A : Around} {outer : List Env} {s : Shared} {H : Hp} {E : XK} {scope : Scope} {own : List (Str × Nat)} (h : blkC N (defScope st) scope own = true) :
    BlkOk (cxD P w K mg base N qual st f cdv A outer s H E).N (cxD P w K mg base N qual st f cdv A outer s H E).env.scope scope own := blkOk_by h
/-! ### the end of a law -/
/-- the law's call at a heap where at most the script is tracked -/
theorem end_core {P : Program} {w : World} {K : PySem.W.Frag} {mg mb : Str → Option Value} {k n im : Nat} {fa a : Addr} {fd : FuncData} {fb : Ms} {s₁ : Shared} {items : Array Value} {ns : List Int} {H : Hp}
    (KX : K.In s₁.heap) (hns : s₁.heap.Ns mainGlobals mg) (hbn : s₁.heap.Ns builtinsNs mb) (hbb : ∀ y : Str, y ≠ "__name__" → mb y = bootBuiltins y) (hlim : s₁.heap.NoLimit) (hgen : s₁.gens = #[]) (hlen : ns.length ≤ 100000) (hr : Room k callerA)
    (hobj : s₁.heap.get? a = some { cls := .type "list", data := .seq items }) (F : ∀ base : Heap, K.In base → base.Ns mainGlobals mg → FnG P w K mg base k fa fd ["script"] (spLaw K [] n im fb))
    (bnd : ∀ (s : Shared) (u : Value), BindsTo s fd ⟨[u], []⟩ [("script", u)]) (hfb : goesL fb n im ns)
    (only : ∀ b u, H b = some u → b = a ∧ ∃ o xs, u = .frz o (.lst xs)) (hS : SqL K H a (ns.map V.int)) (hok : HOk P w H s₁.heap) (notK : ∀ u, H a = some u → K.lookup a = none) :
    codeAny (model P w) callerA (.call (.ref fa) ⟨[Value.ref a], []⟩) (fun r s' => r = .ok (.ret (.bool true)) ∧ OldK s₁.heap s'.heap ∧ s'.os = s₁.os ∧ AllBare s'.gens) s₁ := by
  have stays : ∀ {b : Addr} {o : Obj}, s₁.heap.get? b = some o → H b = none → (hidT s₁.heap H).get? b = some o := fun z e => hidT_get z e
  have dictFree : ∀ {b : Addr} {o : Obj} {es : Array DictEntry} {ep : Nat}, s₁.heap.get? b = some o → o.data = .dict es ep → H b = none := fun {b o es ep} z e => by
    cases q : H b with
    | none => rfl
    | some u =>
      obtain ⟨rfl, _⟩ := only b u q
      rw [hobj] at z; cases z; cases e
  have nsStays : ∀ {b : Addr} {m : Str → Option Value}, s₁.heap.Ns b m → (hidT s₁.heap H).Ns b m := fun ⟨o, es, ep, z, e, more⟩ => ⟨o, es, ep, stays z (dictFree z e), e, more⟩
  have KB : K.In (hidT s₁.heap H) := fun b o z => stays (KX b o z) (by
    cases q : H b with
    | none => rfl
    | some u =>
      obtain ⟨rfl, _⟩ := only b u q
      rw [notK u q] at z; cases z)
  have ground : Mod K mg (hidT s₁.heap H) := ⟨KB, nsStays hns, ⟨mb, nsStays hbn, hbb⟩, hlim.elim fun mc z => ⟨mc, nsStays z.1, z.2⟩⟩
  have env : Env0 P w K mg (hidT s₁.heap H) callerA [] s₁ H := ⟨rfl, ground, fun b o z => of_hidT z, Nat.le_of_eq (hidT_size _ _), trivial, fun b z => (nomatch z), hok, .of_eq hgen⟩
  refine codeAny_mono ((F _ KB (nsStays hns)).run callerA [] s₁ H ⟨[.ref a], []⟩ [.ref a] [.ref a] (fun v _ => v = .bl true) (fun _ _ _ => False) hr rfl env (bnd s₁ (.ref a)) (.cons rfl .nil) ⟨a, ns, rfl, hS, hlen, fun _ hp => (nomatch hp), hfb, fun _ => rfl⟩) fun r s' z => ?_
  match r, z with
  | .error e, z =>
    obtain ⟨_, _, _, _, _, _, _, _, _, _, _, _, no⟩ := z
    exact no.elim
  | .ok (.ret u), ⟨v, H', hos, hbare, hun, hok', hrel, hv⟩ =>
    have hv : v = .bl true := hv
    subst hv
    obtain rfl : u = Value.bool true := hrel
    refine ⟨rfl, OldK.of_keep fun b o z => ?_, hos, hbare⟩
    cases q : H b with
    | none => exact hun.keep b o z q (fun y => nomatch y) (fun y => nomatch y)
    | some u =>
      obtain ⟨_, ob, xs, rfl⟩ := only b u q
      have before := (hok b _ q).1
      have behind := (hok' b _ (hun.frzs b ob _ q)).1
      rw [z] at before; cases before
      exact behind
  | .ok .next, z => exact z.elim
  | .ok .brk, z => exact z.elim
  | .ok .cont, z => exact z.elim
theorem end_call {P : Program} {w : World} {K : PySem.W.Frag} {mg mb : Str → Option Value} {k n im : Nat} {fa a : Addr} {fd : FuncData} {fb : Ms} {s₁ : Shared} {vs : List Value} {ns : List Int}
    (KX : K.In s₁.heap) (hns : s₁.heap.Ns mainGlobals mg) (hbn : s₁.heap.Ns builtinsNs mb) (hbb : ∀ y : Str, y ≠ "__name__" → mb y = bootBuiltins y) (hlim : s₁.heap.NoLimit) (hgen : s₁.gens = #[]) (hlen : ns.length ≤ 100000) (hr : Room k callerA)
    (hobj : s₁.heap.get? a = some { cls := .type "list", data := .seq vs.toArray }) (hi : IntsAre vs ns) (F : ∀ base : Heap, K.In base → base.Ns mainGlobals mg → FnG P w K mg base k fa fd ["script"] (spLaw K [] n im fb))
    (bnd : ∀ (s : Shared) (u : Value), BindsTo s fd ⟨[u], []⟩ [("script", u)]) (hfb : goesL fb n im ns) :
    codeAny (model P w) callerA (.call (.ref fa) ⟨[Value.ref a], []⟩) (fun r s' => r = .ok (.ret (.bool true)) ∧ OldK s₁.heap s'.heap ∧ s'.os = s₁.os ∧ AllBare s'.gens) s₁ := by
  have rv := vals_ints hi
  have sz : ns.length ≤ sizeLine := sz5 hlen
  cases hk : K.lookup a with
  | some o =>
    have z := KX a o hk
    rw [hobj] at z
    cases z
    have hS : SqL K (fun _ => none) a (ns.map V.int) := .inr ⟨_, vs.toArray, _, hk, rfl, rfl, rfl, by rw [List.size_toArray, hi.length]; exact sz, by simpa using rv⟩
    exact end_core (H := fun _ => none) KX hns hbn hbb hlim hgen hlen hr hobj F bnd hfb (fun b u z => by cases z) hS (fun b u z => by cases z) (fun u z => by cases z)
  | none =>
    have at_a : ∀ {b : Addr} {u : HO}, (if b = a then some (HO.frz { cls := .type "list", data := .seq vs.toArray } (.lst (ns.map V.int))) else none) = some u → b = a ∧ u = .frz { cls := .type "list", data := .seq vs.toArray } (.lst (ns.map V.int)) := fun {b u} z => by
      by_cases c : b = a
      · rw [if_pos c] at z; exact ⟨c, (Option.some.inj z).symm⟩
      · rw [if_neg c] at z; cases z
    refine end_core (H := fun b => if b = a then some (HO.frz { cls := .type "list", data := .seq vs.toArray } (.lst (ns.map V.int))) else none) KX hns hbn hbb hlim hgen hlen hr hobj F bnd hfb (fun b u z => ⟨(at_a z).1, _, _, (at_a z).2⟩) (.inl (.inr ⟨_, if_pos rfl⟩)) (fun b u z => ?_) (fun _ _ => hk)
    obtain ⟨rfl, rfl⟩ := at_a z
    exact ⟨hobj, by rw [List.length_map]; exact sz, vs, _, rv, hobj⟩
/-- what k_head leaves, from the law's program over data -/
theorem walk_de {l : PySem.W.OpenLaw} {k m im : Nat} {q : Program} {loose : List Str} {XP : (Str → Option Value) → Heap → Prop} {YP : World → Heap → Prop} {d : DefRec} {K : Params → PySem.W.Frag} {fb : Ms}
    (hn : l.most = some 63) (hdf : d.params.defaults = []) (hr : Room k callerA) (hY : ∀ (w : World) (h : Heap), YP w h → (K w.params).In h)
    (F : ∀ (w : World) (mg : Str → Option Value) (fa : Addr) (h : Heap), (K w.params).In h → h.Ns mainGlobals mg → mg d.name = some (Value.ref fa) →
      ∃ fd : FuncData, (∀ (s : Shared) (u : Value), BindsTo s fd ⟨[u], []⟩ [("script", u)]) ∧ ∀ base : Heap, (K w.params).In base → base.Ns mainGlobals mg → FnG l.prog w (K w.params) mg base k fa fd ["script"] (spLaw (K w.params) [] m im fb))
    (hfb : ∀ ns : List Int, ns.length ≤ 63 → goesL fb m im ns) :
    PySem.W.WalkO q loose XP YP l.row.toRowW d [] (fun g us => PySem.call g us) := by
  refine Att.attach_call hn hdf fun w s₀ s₁ mg mb fa o pm cd doc a vs ns G Y ho hdt hcd hmg hobj hints hlen hg => ?_
  obtain ⟨fd, hb, hF⟩ := F w mg fa _ (hY w _ Y) G.T.g hmg
  exact end_call (hY w _ Y) G.T.g G.T.b G.T.builtins G.T.nolimit hg (by omega) hr hobj hints hF hb (hfb ns hlen)
end DE
namespace DE
open PyProof.Rows PySem.Spec PySem L2
open NdefX (nscB nscope_by)
/-! ### what the written part must say, packed -/
def strsOf : List Value → Option (List Str)
  | [] => some []
  | .str s _ :: r => (strsOf r).map (s :: ·)
  | _ => none
theorem strs_vals : ∀ {us : List Value} {ss : List Str}, strsOf us = some ss → Vals (ss.map V.str) us
  | [], ss, h => by cases h; exact .nil
  | u :: us, ss, h => by
    cases u <;> simp [strsOf] at h
    obtain ⟨r, h1, rfl⟩ := h
    exact .cons ⟨_, rfl⟩ (strs_vals h1)
theorem strs_dv {K : PySem.W.Frag} {Γ : Gam} {G : Hp} : ∀ ss : List Str, DvA K Γ G (ss.map V.str) (ss.map D.str)
  | [] => .nil
  | s :: ss => .cons (.str s) (strs_dv ss)
theorem cst_tup {K : PySem.W.Frag} {mg : Str → Option Value} {x : Str} {a : Addr} {od : Option Addr} {its : Array Value} {n : Nat} {sl : Array (Option Value)} {ss : List Str} (hm : mg x = some (.ref a)) (l : K.lookup a = some ⟨.type "tuple", od, .seq its n, sl⟩) (h : strsOf its.toList = some ss) (hz : its.size ≤ 1000) :
    Cst K mg x (.tup (ss.map D.str)) := ⟨.ref a, .ref a, hm, rfl, fun Γ G => .tup (.inr ⟨_, its, n, l, rfl, rfl, by rw [sizeLine_eq]; omega, strs_vals h⟩) (strs_dv ss)⟩
theorem cst_int {K : PySem.W.Frag} {mg : Str → Option Value} {x : Str} {i : Int} {t : Tok} (hm : mg x = some (.int i t)) : Cst K mg x (.int i) := ⟨.int i, .int i t, hm, ⟨t, rfl⟩, fun Γ G => .int i⟩
/-- the facts of one error class -/
structure ErrF (P : Program) (K : PySem.W.Frag) (C fI : Addr) (fld par txt qual : Str) (fd : FuncData) : Prop where
  c : ErrC P K C fI fld par txt qual fd
  x : XfC K C
  e : ExcC K C
  s : (PySem.W.clsIn K C).isSome = true
theorem err_mk {P : Program} {K : PySem.W.Frag} {C fI N : Addr} {fld par txt qual nm q : Str} {bs bm : List Value} {sn : List Str} {sub : List Value} {ab : Bool} {col : Option Bool} {dd : Option Addr} {k0 k1 k2 k3 k5 : Option Value}
    {oc : Value} {od : Option Addr} {osl : Array (Option Value)} {params : Arguments} {scope : Scope} {dV kV doc pm : Value} {an : Option Addr} {cda : Addr} {ct : Value} {cc : Addr} {ccl : Value} {cdd : Option Addr} {vs : Array Value} {ccs : Array (Option Value)} {file : Str} {tf : Tok} {cl : Value} {cld : Option Addr} {csl : Array (Option Value)} {p0 p1 p2 p3 p4 p5 q1 q2 q3 q4 : Pos} {j : Nat}
    (xL : K.lookup C = some (excClassObj nm q C N bs bm true sn sub ab col dd k0 k1 k2 k3 k5 "ValueError.__new__")) (rb : HandSPX.refsVE bm = true) (sa : PySem.W.findIn K (.ref C) "__setattr__" = some (some (.builtin "object.__setattr__"))) (exC : PySem.W.subIn K (.ref C) (.type "BaseException") = some true) (tyC : PySem.W.typeIn K (.ref C) = some (.type "type")) (kC : PySem.W.keepIn K (.ref C) = true)
    (iC : PySem.W.findIn K (.ref C) "__init__" = some (some (.ref fI))) (tI : PySem.W.typeIn K (.ref fI) = some (.type "function")) (noF : PySem.W.findIn K (.ref C) fld = some none) (sup : PySem.W.ks_superIn K C C "__init__" = some (some (.builtin "ValueError.__init__"))) (sVE : PySem.W.subIn K (.ref C) (.type "ValueError") = some true) (mroC : PySem.W.mroIn K C (.ref C) = some true) (noAny : PySem.W.nsIn K cStatics "thirdparty.any" = some none) (noSup : PySem.W.nsIn K mainGlobals "super" = some none)
    (top : (P.main.scope.names.lookup ("super" : Str)).isSome = false)
    (lI : K.lookup fI = some ⟨oc, od, .func (PySem.W.ksFn "__init__" qual params [.Expr (.Call (.Attribute (.Call (.Name "super" p0) [] [] p1) "__init__" p2) [.Constant (.str txt) j p3] [] p4) p5, .Assign [.Attribute (.Name "self" q1) fld q2] (.Name par q3) q4] scope dV kV doc pm an (.ref cda) ct cc), osl⟩)
    (cI : PySem.W.codeIn K (.ref cda) qual = true) (lcda : K.lookup cda = some ⟨ccl, cdd, .fields vs, ccs⟩) (hvs : vs[2]? = some (.str file tf)) (hfile : ((P.main.file : Str) == file) = true) (lcc : K.lookup cc = some ⟨cl, cld, .cell (some (.ref C)), csl⟩)
    (ga : PySem.W.findIn K (.ref C) "__getattribute__" = some (some (.builtin "BaseException.__getattribute__"))) (gg : PySem.W.findIn K (.ref C) "__getattr__" = some none) (hdC : PySem.W.hasDictIn K C = true) (ha : PySem.W.findIn K (.ref C) "__class__" = some (some (.builtin "object.__class__")))
    (hn : PySem.W.specialIn K (.builtin "object.__class__") "__get__" = some (some (.builtin "getset_descriptor.__get__"))) (ht : PySem.W.takesIn K (.builtin "object.__class__") = some true) (hm : PySem.W.mroIn K C (.type "object") = some true) (hs : PySem.W.isClsIn K C = true)
    (S : nscB ["self", par, "__class__"] ["self", par] ["__class__"] scope = true) (hsup : scope.names.lookup ("super" : Str) = some .globalImplicit) (har : ∃ ar : Arg, (params.posonlyargs ++ params.args).head? = some ar ∧ ar.arg = "self")
    (hev : ∃ pl : Env → Sem Bool, ∀ env : Env, eval (.Call (.Attribute (.Call (.Name "super" p0) [] [] p1) "__init__" p2) [.Constant (.str txt) j p3] [] p4) env = (do
        let ov ← attributeBase (.Call (.Name "super" p0) [] [] p1) "__init__" env (eval (.Call (.Name "super" p0) [] [] p1) env)
        standAt p2.atName
        let (f, first) ← holding [ov] (getMethod ov "__init__" (pl env))
        callWith p4 f first (backTo p4 (starEach [.Constant (.str txt) j p3] env)) []))
    (hp1 : (par == ("__debug__" : Str)) = false) (hp2 : (par == ("__classdict__" : Str)) = false)
    (hw1 : ∀ env : Env, swapsWith (.Call (.Attribute (.Call (.Name "super" p0) [] [] p1) "__init__" p2) [.Constant (.str txt) j p3] [] p4) none p5.line env = pure false) (hw2 : ∀ env : Env, swapsWith (.Name par q3) (some (.Attribute (.Name "self" q1) fld q2)) q4.line env = pure false)
    (hb : ∀ (us : List Value), us.length = 2 → bindArgs (PySem.W.ksFn "__init__" qual params [.Expr (.Call (.Attribute (.Call (.Name "super" p0) [] [] p1) "__init__" p2) [.Constant (.str txt) j p3] [] p4) p5, .Assign [.Attribute (.Name "self" q1) fld q2] (.Name par q3) q4] scope dV kV doc pm an (.ref cda) ct cc) ⟨us, []⟩ = pure ((["self", par] : List Str).zip us)) :
    ∃ fd, ErrF P K C fI fld par txt qual fd :=
  let ⟨ar, h1, h2⟩ := har
  ⟨_, ⟨⟨⟨⟨nm, q, N, bs, bm, sn, sub, ab, col, dd, k0, k1, k2, k3, k5, xL, rb⟩, sa, exC, tyC, kC⟩, iC, tI, noF, sup, sVE, mroC, noAny, noSup, top,
    ⟨oc, od, osl, params, _, scope, dV, kV, doc, pm, an, cda, ct, cc, ccl, cdd, vs, ccs, file, tf, cl, cld, csl, p0, p1, p2, p3, p4, p5, q1, q2, q3, q4, j, ar, rfl, lI, cI, lcda, hvs, hfile, lcc, nscope_by S, hsup, h1, h2, hev, hp1, hp2, hw1, hw2, rfl, hb⟩⟩,
    ⟨ga, gg, exC, hdC⟩, ⟨ga, gg, exC, hdC, ha, hn, ht, hm⟩, hs⟩⟩
/-! ### the own error classes by their names -/
def clL (l : List (Str × (Addr × Str))) : Str → Option (Addr × Str) := fun c => l.lookup c
theorem cl_all {l : List (Str × (Addr × Str))} {R : Str → Addr → Str → Prop} (h : ∀ p ∈ l, R p.1 p.2.1 p.2.2) : ∀ cn C f, clL l cn = some (C, f) → R cn C f := fun cn C f e => h (cn, (C, f)) (PySem.mem_of_lookup e)
theorem fa_nil {α : Type} {R : α → Prop} : ∀ p ∈ ([] : List α), R p := fun _ h => nomatch h
theorem fa_cons {α : Type} {R : α → Prop} {a : α} {l : List α} (h : R a) (t : ∀ p ∈ l, R p) : ∀ p ∈ a :: l, R p := fun p hp => by
  rcases List.mem_cons.mp hp with e | q
  · exact e ▸ h
  · exact t p q
def HdF (K : PySem.W.Frag) (C : Addr) (c : Value) (b : Bool) : Prop := PySem.W.exmOne K (.ref C) c = some b ∧ PySem.W.kitOne K (.ref C) c = some b
theorem hd_ref {K : PySem.W.Frag} {C D : Addr} {b : Bool} (h1 : PySem.W.subIn K (.ref D) (.type "BaseException") = some true) (h2 : PySem.W.isClsIn K D = true) (h3 : PySem.W.typeIn K (.ref D) = some (.type "type")) (h4 : PySem.W.subIn K (.ref C) (.ref D) = some b) (h5 : b = true ∨ C ≠ D) : HdF K C (.ref D) b := by
  have h2' : (PySem.W.clsIn K D).isSome = true := h2
  have e0 : PySem.W.kitCls K (.ref C) (.ref D) = some b := by
    unfold PySem.W.kitCls
    dsimp only
    rw [h2', h3, if_pos (by decide)]; exact h4
  constructor
  · unfold PySem.W.exmOne
    rw [h1, if_pos (by decide)]; exact e0
  · unfold PySem.W.kitOne
    by_cases c : (Value.ref C == Value.ref D) = true
    · rw [if_pos c]
      rcases h5 with rfl | h5
      · rfl
      · have : C = D := by simpa using c
        exact absurd this h5
    · rw [if_neg c]; exact e0
theorem hd_type {K : PySem.W.Frag} {C : Addr} {T : String} {b : Bool} (h1 : PySem.W.subIn K (.type T) (.type "BaseException") = some true) (h2 : PySem.W.kitMeta T = true) (h4 : PySem.W.subIn K (.ref C) (.type T) = some b) : HdF K C (.type T) b := by
  have e0 : PySem.W.kitCls K (.ref C) (.type T) = some b := by
    unfold PySem.W.kitCls
    dsimp only
    rw [if_pos h2]; exact h4
  constructor
  · unfold PySem.W.exmOne
    rw [h1, if_pos (by decide)]; exact e0
  · unfold PySem.W.kitOne
    rw [if_neg (by simp)]; exact e0
theorem hd_el {K : PySem.W.Frag} {C : Addr} {c : Value} {tb : List (Str × Bool)} {cn : Str} {b0 : Bool} (e : tb.lookup cn = some b0) (h : HdF K C c b0) : ∀ b, tb.lookup cn = some b → PySem.W.exmOne K (.ref C) c = some b ∧ PySem.W.kitOne K (.ref C) c = some b := fun b hb => by
  rw [e] at hb; cases hb; exact h
end DE
namespace DE
open PyProof.Rows PySem.Spec PySem L2
/-! ### d == () -/
def pEqE (d e : D) : Mo D := match d, e with
  | .tup xs, .tup [] => rt (.bl xs.isEmpty)
  | _, _ => stop
/-! ### t * n -/
def pRepT (d e : D) : Mo D := match d, e with
  | .tup xs, .int k => if xs.isEmpty = false ∧ 2 ≤ k ∧ k ≤ 1000 ∧ xs.length ≤ 1000 then rt (.tup (List.replicate k.toNat xs).flatten) else stop
  | _, _ => stop
theorem DvA.rep {K : PySem.W.Frag} {Γ : Gam} {G : Hp} {vs : List V} {ds : List D} (h : DvA K Γ G vs ds) : ∀ n : Nat, DvA K Γ G (List.replicate n vs).flatten (List.replicate n ds).flatten
  | 0 => .nil
  | n + 1 => by
    rw [List.replicate_succ, List.replicate_succ, List.flatten_cons, List.flatten_cons]; exact h.append (h.rep n)
section
variable {X : Cx} {Γ : Gam} {W : WX} {k : Nat}
theorem o_eqE (hu : X.A.units + 64 < cLine) : BinD X Γ W (compareOp .Eq) pEqE := by
  intro pins s σ H x y v u Q I rx ry ⟨H0, G0, G, gg, σ', d, e, dx, dy, q⟩
  unfold pEqE at q
  split at q
  · rename_i xs
    obtain ⟨l, vs, rfl, h3, h4⟩ := Dv.tup_inv dx
    obtain ⟨l', vs', rfl, h3', h4'⟩ := Dv.tup_inv dy
    cases h4'
    obtain ⟨us, r1, p1, _⟩ := I.tuple (q.1.sub.sqT h3)
    obtain ⟨us', r2, p2, _⟩ := I.tuple (q.1.sub.sqT h3')
    cases r2
    cases rx; cases ry
    refine SeqAt.eq_tupleAt (e := fun _ => true) p1 p2 (by omega) (fun j _ h2 => absurd h2 (Nat.not_lt_zero j)) ⟨.bl xs.isEmpty, H, I, ?_, q.here (.bl _)⟩
    have hl : us.length = xs.length := r1.length.symm.trans h4.length
    cases xs with
    | nil => cases us with
      | nil => rfl
      | cons a b => cases hl
    | cons a b => cases us with
      | nil => cases hl
      | cons a b => rfl
  · exact q.stop
theorem o_repT : BinD X Γ W (binaryOp .Mult) pRepT := by
  intro pins s σ H x y v u Q I rx ry ⟨H0, G0, G, gg, σ', d, e, dx, dy, q⟩
  unfold pRepT at q
  split at q
  · rename_i xs k
    split at q
    · rename_i c
      obtain ⟨c0, c1, c2, c3⟩ := c
      obtain ⟨l, vs, rfl, h3, h4⟩ := Dv.tup_inv dx
      cases dy
      refine op_repT pins s σ H _ _ v u Q I rx ry ⟨l, k, vs, rfl, rfl, q.1.sub.sqT h3, fun e => ?_, c1, c2, by rw [h4.length]; exact c3, fun p hp => ?_⟩
      · subst e
        cases h4
        cases c0
      · have gp : G p = none := by
          cases z : G p with
          | none => rfl
          | some u => rw [q.1.sub _ _ z] at hp; cases hp
        exact q.new hp (.tup (SqT.of upd_same) ((h4.rep _).mono (Gr.upd gp)))
    · exact q.stop
  · exact q.stop
end
/-! ### enumerate(tuple) -/
set_option maxHeartbeats 1000001 in
theorem enum_new1 {v : Value} {o : Obj} {J : Heap → Prop} (B : Begins v o J) : Meets (Builtin.«enumerate.__new__» ⟨[.type "enumerate", v], []⟩) fun _ R s => J s.heap ∧
    R (.ok (.ret (.ref (s.heap.push o).objs.size))) { s with heap := (s.heap.push o).push { cls := .type "enumerate", data := .fields #[.none, .bool false, .ref s.heap.objs.size, rawInt 0, .none, .none] } } :=
  .of_wp fun prog w A R s hyp => by
    obtain ⟨hp, gl, dd, tt, os⟩ := s
    obtain ⟨j, fin⟩ := hyp
    have sub_e := sub_enumerate
    have go : ∀ {A' : Around} {E Q : Value → Shared → Prop}, Q (.ref hp.objs.size) ⟨hp.push o, gl, dd, tt, os⟩ → wpAny (model prog w) A' (pyIter v) Q E ⟨hp, gl, dd, tt, os⟩ := fun z => B.iter prog w _ _ ⟨hp, gl, dd, tt, os⟩ _ j z
    wp_walk using go
    refine wpAny_stack_any fun _ => wpAny_pure ?_
    split
    · rename_i cc _ _ _ _ _
      cases (cc == Value.type "enumerate") <;> (wp_walk using go; exact ⟨_, rfl, fin⟩)
    · wp_walk using go; exact ⟨_, rfl, fin⟩
theorem enum_begun {prog : Program} {w : World} {A : Around} {E Q : Value → Shared → Prop} {s : Shared} {v : Value} {o : Obj} {J : Heap → Prop} (B : Begins v o J) (j : J s.heap)
    (fin : ∀ h', IsEnum h' (s.heap.objs.size + 1) s.heap.objs.size 0 .none → h'.get? s.heap.objs.size = some o → (∀ b z, s.heap.get? b = some z → h'.get? b = some z) → Q (.ref (s.heap.objs.size + 1)) { s with heap := h' }) :
    wpAny (model prog w) A (call (.type "enumerate") [v]) Q E s := by
  refine callType_new F.called_enumerate (by decide) (F.typeCall_enumerate_1 _) (F.newCall_enumerate_1 _) (fun obj => F.args_object_init_2 obj _) F.entry_enumerate_new (enum_new1 B) ⟨j, ?_⟩
  have size1 : (s.heap.push o).objs.size = s.heap.objs.size + 1 := Heap.size_push ..
  have made := Heap.get?_push_size (s.heap.push o) (o := { cls := .type "enumerate", data := .fields #[.none, .bool false, .ref s.heap.objs.size, rawInt 0, .none, .none] }) rfl
  show _ ∧ _
  rw [size1] at made ⊢
  exact ⟨⟨_, made, rfl⟩, fin _ made (Heap.get?_push_of_some _ (Heap.get?_push_size _ B.free)) fun b z x => Heap.get?_push_of_some _ (Heap.get?_push_of_some _ x)⟩
/-- the tuple at a, each item in a new pair -/
def Itu (K : PySem.W.Frag) (a : Addr) : It where
  go i H := ∃ xs x, SqT K H a xs ∧ xs[i]? = some x
  yld i H v H' := ∃ q x, v = .ref q ∧ H q = none ∧ H' = upd H q (.tup [.int (i : Nat), x]) ∧ ∀ xs, SqT K H a xs → xs[i]? = some x
  stop i H := ∃ xs, SqT K H a xs ∧ xs.length = i
theorem apart {h : Heap} {a b : Addr} {o o' : Obj} (h1 : h.get? a = some o) (h2 : h.get? b = some o') (n : o.cls ≠ o'.cls) : a ≠ b := by
  rintro rfl
  rw [h1] at h2
  cases h2
  exact n rfl
theorem turn_enumT {P : Program} {w : World} {K : PySem.W.Frag} {elts : List Expr} {kk : Nat} {tpos : Pos} (a e it : Addr) :
    Turn P w K (.Tuple elts kk tpos) (Itu K a) [e, it] e (fun i h => (∃ old, IsEnum h e it ((i : Nat) : Int) old) ∧ h.IsTupleIter it a i ∧ e ≠ it) where
  mem := List.mem_cons_self
  obj i h st b hb := by
    obtain ⟨⟨old, he⟩, ⟨o, ho, _, hd⟩, _⟩ := st
    rcases (by simpa using hb : b = e ∨ b = it) with rfl | rfl
    · exact ⟨_, he, fun v q => nomatch q⟩
    · exact ⟨o, ho, fun v q => by rw [hd] at q; cases q⟩
  keep i h h' st k := by
    obtain ⟨⟨old, he⟩, hi, ne⟩ := st
    exact ⟨⟨old, k e (by simp) _ he⟩, hi.at fun o q => k it (by simp) o q, ne⟩
  item := by
    intro X hP hw hK hc i pins s σ H E I hf st hg; subst hP; subst hw; subst hK
    obtain ⟨⟨old, he⟩, hit, ne⟩ := st
    obtain ⟨xs, x, hq, hx⟩ := hg
    obtain ⟨its, rv, p, _⟩ := I.tuple hq
    obtain ⟨u, hu, ru⟩ := rv.get hx; have el := Heap.lt_size he
    have il : it < s.heap.objs.size := let ⟨_, q, _⟩ := hit; Heap.lt_size q
    have ai : a ≠ it := by
      obtain ⟨_, q1, c1, _⟩ := hit
      obtain ⟨_, q2, c2, _⟩ := p
      exact apart q2 q1 (by rw [c1, c2]; decide)
    have ae : e ≠ a := by
      obtain ⟨_, q2, c2, _⟩ := p
      exact apart he q2 (by rw [c2]; exact (show Value.type "enumerate" ≠ Value.type "tuple" by decide))
    have iu : i < its.toArray.size := by
      have z := (List.getElem?_eq_some_iff.mp hu).1
      simpa using z
    refine wpAny_pyNext_enum_itemD (Draws.tuple (A := X.A.in1) (I.ok.hd hc) it a ai its.toArray) he ⟨hit, p⟩ iu ne (by simp [ne, ae]) fun x' h' tk hp' ho hst hT hz hk => ?_
    obtain rfl : x' = u := by
      rw [show its.toArray[i]? = its[i]? by simp, hu] at hp'
      exact (Option.some.inj hp').symm
    refine ⟨_, rfl, wpAny_letOwnedTupleGo_enum (s := { s with heap := h', toks := tk + 1 }) ho fun h2 he2 sb => ?_⟩
    have hT2 : h2.get? s.heap.objs.size = some { cls := .type "tuple", data := .seq #[.int i tk, x'] } := (sb.2 _ (Nat.ne_of_gt el)).trans hT
    have I1 : Inv X pins σ (upd H s.heap.objs.size (.tup [.int (i : Nat), x])) { s with heap := h2, toks := tk + 1 } :=
      I.turnedNew (ch := [e, it]) (fun b z hb q => by
        rw [List.mem_cons, List.mem_singleton, not_or] at hb
        exact (sb.2 b hb.1).trans (hk b z hb.1 hb.2 q)) hf (Nat.le_refl _) ⟨by show 2 ≤ sizeLine; decide, [.int i tk, x'], .cons ⟨_, rfl⟩ (.cons ru .nil), ⟨_, hT2, rfl, _, rfl⟩⟩
    refine ⟨.ref s.heap.objs.size, _, I1, rfl, ⟨_, x, rfl, I.hok.fresh (Nat.le_refl _), rfl, fun ys hy => by rw [I.tuple_inj hy hq]; exact hx⟩, ⟨⟨x', ?_⟩, hst.1.at fun o q => (sb.2 it (Ne.symm ne)).trans q, ne⟩, fun b hb => ?_⟩
    · rw [show ((i + 1 : Nat) : Int) = (i : Int) + 1 by omega]; exact he2
    · have bl : b < s.heap.objs.size := by
        rcases (by simpa using hb : b = e ∨ b = it) with rfl | rfl
        · exact el
        · exact il
      rw [upd_ne (Nat.ne_of_lt bl)]
      exact (hf b hb).1
  done := by
    intro X hP hw hK hc i pins s σ H E I hf st hg; subst hP; subst hw; subst hK
    obtain ⟨⟨old, he⟩, hit, ne⟩ := st
    obtain ⟨xs, hq, hx⟩ := hg
    obtain ⟨its, rv, p, _⟩ := I.tuple hq
    have ai : a ≠ it := by
      obtain ⟨_, q1, c1, _⟩ := hit
      obtain ⟨_, q2, c2, _⟩ := p
      exact apart q2 q1 (by rw [c1, c2]; decide)
    have hl := rv.length
    obtain ⟨f0, f1, f2, f3, f4, f5⟩ := hf it (by simp); have en : its.toArray.size = i := by rw [List.size_toArray]; omega
    subst en
    exact wpAny_pyNext_enum_endD (Draws.tuple (A := X.A.in1) (I.ok.hd hc) it a ai its.toArray) he ⟨hit, p⟩ fun h' eb => ⟨rfl, I.turned (t' := s.toks) (fun b o hb q => eb b o hb q) f0 f1 f3 f4 f5⟩
  self A i s Q E st h := by
    obtain ⟨⟨_, he⟩, _⟩ := st
    exact wpAny_pyIter_enum he h
theorem pi_enumT {X : Cx} {e : Expr} {ta : TA} {p pos tpos : Pos} {elts : List Expr} {kk : Nat} (hg : Gl X "enumerate") (hm : X.mg "enumerate" = none) (ha : PA X [e] ta) (hs : starEach [e] X.env = [(false, eval e X.env)] := by rfl) :
    PI X (.Tuple elts kk tpos) (.Call (.Name "enumerate" p) [e] [] pos) fun σ H R => ta σ H fun vs H1 => ∃ a xs, vs = [.ref a] ∧ SqT X.K H1 a xs ∧ R (Itu X.K a) H1 := by
  refine ⟨fun pins s σ H R I h => Call_ (ld_blt I hg hm boot_enumerate (PyProof.Rows.callWith_type1 (thn (ha.run pos pins s σ H _ I h) ?_) hs rfl))⟩
  rintro us s1 ⟨vs, H1, I1, r1, a, xs, rfl, hq, q⟩
  rcases r1 with _ | ⟨r, rr⟩
  cases rr
  cases r
  obtain ⟨its, rv, p', _⟩ := I1.tuple hq
  refine enum_begun (begins_tuple a its.toArray) p' fun h' he hit hk => wpAny_pyIter_enum he ⟨s1.heap.objs.size + 1, [s1.heap.objs.size + 1, s1.heap.objs.size], _, _, H1, rfl, I1.kept (t' := s1.toks) hk, turn_enumT a (s1.heap.objs.size + 1) s1.heap.objs.size, ⟨⟨.none, he⟩, ⟨_, hit, rfl, rfl⟩, Nat.succ_ne_self _⟩, fun b hb => ?_, q⟩
  have le : s1.heap.objs.size ≤ b := by
    rcases (by simpa using hb : b = s1.heap.objs.size + 1 ∨ b = s1.heap.objs.size) with rfl | rfl
    · exact Nat.le_succ _
    · exact Nat.le_refl _
  exact I1.fpOk le (I1.hok.fresh le)
theorem walk_enumT {K : PySem.W.Frag} {a : Addr} {xs : List V} : Walk (Itu K a) xs.length (fun H => SqT K H a xs) (YPair (fun i => some (.int (i : Nat))) (fun i => xs[i]?)) where
  goes i _ hi q := ⟨xs, xs[i], q, by simp [hi]⟩
  stops _ q := ⟨xs, q, rfl⟩
  yields := by
    rintro i H v H' _ sq ⟨T1, x1, y1, y2, y3, y4⟩
    exact ⟨T1, .int (i : Nat), x1, y1, y2, y3, rfl, y4 xs sq⟩
/-- the pairs of an enumerate -/
def pairsD (xs : List D) : List D := (List.range xs.length).map fun (i : Nat) => D.tup [.int (i : Int), xs.getD i .non]
def fForEn (f : Mo (List D)) (t : Mt) (b : Ms) : Ms := sb f fun ds => match ds with
  | [.tup xs] => loop t b (pairsD xs)
  | [.lst xs] => loop t b (pairsD xs)
  | _ => sStop
section
variable {X : Cx} {Γ : Gam} {W : WX} {e : Expr} {pos : Pos} {body : List Stmt}
theorem pairsD_drop {xs : List D} {i : Nat} {d : D} (h : xs[i]? = some d) : (pairsD xs).drop i = D.tup [.int (i : Int), d] :: (pairsD xs).drop (i + 1) := by
  obtain ⟨il, e⟩ := List.getElem?_eq_some_iff.mp h
  have l : i < (pairsD xs).length := by unfold pairsD; simpa using il
  rw [List.drop_eq_getElem_cons l]
  have z : (pairsD xs)[i] = D.tup [.int (i : Int), d] := by
    unfold pairsD
    simp [List.getD_eq_getElem?_getD, h]
  rw [z]
theorem pairsD_end (xs : List D) : (pairsD xs).drop xs.length = [] := by
  apply List.drop_eq_nil_of_le
  unfold pairsD; simp
/-- one turn of an enumerate -/
theorem enum_turn {K : PySem.W.Frag} {t : Mt} {kk : Ms} {js : List Nat} {gt : TG} (kg : TgS K Γ gt js t) {H0 G0 G1 : Hp} {Ds : Ends} {xs : List D} {vs : List V} (h4 : DvA K Γ G1 vs xs) {i : Nat} {x : V} {σ : L2.St} {H H' : Hp}
    (hp : ∃ G g, Gr G1 G ∧ tSt K Γ W (loop t kk ((pairsD xs).drop i)) H0 G0 G g Ds σ H) (y : YPair (fun i => some (.int (i : Nat))) (fun i => vs[i]?) i H x H') :
    gt x σ H' fun σ2 H2 => tS K Γ W kk { Ds with nx := fun σ H => ∃ G g, Gr G1 G ∧ tSt K Γ W (loop t kk ((pairsD xs).drop (i + 1))) H0 G0 G g Ds σ H, ct := fun σ H => ∃ G g, Gr G1 G ∧ tSt K Γ W (loop t kk ((pairsD xs).drop (i + 1))) H0 G0 G g Ds σ H, bk := Ds.nx } σ2 H2 := by
  obtain ⟨G, g, gr, h⟩ := hp
  obtain ⟨q, a, b, rfl, hq, rfl, ea, eb⟩ := y
  obtain rfl := Option.some.inj ea
  obtain ⟨d, hd, dv⟩ := h4.get' i eb
  rw [pairsD_drop hd] at h
  have gq : G q = none := by
    cases z : G q with
    | none => rfl
    | some u => rw [h.1.sub _ _ z] at hq; cases hq
  have gr2 : Gr G (upd G q (.tup [.int (i : Nat), b])) := Gr.upd gq
  obtain ⟨E, o, g', ee, hh⟩ := h
  have h : tSt K Γ W (loop t kk (D.tup [.int (i : Int), d] :: (pairsD xs).drop (i + 1))) H0 G0 (upd G q (.tup [.int (i : Nat), b])) g Ds σ (upd H q (.tup [.int (i : Nat), b])) := ⟨E.new hq, o, g', ee, by
    cases o with
    | nx => exact fun σ3 G3 H3 gr3 => hh σ3 G3 H3 (gr2.trans gr3)
    | brk => exact fun σ3 G3 H3 gr3 => hh σ3 G3 H3 (gr2.trans gr3)
    | ct => exact fun σ3 G3 H3 gr3 => hh σ3 G3 H3 (gr2.trans gr3)
    | ret d3 => exact fun v3 σ3 G3 H3 gr3 => hh v3 σ3 G3 H3 (gr2.trans gr3)
    | exc x3 => exact fun C dd σ3 G3 H3 gr3 => hh C dd σ3 G3 H3 (gr2.trans gr3)⟩
  have dt : Dv K Γ (upd G q (.tup [.int (i : Nat), b])) (.ref q) (.tup [.int (i : Int), d]) := .tup (SqT.of upd_same) (.cons (.int _) (.cons ((dv.mono gr).mono gr2) .nil))
  exact loop_turn h dt (fun Q g'' e'' k => kg _ σ _ Q H0 G0 _ g g'' _ h.1 dt e'' fun σ' E' _ => k σ' E') fun σ3 G3 H3 g3 gr3 h3 => ⟨G3, g3, (gr.trans gr2).trans gr3, h3⟩
theorem s_forEn {elts : List Expr} {k2 : Nat} {tpos p2 p : Pos} {f : Mo (List D)} {t : Mt} {kk : Ms} {js : List Nat} {gt : TG} (hc : X.calm = true) (hp : PassesOwn (model X.prog X.w) X.A X.env X.xe) (hi : DA X Γ W [e] f) (hg : DG X Γ (.Tuple elts k2 tpos) gt js t) (hb : DB X Γ W body kk)
    (hgl : Gl X "enumerate") (hm : X.mg "enumerate" = none) (hs1 : starEach [e] X.env = [(false, eval e X.env)] := by rfl)
    (hs : ∀ x, foldedSetIterable (.Call (.Name "enumerate" p) [e] [] p2) X.env x = pure x := by intro _; rfl) : DS_ X Γ W (.For (.Tuple elts k2 tpos) (.Call (.Name "enumerate" p) [e] [] p2) body [] pos) (fForEn f t kk) := by
  obtain ⟨pg, kg⟩ := hg
  refine (ps_for hp hc (PI.or (pi_enum hgl hm hi hs1) (pi_enumT hgl hm hi hs1)) pg hb hs).imp fun Ds σ H h => ?_
  obtain ⟨H0, G0, G, g, h⟩ := h
  by_cases hl : ∃ xs g1, f g = some (.ok [D.lst xs], g1)
  · refine .inl ⟨H0, G0, G, g, h.bind (R1 := RA X.K Γ) fun ds vs g1 G1 H1 hfe gr r1 h1 => ?_⟩
    obtain ⟨xs, g2, hl⟩ := hl
    rw [hl] at hfe; cases hfe
    rcases r1 with _ | ⟨dv, r2⟩
    cases r2
    obtain ⟨l, ws, rfl, h3, h4⟩ := Dv.lst_inv dv
    have h1 : tSt X.K Γ W (loop t kk (pairsD xs)) H0 G0 G1 g1 Ds σ H1 := h1
    refine ⟨l, ws, rfl, SqL.of (h1.1.sub _ _ h3), for_it walk_enum (fun i σ2 H2 => ∃ G g, Gr G1 G ∧ tSt X.K Γ W (loop t kk ((pairsD xs).drop i)) H0 G0 G g Ds σ2 H2) ⟨G1, g1, Gr.refl _, h1⟩ (fun i σ2 H2 _ ⟨G2, g2, gr2, h2⟩ => SqL.of (h2.1.sub _ _ (gr2 _ _ h3))) (fun i x σ2 H2 H' hi hp' y => enum_turn kg h4 hp' y) ?_⟩
    rintro σ2 H2 ⟨G2, g3, gr2, h2⟩
    rw [h4.length, pairsD_end] at h2
    exact h2.next rfl (Gr.refl _) h2.1
  · refine .inr ⟨H0, G0, G, g, h.bind (R1 := RA X.K Γ) fun ds vs g1 G1 H1 hfe gr r1 h1 => ?_⟩
    split at h1
    · rename_i xs
      rcases r1 with _ | ⟨dv, r2⟩
      cases r2
      obtain ⟨l, ws, rfl, h3, h4⟩ := Dv.tup_inv dv
      refine ⟨l, ws, rfl, h1.1.sub.sqT h3, for_it walk_enumT (fun i σ2 H2 => ∃ G g, Gr G1 G ∧ tSt X.K Γ W (loop t kk ((pairsD xs).drop i)) H0 G0 G g Ds σ2 H2) ⟨G1, g1, Gr.refl _, h1⟩ (fun i σ2 H2 _ ⟨G2, g2, gr2, h2⟩ => h2.1.sub.sqT (gr2.sqT h3)) (fun i x σ2 H2 H' hi hp' y => enum_turn kg h4 hp' y) ?_⟩
      rintro σ2 H2 ⟨G2, g3, gr2, h2⟩
      rw [h4.length, pairsD_end] at h2
      exact h2.next rfl (Gr.refl _) h2.1
    · exact absurd ⟨_, _, hfe⟩ hl
    · exact h1.stop
end
end DE
namespace DE
open PyProof.Rows PySem.Spec PySem L2
theorem kf_zero {P : Program} {w : World} {K : PySem.W.Frag} {mg : Str → Option Value} {base : Heap} {k n : Nat} {f : Addr} {fd : FuncData} {ps : List Str} {Γ : Gam} : FnG P w K mg base k f fd ps (dsp K Γ n fun _ _ => none) :=
  ⟨fun us H Q E ⟨_, _, _, _, _, _, _, _, _, _, z, _⟩ => (nomatch z), fun A outer s H args us vs Q E _ _ _ _ _ ⟨_, _, _, _, _, _, _, _, _, _, z, _⟩ => (nomatch z)⟩
end DE
namespace DE
open PyProof.Rows PySem.Spec PySem L2
open LamX (CodeO TabB Tabs lamEnv lamCx)
/-! ### a lambda is made -/
section
variable {X : Cx} {σ : L2.St} {H : Hp} {pins : List (Addr × Obj)} {s : Shared}
abbrev lamO (q : Str) (params : Arguments) (body : Expr) (scope : Scope) (cl : List (Str × Addr)) (dV doc pm : Value) (c' : Addr) (ct : Value) : Obj := PySem.W.kdv_obj "<lambda>" q params (.expr body) scope cl dV doc pm c' ct
/-- the maker's tail: the code object is new, or stands in the table -/
theorem lam_tail {T : List (Addr × Str)} {c P : Addr} {params : Arguments} {body : Expr} {scope : Scope} {pos : Pos} {dV : Value} {E Q : Value → Shared → Prop} (I : L2.Inv X pins σ H s) (B : TabB X.base X.mg c P) (hc0 : X.env.code = .ref c)
    (hm : (P, X.env.qual ++ "<lambda>") ∈ T) (hu : ∀ p ∈ T, p.1 = P → p.2 = X.env.qual ++ "<lambda>") (tb : Tabs T H) (fr : ∀ y ∈ scope.names, y.2 = .free → ∃ c, X.env.cells.lookup y.1 = some c)
    (go : ∀ (f c' : Addr) (pm doc ct : Value) (H1 : Hp) (s' : Shared), L2.Inv X pins σ H1 s' → (∀ b o, b ≠ P → H b = some o → H1 b = some o) → Tabs T H1 → (∀ b o, b ≠ P → s.heap.get? b = some o → s'.heap.get? b = some o) → (∀ b, H b = none → b < s.heap.objs.size → H1 b = none) →
      s'.heap.get? f = some (lamO (X.env.qual ++ "<lambda>") params body scope (cloFrom X.env.cells scope.names []) dV doc pm c' ct) → H1 f = none → f ∉ frs X.stack → H1 c' = some (CodeO c' (X.env.qual ++ "<lambda>")) → Q (.ref f) s') :
    wpAny (model X.prog X.w) X.A (makeTail "<lambda>" (X.env.qual ++ "<lambda>") params (.expr body) scope X.env dV .none none pos pos.line) Q E s := by
  obtain ⟨ps, tP, t3, tA⟩ := tb _ hm
  have tabAt : s.heap.get? P = some { cls := .none, data := .fields ps } := I.hok P _ tP
  have notFr : ∀ f, s.heap.objs.size ≤ f → f ∉ frs X.stack := fun f hf z => (List.mem_cons.mp (I.stkSub _ z)).elim (fun e => absurd (Nat.lt_of_lt_of_le I.lt (e ▸ hf)) (Nat.lt_irrefl _)) fun e => I.nofs hf e
  cases hc : PySem.codeAmong pos ps.toList with
  | some cv =>
    obtain ⟨c', rfl, co⟩ := tA pos cv hc
    refine PySem.W.kdv_makeTailHit (mg := X.mg) (c := c) (P := P) (ps := ps) (closure_ok fr) I.ok.glob (I.mod.glob.keeps I.bk) hc0 (B.code.keeps I.bk) tabAt t3 hc (B.bm.keeps I.bk) fun ct doc h' tk k sz => ?_
    have k' := fun b o (z : s.heap.get? b = some o) => Heap.get?_push_of_some (lamO (X.env.qual ++ "<lambda>") params body scope (cloFrom X.env.cells scope.names []) dV doc ((X.mg "__name__").getD .none) c' ct) (k b o z)
    exact go h'.objs.size c' _ doc ct H _ (I.kept k') (fun _ _ _ z => z) tb (fun b o _ z => k' b o z) (fun _ z _ => z) (Heap.get?_push_size _ rfl) (I.hok.fresh sz) (notFr _ sz) co
  | none =>
    refine PySem.W.kdv_makeTail (mg := X.mg) (c := c) (P := P) (ps := ps) (closure_ok fr) I.ok.glob (I.mod.glob.keeps I.bk) hc0 (B.code.keeps I.bk) tabAt t3 hc B.gP (B.bm.keeps I.bk) fun c' ct doc h' tk hx ge lt rec tNew => ?_
    obtain ⟨c2, oc, vs, t, e2, hoc, hd, hv⟩ := rec
    cases e2
    obtain ⟨O, hO⟩ : ∃ O, O = lamO (X.env.qual ++ "<lambda>") params body scope (cloFrom X.env.cells scope.names []) dV doc ((X.mg "__name__").getD .none) c' ct := ⟨_, rfl⟩
    have nc : H c' = none := I.hok.fresh ge
    have big : s.heap.objs.size ≤ h'.objs.size := Nat.le_trans ge (Nat.le_of_lt lt)
    have I1 := LamX.inv_table (t' := tk) (more := #[rawInt pos.line, rawInt pos.col, .ref c']) (q := X.env.qual ++ "<lambda>") (h' := h'.push O) I tP (fun b o hb z => Heap.get?_push_of_some _ (hx b o hb z)) (Heap.get?_push_of_some _ tNew) ge ⟨oc, vs, t, Heap.get?_push_of_some _ hoc, hd, hv⟩
    have keep : ∀ b o, b ≠ P → H b = some o → upd (upd H P (.tbl (ps ++ #[rawInt pos.line, rawInt pos.col, .ref c']))) c' (CodeO c' (X.env.qual ++ "<lambda>")) b = some o := fun b o hb z => by
      rw [upd_ne (ne_of_none z nc), upd_ne hb]; exact z
    have isCode : ∀ {b q}, H b = some (CodeO b q) → b ≠ P := fun {b q} z w => by
      rw [w, tP] at z
      exact LamX.codeO_ne ps (Option.some.inj z).symm
    have nPc : P ≠ c' := ne_of_none tP nc
    have hO' : O = PySem.W.kdv_obj "<lambda>" (X.env.qual ++ "<lambda>") params (.expr body) scope (cloFrom X.env.cells scope.names []) dV doc ((X.mg "__name__").getD .none) c' ct := hO
    rw [← hO']
    refine go h'.objs.size c' ((X.mg "__name__").getD .none) doc ct _ _ I1 keep (fun p hp => ?_) (fun b o hb z => Heap.get?_push_of_some _ (hx b o hb z)) (fun b z hb => ?_) (by rw [hO]; exact Heap.get?_push_size _ rfl) ?_ (notFr _ big) upd_same
    · by_cases hb : p.1 = P
      · rw [hu p hp hb, hb]
        have eList : (ps ++ #[rawInt pos.line, rawInt pos.col, .ref c']).toList = ps.toList ++ [rawInt pos.line, rawInt pos.col, .ref c'] := by simp
        refine ⟨_, by rw [upd_ne nPc, upd_same], by rw [eList]; exact PySem.TriplesOk_snoc _ _ _ _ t3, fun p' cv z => ?_⟩
        rw [eList] at z
        rcases LamX.among_app _ t3 z with z | rfl
        · obtain ⟨c0, e1, e2⟩ := tA p' cv z
          exact ⟨c0, e1, keep _ _ (isCode e2) e2⟩
        · exact ⟨c', rfl, upd_same⟩
      · obtain ⟨ps', a1, a2, a3⟩ := tb p hp
        refine ⟨ps', keep _ _ hb a1, a2, fun p' cv z => ?_⟩
        obtain ⟨c0, e1, e2⟩ := a3 p' cv z
        exact ⟨c0, e1, keep _ _ (isCode e2) e2⟩
    · have h1 : b ≠ c' := Nat.ne_of_lt (Nat.lt_of_lt_of_le hb ge)
      have h2 : b ≠ P := fun w => by rw [w, tP] at z; cases z
      rw [upd_ne h1, upd_ne h2]; exact z
    · have n1 : h'.objs.size ≠ c' := Nat.ne_of_gt lt
      have n2 : h'.objs.size ≠ P := Nat.ne_of_gt (Nat.lt_of_lt_of_le (Heap.lt_size tabAt) big)
      rw [upd_ne n1, upd_ne n2]; exact I.hok.fresh big
end
/-! ### the lambda's frame -/
/-- captured names, globals, and names of its own that the maker has not -/
structure LamN (N : List Str) (sc scope : Scope) : Prop where
  kind : scope.kind = .function
  plain : scope.isCoroutine = false ∧ scope.isGenerator = false
  nocell : ∀ y ∈ scope.names, y.2 ≠ .cell
  own : ∀ y ∈ N, scope.names.lookup y ≠ some .local
  caught : ∀ z ∈ scope.names, z.2 = .free → sc.names.lookup z.1 = some .cell ∨ sc.names.lookup z.1 = some .free
def lamNB (N : List Str) (sc scope : Scope) : Bool := decide (scope.kind = .function) && !scope.isCoroutine && !scope.isGenerator && (scope.names.all fun y => !decide (y.2 = .cell)) && (N.all fun y => !decide (scope.names.lookup y = some .local)) &&
  scope.names.all fun y => !decide (y.2 = .free) || decide (sc.names.lookup y.1 = some .cell) || decide (sc.names.lookup y.1 = some .free)
theorem lamN_by {N : List Str} {sc scope : Scope} (h : lamNB N sc scope = true) : LamN N sc scope := by
  unfold lamNB at h
  simp only [Bool.and_eq_true, Bool.or_eq_true, Bool.not_eq_true', decide_eq_true_eq, decide_eq_false_iff_not, List.all_eq_true] at h; obtain ⟨⟨⟨⟨⟨h1, h2⟩, h3⟩, h4⟩, h5⟩, h6⟩ := h
  refine ⟨h1, ⟨h2, h3⟩, h4, h5, fun y hy e => ?_⟩
  rcases h6 y hy with (z | z) | z
  · exact absurd e z
  · exact .inl z
  · exact .inr z
theorem LamN.has {X : Cx} {scope : Scope} (L : LamN X.N X.env.scope scope) (ok : X.Ok) : ∀ y ∈ scope.names, y.2 = .free → ∃ c, X.env.cells.lookup y.1 = some c := fun y hy e => (L.caught y hy e).elim (fun k => ok.has _ (.inl k)) fun k => ok.has _ (.inr k)
/-- what the lambda's cells hold is what the maker's hold -/
theorem clo_back {X : Cx} {scope : Scope} (L : LamN X.N X.env.scope scope) (ok : X.Ok) {y : Str} {c : Addr} (e : (cloFrom X.env.cells scope.names []).lookup y = some c) : X.env.cells.lookup y = some c := by
  rcases cloFrom_mem (PySem.mem_of_lookup e) with z | ⟨h1, h2⟩
  · exact absurd z List.not_mem_nil
  · obtain ⟨c1, hc⟩ := L.has ok _ h1 rfl
    obtain hc : X.env.cells.lookup y = some c1 := hc
    rw [h2, hc]; rfl
theorem clo_look {X : Cx} {scope : Scope} {y : Str} (hl : scope.names.lookup y = some .free) : ∃ c, (cloFrom X.env.cells scope.names []).lookup y = some c := mem_lookup (cloFrom_has (cells := X.env.cells) (acc := []) (PySem.mem_of_lookup hl))
theorem LamN.kinds {N : List Str} {sc scope : Scope} (L : LamN N sc scope) {y : Str} (h : scope.names.lookup y = some .free) : sc.names.lookup y = some .cell ∨ sc.names.lookup y = some .free := L.caught _ (PySem.mem_of_lookup h) rfl
theorem LamN.noC {N : List Str} {sc scope : Scope} (L : LamN N sc scope) {y : Str} : scope.names.lookup y ≠ some .cell := fun h => L.nocell _ (PySem.mem_of_lookup h) rfl
section
variable {X : Cx} {σ : L2.St} {H HZ : Hp} {s s1 : Shared} {pins : List (Addr × Obj)}
theorem lam_frame {A : Around} {outer : List Env} {E : XK} {scope : Scope} {f c' : Addr} {h₁ : Heap} {tk : Nat} {m : Str → Option Value} (I : L2.Inv X pins σ H s) (L : LamN X.N X.env.scope scope) (e0 : Env0 X.prog X.w X.K X.mg X.base A outer s1 HZ) (hd : A.handled = none)
    (un : Un (frs X.stack) [] H HZ s.heap s1.heap) (hns : h₁.Ns s1.heap.objs.size m) (kp : ∀ b o, s1.heap.get? b = some o → h₁.get? b = some o) :
    L2.Inv (lamCx X A outer s1 HZ E scope f c') [] σ HZ { s1 with heap := h₁, toks := tk } := by
  -- a cell of the maker's is there, and as it was
  have stays : ∀ {y : Str} {c : Addr} {v : Option Value}, X.env.cells.lookup y = some c → s.heap.IsCell c v → h₁.IsCell c v := fun {y c v} hy ⟨o, ho, dv⟩ => by
    obtain ⟨sl, z⟩ := un.any ho (I.freeC y c hy) (fun z => nomatch z)
    exact ⟨_, kp _ _ z, dv⟩
  have none0 : ∀ b : Addr, ¬ b ∈ (lamCx X A outer s1 HZ E scope f c').ex := fun b z => nomatch (show b ∈ ([] : List Addr) from z)
  have ok : (lamCx X A outer s1 HZ E scope f c').Ok := by
    refine ⟨e0.mod, L.kind, rfl, rfl, Nat.le_refl _, fun y z c k1 k2 => I.ok.inj y z c (clo_back L I.ok k1) (clo_back L I.ok k2), fun y hy => ?_, fun y c z _ => absurd (show false = true from z) Bool.false_ne_true, fun _ => hd, Around.frames_deeper e0.frames,
      .inr ⟨rfl, rfl⟩, fun b z => (none0 b z).elim, e0.bs, e0.bsz, fun b _ _ => none0 b, fun b z => (none0 b z).elim, e0.funs, e0.frf⟩
    exact (show scope.names.lookup y = some .cell ∨ scope.names.lookup y = some .free from hy).elim (fun k => absurd k L.noC) clo_look
  have names : ∀ (i : Nat) (y : Str) (v : V), X.N[i]? = some y → σ[i]? = some (some v) → Vis scope y → ∃ u, RelV v u ∧ Look (lamEnv X scope s1.heap.objs.size f c') h₁ m y u := by
    rintro i y v k1 k2 (k | k | k)
    · exact (L.own y (List.mem_of_getElem? k1) k).elim
    · exact (L.noC k).elim
    · obtain ⟨m', _, all⟩ := I.loc
      have hk := L.kinds k
      obtain ⟨u, r, q⟩ := all i y v k1 k2 (hk.elim (fun z => .inr (.inl z)) fun z => .inr (.inr z))
      obtain ⟨c, hc⟩ := clo_look (X := X) k
      have hb := clo_back L I.ok hc
      rcases q with ⟨lo, _⟩ | ⟨_, c3, e3, q⟩
      · have lo : X.env.scope.names.lookup y = some .local := lo
        rcases hk with z | z <;> (rw [z] at lo; cases lo)
      · rw [hb] at e3
        cases e3
        exact ⟨u, r, .inr ⟨.inr k, c, hc, stays hb q⟩⟩
  refine ⟨ok, rfl, e0.bare, Un.kept kp, ⟨m, hns, names⟩, fun y c e => ?_, e0.hok.fresh (Nat.le_refl _), fun y c e => ?_, fun q hq => (nomatch (show q ∈ ([] : List (Addr × Obj)) from hq)), e0.hok.kept kp, I.len⟩
  · obtain ⟨v, z⟩ := I.cell y c (clo_back L I.ok e)
    exact ⟨v, stays (clo_back L I.ok e) z⟩
  · obtain ⟨v, o, ho, _⟩ := I.cell y c (clo_back L I.ok e)
    exact un.free c o ho (I.freeC y c (clo_back L I.ok e)) (fun z => nomatch z)
end
end DE
namespace DE
open PyProof.Rows PySem.Spec PySem L2
open LamX (CodeO TabB Tabs lamEnv lamCx)
/-- called without arguments: the names it binds -/
def LamBd (fd : FuncData) (h : Heap) : Prop := ∃ bs : List (Str × Value), (∀ y ∈ bs, fd.scope.names.lookup y.1 = some .local) ∧
  ∀ (M : Model) (A : Around) (Q : List (Str × Value) → Shared → Prop) (E : Value → Shared → Prop) (s : Shared), (∀ T o, fd.defaults = .ref T → h.get? T = some o → s.heap.get? T = some o) → Q bs s → wpAny M A (bindArgs fd ⟨[], []⟩) Q E s
section
variable {X : Cx} {σ : L2.St} {H HZ : Hp} {s s1 : Shared} {pins : List (Addr × Obj)}
/-- the lambda that a def got, called there -/
theorem lam_act {Ng : List Str} {qg : Str} {sg : Scope} {g f c' : Addr} {cdg pm doc ct dV : Value} {params : Arguments} {body : Expr} {scope : Scope} {k i : Nat} {a : Str} {pn : List (Addr × Obj)} {xe : Value → Shared → Prop} {W : WX} {Eg : XK} {t : XK → TE} {p1 p2 : Pos}
    (I : L2.Inv X pins σ H s) (L : LamN X.N X.env.scope scope) (hf : s.heap.get? f = some (lamO (X.env.qual ++ "<lambda>") params body scope (cloFrom X.env.cells scope.names []) dV doc pm c' ct)) (fn : H f = none) (ffr : f ∉ frs X.stack)
    (hT : ∀ T, dV = .ref T → H T = none ∧ T ∉ frs X.stack) (bd : LamBd (PySem.W.kdv_fn "<lambda>" (X.env.qual ++ "<lambda>") params (.expr body) scope (cloFrom X.env.cells scope.names []) dV doc pm (.ref c') ct) s.heap)
    (tk : Takes ((cxOf (L2.CX X.prog X.w) X.prog X.w X.K X.mg X.base Ng qg sg g cdg X.A X.stack s H Eg).tr pn xe) W) (hr : Room (k + 1) (X.A.deeper (envOfC qg sg s.heap.objs.size g cdg))) (gu : (X.A.deeper (envOfC qg sg s.heap.objs.size g cdg)).guards = some [])
    (hb : ∀ (A : Around) (outer : List Env) (s : Shared) (H : Hp) (E : XK), Room k (A.deeper (lamEnv X scope s.heap.objs.size f c')) → A.guards = some [] → PE (lamCx X A outer s H E scope f c') body (t E))
    (hN : Ng[i]? = some a) (hv : Vis sg a) (hd : (a == ("__debug__" : Str)) = false := by
      decide) (hcd : (a == ("__classdict__" : Str)) = false := by decide) :
    PE ((cxOf (L2.CX X.prog X.w) X.prog X.w X.K X.mg X.base Ng qg sg g cdg X.A X.stack s H Eg).tr pn xe) (.Call (.Name a p1) [] [] p2)
      (fun σZ HZ Q => σZ[i]? = some (some (.ref f)) ∧ HZ c' = some (CodeO c' (X.env.qual ++ "<lambda>")) ∧ t (WE W σZ) σ HZ Q) := by
  refine ⟨fun pinsZ sZ σZ HZ Q IZ h => ?_⟩; obtain ⟨hs, hc, ht⟩ := h
  refine wpAny_Call_Name_kw (thn ((pe_var (pos := p1) (i := i) hN hv hd hcd).run pinsZ sZ σZ HZ (fun v H1 => v = .ref f ∧ H1 = HZ) IZ ⟨.ref f, hs, rfl, rfl⟩) fun u s1 ⟨v, H1, I1, r1, q1⟩ => ?_); obtain ⟨rfl, eH⟩ := q1
  rw [eH] at I1
  obtain rfl : u = Value.ref f := r1; have un : Un (frs X.stack) [] H HZ s.heap s1.heap := I1.base
  have of1 : s1.heap.get? f = some (lamO (X.env.qual ++ "<lambda>") params body scope (cloFrom X.env.cells scope.names []) dV doc pm c' ct) := un.keep f _ hf fn ffr (fun z => nomatch (show f ∈ ([] : List Addr) from z))
  refine PySem.W.callWith_F0 ⟨_, _, _, _, of1⟩ ?_; obtain ⟨⟨oc, vs, tt, hoc, hdc, hvc⟩, _, _⟩ := I1.hok c' _ hc
  obtain ⟨bs, hloc, hbind⟩ := bd
  refine wpAny_call (codeAny_mono (R := CR (L2.CX X.prog X.w) (envOfC qg sg s.heap.objs.size g cdg :: X.stack) X.prog X.w HZ s1 Q (WE W σZ)) ?_ fun r s' hq => ?_)
  · refine PySem.W.kla_callFunE hr.depth of1 rfl L.plain.1 L.plain.2 rfl ⟨c', oc, vs, tt, rfl, hoc, hdc, hvc⟩ ?_
    refine hbind _ _ _ _ s1 (fun T o e z => ?_) ?_
    · obtain ⟨n1, n2⟩ := hT T e
      exact un.keep T _ z n1 n2 (fun z => nomatch (show T ∈ ([] : List Addr) from z))
    refine wpAny_newFunctionEnv L.nocell hloc (fun h₁ hns hsb => ⟨I1.nolimit.fresh _ hsb, ?_⟩) L.kind
    show codeAny _ _ (.expr body (lamEnv X scope s1.heap.objs.size f c')) _ _; have kp : ∀ b o, s1.heap.get? b = some o → h₁.get? b = some o := fun b o e => hsb.extBut b o (Nat.ne_of_lt (Heap.lt_size e)) (Heap.get?_push_of_some _ e)
    have J : L2.Inv (lamCx X (X.A.deeper (envOfC qg sg s.heap.objs.size g cdg)) (envOfC qg sg s.heap.objs.size g cdg :: X.stack) s1 HZ (WE W σZ) scope f c') [] σ HZ { s1 with heap := h₁, toks := s1.toks + bs.length } := lam_frame I L I1.env0 hr.hd un hns kp
    refine PySem.W.kla_codeExpr (wpAny_mono ((hb _ _ s1 HZ _ (hr.deeper _) gu).run [] _ _ HZ Q J ht) (fun v s' hq => ?_) fun e s' hq => hq)
    obtain ⟨w', H', J', rv, q⟩ := hq; exact ⟨w', H', J'.os, J'.bare, J'.base, J'.hok, rv, q⟩
  · cases r with
    | error e => exact passAt tk σZ pinsZ HZ s1 e s' I1 hq
    | ok fl =>
      cases fl with
      | ret u => exact I1.after hq
      | next => exact False.elim hq
      | brk => exact False.elim hq
      | cont => exact False.elim hq
end
end DE
namespace DE
open PyProof.Rows PySem.Spec PySem L2
open LamX (CodeO TabB Tabs lamEnv lamCx)
/-! ### the value of a lambda expression -/
def LamMake (X : Cx) (P : Addr) (T : List (Addr × Str)) (params : Arguments) (body : Expr) (scope : Scope) (lpos : Pos) : Prop := ∀ (pins : List (Addr × Obj)) (s : Shared) (σ : L2.St) (H : Hp) (Q : Value → Shared → Prop), L2.Inv X pins σ H s → Tabs T H →
  (∀ (f c' : Addr) (pm doc ct dV : Value) (H1 : Hp) (s' : Shared), L2.Inv X pins σ H1 s' → (∀ b o, b ≠ P → H b = some o → H1 b = some o) → Tabs T H1 →
    s'.heap.get? f = some (lamO (X.env.qual ++ "<lambda>") params body scope (cloFrom X.env.cells scope.names []) dV doc pm c' ct) → H1 f = none → f ∉ frs X.stack → H1 c' = some (CodeO c' (X.env.qual ++ "<lambda>")) → (∀ D, dV = .ref D → H1 D = none ∧ D ∉ frs X.stack) →
    LamBd (PySem.W.kdv_fn "<lambda>" (X.env.qual ++ "<lambda>") params (.expr body) scope (cloFrom X.env.cells scope.names []) dV doc pm (.ref c') ct) s'.heap → Q (.ref f) s') →
  wpAny (model X.prog X.w) X.A (eval (.Lambda params body scope lpos) X.env) Q X.xe s
section
variable {X : Cx} {T : List (Addr × Str)} {c P : Addr} {params : Arguments} {body : Expr} {scope : Scope} {lpos : Pos}
theorem lam_make0 (B : TabB X.base X.mg c P) (hc0 : X.env.code = .ref c) (hm : (P, X.env.qual ++ "<lambda>") ∈ T) (hu : ∀ p ∈ T, p.1 = P → p.2 = X.env.qual ++ "<lambda>") (L : LamN X.N X.env.scope scope) (hdef : defaultsOf params X.env = ([], []))
    (hb : ∀ (q : Str) (cl : List (Str × Addr)) (doc pm cv ct : Value), bindArgs (PySem.W.kdv_fn "<lambda>" q params (.expr body) scope cl .none doc pm cv ct) ⟨[], []⟩ = pure []) : LamMake X P T params body scope lpos := by
  intro pins s σ H Q I tb go
  refine PySem.W.kla_eval hdef ?_; rw [makeFunction_eq]
  simp only [List.zip_nil_right, List.filterMap_nil, List.isEmpty_nil, if_true, pure_bind]; refine lam_tail I B hc0 hm hu tb (L.has I.ok) fun f c' pm doc ct H1 s' I1 k t1 _ _ a1 a2 a3 a4 => go f c' pm doc ct .none H1 s' I1 k t1 a1 a2 a3 a4 (fun _ z => by cases z) ⟨[], fun _ z => (nomatch z), fun M A Q E s _ q => ?_⟩
  rw [hb]; exact wpAny_pure q
theorem lam_make1 {i : Int} {j : Nat} {p : Pos} {y : Str} (B : TabB X.base X.mg c P) (hc0 : X.env.code = .ref c) (hm : (P, X.env.qual ++ "<lambda>") ∈ T) (hu : ∀ p ∈ T, p.1 = P → p.2 = X.env.qual ++ "<lambda>") (L : LamN X.N X.env.scope scope)
    (hdef : defaultsOf params X.env = ([eval (.Constant (.int i) j p) X.env], [])) (hkw : params.kwonlyargs = []) (hloc : scope.names.lookup y = some .local)
    (hb : ∀ (q : Str) (cl : List (Str × Addr)) (D : Addr) (doc pm cv ct : Value), ∃ k, bindArgs (PySem.W.kdv_fn "<lambda>" q params (.expr body) scope cl (.ref D) doc pm cv ct) ⟨[], []⟩ = seqItems? (.ref D) >>= k ∧ ∀ v : Value, k (some #[v]) = pure [(y, v)]) : LamMake X P T params body scope lpos := by
  intro pins s σ H Q I tb go
  rw [arm_eval_Lambda, hdef]
  show wpAny _ _ (do let dv ← evalAll [eval (.Constant (.int i) j p) X.env]; let kdv ← holding dv (evalAllOpt []); makeFunction "<lambda>" (X.env.qual ++ "<lambda>") params (.expr body) scope X.env dv kdv [] lpos lpos.line) _ _ _
  refine wpAny_bind (wpAny_evalAll_cons (wpAny_mono ((pe_int (X := X) (i := i) (j := j) (pos := p)).run pins s σ H (fun v H' => v = .int i ∧ H' = H) I ⟨rfl, rfl⟩) (fun v s1 h1 => ?_) fun e s' h => ?_))
  · obtain ⟨_, H', I1, _, _, rfl⟩ := h1
    refine wpAny_evalAll_nil (wpAny_bind (wpAny_holding (wpAny_pure ?_)))
    rw [makeFunction_eq, hkw]
    simp only [List.zip_nil_right, List.filterMap_nil, List.isEmpty_nil, List.isEmpty_cons, Bool.false_eq_true, if_false, if_true, pure_bind]
    refine wpAny_bind (wpAny_newTextTuple ?_); obtain ⟨ps, hP, _⟩ := tb _ hm
    have kk : ∀ b o, s1.heap.get? b = some o → (s1.heap.push { cls := .type "tuple", data := .seq [v].toArray }).get? b = some o := fun b o z => Heap.get?_push_of_some _ z
    have I2 : L2.Inv X pins σ H' { s1 with heap := s1.heap.push { cls := .type "tuple", data := .seq [v].toArray } } := I1.kept (t' := s1.toks) kk
    have dN : H' s1.heap.objs.size = none := I1.hok.fresh (Nat.le_refl _)
    have dP : s1.heap.objs.size ≠ P := fun z => by rw [z, hP] at dN; cases dN
    have dT : (s1.heap.push { cls := .type "tuple", data := .seq [v].toArray }).get? s1.heap.objs.size = some { cls := .type "tuple", data := .seq [v].toArray } := Heap.get?_push_at rfl rfl
    have dF : s1.heap.objs.size ∉ frs X.stack := fun z => (List.mem_cons.mp (I1.stkSub _ z)).elim (fun e => absurd (e ▸ I1.lt) (Nat.lt_irrefl _)) fun e => I1.nofs (Nat.le_refl _) e
    refine lam_tail I2 B hc0 hm hu tb (L.has I2.ok) fun f c' pm doc ct H1 s' I3 k t1 k2 k3 a1 a2 a3 a4 => go f c' pm doc ct (.ref s1.heap.objs.size) H1 s' I3 k t1 a1 a2 a3 a4 (fun D z => ?_) ?_
    · cases z
      exact ⟨k3 _ dN (by show _ < (s1.heap.push _).objs.size; rw [Heap.size_push]; exact Nat.lt_succ_self _), dF⟩
    · obtain ⟨kf, e1, e2⟩ := hb (X.env.qual ++ "<lambda>") (cloFrom X.env.cells scope.names []) s1.heap.objs.size doc pm (.ref c') ct
      refine ⟨[(y, v)], fun z hz => ?_, fun M A Q E s2 hk q => ?_⟩
      · obtain rfl := List.mem_singleton.mp hz
        exact hloc
      · rw [e1]
        refine wpAny_bind (wpAny_seqItems (hk _ _ rfl (k2 _ _ dP dT)) rfl ?_)
        rw [e2]; exact wpAny_pure q
  · exact h
end
end DE
namespace DE
open PyProof.Rows PySem.Spec PySem L2
open LamX (CodeO TabB Tabs lamEnv lamCx)
/-! ### functions without arguments over data -/
abbrev Th := DS → Option (Except Exn D × DS)
def relS : List Nat → List Sl → List Sl
  | [], r => r
  | j :: js, r => relS js (match r[j]? with
    | some (.own xs) => r.set j (.dat (.lst xs))
    | _ => r)
def pick1 : Sl → Sl
  | .dat d => .dat d
  | _ => .no
def pickS (js : List Nat) : Nat → List Sl → List Sl
  | _, [] => []
  | i, x :: r => (if js.contains i then pick1 x else .no) :: pickS js (i + 1) r
def thunk (js : List Nat) (f : Mo D) (r : List Sl) : Th := fun s => match f ⟨pickS js 0 (relS js r), s⟩ with
  | some (x, g) => some (x, g.s)
  | none => none
theorem pickS_len (js : List Nat) : ∀ (i : Nat) (r : List Sl), (pickS js i r).length = r.length
  | _, [] => rfl
  | i, x :: r => congrArg Nat.succ (pickS_len js (i + 1) r)
theorem pickS_get (js : List Nat) : ∀ (i : Nat) (r : List Sl) (n : Nat) {z : Sl}, (pickS js i r)[n]? = some z → z = .no ∨ ∃ d, z = .dat d ∧ r[n]? = some (.dat d)
  | _, [], _, _, h => by cases h
  | i, x :: r, 0, z, h => by
    unfold pickS at h; simp only [List.getElem?_cons_zero, Option.some.injEq] at h
    split at h
    · cases x with
      | dat d => exact .inr ⟨d, h.symm, rfl⟩
      | no => exact .inl h.symm
      | own xs => exact .inl h.symm
      | fn _ _ _ _ => exact .inl h.symm
    · exact .inl h.symm
  | i, x :: r, n + 1, z, h => by
    have := pickS_get js (i + 1) r n (z := z) (by unfold pickS at h; simpa using h)
    simpa using this
theorem relS_len : ∀ (js : List Nat) (r : List Sl), (relS js r).length = r.length
  | [], _ => rfl
  | j :: js, r => by
    unfold relS
    rw [relS_len js]
    split
    · rw [List.length_set]
    · rfl
section
variable {K : PySem.W.Frag} {Γ : Gam} {H0 G0 G H : Hp} {σ : L2.St} {g : Sg}
theorem En.relAll : ∀ (js : List Nat) {G : Hp} {g : Sg}, En K Γ H0 G0 G H σ g → ∃ G', Gr G G' ∧ En K Γ H0 G0 G' H σ ⟨relS js g.r, g.s⟩
  | [], G, g, E => ⟨G, Gr.refl _, E⟩
  | j :: js, G, g, E => by
    unfold relS
    split
    · rename_i xs hi
      obtain ⟨l, G1, _, gr, _, E1⟩ := E.rel hi
      obtain ⟨G2, gr2, E2⟩ := En.relAll js E1
      exact ⟨G2, gr.trans gr2, E2⟩
    · exact En.relAll js E
/-- the captured names, in another frame's heap -/
theorem En.pick (E : En K Γ H0 G0 G H σ g) (js : List Nat) {H0' G0' G' H' : Hp} {σ' : L2.St} {g' : Sg} (F : En K Γ H0' G0' G' H' σ' g') (gr : Gr G G') : En K Γ H' G' G' H' σ ⟨pickS js 0 g.r, g'.s⟩ := by
  refine ⟨fun _ _ _ z => z, fun _ _ _ z => z, Gr.refl _, F.sub, F.gm, F.st, by rw [pickS_len]; exact E.len, fun i d h => ?_, fun i xs h => ?_, fun i j xs ys l h => ?_, F.tb, F.gt, fun i f c q G1 h => ?_⟩
  · rcases pickS_get js 0 g.r i h with z | ⟨d', z, h'⟩
    · cases z
    · cases z
      obtain ⟨v, h1, h2⟩ := E.dat i d h'
      exact ⟨v, h1, h2.mono gr⟩
  · rcases pickS_get js 0 g.r i h with z | ⟨d', z, h'⟩ <;> cases z
  · rcases pickS_get js 0 g.r i h with z | ⟨d', z, h'⟩ <;> cases z
  · rcases pickS_get js 0 g.r i h with z | ⟨d', z, h'⟩ <;> cases z
theorem En.toAft {G' H' : Hp} {σ' : L2.St} {g' : Sg} (E : En K Γ H G G' H' σ' g') : Aft Γ G H G' H' := ⟨fun a o n h => E.base a o n h, E.g0, E.sub, E.gm, fun a o h h' => E.gfr a o h h', E.tb, E.gt⟩
end
open Classical in
/-- a(), a the function at the slot i -/
noncomputable def fAct (i : Nat) (f c : Addr) (q : Str) (G1 : Hp) (th : Th) : Mo D := fun g => if g.r[i]? = some (.fn f c q G1) then (match th g.s with
    | some (x, s') => some (x, ⟨g.r, s'⟩)
    | none => none) else none
def fActU (th : Th) : Mo D := fun g => match th g.s with
  | some (x, s') => some (x, ⟨g.r, s'⟩)
  | none => none
/-- what a def makes of the function that it gets -/
def GivesTh (fb : Mo D → Ms) (N : Nat) (mT : Th → Th) : Prop := ∀ (f c : Addr) (q : Str) (G1 : Hp) (th : Th) (s : DS) (r : Except Exn D) (s' : DS), mT th s = some (r, s') → ∃ g', g'.s = s' ∧
  (fb (fAct 0 f c q G1 th) ⟨.fn f c q G1 :: List.replicate (N - 1) .no, s⟩ = some ((match r with | .ok d => .ret d | .error x => .exc x), g') ∨ (r = .ok .non ∧ fb (fAct 0 f c q G1 th) ⟨.fn f c q G1 :: List.replicate (N - 1) .no, s⟩ = some (.nx, g')))
/-- a def whose one argument is a function that it calls -/
def KfT (P : Program) (w : World) (K : PySem.W.Frag) (mg : Str → Option Value) (base : Heap) (k : Nat) (x : Str) (Γ : Gam) (N : Nat) (fb : Mo D → Ms) : Prop :=
  ∃ (g : Addr) (st : Stmt) (fd : FuncData) (Ng : List Str) (a : Str), Fun K x x st g fd ∧ FnScope Ng [a] (defScope st) ∧ Ng.length = N ∧ Ng[0]? = some a ∧ Vis (defScope st) a ∧ (a == ("__debug__" : Str)) = false ∧ (a == ("__classdict__" : Str)) = false ∧ mg x = some (.ref g) ∧ PySem.W.keepIn K (.ref g) = true ∧ Binds K fd [a] [] ∧
    ∀ (cdv : Value) (A : Around) (outer : List Env) (s : Shared) (H : Hp) (E : XK), Ct (cxD P w K mg base Ng x st g cdv A outer s H E) (fun c d _ H => E c d H) (k + 1) → ∀ act : Mo D,
      (∀ (W : WX) (pn : List (Addr × Obj)) (xe : Value → Shared → Prop) (p1 p2 : Pos), Ct ((cxD P w K mg base Ng x st g cdv A outer s H E).tr pn xe) W (k + 1) → DX ((cxD P w K mg base Ng x st g cdv A outer s H E).tr pn xe) Γ W (.Call (.Name a p1) [] [] p2) act) →
      DB (cxD P w K mg base Ng x st g cdv A outer s H E) Γ (fun c d _ H => E c d H) (defBody st) (fb act)
/-- x(lambda: e) -/
def fLam (js : List Nat) (mT : Th → Th) (f : Mo D) : Mo D := fun g => match mT (thunk js f g.r) g.s with
  | some (x, s') => some (x, ⟨relS js g.r, s'⟩)
  | none => none
section
variable {X : Cx} {Γ : Gam} {W : WX}
theorem d_lam {k j N : Nat} {x : Str} {P : Addr} {params : Arguments} {body : Expr} {scope : Scope} {p lpos pos : Pos} {fb : Mo D → Ms} {mT : Th → Th} {f : Mo D} (js : List Nat) (F : KfT X.prog X.w X.K X.mg X.base j x Γ N fb) (hk : j + 2 ≤ k) (C : Ct X W k) (hm : GivesTh fb N mT) (hgl : Gl X x)
    (LM : LamMake X P Γ.T params body scope lpos) (hP : ∃ q, (P, q) ∈ Γ.T) (L : LamN X.N X.env.scope scope)
    (hbody : ∀ (A : Around) (outer : List Env) (s : Shared) (H : Hp) (E : XK) (fa c' : Addr), Ct (lamCx X A outer s H E scope fa c') (fun c d _ H => E c d H) j → DX (lamCx X A outer s H E scope fa c') Γ (fun c d _ H => E c d H) body f)
    (hdb : (x == ("__debug__" : Str)) = false := by decide) : DX X Γ W (.Call (.Name x p) [.Lambda params body scope lpos] [] pos) (fLam js mT f) := by
  refine ⟨fun pins s σ H Q I h => ?_⟩; obtain ⟨H0, G0, G, g, E, r, gE, eq, q⟩ := h
  obtain ⟨ga, st, fd, Ng, a, FF, Sg, hNl, hN0, hva, ha1, ha2, hmg, hkp, hbi, hder⟩ := F
  unfold fLam at eq
  cases hmt : mT (thunk js f g.r) g.s with
  | none => rw [hmt] at eq; cases eq
  | some rs =>
  obtain ⟨r1, s1⟩ := rs
  rw [hmt] at eq
  cases eq
  obtain ⟨G1, gr1, E1⟩ := E.relAll js
  refine wpAny_Call_Name_kw (ld_glob I hgl hmg ?_ hdb)
  refine PySem.W.callWith_K (h₀ := X.base) I.ok.mod.kin hkp ?_ (by rfl) (by rfl); show wpAny _ _ (spliced ((false, eval (.Lambda params body scope lpos) X.env) :: backTo pos (starEach [] X.env))) _ _ s
  refine Calls.spliced_cons (LM pins s σ H _ I E.tb fun fa c' pm doc ct dV H1 s' I1 kp t1 hf hfn hfr hco hD hbd => ?_)
  refine Calls.spliced_nil ⟨I1.kIn, ?_⟩; obtain ⟨qP, hPm⟩ := hP
  have E2 : En X.K Γ H0 G0 G1 H1 σ ⟨relS js g.r, g.s⟩ := by
    have hPt : ∀ b, Γ.Ok b → b ≠ P := fun b n => n.2 _ hPm
    obtain ⟨ps, hPs, _⟩ := E.tb _ hPm
    refine ⟨fun b o n z => kp b o (hPt b n) (E1.base b o n z), E1.gfr, E1.g0, fun b o z => kp b o (fun w => ?_) (E1.sub b o z), E1.gm, ?_, E1.len, E1.dat, fun i xs z => ?_, E1.dis, t1, E1.gt, fun i f c q G2 z => ?_⟩
    · have := E1.gt _ hPm
      rw [w, this] at z; cases z
    · obtain ⟨l, m1, m2⟩ := E1.st
      refine ⟨l, kp _ _ (fun w => ?_) m1, m2⟩
      rw [w, hPs] at m1; cases m1
    · obtain ⟨l, vs, z1, z2, z3⟩ := E1.own i xs z
      exact ⟨l, vs, z1, kp _ _ (hPt l (E1.ok_lst z2)) z2, z3⟩
    · obtain ⟨z1, z2, z3⟩ := E1.fn i f c q G2 z
      exact ⟨z1, kp _ _ (hPt c (E1.ok_code z2)) z2, z3⟩
  obtain ⟨oc, od, kV, doc2, pm2, an, cdv, ct2, osl, rfl, lk, hcd⟩ := FF.ex
  have room : Room (j + 2) X.A := C.room.mono hk
  refine wpAny_call (codeAny_mono (R := CR (L2.CX X.prog X.w) X.stack X.prog X.w H1 s' Q (WE W σ)) ?_ fun rr s2 hq => ?_)
  · refine LamX.run_ofS (CX := L2.CX X.prog X.w) (N := Ng) (ps := [a]) (us := [.ref fa]) (vs := [.ref fa]) lk hcd Sg room I1.env0 (hbi s' [.ref fa] I1.kIn rfl) (.cons rfl .nil) rfl fun hr' => ?_
    have Cg : Ct (cxD X.prog X.w X.K X.mg X.base Ng x st ga cdv X.A X.stack s' H1 (WE W σ)) (fun c d _ H => WE W σ c d H) (j + 1) := ⟨rfl, takes_of rfl rfl rfl rfl, PassesOwn.leaving, hr', C.gua⟩
    refine ⟨_, hder cdv X.A X.stack s' H1 (WE W σ) Cg (fAct 0 fa c' (X.env.qual ++ "<lambda>") G1 (thunk js f g.r)) (fun W' pn xe p1 p2 C' => ?_), ?_⟩
    · have pa := lam_act (W := W') (pn := pn) (xe := xe) (k := j) (p1 := p1) (p2 := p2) (Eg := WE W σ) (Ng := Ng) (qg := x) (sg := defScope st) (g := ga) (cdg := cdv) (i := 0) (a := a) I1 L hf hfn hfr hD hbd C'.tk C'.room C'.gua
        (t := fun E => tG X.K Γ (fun c d _ H => E c d H) (RD X.K Γ) f)
        (fun A outer s H E rm gu => hbody A outer s H E fa c' ⟨rfl, takes_of rfl rfl rfl rfl, PassesOwn.leaving, rm, gu⟩) hN0 hva ha1 ha2
      refine L2.PE.imp pa fun σZ HZ QZ ⟨H0Z, G0Z, GZ, gZ, EZ, rZ, gZ', eZ, qZ⟩ => ?_
      unfold fAct at eZ
      split at eZ
      · rename_i hslot
        obtain ⟨z1, z2, z3⟩ := EZ.fn 0 _ _ _ _ hslot
        refine ⟨z1, z2, ?_⟩
        unfold thunk at eZ
        cases hfe : f ⟨pickS js 0 (relS js g.r), gZ.s⟩ with
        | none => simp only [hfe] at eZ; cases eZ
        | some pr =>
          obtain ⟨rf, gf⟩ := pr
          simp only [hfe] at eZ
          cases eZ
          refine ⟨HZ, GZ, GZ, _, E2.pick js EZ z3, rZ, gf, hfe, ?_⟩
          cases rZ with
          | ok d => exact fun v G' H' gr E' dv => qZ v G' H' gr (EZ.aft E'.toAft E'.st) dv
          | error y => exact fun Cc dd G' H' gr E' hx => qZ Cc dd G' H' gr (EZ.aft E'.toAft E'.st) hx
      · cases eZ
    · obtain ⟨g', hs', hfb⟩ := hm fa c' (X.env.qual ++ "<lambda>") G1 (thunk js f g.r) g.s r s1 hmt
      have hNp : 1 ≤ N := by
        rw [← hNl]
        cases Ng with
        | nil => cases hN0
        | cons _ _ => simp
      have E3 : En X.K Γ H1 G1 G1 H1 (L2.start Ng [.ref fa]) ⟨.fn fa c' (X.env.qual ++ "<lambda>") G1 :: List.replicate (N - 1) .no, g.s⟩ := by
        have only : ∀ (i : Nat) z, (Sl.fn fa c' (X.env.qual ++ "<lambda>") G1 :: List.replicate (N - 1) .no)[i]? = some z → z = .no ∨ (i = 0 ∧ z = .fn fa c' (X.env.qual ++ "<lambda>") G1) := fun i z hz => by
          cases i with
          | zero => simp at hz; exact .inr ⟨rfl, hz.symm⟩
          | succ i =>
            rw [List.getElem?_cons_succ, List.getElem?_replicate] at hz
            split at hz
            · exact .inl (Option.some.inj hz).symm
            · cases hz
        refine ⟨fun _ _ _ z => z, fun _ _ _ z => z, Gr.refl _, E2.sub, E2.gm, E2.st, ?_, fun i d z => ?_, fun i xs z => ?_, fun i j xs ys l z => ?_, E2.tb, E2.gt, fun i f2 c2 q2 G2 z => ?_⟩
        · unfold L2.start
          simp [hNl]
        · rcases only i _ z with z | ⟨_, z⟩ <;> cases z
        · rcases only i _ z with z | ⟨_, z⟩ <;> cases z
        · rcases only i _ z with z | ⟨_, z⟩ <;> cases z
        · rcases only i _ z with z | ⟨rfl, z⟩
          · cases z
          · cases z
            exact ⟨by unfold L2.start; rfl, hco, Gr.refl _⟩
      refine ⟨H1, G1, G1, _, E3, ?_⟩
      have fin : ∀ {σ' : L2.St} {G' H' : Hp}, En X.K Γ H1 G1 G' H' σ' g' → En X.K Γ H0 G0 G' H' σ ⟨relS js g.r, s1⟩ := fun E' => E2.aft E'.toAft (hs' ▸ E'.st)
      rcases hfb with hfb | ⟨rfl, hfb⟩
      · cases r with
        | ok d => exact ⟨.ret d, g', hfb, fun v σ' G' H' gr E' dv => q v G' H' (gr1.trans gr) (fin E') dv⟩
        | error y => exact ⟨.exc y, g', hfb, fun Cc dd σ' G' H' gr E' hx => q Cc dd G' H' (gr1.trans gr) (fin E') hx⟩
      · exact ⟨.nx, g', hfb, fun σ' G' H' gr E' => q .non G' H' (gr1.trans gr) (fin E') .non⟩
  · cases rr with
    | error e => exact passAt C.tk σ pins H1 s' e s2 I1 hq
    | ok fl =>
      cases fl with
      | ret u => exact I1.after hq
      | next => exact hq.elim
      | brk => exact hq.elim
      | cont => exact hq.elim
end
end DE
namespace DE
open PyProof.Rows PySem.Spec PySem L2
open LamX (CodeO TabB Tabs TabS lamEnv lamCx)
/-! ### the end of a law whose text makes lambdas -/
/-- a table of code objects, still empty -/
abbrev noCode : Obj := { cls := .none, data := .fields #[] }
theorem end_coreT {P : Program} {w : World} {K : PySem.W.Frag} {mg mb : Str → Option Value} {k n im : Nat} {fa a : Addr} {fd : FuncData} {fb : Ms} {s₁ : Shared} {items : Array Value} {ns : List Int} {H : Hp} {cs : List (Addr × Addr)} {T : List (Addr × Str)}
    (KX : K.In s₁.heap) (hns : s₁.heap.Ns mainGlobals mg) (hbn : s₁.heap.Ns builtinsNs mb) (hbb : ∀ y : Str, y ≠ "__name__" → mb y = bootBuiltins y) (hlim : s₁.heap.NoLimit) (hgen : s₁.gens = #[]) (hlen : ns.length ≤ 100000) (hr : Room k callerA)
    (bm : ∃ (bm : Addr) (ob : Obj), mg "__builtins__" = some (.ref bm) ∧ bm ≠ builtinsNs ∧ s₁.heap.get? bm = some ob ∧ ob.cls = .type "module" ∧ ob.dict = some builtinsNs ∧ ob.data = .plain)
    (tab : ∀ p ∈ cs, PySem.W.CodeHd s₁.heap p.1 p.2 ∧ s₁.heap.get? p.2 = some noCode) (tabK : ∀ p ∈ cs, K.lookup p.2 = none) (sub : ∀ p ∈ T, ∃ q ∈ cs, q.2 = p.1)
    (hobj : s₁.heap.get? a = some { cls := .type "list", data := .seq items }) (F : ∀ base : Heap, K.In base → base.Ns mainGlobals mg → (∀ p ∈ cs, TabB base mg p.1 p.2) → FnG P w K mg base k fa fd ["script"] (spLaw K T n im fb))
    (bnd : ∀ (s : Shared) (u : Value), BindsTo s fd ⟨[u], []⟩ [("script", u)]) (hfb : goesL fb n im ns)
    (only : ∀ b u, H b = some u → (b = a ∧ ∃ o xs, u = .frz o (.lst xs)) ∨ ((∃ q ∈ cs, q.2 = b) ∧ u = .tbl #[])) (isT : ∀ p ∈ cs, H p.2 = some (.tbl #[])) (hS : SqL K H a (ns.map V.int)) (hok : HOk P w H s₁.heap) (notK : ∀ u, H a = some u → K.lookup a = none) :
    codeAny (model P w) callerA (.call (.ref fa) ⟨[Value.ref a], []⟩) (fun r s' => r = .ok (.ret (.bool true)) ∧ OldK s₁.heap s'.heap ∧ s'.os = s₁.os ∧ AllBare s'.gens) s₁ := by
  have stays : ∀ {b : Addr} {o : Obj}, s₁.heap.get? b = some o → H b = none → (hidT s₁.heap H).get? b = some o := fun z e => hidT_get z e
  have free : ∀ {b : Addr} {o : Obj}, s₁.heap.get? b = some o → o.data ≠ .fields #[] → (∀ xs m, o.data ≠ .seq xs m) → H b = none := fun {b o} z d1 d2 => by
    cases q : H b with
    | none => rfl
    | some u =>
      rcases only b u q with ⟨rfl, _⟩ | ⟨⟨p, hp, rfl⟩, _⟩
      · rw [hobj] at z; cases z; exact absurd rfl (d2 _ _)
      · rw [(tab p hp).2] at z; cases z; exact absurd rfl d1
  have dictFree : ∀ {b : Addr} {o : Obj} {es : Array DictEntry} {ep : Nat}, s₁.heap.get? b = some o → o.data = .dict es ep → H b = none := fun {b o es ep} z e =>
    free z (fun w => by rw [e] at w; cases w) fun xs m w => by rw [e] at w; cases w
  have nsStays : ∀ {b : Addr} {m : Str → Option Value}, s₁.heap.Ns b m → (hidT s₁.heap H).Ns b m := fun ⟨o, es, ep, z, e, more⟩ => ⟨o, es, ep, stays z (dictFree z e), e, more⟩
  have KB : K.In (hidT s₁.heap H) := fun b o z => stays (KX b o z) (by
    cases q : H b with
    | none => rfl
    | some u =>
      rcases only b u q with ⟨rfl, _⟩ | ⟨⟨p, hp, rfl⟩, _⟩
      · rw [notK u q] at z; cases z
      · rw [tabK p hp] at z; cases z)
  have ground : Mod K mg (hidT s₁.heap H) := ⟨KB, nsStays hns, ⟨mb, nsStays hbn, hbb⟩, hlim.elim fun mc z => ⟨mc, nsStays z.1, z.2⟩⟩
  have env : Env0 P w K mg (hidT s₁.heap H) callerA [] s₁ H := ⟨rfl, ground, fun b o z => of_hidT z, Nat.le_of_eq (hidT_size _ _), trivial, fun b z => (nomatch z), hok, .of_eq hgen⟩
  have noG : ∀ {b : Addr} {o : Obj}, s₁.heap.get? b = some o → o.data = .plain → b ≠ mainGlobals := fun {b o} z e w => by
    obtain ⟨o', es, ep, z', e', _⟩ := hns
    rw [← w, z] at z'; cases z'
    rw [e] at e'; cases e'
  have tables : ∀ p ∈ cs, TabB (hidT s₁.heap H) mg p.1 p.2 := fun p hp => by
    obtain ⟨⟨o, us, file, tf, fl, tg, inF, tx, tt, z1, z2, z3, z4, zs⟩, z0⟩ := tab p hp
    refine ⟨⟨o, us, file, tf, fl, tg, inF, tx, tt, stays z1 (free z1 (fun w => ?_) fun xs m w => ?_), z2, z3, z4, zs⟩, ?_, fun w => ?_⟩
    · rw [z3] at w; cases w; simp at z4
    · rw [z3] at w; cases w
    · obtain ⟨b, ob, y1, y2, y3, y4, y5, y6⟩ := bm
      refine ⟨b, ob, y1, y2, noG y3 y6, fun w => ?_, stays y3 (free y3 (fun w => ?_) fun xs m w => ?_), y4, y5, y6⟩
      · rw [w, z0] at y3; cases y3; cases y6
      · rw [y6] at w; cases w
      · rw [y6] at w; cases w
    · obtain ⟨o', es, ep, y, e', _⟩ := hns
      rw [w, z0] at y; cases y; cases e'
  have tabsT : Tabs T H := fun p hp => by
    obtain ⟨q, hq, e⟩ := sub p hp
    rw [← e]
    exact TabS.nil (isT q hq)
  refine codeAny_mono ((F _ KB (nsStays hns) tables).run callerA [] s₁ H ⟨[.ref a], []⟩ [.ref a] [.ref a] (fun v _ => v = .bl true) (fun _ _ _ => False) hr rfl env (bnd s₁ (.ref a)) (.cons rfl .nil) ⟨a, ns, rfl, hS, hlen, tabsT, hfb, fun _ => rfl⟩) fun r s' z => ?_
  match r, z with
  | .error e, z =>
    obtain ⟨_, _, _, _, _, _, _, _, _, _, _, _, no⟩ := z
    exact no.elim
  | .ok (.ret u), ⟨v, H', hos, hbare, hun, hok', hrel, hv⟩ =>
    have hv : v = .bl true := hv
    subst hv
    obtain rfl : u = Value.bool true := hrel
    have grows : ∀ p ∈ cs, ∃ vs : Array Value, s'.heap.get? p.2 = some { cls := .none, data := .fields vs } := fun p hp => by
      obtain ⟨more, z⟩ := hun.tbls p.2 #[] (isT p hp)
      exact ⟨_, hok' p.2 _ z⟩
    have key : ∀ b o, s₁.heap.get? b = some o → (∃ p ∈ cs, p.2 = b) ∨ s'.heap.get? b = some o := fun b o z => by
      cases q : H b with
      | none => exact .inr (hun.keep b o z q (fun y => nomatch y) (fun y => nomatch y))
      | some u =>
        rcases only b u q with ⟨_, ob, xs, rfl⟩ | ⟨h, _⟩
        · have before := (hok b _ q).1
          have behind := (hok' b _ (hun.frzs b ob _ q)).1
          rw [z] at before; cases before
          exact .inr behind
        · exact .inl h
    refine ⟨rfl, ⟨fun b o z => ?_, fun b o z => ?_⟩, hos, hbare⟩
    · rcases key b o z with ⟨p, hp, rfl⟩ | k
      · obtain ⟨more, hm⟩ := grows p hp
        rw [(tab p hp).2] at z
        cases z
        refine .inr (.inl ⟨((tab p hp).1.tab (tab p hp).2).isCodeTable, rfl, #[], more, rfl, ?_⟩)
        rw [Array.empty_append]; exact hm
      · exact .inl k
    · rcases key b o z with ⟨p, hp, rfl⟩ | k
      · obtain ⟨more, hm⟩ := grows p hp
        exact ⟨_, hm⟩
      · exact ⟨o, k⟩
  | .ok .next, z => exact z.elim
  | .ok .brk, z => exact z.elim
  | .ok .cont, z => exact z.elim
theorem end_callT {P : Program} {w : World} {K : PySem.W.Frag} {mg mb : Str → Option Value} {k n im : Nat} {fa a : Addr} {fd : FuncData} {fb : Ms} {s₁ : Shared} {vs : List Value} {ns : List Int} {cs : List (Addr × Addr)} {T : List (Addr × Str)}
    (KX : K.In s₁.heap) (hns : s₁.heap.Ns mainGlobals mg) (hbn : s₁.heap.Ns builtinsNs mb) (hbb : ∀ y : Str, y ≠ "__name__" → mb y = bootBuiltins y) (hlim : s₁.heap.NoLimit) (hgen : s₁.gens = #[]) (hlen : ns.length ≤ 100000) (hr : Room k callerA)
    (bm : ∃ (bm : Addr) (ob : Obj), mg "__builtins__" = some (.ref bm) ∧ bm ≠ builtinsNs ∧ s₁.heap.get? bm = some ob ∧ ob.cls = .type "module" ∧ ob.dict = some builtinsNs ∧ ob.data = .plain)
    (tab : ∀ p ∈ cs, PySem.W.CodeHd s₁.heap p.1 p.2 ∧ s₁.heap.get? p.2 = some noCode) (tabK : ∀ p ∈ cs, K.lookup p.2 = none) (sub : ∀ p ∈ T, ∃ q ∈ cs, q.2 = p.1)
    (hobj : s₁.heap.get? a = some { cls := .type "list", data := .seq vs.toArray }) (hi : IntsAre vs ns) (F : ∀ base : Heap, K.In base → base.Ns mainGlobals mg → (∀ p ∈ cs, TabB base mg p.1 p.2) → FnG P w K mg base k fa fd ["script"] (spLaw K T n im fb))
    (bnd : ∀ (s : Shared) (u : Value), BindsTo s fd ⟨[u], []⟩ [("script", u)]) (hfb : goesL fb n im ns) :
    codeAny (model P w) callerA (.call (.ref fa) ⟨[Value.ref a], []⟩) (fun r s' => r = .ok (.ret (.bool true)) ∧ OldK s₁.heap s'.heap ∧ s'.os = s₁.os ∧ AllBare s'.gens) s₁ := by
  classical
  have rv := vals_ints hi
  have sz : ns.length ≤ sizeLine := sz5 hlen
  have aT : ¬ ∃ q ∈ cs, q.2 = a := fun ⟨q, hq, e⟩ => by
    have z := (tab q hq).2
    rw [e, hobj] at z
    have z' := congrArg Obj.data (Option.some.inj z)
    cases z'
  cases hk : K.lookup a with
  | some o =>
    have z := KX a o hk
    rw [hobj] at z
    cases z
    have at_ : ∀ {b : Addr} {u : HO}, (if ∃ q ∈ cs, q.2 = b then some (HO.tbl #[]) else none) = some u → (∃ q ∈ cs, q.2 = b) ∧ u = .tbl #[] := fun {b u} z => by
      by_cases c : ∃ q ∈ cs, q.2 = b
      · rw [if_pos c] at z; exact ⟨c, (Option.some.inj z).symm⟩
      · rw [if_neg c] at z; cases z
    have hS : SqL K (fun b => if ∃ q ∈ cs, q.2 = b then some (HO.tbl #[]) else none) a (ns.map V.int) := .inr ⟨_, vs.toArray, _, hk, rfl, rfl, rfl, by rw [List.size_toArray, hi.length]; exact sz, by simpa using rv⟩
    refine end_coreT KX hns hbn hbb hlim hgen hlen hr bm tab tabK sub hobj F bnd hfb (fun b u z => .inr (at_ z)) (fun p hp => if_pos ⟨p, hp, rfl⟩) hS (fun b u z => ?_) (fun u z => absurd (at_ z).1 aT)
    obtain ⟨⟨q, hq, rfl⟩, rfl⟩ := at_ z
    exact (tab q hq).2
  | none =>
    have at_ : ∀ {b : Addr} {u : HO}, (if b = a then some (HO.frz { cls := .type "list", data := .seq vs.toArray } (.lst (ns.map V.int))) else if ∃ q ∈ cs, q.2 = b then some (HO.tbl #[]) else none) = some u →
        (b = a ∧ u = .frz { cls := .type "list", data := .seq vs.toArray } (.lst (ns.map V.int))) ∨ ((∃ q ∈ cs, q.2 = b) ∧ u = .tbl #[]) := fun {b u} z => by
      by_cases c : b = a
      · rw [if_pos c] at z; exact .inl ⟨c, (Option.some.inj z).symm⟩
      · rw [if_neg c] at z
        by_cases d : ∃ q ∈ cs, q.2 = b
        · rw [if_pos d] at z; exact .inr ⟨d, (Option.some.inj z).symm⟩
        · rw [if_neg d] at z; cases z
    refine end_coreT (H := fun b => if b = a then some (HO.frz { cls := .type "list", data := .seq vs.toArray } (.lst (ns.map V.int))) else if ∃ q ∈ cs, q.2 = b then some (HO.tbl #[]) else none) KX hns hbn hbb hlim hgen hlen hr bm tab tabK sub hobj F bnd hfb
      (fun b u z => (at_ z).imp (fun q => ⟨q.1, _, _, q.2⟩) id) (fun p hp => ?_) (.inl (.inr ⟨_, if_pos rfl⟩)) (fun b u z => ?_) (fun _ _ => hk)
    · have n : p.2 ≠ a := fun e => aT ⟨p, hp, e⟩
      show (if p.2 = a then _ else _) = _
      rw [if_neg n, if_pos ⟨p, hp, rfl⟩]
    · rcases at_ z with ⟨rfl, rfl⟩ | ⟨⟨q, hq, rfl⟩, rfl⟩
      · exact ⟨hobj, by rw [List.length_map]; exact sz, vs, _, rv, hobj⟩
      · exact (tab q hq).2
/-- what k_head leaves, from the law's program over data; cs: the makers' code objects and tables -/
theorem walk_deT {l : PySem.W.OpenLaw} {k m im : Nat} {q : Program} {loose : List Str} {XP : (Str → Option Value) → Heap → Prop} {YP : World → Heap → Prop} {d : DefRec} {K : Params → PySem.W.Frag} {fb : Ms} (mk : List (Str × DefRec × Addr × Addr × Str))
    (hn : l.most = some 63) (hdf : d.params.defaults = []) (hr : Room k callerA) (hY : ∀ (w : World) (h : Heap), YP w h → (K w.params).In h)
    (hmk : ∀ p ∈ mk, (PyProof.Rows.recsOf q).find? (fun e => e.name == p.1) = some p.2.1 ∧ ∀ w : World, PySem.W.tabIn (K w.params) p.1 = some (p.2.2.1, p.2.2.2.1) ∧ (K w.params).lookup p.2.2.2.1 = none)
    (F : ∀ (w : World) (mg : Str → Option Value) (fa : Addr) (h : Heap), (K w.params).In h → h.Ns mainGlobals mg → mg d.name = some (Value.ref fa) →
      ∃ fd : FuncData, (∀ (s : Shared) (u : Value), BindsTo s fd ⟨[u], []⟩ [("script", u)]) ∧ ∀ base : Heap, (K w.params).In base → base.Ns mainGlobals mg → (∀ p ∈ mk, TabB base mg p.2.2.1 p.2.2.2.1) →
        FnG l.prog w (K w.params) mg base k fa fd ["script"] (spLaw (K w.params) (mk.map fun p => (p.2.2.2.1, p.2.2.2.2)) m im fb))
    (hfb : ∀ ns : List Int, ns.length ≤ 63 → goesL fb m im ns) :
    PySem.W.WalkO q loose XP YP l.row.toRowW d [] (fun g us => PySem.call g us) := by
  refine Att.attach_call hn hdf fun w s₀ s₁ mg mb fa o pm cd doc a vs ns G Y ho hdt hcd hmg hobj hints hlen hg => ?_
  obtain ⟨fd, hb, hF⟩ := F w mg fa _ (hY w _ Y) G.T.g hmg
  refine end_callT (cs := mk.map fun p => (p.2.2.1, p.2.2.2.1)) (hY w _ Y) G.T.g G.T.b G.T.builtins G.T.nolimit hg (by omega) hr G.T.bmain (fun p hp => ?_) (fun p hp => ?_) (fun p hp => ?_) hobj hints (fun base k1 k2 k3 => hF base k1 k2 fun p hp => k3 _ (List.mem_map.mpr ⟨p, hp, rfl⟩)) hb (hfb ns hlen)
  · obtain ⟨r, hr, rfl⟩ := List.mem_map.mp hp
    exact PySem.W.tab_of G.T (hY w _ Y) (hmk r hr).1 ((hmk r hr).2 w).1
  · obtain ⟨r, hr, rfl⟩ := List.mem_map.mp hp
    exact ((hmk r hr).2 w).2
  · obtain ⟨r, hr, rfl⟩ := List.mem_map.mp hp
    exact ⟨_, List.mem_map.mpr ⟨r, hr, rfl⟩, rfl⟩
end DE
namespace DE
open PyProof.Rows PySem.Spec PySem L2
/-! ### a dict of texts that the module holds: X.get(e, d) -/
def kvsOf : List DictEntry → Option (List (Str × Str))
  | [] => some []
  | e :: r => match e.key, e.val, kvsOf r with
    | .str k _, .str v _, some l => some ((k, v) :: l)
    | _, _, _ => none
theorem kvs_find : ∀ {l : List DictEntry} {kvs : List (Str × Str)}, kvsOf l = some kvs → ∀ z : Str, l.any (·.refKey) = false ∧ ((l.find? (·.key.isStr z) = none ∧ kvs.lookup z = none) ∨ ∃ e v t, l.find? (·.key.isStr z) = some e ∧ e.val = .str v t ∧ kvs.lookup z = some v)
  | [], kvs, h, z => by
    cases h
    exact ⟨rfl, .inl ⟨rfl, rfl⟩⟩
  | e :: r, kvs, h, z => by
    unfold kvsOf at h
    split at h
    · rename_i k t v t' l hk hv hl
      cases h
      obtain ⟨a, b⟩ := kvs_find hl z
      refine ⟨by rw [List.any_cons, a]; simp [DictEntry.refKey, hk], ?_⟩
      by_cases c : z = k
      · subst c
        exact .inr ⟨e, v, t', by rw [List.find?_cons]; simp [hk, Value.isStr], hv, by simp [List.lookup]⟩
      · have c1 : e.key.isStr z = false := by simp [hk, Value.isStr]; exact fun w => c w.symm
        have c2 : (z == k) = false := by simpa using c
        rw [List.find?_cons, c1]
        simp only [List.lookup, c2]
        exact b
    · cases h
/-- the dict under its name -/
def CstD (K : PySem.W.Frag) (w : World) (mg : Str → Option Value) (x : Str) (kvs : List (Str × Str)) : Prop := ∃ d es n, mg x = some (.ref d) ∧ KDict K w d es n ∧ kvsOf es.toList = some kvs
def pickKv (kvs : List (Str × Str)) (s : Str) (z : V) : V := match kvs.lookup s with
  | some v => .str v
  | none => z
section
variable {X : Cx} {Γ : Gam} {W : WX} {e f : Expr} {te tf : TE} {x : Str} {p apos cpos : Pos} {kvs : List (Str × Str)}
theorem pe_getK (D : CstD X.K X.w X.mg x kvs) (hg : Gl X x) (he : PE X e te) (hf : PE X f tf) (m : M2 X (.Name x p) "get" apos e f cpos) (hdb : (x == ("__debug__" : Str)) = false := by decide) :
    PE X (.Call (.Attribute (.Name x p) "get" apos) [e, f] [] cpos) (fun σ H Q => te σ H fun y H1 => tf σ H1 fun z H2 => ∃ s, y = .str s ∧ Q (pickKv kvs s z) H2) := by
  obtain ⟨d, es, n, hm, D, hv⟩ := D
  refine ⟨fun pins s σ H Q I h => ?_⟩; have mp : ∀ {s : Shared} {σ : L2.St} {H : Hp}, L2.Inv X pins σ H s → s.heap.MapOf (strKind X.prog X.w) d (fun k => PySem.findBy Value.isStrOf es k) := fun I => PySem.W.mapOf_K (prog := X.prog) (w := X.w) I.kIn D.at_ D.lit
  refine wpAny_Call_method m.base m.few m.line PySem.F.plainAttrs_dict PySem.F.slot_dict_get PySem.F.type_dict_get (ld_glob I hg hm ⟨(mp I).typeIs, fun b q => ?_, ?_⟩ hdb)
  · cases q
    exact ⟨_, I.kIn _ _ D.at_, rfl⟩
  rw [m.trees]
  refine Calls.callWith_builtin rfl (Calls.evalArgs_plain (Calls.spliced_cons (thn (he.run pins s σ H _ I h) fun iv s2 ⟨y, H2, I2, ry, q2⟩ => Calls.spliced_cons (thn (hf.run pins s2 σ H2 _ I2 q2) fun fv s3 ⟨z, H3, I3, rz, q3⟩ => Calls.spliced_nil ?_))))
  obtain ⟨sx, rfl, q3⟩ := q3
  obtain ⟨t, rfl⟩ := ry
  refine call_meetsIn PySem.F.slot_dict_get (mp I3).typeIs PySem.F.entry_dict_get (PySem.F.args_dict_get_3 _ _ _) (meets_dict_get_default (strKind X.prog X.w) d (PySem.strKind_is X.prog X.w sx t) D.low fv) ⟨_, mp I3, ?_⟩
  obtain ⟨hr, hk⟩ := kvs_find hv sx
  have hn : PySem.W.nsIn X.K d sx = some ((es.toList.find? (·.key.isStr sx)).map (·.val)) := by
    unfold PySem.W.nsIn
    rw [D.at_]
    dsimp only
    rcases hk with ⟨hk, _⟩ | ⟨e, v, t', hk, _, _⟩
    · rw [hk]; simp [hr]
    · rw [hk]; rfl
  rw [PySem.W.find_K D.at_ hn]
  unfold pickKv at q3
  rcases hk with ⟨hk, hl⟩ | ⟨e, v, t', hk, hval, hl⟩
  · rw [hl] at q3
    rw [hk]
    exact ⟨z, H3, I3.tok _, rz, q3⟩
  · rw [hl] at q3
    rw [hk]
    refine ⟨.str v, H3, I3.tok _, ?_, q3⟩
    show RelV (.str v) e.val
    rw [hval]
    exact ⟨t', rfl⟩
/-- X.get(e, d) -/
def fGetK (kvs : List (Str × Str)) (fe fd : Mo D) : Mo D := bd fe fun a => bd fd fun b => match a with
  | .str s => match kvs.lookup s with
    | some v => rt (.str v)
    | none => rt b
  | _ => stop
theorem d_getK {fe fd : Mo D} (D : CstD X.K X.w X.mg x kvs) (hg : Gl X x) (he : DX X Γ W e fe) (hf : DX X Γ W f fd) (m : M2 X (.Name x p) "get" apos e f cpos := by exact ⟨rfl, rfl, rfl, rfl⟩) (hdb : (x == ("__debug__" : Str)) = false := by decide) :
    DX X Γ W (.Call (.Attribute (.Name x p) "get" apos) [e, f] [] cpos) (fGetK kvs fe fd) :=
  (pe_getK D hg he hf m hdb).imp fun σ H Q h => h.bind fun H0 G0 a v g1 G1 H1 r1 h1 => (h1.bind (R1 := RD X.K Γ) fun b u g2 G2 H2 gr r2 h2 => by
    split at h2
    · rename_i s
      cases r1
      refine ⟨s, rfl, ?_⟩
      unfold pickKv
      split at h2
      · rename_i v hl
        exact h2.here (.str v)
      · exact h2.here r2
    · exact h2.stop).g
end
/-! ### list * int -/
def pRepL (d e : D) : Mo (List D) := match d, e with
  | .lst xs, .int k => if 0 ≤ k ∧ k ≤ 1000 ∧ xs.length ≤ 100 then rt (List.replicate k.toNat xs).flatten else stop
  | _, _ => stop
def fRepL (f h : Mo D) : Mo (List D) := bd f fun d => bd h fun e => pRepL d e
section
variable {X : Cx} {Γ : Gam} {W : WX} {a b : Expr} {pos : Pos}
theorem d_repL {f h : Mo D} (ha : DX X Γ W a f) (hb : DX X Γ W b h) : DF X Γ W (.BinOp a .Mult b pos) (fRepL f h) :=
  (pe_op op_rep ha hb).imp fun σ H Q hh => hh.bind fun H0 G0 d v g1 G1 H1 r1 h1 => (h1.bind (R1 := RD X.K Γ) fun e u g2 G2 H2 gr r2 h2 => by
    unfold pRepL at h2
    split at h2
    · rename_i xs k
      split at h2
      · rename_i c
        obtain ⟨c0, c1, c2⟩ := c
        obtain ⟨l, vs, rfl, h3, h4⟩ := Dv.lst_inv r1
        cases r2
        have hl := h4.length
        refine ⟨l, k, vs, rfl, rfl, h2.1.sub _ _ (gr _ _ h3), by omega, by omega, ?_, fun p hp => h2.newO hp ((h4.mono gr).rep _)⟩
        have : vs.length * k.toNat ≤ 100 * 1000 := Nat.mul_le_mul (by omega) (by omega)
        exact Nat.le_trans this (by decide)
      · exact h2.stop
    · exact h2.stop).g
end
/-- what a def makes of the function that it calls, by its body -/
def takeM (fb : Mo D → Ms) (N : Nat) : Th → Th := fun th s => match fb (fActU th) ⟨List.replicate N .no, s⟩ with
  | some (.ret d, g) => some (.ok d, g.s)
  | some (.nx, g) => some (.ok .non, g.s)
  | some (.exc x, g) => some (.error x, g.s)
  | _ => none
end DE
namespace DE
open PyProof.Rows PySem.Spec PySem L2
/-! ### x in a list of data -/
def pInD (neg : Bool) (d e : D) : Mo D := match pyd d, pyd e with
  | some p, some (.list ps) => if (SeqAt.shaped p && SeqAt.shaped (.list ps)) = true then rt (.bl (if neg then !(ps.any fun z => PyData.eqv z p) else ps.any fun z => PyData.eqv z p)) else stop
  | _, _ => stop
section
variable {X : Cx} {Γ : Gam} {W : WX} {a b e : Expr} {es : List Expr} {pos : Pos} {k : Nat}
theorem inD_core {neg : Bool} {F : Value → Value → Sem Value} (h : OpR X F (fun x y H Q => ∃ d ds, Dp X.K H x d ∧ Dp X.K H y (.list ds) ∧ SeqAt.shaped d = true ∧ SeqAt.shaped (.list ds) = true ∧ Q (.bl (if neg then !(ds.any fun z => PyData.eqv z d) else ds.any fun z => PyData.eqv z d)) H)) : BinD X Γ W F (pInD neg) := by
  intro pins s σ H x y v u Q I rx ry ⟨H0, G0, G, gg, σ', d, e, dx, dy, q⟩
  unfold pInD at q
  split at q
  · rename_i p ps h1 h2
    split at q
    · rename_i c
      rw [Bool.and_eq_true] at c
      exact h pins s σ H _ _ v u Q I rx ry ⟨p, ps, dx.dp q.1.sub h1, dy.dp q.1.sub h2, c.1, c.2, q.here (.bl _)⟩
    · exact q.stop
  · exact q.stop
theorem units65 (r : Room k X.A) : X.A.units + 65 < cLine := by have := r.un; omega
theorem o_inD (r : Room k X.A) : BinD X Γ W (compareOp .In) (pInD false) := inD_core (op_inD (units65 r))
theorem o_ninD (r : Room k X.A) : BinD X Γ W (compareOp .NotIn) (pInD true) := inD_core (op_notInD (units65 r))
/-! ### min, max, sorted of a list of ints -/
def minL : List Int → Int
  | [] => 0
  | [x] => x
  | x :: xs => if x ≤ minL xs then x else minL xs
def maxL : List Int → Int
  | [] => 0
  | [x] => x
  | x :: xs => if maxL xs ≤ x then x else maxL xs
theorem minL_is : ∀ (xs : List Int), xs ≠ [] → minL xs ∈ xs ∧ ∀ y ∈ xs, minL xs ≤ y
  | [], h => absurd rfl h
  | [x], _ => ⟨by simp [minL], by simp [minL]⟩
  | x :: y :: xs, _ => by
    obtain ⟨h1, h2⟩ := minL_is (y :: xs) (by simp)
    unfold minL
    split
    · rename_i c
      refine ⟨List.mem_cons_self, fun z hz => ?_⟩; rcases List.mem_cons.mp hz with rfl | hz
      · exact Int.le_refl _
      · exact Int.le_trans c (h2 z hz)
    · rename_i c
      refine ⟨List.mem_cons_of_mem _ h1, fun z hz => ?_⟩; rcases List.mem_cons.mp hz with rfl | hz
      · omega
      · exact h2 z hz
theorem maxL_is : ∀ (xs : List Int), xs ≠ [] → maxL xs ∈ xs ∧ ∀ y ∈ xs, y ≤ maxL xs
  | [], h => absurd rfl h
  | [x], _ => ⟨by simp [maxL], by simp [maxL]⟩
  | x :: y :: xs, _ => by
    obtain ⟨h1, h2⟩ := maxL_is (y :: xs) (by simp)
    unfold maxL
    split
    · rename_i c
      refine ⟨List.mem_cons_self, fun z hz => ?_⟩; rcases List.mem_cons.mp hz with rfl | hz
      · exact Int.le_refl _
      · exact Int.le_trans (h2 z hz) c
    · rename_i c
      refine ⟨List.mem_cons_of_mem _ h1, fun z hz => ?_⟩; rcases List.mem_cons.mp hz with rfl | hz
      · omega
      · exact h2 z hz
def insI (x : Int) : (List Int → List Int)
  | [] => [x]
  | y :: ys => if x ≤ y then x :: y :: ys else y :: insI x ys
def sortI : List Int → List Int
  | [] => []
  | x :: xs => insI x (sortI xs)
theorem insI_perm (x : Int) : ∀ ys : List Int, (insI x ys).Perm (x :: ys)
  | [] => .refl _
  | y :: ys => by
    unfold insI
    split
    · exact .refl _
    · exact ((insI_perm x ys).cons y).trans (.swap x y ys)
theorem insI_sorted (x : Int) : ∀ ys : List Int, ys.Pairwise (· ≤ ·) → (insI x ys).Pairwise (· ≤ ·)
  | [], _ => by simp [insI]
  | y :: ys, h => by
    unfold insI; obtain ⟨h1, h2⟩ := List.pairwise_cons.mp h
    split
    · rename_i c
      refine List.pairwise_cons.mpr ⟨fun z hz => ?_, h⟩; rcases List.mem_cons.mp hz with rfl | hz
      · exact c
      · exact Int.le_trans c (h1 z hz)
    · rename_i c
      refine List.pairwise_cons.mpr ⟨fun z hz => ?_, insI_sorted x ys h2⟩
      rcases List.mem_cons.mp ((insI_perm x ys).mem_iff.mp hz) with rfl | hz
      · omega
      · exact h1 z hz
theorem sortI_perm : ∀ xs : List Int, (sortI xs).Perm xs
  | [] => .refl _
  | x :: xs => (insI_perm x (sortI xs)).trans ((sortI_perm xs).cons x)
theorem sortI_sorted : ∀ xs : List Int, (sortI xs).Pairwise (· ≤ ·)
  | [] => .nil
  | x :: xs => insI_sorted x _ (sortI_sorted xs)
theorem sorted_one : ∀ {xs ys : List Int}, xs.Perm ys → xs.Pairwise (· ≤ ·) → ys.Pairwise (· ≤ ·) → xs = ys
  | [], ys, p, _, _ => p.nil_eq
  | x :: xs, [], p, _, _ => absurd p.length_eq (by simp)
  | x :: xs, y :: ys, p, h1, h2 => by
    obtain ⟨a1, a2⟩ := List.pairwise_cons.mp h1
    obtain ⟨b1, b2⟩ := List.pairwise_cons.mp h2
    have e : x = y := by
      have m1 : x ∈ y :: ys := p.mem_iff.mp List.mem_cons_self
      have m2 : y ∈ x :: xs := p.mem_iff.mpr List.mem_cons_self
      rcases List.mem_cons.mp m1 with z | z
      · exact z
      · rcases List.mem_cons.mp m2 with w | w
        · exact w.symm
        · have := b1 x z; have := a1 y w; omega
    subst e
    rw [sorted_one (p.cons_inv) a2 b2]
def fMin (f : Mo D) : Mo D := bd f fun d => match d with
  | .lst xs => match intsOf xs with
    | some (y :: ys) => rt (.int (minL (y :: ys)))
    | _ => stop
  | _ => stop
def fMax (f : Mo D) : Mo D := bd f fun d => match d with
  | .lst xs => match intsOf xs with
    | some (y :: ys) => rt (.int (maxL (y :: ys)))
    | _ => stop
  | _ => stop
def fSorted (f : Mo D) : Mo (List D) := bd f fun d => match d with
  | .lst xs => match intsOf xs with
    | some ys => rt ((sortI ys).map .int)
    | none => stop
  | _ => stop
theorem known_ints {K : PySem.W.Frag} {G H : Hp} {v : V} {xs : List D} {ys : List Int} (h : Dv K Γ G v (.lst xs)) (e : intsOf xs = some ys) (s : Gr G H) : ∃ l, v = .ref l ∧ H l = some (.lst (ys.map V.int)) := by
  obtain ⟨l, vs, rfl, h3, h4⟩ := h.lst_inv
  rw [intsOf_eq e] at h4
  rw [dva_ints' h4] at h3
  exact ⟨l, rfl, s _ _ h3⟩
theorem d_min {x : Str} {p : Pos} {f : Mo D} (hc : X.calm = true) (ha : DX X Γ W e f) (hg : Gl X x) (hm : X.mg x = none) (hv : bootBuiltins x = some (.builtin "min")) (hn : x ≠ "__name__" := by decide) (hdb : (x == ("__debug__" : Str)) = false := by decide)
    (hs : starEach [e] X.env = (false, eval e X.env) :: starEach [] X.env := by rfl) (hpl : (backTo pos (starEach [] X.env)).any (·.1) = false := by rfl) : DX X Γ W (.Call (.Name x p) [e] [] pos) (fMin f) :=
  (pe_callB (cr_min hc) hg hm hv (pa_cons ha pa_nil hs) hn hdb hs hpl).imp fun σ H Q h => h.bind fun H0 G0 d v g1 G1 H1 r1 h1 => by
    split at h1
    · rename_i xs
      split at h1
      · rename_i y ys hi
        obtain ⟨l, rfl, hl⟩ := known_ints r1 hi h1.1.sub
        refine ⟨l, y :: ys, rfl, SqL.of hl, by simp, fun m h2 h3 => ?_⟩
        obtain ⟨k1, k2⟩ := minL_is (y :: ys) (by simp)
        have : m = minL (y :: ys) := by have := h3 _ k1; have := k2 _ h2; omega
        rw [this]
        exact h1.here (.int _)
      · exact h1.stop
    · exact h1.stop
theorem d_max {x : Str} {p : Pos} {f : Mo D} (hc : X.calm = true) (ha : DX X Γ W e f) (hg : Gl X x) (hm : X.mg x = none) (hv : bootBuiltins x = some (.builtin "max")) (hn : x ≠ "__name__" := by decide) (hdb : (x == ("__debug__" : Str)) = false := by decide)
    (hs : starEach [e] X.env = (false, eval e X.env) :: starEach [] X.env := by rfl) (hpl : (backTo pos (starEach [] X.env)).any (·.1) = false := by rfl) : DX X Γ W (.Call (.Name x p) [e] [] pos) (fMax f) :=
  (pe_callB (cr_max hc) hg hm hv (pa_cons ha pa_nil hs) hn hdb hs hpl).imp fun σ H Q h => h.bind fun H0 G0 d v g1 G1 H1 r1 h1 => by
    split at h1
    · rename_i xs
      split at h1
      · rename_i y ys hi
        obtain ⟨l, rfl, hl⟩ := known_ints r1 hi h1.1.sub
        refine ⟨l, y :: ys, rfl, SqL.of hl, by simp, fun m h2 h3 => ?_⟩
        obtain ⟨k1, k2⟩ := maxL_is (y :: ys) (by simp)
        have : m = maxL (y :: ys) := by have := h3 _ k1; have := k2 _ h2; omega
        rw [this]
        exact h1.here (.int _)
      · exact h1.stop
    · exact h1.stop
theorem d_sorted {x : Str} {p : Pos} {f : Mo D} (ha : DX X Γ W e f) (hg : Gl X x) (hm : X.mg x = none) (hv : bootBuiltins x = some (.builtin "sorted")) (hn : x ≠ "__name__" := by decide) (hdb : (x == ("__debug__" : Str)) = false := by decide)
    (hs : starEach [e] X.env = (false, eval e X.env) :: starEach [] X.env := by rfl) (hpl : (backTo pos (starEach [] X.env)).any (·.1) = false := by rfl) : DF X Γ W (.Call (.Name x p) [e] [] pos) (fSorted f) :=
  (pe_callB cr_sortedI hg hm hv (pa_cons ha pa_nil hs) hn hdb hs hpl).imp fun σ H Q h => h.bind fun H0 G0 d v g1 G1 H1 r1 h1 => by
    split at h1
    · rename_i xs
      split at h1
      · rename_i ys hi
        obtain ⟨l, rfl, hl⟩ := known_ints r1 hi h1.1.sub
        refine ⟨l, ys, rfl, SqL.of hl, fun ns p h2 h3 hp => ?_⟩
        have : ns = sortI ys := sorted_one (h2.trans (sortI_perm ys).symm) h3 (sortI_sorted ys)
        rw [this]
        exact h1.newO hp (dva_ints _)
      · exact h1.stop
    · exact h1.stop
/-! ### an item of a list that a name holds, by a number of the text -/
def fIxC (f : Mo (List D)) (i : Int) : Mo D := bd f fun ds => match atI ds i with
  | some d => rt d
  | none => stop
theorem pc_int {i : Int} {j : Nat} {p : Pos} : PE X (.Constant (.int i) j p) (fun σ H Q => Q (.int i) H) := pe_int
theorem pc_neg {i : Int} {j : Nat} {p : Pos} : PE X (.UnaryOp .USub (.Constant (.int i) j p) pos) (fun σ H Q => Q (.int (-i)) H) := (pe_un un_neg pe_int).imp fun σ H Q h => ⟨_, rfl, h⟩
theorem d_ixC {f : Mo (List D)} {i : Int} (ha : DP X Γ W a f) (hb : PE X b (fun σ H Q => Q (.int i) H)) (hs : PlainIx b) : DX X Γ W (.Subscript a b pos) (fIxC f i) :=
  (pe_ix (ix_list.or ix_tup) ha hb hs).imp fun σ H Q h => h.bind fun H0 G0 ds v g1 G1 H1 r1 h1 => by
    obtain ⟨l, vs, rfl, h3, h4⟩ := r1
    split at h1
    · rename_i d hd
      obtain ⟨w, hw, dw⟩ := atI_dv h4 hd
      rcases h3 with h3 | h3
      · exact .inl ⟨l, vs, _, w, rfl, rfl, h3, hw, h1.here dw⟩
      · exact .inr ⟨l, vs, _, w, rfl, rfl, h1.1.sub.sqT h3, hw, h1.here dw⟩
    · exact h1.stop
end
end DE
namespace DE
open PyProof.Rows PySem.Spec PySem L2
/-! ### dict displays with texts as keys -/
def putKD (kvs : List (Key × D)) (k : Key) (d : D) : List (Key × D) := if (kvs.any fun kv => decide (kv.1 = k)) = true then kvs.map (fun kv => if kv.1 = k then (kv.1, d) else kv) else kvs ++ [(k, d)]
def mergeKD (kvs more : List (Key × D)) : List (Key × D) := more.foldl (fun acc kv => putKD acc kv.1 kv.2) kvs
def valD (kvs : List (Key × D)) (k : Key) : Option D := (kvs.find? fun kv => decide (kv.1 = k)).map (·.2)
section
variable {K : PySem.W.Frag} {Γ : Gam} {G : Hp}
theorem DvK.any (k : Key) : ∀ {vs : List (Key × V)} {ds : List (Key × D)}, DvK K Γ G vs ds → (vs.any fun kv => decide (kv.1 = k)) = (ds.any fun kv => decide (kv.1 = k))
  | _, _, .nil => rfl
  | _, _, .cons h t => by simp only [List.any_cons, DvK.any k t]
theorem DvK.snoc {k : Key} {v : V} {d : D} (hv : Dv K Γ G v d) : ∀ {vs : List (Key × V)} {ds : List (Key × D)}, DvK K Γ G vs ds → DvK K Γ G (vs ++ [(k, v)]) (ds ++ [(k, d)])
  | _, _, .nil => .cons hv .nil
  | _, _, .cons h t => .cons h (DvK.snoc hv t)
theorem DvK.over {k : Key} {v : V} {d : D} (hv : Dv K Γ G v d) : ∀ {vs : List (Key × V)} {ds : List (Key × D)}, DvK K Γ G vs ds → DvK K Γ G (vs.map fun kv => if kv.1 = k then (kv.1, v) else kv) (ds.map fun kv => if kv.1 = k then (kv.1, d) else kv)
  | _, _, .nil => .nil
  | _, _, .cons (k := k1) h t => by
    simp only [List.map_cons]
    by_cases c : k1 = k
    · rw [if_pos c, if_pos c]; exact .cons hv (DvK.over hv t)
    · rw [if_neg c, if_neg c]; exact .cons h (DvK.over hv t)
theorem DvK.put {k : Key} {v : V} {d : D} {vs : List (Key × V)} {ds : List (Key × D)} (h : DvK K Γ G vs ds) (hv : Dv K Γ G v d) : DvK K Γ G (putK vs k v) (putKD ds k d) := by
  unfold putK putKD
  rw [h.any k]
  split
  · exact h.over hv
  · exact h.snoc hv
theorem DvK.merge : ∀ {ms : List (Key × V)} {es : List (Key × D)} {vs : List (Key × V)} {ds : List (Key × D)}, DvK K Γ G ms es → DvK K Γ G vs ds → DvK K Γ G (mergeK vs ms) (mergeKD ds es)
  | _, _, _, _, .nil, h => h
  | _, _, vs, ds, .cons (k := k) (v := v) (d := d) h t, h2 => (DvK.merge t (h2.put h) : DvK K Γ G (mergeK (putK vs k v) _) (mergeKD (putKD ds k d) _))
theorem DvK.len : ∀ {vs : List (Key × V)} {ds : List (Key × D)}, DvK K Γ G vs ds → vs.length = ds.length
  | _, _, .nil => rfl
  | _, _, .cons _ t => congrArg Nat.succ (DvK.len t)
theorem DvK.val (k : Key) : ∀ {vs : List (Key × V)} {ds : List (Key × D)}, DvK K Γ G vs ds → (valV vs k = none ∧ valD ds k = none) ∨ ∃ v d, valV vs k = some v ∧ valD ds k = some d ∧ Dv K Γ G v d
  | _, _, .nil => .inl (And.intro rfl rfl)
  | _, _, .cons (k := k1) (v := v) (d := d) h t => by
    by_cases c : k1 = k
    · exact .inr ⟨v, d, by simp [valV, List.find?_cons, c], by simp [valD, List.find?_cons, c], h⟩
    · have a : ∀ {vs : List (Key × V)}, valV ((k1, v) :: vs) k = valV vs k := by simp [valV, List.find?_cons, c]
      have b : ∀ {ds : List (Key × D)}, valD ((k1, d) :: ds) k = valD ds k := by simp [valD, List.find?_cons, c]
      rw [a, b]
      exact DvK.val k t
end
def RK (K : PySem.W.Frag) (Γ : Gam) : Rel (List (V × V)) (List (Key × D)) := fun _ G _ _ _ ps ds => ∃ kvs : List (Key × V), ps = kvs.map (fun kv => (kV kv.1, kv.2)) ∧ DvK K Γ G kvs ds
def fPairs : List (Str × Mo D) → Mo (List (Key × D))
  | [] => rt []
  | (k, f) :: r => bd f fun d => bd (fPairs r) fun ps => rt ((Sum.inr k, d) :: ps)
def fDisp (l : List (Str × Mo D)) : Mo D := bd (fPairs l) fun ps => if ps.length ≤ 15 then rt (.dic (mergeKD [] ps)) else stop
def DPs (X : Cx) (Γ : Gam) (W : WX) (pos : Pos) (keys : List (Option Expr)) (values : List Expr) (f : Mo (List (Key × D))) : Prop :=
  ∃ trs, PPs X pos keys values trs ∧ ∀ σ H Q, tG X.K Γ W (RK X.K Γ) f σ H Q → tPairs trs σ H Q
section
variable {X : Cx} {Γ : Gam} {W : WX} {e : Expr} {pos : Pos} {keys : List (Option Expr)} {values : List Expr}
theorem dps_nil : DPs X Γ W pos [] [] (fPairs []) := ⟨[], pps_nil, fun σ H Q ⟨H0, G0, G, g, h⟩ => h.here ⟨[], rfl, .nil⟩⟩
theorem dps_cons {k : Str} {j : Nat} {p : Pos} {f : Mo D} {l : List (Str × Mo D)} (he : DX X Γ W e f) (hr : DPs X Γ W pos keys values (fPairs l)) : DPs X Γ W pos (some (.Constant (.str k) j p) :: keys) (e :: values) (fPairs ((k, f) :: l)) := by
  obtain ⟨trs, h1, h2⟩ := hr
  refine ⟨_, pps_cons pe_str he h1, fun σ H Q h => ?_⟩
  show tG X.K Γ W (RD X.K Γ) f σ H _
  exact h.bind fun H0 G0 d v g1 G1 H1 r1 h => h2 _ _ _ (h.bind (R1 := RK X.K Γ) fun ds ps g2 G2 H2 gr r2 h => by
    obtain ⟨kvs, rfl, dk⟩ := r2
    exact h.here ⟨(Sum.inr k, v) :: kvs, rfl, .cons (r1.mono gr) dk⟩).g
/-- a new object that stood apart is known from now on -/
theorem En.grow {K : PySem.W.Frag} {H0 G0 G H : Hp} {σ : L2.St} {g : Sg} (E : En K Γ H0 G0 G H σ g) {p : Addr} {o : HO} (g1 : G p = none) (h0 : H0 p = none) (m : p ≠ Γ.M) (sf : Sf H p) (ow : ∀ (i : Nat) xs, g.r[i]? = some (Sl.own xs) → σ[i]? ≠ some (some (V.ref p))) : En K Γ H0 G0 (upd G p o) (upd H p o) σ g := by
  have T := E.touch (o := o) g1 h0 m sf ow
  have gr : Gr G (upd G p o) := Gr.upd g1
  refine ⟨T.base, fun a u h h' => ?_, E.g0.trans gr, fun a u h => ?_, by rw [upd_ne (Ne.symm m)]; exact E.gm, ?_, T.len, fun i d h => ?_, fun i xs h => ?_, T.dis, T.tb, gtU E.gt E.tb sf, fun i f c q G1 h => ?_⟩
  · have : a ≠ p := by rintro rfl; rw [h0] at h; cases h
    rw [upd_ne this]; exact E.gfr a u h h'
  · by_cases c : a = p
    · rw [c, upd_same] at h; rw [c, upd_same]; exact h
    · rw [upd_ne c] at h ⊢; exact E.sub a u h
  · exact T.st.gr gr rfl
  · obtain ⟨v, k1, k2⟩ := E.dat i d h
    exact ⟨v, k1, k2.mono gr⟩
  · obtain ⟨l, vs, k1, k2, k3, k4, k5⟩ := T.own i xs h
    have : l ≠ p := by rintro rfl; exact ow i xs h k1
    exact ⟨l, vs, k1, k2, by rw [upd_ne this]; exact k3, k4, k5.mono gr⟩
  · obtain ⟨k1, k2, k3⟩ := T.fn i f c q G1 h
    exact ⟨k1, k2, k3.trans gr⟩
theorem d_disp {l : List (Str × Mo D)} (h : DPs X Γ W pos keys values (fPairs l)) (hall : keys.all (·.isSome) = true := by rfl) (hl : keys.length = values.length := by rfl) (h0 : keys ≠ [] := by exact List.cons_ne_nil _ _) (h15 : keys.length ≤ 15 := by decide) : DX X Γ W (.Dict keys values pos) (fDisp l) := by
  obtain ⟨trs, hp, ht⟩ := h
  refine (pe_disp hp hall hl h0 h15).imp fun σ H Q ⟨H0, G0, G, g, E, r, g', eq, q⟩ p hpn => ?_
  obtain ⟨om, hM⟩ := E.hm
  have pm : p ≠ Γ.M := Ne.symm (ne_of_none hM hpn)
  have gp : G p = none := by
    cases z : G p with
    | none => rfl
    | some u => rw [E.sub _ _ z] at hpn; cases hpn
  have e0 : H0 p = none := by
    cases z : H0 p with
    | none => rfl
    | some u => obtain ⟨u', z⟩ := E.there z; rw [hpn] at z; cases z
  have E1 := E.newO (o := .dK []) hpn
  have ow : ∀ (i : Nat) xs, g.r[i]? = some (Sl.own xs) → σ[i]? ≠ some (some (V.ref p)) := fun i xs hi hs => by
    obtain ⟨l, _, k1, k2, _⟩ := E.own i xs hi
    rw [hs] at k1; cases k1; rw [k2] at hpn; cases hpn
  obtain ⟨Hr, up, dn, F, back⟩ := E1.rebase
  have hr : Hr p = some (.dK []) := dn p _ upd_same pm ow
  have okp : Γ.Ok p := ⟨pm, (sf_dK (upd_same (H := H) (a := p))).ne_tab E1.tb⟩
  refine ht σ _ _ ⟨Hr, G, G, g, F, ?_⟩
  unfold fDisp bd at eq
  cases hf : fPairs l g with
  | none => rw [hf] at eq; cases eq
  | some w =>
    obtain ⟨r1, g1⟩ := w
    rw [hf] at eq
    cases r1 with
    | error x =>
      cases eq
      exact ⟨.error x, _, rfl, fun C dd G' H' gr E' hx => q C dd G' H' gr (back _ _ _ _ E') hx⟩
    | ok ds =>
      refine ⟨.ok ds, g1, rfl, fun ps G2 H2 gr2 F2 r2 => ?_⟩
      obtain ⟨kvs, rfl, dk⟩ := r2
      dsimp only at eq
      split at eq
      · rename_i hlen
        have h2 : H2 p = some (.dK []) := F2.base p _ okp hr
        have g2 : G2 p = none := F2.gfr p _ hr gp
        have ow2 : ∀ (i : Nat) xs, g1.r[i]? = some (Sl.own xs) → σ[i]? ≠ some (some (V.ref p)) := fun i xs hi hs => by
          obtain ⟨l, _, k1, _, _, k4, _⟩ := F2.own i xs hi
          rw [hs] at k1; cases k1; rw [hr] at k4; cases k4
        cases eq
        refine ⟨h2, kvs, rfl, by rw [dk.len]; exact hlen, ?_⟩
        have E3 := (back _ _ _ _ F2).grow (o := .dK (mergeK [] kvs)) g2 e0 pm (sf_dK h2) ow2
        exact q (.ref p) _ _ (gr2.trans (Gr.upd g2)) E3 (.dic upd_same ((DvK.merge dk .nil).mono (Gr.upd g2)))
      · cases eq
/-! ### what a dict holds -/
def fDget (fd fk fx : Mo D) : Mo D := bd fd fun a => match a with
  | .dic ps => bd fk fun b => bd fx fun c => match b with
    | .str s => match valD ps (Sum.inr s) with
      | some d => rt d
      | none => rt c
    | _ => stop
  | _ => stop
def fDix (fd fk : Mo D) : Mo D := bd fd fun a => bd fk fun b => match a, b with
  | .dic ps, .str s => match valD ps (Sum.inr s) with
    | some d => rt d
    | none => stop
  | _, _ => stop
theorem Dv.dic_inv {K : PySem.W.Frag} {G : Hp} {v : V} {ps : List (Key × D)} (h : Dv K Γ G v (.dic ps)) : ∃ a vs, v = .ref a ∧ G a = some (.dK vs) ∧ DvK K Γ G vs ps := by
  cases h with
  | dic h t => exact ⟨_, _, rfl, h, t⟩
theorem d_dget {o f : Expr} {apos : Pos} {fd fk fx : Mo D} (hu : X.A.units + 1 < cLine) (ho : DX X Γ W o fd) (he : DX X Γ W e fk) (hf : DX X Γ W f fx) (m : M2 X o "get" apos e f pos := by exact ⟨rfl, rfl, rfl, rfl⟩) : DX X Γ W (.Call (.Attribute o "get" apos) [e, f] [] pos) (fDget fd fk fx) :=
  (pe_dget2 hu ho he hf m).imp fun σ H Q h => h.bind fun H0 G0 d v g1 G1 H1 r1 h1 => by
    split at h1
    · rename_i ps
      obtain ⟨a, vs, rfl, hG, dk⟩ := Dv.dic_inv r1
      refine ⟨a, rfl, .inl ⟨vs, .inl (h1.1.sub _ _ hG)⟩, (h1.bind (R1 := RD X.K Γ) fun b y g2 G2 H2 gr2 r2 h2 => (h2.bind (R1 := RD X.K Γ) fun c z g3 G3 H3 gr3 r3 h3 => ?_).g).g⟩
      split at h3
      · rename_i s
        cases r2
        have hG3 : H3 a = some (.dK vs) := h3.1.sub _ _ (gr3 _ _ (gr2 _ _ hG))
        refine ⟨_, .inl ⟨vs, Sum.inr s, .inl hG3, rfl, rfl⟩, ?_⟩
        rcases dk.val (Sum.inr s) with ⟨k1, k2⟩ | ⟨w, d, k1, k2, k3⟩
        · rw [k2] at h3; rw [k1]
          exact h3.here r3
        · rw [k2] at h3; rw [k1]
          exact h3.here ((k3.mono gr2).mono gr3)
      · exact h3.stop
    · exact h1.stop
theorem d_dix {o : Expr} {fd fk : Mo D} (hu : X.A.units + 1 < cLine) (ho : DX X Γ W o fd) (he : DX X Γ W e fk) (hs : NoSl e := by exact fun _ _ => rfl) : DX X Γ W (.Subscript o e pos) (fDix fd fk) :=
  (pe_dget hu ho he hs).imp fun σ H Q h => h.bind fun H0 G0 d v g1 G1 H1 r1 h1 => (h1.bind (R1 := RD X.K Γ) fun b y g2 G2 H2 gr2 r2 h2 => by
    split at h2
    · rename_i ps s
      obtain ⟨a, vs, rfl, hG, dk⟩ := Dv.dic_inv r1
      cases r2
      have hG2 : H2 a = some (.dK vs) := h2.1.sub _ _ (gr2 _ _ hG)
      rcases dk.val (Sum.inr s) with ⟨k1, k2⟩ | ⟨w, d, k1, k2, k3⟩
      · rw [k2] at h2; exact h2.stop
      · rw [k2] at h2
        exact ⟨a, w, rfl, .inl ⟨vs, Sum.inr s, .inl hG2, rfl, k1.symm⟩, h2.here (k3.mono gr2)⟩
    · exact h2.stop).g
end
end DE
namespace DE
open PyProof.Rows PySem.Spec PySem L2
/-! ### a comprehension over range(n) -/
def fCompR (vs : List Nat) (fi : Mo (List D)) (t : Mt) (c : Mo Bool) (e : Mo D) : Mo (List D) := bd fi fun ds => match ds with
  | [.int n] => if n ≤ 100000 ∧ -100000 ≤ n then compF vs t c e (intsD n) else stop
  | _ => stop
theorem intsD_len (n : Int) : (intsD n).length = n.toNat := by unfold intsD; simp
theorem intsD_at {n : Int} {i : Nat} (h : i < n.toNat) : (intsD n).drop i = .int (i : Int) :: (intsD n).drop (i + 1) := by
  have e : (intsD n)[i]? = some (.int (i : Int)) := by
    unfold intsD
    rw [List.getElem?_map, List.getElem?_range h]; rfl
  obtain ⟨hl, e⟩ := List.getElem?_eq_some_iff.mp e
  rw [← e]
  exact List.drop_eq_getElem_cons hl
theorem lcR_read {K : PySem.W.Frag} {Γ : Gam} {W : WX} {fi : Mo (List D)} {t : Mt} {c : Mo Bool} {e : Mo D} {gt : TG} {js vs : List Nat} (hj : ∀ j ∈ js, j ∈ vs)
    (kg : ∀ (v : V) (σ : L2.St) (H : Hp) (Q : L2.St → Hp → Prop) (H0 G0 G : Hp) (g g' : Sg) (d : D), En K Γ H0 G0 G H σ g → Dv K Γ G v d → t d g = some g' → (∀ σ', En K Γ H0 G0 G H σ' g' → (σ'.length = σ.length ∧ ∀ i, i ∉ js → σ'[i]? = σ[i]?) → Q σ' H) → gt v σ H Q)
    {σ : L2.St} {H : Hp} {Q : VK} (h : tG K Γ W (RF K Γ) (fCompR vs fi t c e) σ H Q) : tLc (iRng1 (tG K Γ W (RA K Γ) fi)) gt (tG K Γ Wn RB c) (tG K Γ Wn (RD K Γ) e) vs σ H Q :=
  h.bind fun H0 G0 ds xs g1 G1 H1 r1 h1 => by
    split at h1
    · rename_i n
      split at h1
      · rename_i hn
        obtain ⟨rfl⟩ : xs = [V.int n] := by
          cases r1 with
          | cons a b => cases a; cases b; rfl
        refine ⟨n, rfl, by omega, by omega, fun Dl hD => ?_⟩
        obtain ⟨out, ge, hm, c0, fin⟩ := comp_start h1 hD
        refine lc_range (lo := 0) (n := n.toNat) (fun i H2 => CI K Γ H0 G0 G1 (L2.wipe σ vs) vs t c e out ge Dl ((intsD n).drop i) (intsD n).length H2) c0 (fun i H2 hi C => ?_) (fun H2 C => ?_)
        · rw [intsD_at hi] at C
          have dv : Dv K Γ G1 (.int (0 + (i : Int))) (.int (i : Int)) := by rw [Int.zero_add]; exact .int _
          exact comp_turn hm hj C dv kg
        · have : (intsD n).drop n.toNat = [] := by rw [← intsD_len, List.drop_length]
          rw [this] at C
          exact fin H2 C
      · exact h1.stop
    · exact h1.stop
section
variable {X : Cx} {Γ : Gam} {W : WX} {a b elt tg : Expr} {ifs : List Expr} {scope : Scope} {own : List (Str × Nat)} {pos p2 : Pos}
theorem d_compR {p : Pos} {fi : Mo (List D)} {t : Mt} {c : Mo Bool} {e : Mo D} {gt : TG} {js : List Nat} (hc : X.calm = true) (hN : X.N.Nodup) (hi : DA X Γ W [a] fi) (ok : BlkOk X.N X.env.scope scope own) (hj : ∀ j ∈ js, j ∈ own.map (·.2)) (k : CompOk X Γ elt tg ifs scope gt js t c e) (hg : Gl X "range") (hm : X.mg "range" = none)
    (hs : ∀ x, foldedSetIterable (.Call (.Name "range" p) [a] [] p2) X.env x = pure x := by intro _; rfl) (h1 : starEach [a] X.env = [(false, eval a X.env)] := by rfl) : DF X Γ W (.ListComp elt [⟨tg, .Call (.Name "range" p) [a] [] p2, ifs, 0⟩] scope pos) (fCompR (own.map (·.2)) fi t c e) := by
  have kg := k.sem
  obtain ⟨pg, kt, ke⟩ := k
  exact (pe_lc hc hN (pi_range1 hg hm hi h1) ok (fun s H C cl fp => (pg s H C cl fp).1) kt ke hs).imp fun σ H Q h => lcR_read hj kg h
end
/-! ### a, b = x, [..] and a, b, c = x, y, [..] -/
theorem Fre.set {K : PySem.W.Frag} {Γ : Gam} {H0 G H : Hp} {σ : L2.St} {g : Sg} {u : V} {ys : List D} (h : Fre K Γ H0 G H σ g u ys) (i : Nat) (v : V) (d : D) : Fre K Γ H0 G H (σ.set i (some v)) ⟨g.r.set i (.dat d), g.s⟩ u ys := by
  obtain ⟨p, vs, rfl, q1, q2, q3, q4, q5⟩ := h.at_
  refine ⟨p, vs, rfl, q1, q2, q3, q4, fun l zs hl hs => ?_⟩
  by_cases z : l = i
  · subst z
    have il : l < g.r.length := by have := (List.getElem?_eq_some_iff.mp hl).1; simpa using this
    rw [List.getElem?_set_self il] at hl; cases hl
  · rw [List.getElem?_set_ne (Ne.symm z)] at hl hs
    exact q5 l zs hl hs
def fPar3 (i j l : Nat) (f h : Mo D) (k : Mo (List D)) : Ms := sb f fun d => sb h fun e => sb k fun ys g => some (.nx, ⟨((g.r.set i (.dat d)).set j (.dat e)).set l (.own ys), g.s⟩)
section
variable {X : Cx} {Γ : Gam} {W : WX} {a b c : Expr} {pos pt pt2 px py pz : Pos} {kt k2 : Nat}
theorem s_parDO {i j : Nat} {x y : Str} {f : Mo D} {h : Mo (List D)} (hc : X.calm = true) (hN : X.N.Nodup) (ha : DX X Γ W a f) (hb : DF X Γ W b h) (hi : X.N[i]? = some x := by rfl) (hj : X.N[j]? = some y := by rfl) (hij : i ≠ j := by decide)
    (hx : X.env.scope.names.lookup x = some .local := by rfl) (hy : X.env.scope.names.lookup y = some .local := by rfl) (h1 : starEach [a, b] X.env = (false, eval a X.env) :: starEach [b] X.env := by rfl) (h2 : starEach [b] X.env = (false, eval b X.env) :: starEach [] X.env := by rfl)
    (hw : swappedStores [.Tuple [.Name x px, .Name y py] kt pt] (.Tuple [a, b] k2 pt2) X.env = pure (some [x, y]) := by rfl)
    (hs : swapsWithSole [.Tuple [.Name x px, .Name y py] kt pt] (.Tuple [a, b] k2 pt2) pos.line X.env = pure false := by rfl) : DS_ X Γ W (.Assign [.Tuple [.Name x px, .Name y py] kt pt] (.Tuple [a, b] k2 pt2) pos) (fParDO i j f h) :=
  (ps_par hc hN hi hj hij hx hy (pa_cons ha (pa_cons hb pa_nil h2) h1) hw hs).imp fun Ds σ H hh => hh.bind fun H0 G0 d v g1 G1 H1 r1 t1 => (t1.bind (R1 := RF X.K Γ) fun e u g2 G2 H2 _ gr2 r2 t2 =>
    ⟨v, u, rfl, t2.next rfl (Gr.refl _) ((t2.1.set i (Dv.mono gr2 r1)).setO j (r2.set i v d))⟩).g
theorem s_par3 {i j l : Nat} {x y z : Str} {f h : Mo D} {k : Mo (List D)} (hc : X.calm = true) (hN : X.N.Nodup) (ha : DX X Γ W a f) (hb : DX X Γ W b h) (hk : DF X Γ W c k) (hi : X.N[i]? = some x := by rfl) (hj : X.N[j]? = some y := by rfl) (hl : X.N[l]? = some z := by rfl) (hij : i ≠ j := by decide) (hil : i ≠ l := by decide) (hjl : j ≠ l := by decide)
    (hx : X.env.scope.names.lookup x = some .local := by rfl) (hy : X.env.scope.names.lookup y = some .local := by rfl) (hz : X.env.scope.names.lookup z = some .local := by rfl) (h1 : starEach [a, b, c] X.env = (false, eval a X.env) :: starEach [b, c] X.env := by rfl) (h2 : starEach [b, c] X.env = (false, eval b X.env) :: starEach [c] X.env := by rfl) (h3 : starEach [c] X.env = (false, eval c X.env) :: starEach [] X.env := by rfl)
    (hw : swappedStores [.Tuple [.Name x px, .Name y py, .Name z pz] kt pt] (.Tuple [a, b, c] k2 pt2) X.env = pure (some [x, y, z]) := by rfl)
    (hs : swapsWithSole [.Tuple [.Name x px, .Name y py, .Name z pz] kt pt] (.Tuple [a, b, c] k2 pt2) pos.line X.env = pure false := by rfl) : DS_ X Γ W (.Assign [.Tuple [.Name x px, .Name y py, .Name z pz] kt pt] (.Tuple [a, b, c] k2 pt2) pos) (fPar3 i j l f h k) :=
  (ps_par3 hc hN hi hj hl hij hil hjl hx hy hz (pa_cons ha (pa_cons hb (pa_cons hk pa_nil h3) h2) h1) hw hs).imp fun Ds σ H hh => hh.bind fun H0 G0 d v g1 G1 H1 r1 t1 => (t1.bind (R1 := RD X.K Γ) fun e u g2 G2 H2 _ gr2 r2 t2 => (t2.bind (R1 := RF X.K Γ) fun ys w g3 G3 H3 _ gr3 r3 t3 =>
    ⟨v, u, w, rfl, t3.next rfl (Gr.refl _) (((t3.1.set i ((Dv.mono gr2 r1).mono gr3)).set j (Dv.mono gr3 r2)).setO l ((r3.set i v d).set j u e))⟩).g).g
end
/-! ### constants of the module: tuples of all sorts -/
inductive Cv (K : PySem.W.Frag) : Value → V → D → Prop
  | bl (b : Bool) : Cv K (.bool b) (.bl b) (.bl b)
  | int (i : Int) (t : Tok) : Cv K (.int i t) (.int i) (.int i)
  | str (s : Str) (t : Tok) : Cv K (.str s t) (.str s) (.str s)
  | tup {r : Addr} {od : Option Addr} {it : Array Value} {n : Nat} {sl : Array (Option Value)} {vs : List V} {ds : List D} : K.lookup r = some ⟨.type "tuple", od, .seq it n, sl⟩ → it.size ≤ 1000 → Vals vs it.toList → (∀ Γ G, DvA K Γ G vs ds) → Cv K (.ref r) (.ref r) (.tup ds)
theorem Cv.rel {K : PySem.W.Frag} {u : Value} {v : V} {d : D} (h : Cv K u v d) : RelV v u := by
  cases h with
  | bl b => rfl
  | int i t => exact ⟨t, rfl⟩
  | str s t => exact ⟨t, rfl⟩
  | tup _ _ _ _ => rfl
theorem Cv.dv {K : PySem.W.Frag} {u : Value} {v : V} {d : D} (h : Cv K u v d) (Γ : Gam) (G : Hp) : Dv K Γ G v d := by
  cases h with
  | bl b => exact .bl b
  | int i t => exact .int i
  | str s t => exact .str s
  | tup h1 h2 h3 h4 => exact .tup (.inr ⟨_, _, _, h1, rfl, rfl, Nat.le_trans h2 (by decide), h3⟩) (h4 Γ G)
inductive CvA (K : PySem.W.Frag) : List Value → List D → Prop
  | nil : CvA K [] []
  | cons {u : Value} {v : V} {d : D} {us : List Value} {ds : List D} : Cv K u v d → CvA K us ds → CvA K (u :: us) (d :: ds)
theorem CvA.get {K : PySem.W.Frag} : ∀ {us : List Value} {ds : List D}, CvA K us ds → ∃ vs, Vals vs us ∧ ∀ Γ G, DvA K Γ G vs ds
  | _, _, .nil => ⟨[], .nil, fun _ _ => .nil⟩
  | _, _, .cons h t => by
    obtain ⟨vs, h1, h2⟩ := t.get
    exact ⟨_ :: vs, .cons h.rel h1, fun Γ G => .cons (h.dv Γ G) (h2 Γ G)⟩
theorem Cv.tupA {K : PySem.W.Frag} {r : Addr} {od : Option Addr} {it : Array Value} {n : Nat} {sl : Array (Option Value)} {ds : List D} (h : K.lookup r = some ⟨.type "tuple", od, .seq it n, sl⟩) (hs : it.size ≤ 1000) (ha : CvA K it.toList ds) : Cv K (.ref r) (.ref r) (.tup ds) :=
  let ⟨_, h1, h2⟩ := ha.get; .tup h hs h1 h2
theorem cst_cv {K : PySem.W.Frag} {mg : Str → Option Value} {x : Str} {u : Value} {v : V} {d : D} (hm : mg x = some u) (h : Cv K u v d) : Cst K mg x d := ⟨v, u, hm, h.rel, fun Γ G => h.dv Γ G⟩
end DE
namespace DE
open PyProof.Rows PySem.Spec PySem L2
/-! ### a, b, c, d = x, [..], [..], 0: a tuple is made and taken apart -/
theorem Fre.newO {K : PySem.W.Frag} {Γ : Gam} {H0 G H : Hp} {σ : L2.St} {g : Sg} {u : V} {ys : List D} (h : Fre K Γ H0 G H σ g u ys) {p : Addr} {o : HO} (hp : H p = none) : Fre K Γ H0 G (upd H p o) σ g u ys := by
  obtain ⟨a, vs, rfl, q1, q2, q3, q4, q5⟩ := h.at_
  exact ⟨a, vs, rfl, by rw [upd_ne (ne_of_none q1 hp)]; exact q1, q2, q3, q4, q5⟩
theorem Fre.setO {K : PySem.W.Frag} {Γ : Gam} {H0 G0 G H : Hp} {σ : L2.St} {g : Sg} {u v : V} {xs ys : List D} (E : En K Γ H0 G0 G H σ g) (h : Fre K Γ H0 G H σ g u ys) (i : Nat) (ne : v ≠ u) : Fre K Γ H0 G H (σ.set i (some v)) ⟨g.r.set i (.own xs), g.s⟩ u ys := by
  obtain ⟨p, vs, rfl, q1, q2, q3, q4, q5⟩ := h.at_
  refine ⟨p, vs, rfl, q1, q2, q3, q4, fun l zs hl hs => ?_⟩
  by_cases z : l = i
  · subst z
    have il : l < g.r.length := by have := (List.getElem?_eq_some_iff.mp hl).1; simpa using this
    rw [List.getElem?_set_self (by rw [← E.len]; exact il)] at hs
    exact ne (Option.some.inj (Option.some.inj hs))
  · rw [List.getElem?_set_ne (Ne.symm z)] at hl hs
    exact q5 l zs hl hs
section
variable {Γ : Gam} {W : WX}
theorem par_ownAt {K : PySem.W.Frag} {f h : Mo (List D)} {k : List D → List D → Ms} {Ds : Ends} {σ : L2.St} {H : Hp} {Q : V → V → Hp → Prop} {H0 G0 G : Hp} {g : Sg} (hh : tSt K Γ W (sb f fun xs => sb h (k xs)) H0 G0 G g Ds σ H)
    (hQ : ∀ G2 H2 g2 xs ys v u, Gr G G2 → Fre K Γ H0 G2 H2 σ g2 v xs → Fre K Γ H0 G2 H2 σ g2 u ys → v ≠ u → tSt K Γ W (k xs ys) H0 G0 G2 g2 Ds σ H2 → Q v u H2) :
    tG K Γ W (RF K Γ) f σ H fun v H1 => tG K Γ W (RF K Γ) h σ H1 fun u H2 => Q v u H2 :=
  ⟨H0, G0, G, g, hh.bind fun xs v g1 G1 H1 _ gr1 r1 t1 => by
    obtain ⟨E1, o, g', e, q⟩ := t1
    obtain ⟨p, vs, rfl, p1, p2, p3, p4, p5⟩ := r1.at_
    obtain ⟨Hr, up, dn, F, back⟩ := E1.rebase
    have pm : p ≠ Γ.M := by
      obtain ⟨lm, hM, _⟩ := E1.st
      rintro rfl
      rw [hM] at p1; cases p1
    have hp : Hr p = some (.lst vs) := dn p _ p1 pm fun i zs hi hs => p5 i zs hi hs
    refine ⟨Hr, G1, G1, g1, F, ?_⟩
    unfold sb at e
    cases hf : h g1 with
    | none => (rw [hf] at e); cases e
    | some w =>
      obtain ⟨rr, g2⟩ := w
      rw [hf] at e
      cases rr with
      | error x =>
        cases e
        exact ⟨.error x, _, rfl, fun C dd G' H' gr E' hx => q C dd σ G' H' gr (back _ _ _ _ E') hx⟩
      | ok ys =>
        refine ⟨.ok ys, g2, rfl, fun u G2 H2 gr2 E2 r2 => ?_⟩
        have B2 := back _ _ _ _ E2
        obtain ⟨p', vs', rfl, q1, q2, q3, q4, q5⟩ := r2.at_
        have hpq : p ≠ p' := by rintro rfl; rw [hp] at q3; cases q3
        have h0 : H0 p' = none := by
          cases z : H0 p' with
          | none => rfl
          | some u =>
            exfalso
            have ok' : p' ≠ Γ.M → Γ.Ok p' := fun _ => E2.ok_lst q1
            have pm' : p' ≠ Γ.M := by
              obtain ⟨lm, hM, _⟩ := E2.st
              rintro rfl
              rw [hM] at q1; cases q1
            have a1 := E1.base p' u (ok' pm') z
            have a2 : Hr p' = some u := dn p' u a1 pm' fun i zs hi hs => by
              obtain ⟨l, _, k1, _, _, k4, _⟩ := E1.own i zs hi
              rw [hs] at k1; cases k1; rw [k4] at z; cases z
            rw [q3] at a2; cases a2
        refine hQ G2 H2 g2 xs ys _ _ (gr1.trans gr2) ⟨p, vs, rfl, E2.base p _ (E1.ok_lst p1) hp, E2.gfr p _ hp p2, p3, p4.mono gr2, fun i zs hi hs => ?_⟩ ⟨p', vs', rfl, q1, q2, h0, q4, q5⟩ (fun z => by cases z; exact hpq rfl) ⟨B2, o, g', e, ?_⟩
        · obtain ⟨l, _, k1, _, _, k4, _⟩ := E2.own i zs hi
          rw [hs] at k1; cases k1; rw [hp] at k4; cases k4
        · cases o with
          | nx => exact fun σ2 G3 H3 gr3 => q σ2 G3 H3 (gr2.trans gr3)
          | brk => exact fun σ2 G3 H3 gr3 => q σ2 G3 H3 (gr2.trans gr3)
          | ct => exact fun σ2 G3 H3 gr3 => q σ2 G3 H3 (gr2.trans gr3)
          | ret d2 => exact fun v2 σ2 G3 H3 gr3 => q v2 σ2 G3 H3 (gr2.trans gr3)
          | exc x => exact fun C dd σ2 G3 H3 gr3 => q C dd σ2 G3 H3 (gr2.trans gr3)⟩
end
def fPar4 (i j l q : Nat) (f : Mo D) (h k : Mo (List D)) (n : Int) : Ms := sb f fun d => sb h fun xs => sb k fun ys g => some (.nx, ⟨(((g.r.set i (.dat d)).set j (.own xs)).set l (.own ys)).set q (.dat (.int n)), g.s⟩)
section
variable {X : Cx} {Γ : Gam} {W : WX} {a b c : Expr} {pos pt pt2 px py pz pw pn : Pos} {kt k2 jn : Nat}
theorem s_par4 {i j l q : Nat} {x y z t : Str} {f : Mo D} {h k : Mo (List D)} {n : Int} (hc : X.calm = true) (hN : X.N.Nodup) (ha : DX X Γ W a f) (hb : DF X Γ W b h) (hk : DF X Γ W c k)
    (hi : X.N[i]? = some x := by rfl) (hj : X.N[j]? = some y := by rfl) (hl : X.N[l]? = some z := by rfl) (hq : X.N[q]? = some t := by rfl) (hjl : j ≠ l := by decide)
    (hx : X.env.scope.names.lookup x = some .local := by rfl) (hy : X.env.scope.names.lookup y = some .local := by rfl) (hz : X.env.scope.names.lookup z = some .local := by rfl) (ht : X.env.scope.names.lookup t = some .local := by rfl)
    (h1 : starEach [a, b, c, .Constant (.int n) jn pn] X.env = (false, eval a X.env) :: starEach [b, c, .Constant (.int n) jn pn] X.env := by rfl) (h2 : starEach [b, c, .Constant (.int n) jn pn] X.env = (false, eval b X.env) :: starEach [c, .Constant (.int n) jn pn] X.env := by rfl) (h3 : starEach [c, .Constant (.int n) jn pn] X.env = (false, eval c X.env) :: starEach [.Constant (.int n) jn pn] X.env := by rfl)
    (hw : swappedStores [.Tuple [.Name x px, .Name y py, .Name z pz, .Name t pw] kt pt] (.Tuple [a, b, c, .Constant (.int n) jn pn] k2 pt2) X.env = pure none := by rfl)
    (hs : swapsWithSole [.Tuple [.Name x px, .Name y py, .Name z pz, .Name t pw] kt pt] (.Tuple [a, b, c, .Constant (.int n) jn pn] k2 pt2) pos.line X.env = pure false := by rfl)
    (he : (assignEach [.Tuple [.Name x px, .Name y py, .Name z pz, .Name t pw] kt pt] X.env).map (·.2) = [assign (.Tuple [.Name x px, .Name y py, .Name z pz, .Name t pw] kt pt) X.env] := by rfl)
    (hm : (assignEach [.Name x px, .Name y py, .Name z pz, .Name t pw] X.env).length = 4 := by rfl) (hst : (assignEach [.Name x px, .Name y py, .Name z pz, .Name t pw] X.env).findIdx? (·.1) = none := by rfl) :
    DS_ X Γ W (.Assign [.Tuple [.Name x px, .Name y py, .Name z pz, .Name t pw] kt pt] (.Tuple [a, b, c, .Constant (.int n) jn pn] k2 pt2) pos) (fPar4 i j l q f h k n) :=
  (ps_asg (pe_tup (pa_cons ha (pa_cons hb (pa_cons hk (pa_cons pe_int pa_nil) h3) h2) h1)) (pg_tup hc (pgs_cons (pg_name (i := i) hN hi (.inl hx) (hf := .inr hx)) (pgs_cons (pg_name (i := j) hN hj (.inl hy) (hf := .inr hy)) (pgs_cons (pg_name (i := l) hN hl (.inl hz) (hf := .inr hz)) (pgs_cons (pg_name (i := q) hN hq (.inl ht) (hf := .inr ht)) pgs_nil)))) hm hst) hs hw he).imp fun Ds σ H hh =>
    hh.bind fun H0 G0 d v g1 G1 H1 r1 t1 => by
      refine par_ownAt t1 fun G2 H2 g2 xs ys u w gr2 k1 k2 hne t2 => ?_
      show (_ : List V).length ≤ sizeLine ∧ _
      refine ⟨by show 4 ≤ sizeLine; decide, fun p hp => ⟨p, _, rfl, SqT.of upd_same, rfl, v, _, rfl, u, _, rfl, w, _, rfl, .int n, _, rfl, rfl, ?_⟩⟩
      have E := t2.1.newO (o := .tup [v, u, w, .int n]) hp
      have q1 := (k1.newO (o := .tup [v, u, w, .int n]) hp).set i v d
      have q2 := (k2.newO (o := .tup [v, u, w, .int n]) hp).set i v d
      have E1 := E.set i (Dv.mono gr2 r1)
      exact t2.next rfl (Gr.refl _) (((E1.setO j q1).setO l (q2.setO E1 j hne)).set q (.int n))
end
end DE
namespace DE
open PyProof.Rows PySem.Spec PySem L2
/-! ### (*x, y) -/
def fStar (f : Mo D) (fs : Mo (List D)) : Mo (List D) := bd f fun d => match aSeq d with
  | some xs => bd fs fun ys => rt (xs ++ ys)
  | none => stop
section
variable {X : Cx} {Γ : Gam} {W : WX} {a b c e : Expr} {es : List Expr} {pos : Pos}
theorem da_star {p : Pos} {f : Mo D} {fs : Mo (List D)} (ha : DX X Γ W a f) (hr : DA X Γ W es fs) (hs : starEach (.Starred a p :: es) X.env = (true, eval a X.env) :: starEach es X.env := by rfl) : DA X Γ W (.Starred a p :: es) (fStar f fs) :=
  (StX.pa_star ha hr hs).imp fun σ H Q h => h.bind fun H0 G0 d v g1 G1 H1 r1 h1 => by
    cases d with
    | lst xs =>
      obtain ⟨l, vs, rfl, h3, h4⟩ := Dv.lst_inv r1
      have h1 : tAt X.K Γ W (RA X.K Γ) (bd fs fun ys => rt (xs ++ ys)) H0 G0 G1 g1 σ H1 Q := h1
      refine ⟨l, vs, rfl, .inr (SqL.of (h1.en.sub _ _ h3)), (h1.bind (R1 := RA X.K Γ) fun ys us g2 G2 H2 gr r2 h2 => ?_).g⟩
      exact h2.here (DvA.append (h4.mono gr) r2)
    | tup xs =>
      obtain ⟨l, vs, rfl, h3, h4⟩ := Dv.tup_inv r1
      have h1 : tAt X.K Γ W (RA X.K Γ) (bd fs fun ys => rt (xs ++ ys)) H0 G0 G1 g1 σ H1 Q := h1
      refine ⟨l, vs, rfl, .inl (h1.en.sub.sqT h3), (h1.bind (R1 := RA X.K Γ) fun ys us g2 G2 H2 gr r2 h2 => ?_).g⟩
      exact h2.here (DvA.append (h4.mono gr) r2)
    | _ => exact h1.stop
/-! ### min(x, y), max(x, y) -/
def pMin2 : D → D → Mo D := pI fun i j => .int (if j < i then j else i)
def pMax2 : D → D → Mo D := pI fun i j => .int (if j > i then j else i)
theorem d_two {bn : String} {x : Str} {p : Pos} {f h : Mo D} {r : Int → Int → Int} (cr : CallR X (.builtin bn) (fun xs H Q => ∃ i j, xs = [.int i, .int j] ∧ Q (.int (r i j)) H)) (ha : DX X Γ W a f) (hb : DX X Γ W b h) (hg : Gl X x) (hm : X.mg x = none) (hv : bootBuiltins x = some (.builtin bn)) (hn : x ≠ "__name__" := by decide) (hdb : (x == ("__debug__" : Str)) = false := by decide)
    (hs : starEach [a, b] X.env = (false, eval a X.env) :: starEach [b] X.env := by rfl) (hs2 : starEach [b] X.env = (false, eval b X.env) :: starEach [] X.env := by rfl) (hpl : (backTo pos (starEach [b] X.env)).any (·.1) = false := by rfl) : DX X Γ W (.Call (.Name x p) [a, b] [] pos) (f2 (pI fun i j => .int (r i j)) f h) :=
  (pe_callB cr hg hm hv (pa_cons ha (pa_cons hb pa_nil hs2) hs) hn hdb hs hpl).imp fun σ H Q hh => hh.bind fun H0 G0 d v g1 G1 H1 r1 h1 => (h1.bind (R1 := RD X.K Γ) fun e u g2 G2 H2 gr r2 h2 => by
    unfold pI at h2
    split at h2
    · rename_i i j
      cases r1; cases r2
      exact ⟨i, j, rfl, h2.here (.int _)⟩
    · exact h2.stop).g
theorem d_min2 {x : Str} {p : Pos} {f h : Mo D} (hc : X.calm = true) (ha : DX X Γ W a f) (hb : DX X Γ W b h) (hg : Gl X x) (hm : X.mg x = none) (hv : bootBuiltins x = some (.builtin "min")) (hn : x ≠ "__name__" := by decide) (hdb : (x == ("__debug__" : Str)) = false := by decide)
    (hs : starEach [a, b] X.env = (false, eval a X.env) :: starEach [b] X.env := by rfl) (hs2 : starEach [b] X.env = (false, eval b X.env) :: starEach [] X.env := by rfl) (hpl : (backTo pos (starEach [b] X.env)).any (·.1) = false := by rfl) : DX X Γ W (.Call (.Name x p) [a, b] [] pos) (f2 pMin2 f h) :=
  d_two (r := fun i j => if j < i then j else i) (call_min2 hc) ha hb hg hm hv hn hdb hs hs2 hpl
theorem d_max2 {x : Str} {p : Pos} {f h : Mo D} (hc : X.calm = true) (ha : DX X Γ W a f) (hb : DX X Γ W b h) (hg : Gl X x) (hm : X.mg x = none) (hv : bootBuiltins x = some (.builtin "max")) (hn : x ≠ "__name__" := by decide) (hdb : (x == ("__debug__" : Str)) = false := by decide)
    (hs : starEach [a, b] X.env = (false, eval a X.env) :: starEach [b] X.env := by rfl) (hs2 : starEach [b] X.env = (false, eval b X.env) :: starEach [] X.env := by rfl) (hpl : (backTo pos (starEach [b] X.env)).any (·.1) = false := by rfl) : DX X Γ W (.Call (.Name x p) [a, b] [] pos) (f2 pMax2 f h) :=
  d_two (r := fun i j => if j > i then j else i) (call_max2 hc) ha hb hg hm hv hn hdb hs hs2 hpl
/-! ### x.remove(k), x one's own list of whole numbers -/
def fRem (i : Nat) (f : Mo D) : Mo D := fun g => match g.r[i]? with
  | some (.own _) => bd f (fun d g1 => match d, g1.r[i]? with
    | .int k, some (.own xs) => match intsOf xs with
      | some ns => if k ∈ ns then some (.ok .non, ⟨g1.r.set i (.own ((ns.erase k).map .int)), g1.s⟩) else none
      | none => none
    | _, _ => none) g
  | _ => none
theorem d_rem (i : Nat) {x : Str} {p apos : Pos} {f : Mo D} (he : DX X Γ W e f) (hN : X.N[i]? = some x := by rfl) (hv : Vis X.env.scope x := by first | exact Or.inl rfl | exact Or.inr (Or.inl rfl) | exact Or.inr (Or.inr rfl)) (hd : (x == ("__debug__" : Str)) = false := by decide)
    (hcd : (x == ("__classdict__" : Str)) = false := by decide)
    (hbase : attributeBase (.Name x p) "remove" X.env (eval (.Name x p) X.env) = eval (.Name x p) X.env := by rfl)
    (hfew : ((backTo pos (starEach [e] X.env)).all (fun x => !x.1) && (backToKw pos (keywordEach [] X.env)).all (fun x => x.1.isSome)
      && (decide (([e] : List Expr).length + ([] : List Keyword).length + (if ([] : List Keyword).isEmpty then 0 else 1) < 30))) = true := by rfl)
    (hline : (apos.endLine == pos.line) = true := by rfl) (hs : starEach [e] X.env = (false, eval e X.env) :: starEach [] X.env := by rfl) (hplain : (backTo pos (starEach [] X.env)).any (·.1) = false := by rfl) :
    DX X Γ W (.Call (.Attribute (.Name x p) "remove" apos) [e] [] pos) (fRem i f) :=
  (pe_bm PySem.F.plainAttrs_list PySem.F.slot_list_remove PySem.F.type_list_remove mt_remove (pe_var hN hv hd hcd) (pa_cons he pa_nil hs) hbase hfew hline hs hplain).imp fun σ H Q ⟨H0, G0, G, g, h⟩ => by
    obtain ⟨E, r, g', ef, q⟩ := h
    unfold fRem at ef
    split at ef
    · rename_i xs0 hi
      obtain ⟨l, vs, h1, h2, h3, h4, h5⟩ := E.own i _ hi
      refine ⟨_, h1, .inl ⟨rfl, _, SqL.of h2⟩, ?_⟩
      have t0 : tAt X.K Γ W (RD X.K Γ) (bd f (fun d g1 => match d, g1.r[i]? with
        | .int k, some (.own xs) => match intsOf xs with
          | some ns => if k ∈ ns then some (.ok .non, ⟨g1.r.set i (.own ((ns.erase k).map .int)), g1.s⟩) else none
          | none => none
        | _, _ => none)) H0 G0 G g σ H Q := ⟨E, r, g', ef, q⟩
      refine (t0.bind (R1 := RD X.K Γ) fun d v g1 G1 H1 gr r1 t1 => ?_).g
      obtain ⟨E1, r', g1', e1, q1⟩ := t1
      dsimp only at e1
      split at e1
      · rename_i k xs hi1
        split at e1
        · rename_i ns hns
          split at e1
          · rename_i hk
            cases e1
            cases r1
            obtain ⟨l1, vs1, k1, k2, k3, k4, k5⟩ := E1.own i xs hi1
            rw [h1] at k1; cases k1
            rw [intsOf_eq hns] at k5
            have ev := dva_ints' k5
            subst ev
            obtain ⟨j, j1, j2, j3, j4⟩ := first_at hk
            refine ⟨l, ns, k, j, rfl, rfl, k2, j2, j3, ?_⟩
            rw [j4]
            exact q1 .non G1 _ (Gr.refl _) (E1.put hi1 h1 (dva_ints _)) .non
          · cases e1
        · cases e1
      · cases e1
    · cases ef
end
/-! ### x = [.. for .. in range(n)] -/
section
variable {X : Cx} {Γ : Gam} {W : WX} {a b elt tg : Expr} {ifs : List Expr} {scope : Scope} {own : List (Str × Nat)} {pos p2 : Pos}
theorem s_setCR {i : Nat} {y : Str} {py spos p : Pos} {fi : Mo (List D)} {t : Mt} {c : Mo Bool} {e : Mo D} {gt : TG} {js : List Nat} (hc : X.calm = true) (hN : X.N.Nodup) (hy : X.N[i]? = some y) (hyl : X.env.scope.names.lookup y = some .local)
    (hsw : swapsWith (.ListComp elt [⟨tg, .Call (.Name "range" p) [a] [] p2, ifs, 0⟩] scope pos) (some (.Name y py)) spos.line X.env = pure true) (hi : DA X Γ W [a] fi) (ok : BlkOk X.N X.env.scope scope own) (hj : ∀ j ∈ js, j ∈ own.map (·.2)) (k : CompOk X Γ elt tg ifs scope gt js t c e) (hg : Gl X "range") (hm : X.mg "range" = none)
    (hs : ∀ x, foldedSetIterable (.Call (.Name "range" p) [a] [] p2) X.env x = pure x := by intro _; rfl) (h1 : starEach [a] X.env = [(false, eval a X.env)] := by rfl) : DS_ X Γ W (.Assign [.Name y py] (.ListComp elt [⟨tg, .Call (.Name "range" p) [a] [] p2, ifs, 0⟩] scope pos) spos) (fSetO i (fCompR (own.map (·.2)) fi t c e)) := by
  have kg := k.sem
  obtain ⟨pg, kt, ke⟩ := k
  refine (ps_setLc (tt := tG X.K Γ Wn RB c) (te := tG X.K Γ Wn (RD X.K Γ) e) hc hN hy hyl hsw (pi_range1 hg hm hi h1) ok (fun s H C cl fp => (pg s H C cl fp).1) kt ke hs).imp fun Ds σ H h => ?_
  exact lcR_read hj kg (sOf h)
end
end DE
namespace DE
open PyProof.Rows PySem.Spec PySem L2
/-! ### lists as tests; x or y of lists -/
def trB : D → Option Bool
  | .bl b => some b
  | .non => some false
  | .lst xs => some (!xs.isEmpty)
  | .tup xs => some (!xs.isEmpty)
  | _ => none
def fTr (f : Mo D) : Mo Bool := bd f fun d => ofO (trB d)
def fOrT (f h : Mo D) : Mo D := bd f fun d => bd (ofO (trB d)) fun b => if b = true then rt d else h
section
variable {X : Cx} {Γ : Gam} {W : WX} {a b c e : Expr} {es rest : List Expr} {pos : Pos}
theorem dva_empty {K : PySem.W.Frag} {G : Hp} {vs : List V} {ds : List D} (h : DvA K Γ G vs ds) : ds.isEmpty = vs.isEmpty := by cases h <;> rfl
theorem tru_of {K : PySem.W.Frag} {G H : Hp} {v : V} {d : D} {b : Bool} (h : Dv K Γ G v d) (s : Gr G H) (e : trB d = some b) : TruV K v H b := by
  cases h with
  | non => cases e; exact rfl
  | bl c => cases e; exact rfl
  | lst h1 t => cases e; exact .inl ⟨_, SqL.of (s _ _ h1), by rw [dva_empty t]⟩
  | tup h1 t => cases e; exact .inr (.inl ⟨_, s.sqT h1, by rw [dva_empty t]⟩)
  | _ => cases e
theorem t_tru {f : Mo D} (h : DX X Γ W e f) (he : ∀ whole, isTrue e X.env whole = (do let v ← whole; standAt e.pos; holding [v] (truthy v)) := by intro _; rfl) : DT X Γ W e (fTr f) :=
  (pt_truth h he).imp fun σ H Q h => h.bind fun H0 G0 d v g1 G1 H1 r1 h1 => by
    cases z : trB d with
    | none => rw [z] at h1; exact h1.stop
    | some b => rw [z] at h1; exact ⟨b, tru_of r1 h1.en.sub z, h1.here rfl⟩
theorem d_orT {f k : Mo D} (ha : DX X Γ W a f) (hb : DX X Γ W (.BoolOp .Or (b :: rest) pos) k) : DX X Γ W (.BoolOp .Or (a :: b :: rest) pos) (fOrT f k) :=
  (pe_orT ha hb).imp fun σ H Q h => h.bind fun H0 G0 d v g1 G1 H1 r1 h1 => by
    cases z : trB d with
    | none => rw [z] at h1; exact h1.stop
    | some b =>
      rw [z] at h1
      refine ⟨b, tru_of r1 h1.en.sub z, ?_⟩
      cases b with
      | true => exact (show tAt _ _ _ _ (rt d) _ _ _ _ _ _ _ from h1).here r1
      | false => exact (show tAt _ _ _ _ k _ _ _ _ _ _ _ from h1).g
end
end DE
namespace DE
open PyProof.Rows PySem.Spec PySem L2
/-! ### deep in, of a list or a tuple -/
def pInT (neg : Bool) (d e : D) : Mo D := match pyd d, pyd e with
  | some p, some (.list ps) => if (SeqAt.shaped p && SeqAt.shaped (.list ps)) = true then rt (.bl (if neg then !(ps.any fun z => PyData.eqv z p) else ps.any fun z => PyData.eqv z p)) else stop
  | some p, some (.tuple ps) => if (SeqAt.shaped p && SeqAt.shaped (.tuple ps)) = true then rt (.bl (if neg then !(ps.any fun z => PyData.eqv z p) else ps.any fun z => PyData.eqv z p)) else stop
  | _, _ => stop
section
variable {X : Cx} {Γ : Gam} {W : WX} {k : Nat}
theorem op_inTu (hu : X.A.units + 65 < cLine) : OpR X (compareOp .In) (fun x y H Q => ∃ d ds, Dp X.K H x d ∧ Dp X.K H y (.tuple ds) ∧ SeqAt.shaped d = true ∧ SeqAt.shaped (.tuple ds) = true ∧ Q (.bl (ds.any fun z => PyData.eqv z d)) H) := by
  intro pins s σ H x y v u Q I rx ry h; obtain ⟨d, ds, hd, he, sd, se, q⟩ := h
  obtain ⟨as, ra⟩ := Dp.reads I d x v hd rx; obtain ⟨bs, rb⟩ := Dp.reads I (.tuple ds) y u he ry
  exact SeqAt.in_tuple_reads rb ra (SeqAt.canLay_of_shaped se) (SeqAt.canLay_of_shaped sd) (room_in_shaped sd hu) ⟨.bl _, H, I, rfl, q⟩
theorem op_ninTu (hu : X.A.units + 65 < cLine) : OpR X (compareOp .NotIn) (fun x y H Q => ∃ d ds, Dp X.K H x d ∧ Dp X.K H y (.tuple ds) ∧ SeqAt.shaped d = true ∧ SeqAt.shaped (.tuple ds) = true ∧ Q (.bl (!ds.any fun z => PyData.eqv z d)) H) := by
  intro pins s σ H x y v u Q I rx ry h; obtain ⟨d, ds, hd, he, sd, se, q⟩ := h
  obtain ⟨as, ra⟩ := Dp.reads I d x v hd rx; obtain ⟨bs, rb⟩ := Dp.reads I (.tuple ds) y u he ry
  exact SeqAt.notIn_tuple_reads rb ra (SeqAt.canLay_of_shaped se) (SeqAt.canLay_of_shaped sd) (room_in_shaped sd hu) ⟨.bl _, H, I, rfl, q⟩
theorem inT_core {neg : Bool} {F : Value → Value → Sem Value} (h1 : OpR X F (fun x y H Q => ∃ d ds, Dp X.K H x d ∧ Dp X.K H y (.list ds) ∧ SeqAt.shaped d = true ∧ SeqAt.shaped (.list ds) = true ∧ Q (.bl (if neg then !(ds.any fun z => PyData.eqv z d) else ds.any fun z => PyData.eqv z d)) H))
    (h2 : OpR X F (fun x y H Q => ∃ d ds, Dp X.K H x d ∧ Dp X.K H y (.tuple ds) ∧ SeqAt.shaped d = true ∧ SeqAt.shaped (.tuple ds) = true ∧ Q (.bl (if neg then !(ds.any fun z => PyData.eqv z d) else ds.any fun z => PyData.eqv z d)) H)) : BinD X Γ W F (pInT neg) := by
  intro pins s σ H x y v u Q I rx ry ⟨H0, G0, G, gg, σ', d, e, dx, dy, q⟩
  unfold pInT at q
  split at q
  · rename_i p ps e1 e2
    split at q
    · rename_i c
      rw [Bool.and_eq_true] at c
      exact h1 pins s σ H _ _ v u Q I rx ry ⟨p, ps, dx.dp q.1.sub e1, dy.dp q.1.sub e2, c.1, c.2, q.here (.bl _)⟩
    · exact q.stop
  · rename_i p ps e1 e2
    split at q
    · rename_i c
      rw [Bool.and_eq_true] at c
      exact h2 pins s σ H _ _ v u Q I rx ry ⟨p, ps, dx.dp q.1.sub e1, dy.dp q.1.sub e2, c.1, c.2, q.here (.bl _)⟩
    · exact q.stop
  · exact q.stop
theorem o_inT (r : Room k X.A) : BinD X Γ W (compareOp .In) (pInT false) := inT_core (neg := false) (op_inD (units65 r)) (op_inTu (units65 r))
theorem o_ninT (r : Room k X.A) : BinD X Γ W (compareOp .NotIn) (pInT true) := inT_core (neg := true) (op_notInD (units65 r)) (op_ninTu (units65 r))
end
end DE
namespace DE
open PyProof.Rows PySem.Spec PySem L2
/-! ### chosen(keys, word): its list is looked at alone -/
def choO (w : Str) (ks : List Int) : Option Int := if w = "eldest" then ks.head? else if w = "latest" then ks.getLast? else if w = "lowest" then some (minL ks) else if w = "highest" then some (maxL ks) else none
def choD : Option Int → D
  | none => .non
  | some k => .int k
def choV : Option Int → V
  | none => .non
  | some k => .int k
def spCho : Sp := fun vs H Q _ => ∃ l ks w, vs = [.ref l, .str w] ∧ H l = some (.lst (ks.map V.int)) ∧ ks ≠ [] ∧ Q (choV (choO w ks)) H
abbrev tChoT (w : Str) : TT := tTest (tOp rEq (tVar 1) (tC (.str w)))
abbrev tCho (K : PySem.W.Frag) : TS :=
  tSeq (tIfS (tChoT "eldest") (tRet (tOp (rIxL K) (tVar 0) (tC (.int 0)))) tNext)
  (tSeq (tIfS (tChoT "latest") (tRet (tOp (rIxL K) (tVar 0) (tUn (rU fun i => .int (-i)) (tC (.int 1))))) tNext)
  (tSeq (tIfS (tChoT "lowest") (tRet (tCB (rMin K) (tCons (tVar 0) tNil))) tNext)
  (tSeq (tIfS (tChoT "highest") (tRet (tCB (rMax K) (tCons (tVar 0) tNil))) tNext)
  (tRet (tC .non)))))
theorem cho_run {K : PySem.W.Frag} {l : Addr} {ks : List Int} {w : Str} {H : Hp} {Q : VK} {N : List Str} (hN : N.length = 2) (hl : H l = some (.lst (ks.map V.int))) (hk : ks ≠ []) (q : Q (choV (choO w ks)) H) : tCho K { nx := fun _ H' => Q .non H', rt := Q } (L2.start N [.ref l, .str w]) H := by
  have e0 : (L2.start N [.ref l, .str w])[0]? = some (some (V.ref l)) := by unfold L2.start; rfl
  have e1 : (L2.start N [.ref l, .str w])[1]? = some (some (V.str w)) := by unfold L2.start; rfl
  obtain ⟨σ, hσ⟩ : ∃ σ, σ = L2.start N [.ref l, .str w] := ⟨_, rfl⟩
  rw [← hσ] at e0 e1 ⊢
  have hp : 0 < ks.length := List.length_pos_iff.mpr hk
  have test : ∀ (x : Str) (R : Bool → Hp → Prop), R (decide (w = x)) H → tChoT x σ H R := fun x R h => ⟨.str w, e1, rfl, _, rfl, by
    have : decide ((V.str w) = V.str x) = decide (w = x) := by simp
    rw [this]; exact h⟩
  unfold choO at q
  refine test "eldest" _ ?_
  by_cases c1 : w = "eldest"
  · rw [decide_eq_true c1]; rw [if_pos c1] at q
    cases ks with
    | nil => exact absurd rfl hk
    | cons k ks =>
      refine ⟨.ref l, e0, l, (k :: ks).map V.int, 0, .int k, rfl, rfl, SqL.of hl, ?_, q⟩
      unfold atI ixN
      simp
  rw [decide_eq_false c1]; rw [if_neg c1] at q
  refine test "latest" _ ?_
  by_cases c2 : w = "latest"
  · rw [decide_eq_true c2]; rw [if_pos c2] at q
    refine ⟨.ref l, e0, 1, rfl, l, ks.map V.int, -1, .int (ks.getLast hk), rfl, rfl, SqL.of hl, ?_, ?_⟩
    · unfold atI ixN
      rw [if_neg (by decide), if_pos (by rw [List.length_map]; omega), Option.bind_some, List.length_map]
      rw [show ((-1 : Int) + (ks.length : Int)).toNat = ks.length - 1 by omega, List.getElem?_map, ← List.getLast?_eq_getElem?, List.getLast?_eq_some_getLast hk]; rfl
    · rw [List.getLast?_eq_some_getLast hk] at q; exact q
  rw [decide_eq_false c2]; rw [if_neg c2] at q
  refine test "lowest" _ ?_
  by_cases c3 : w = "lowest"
  · rw [decide_eq_true c3]; rw [if_pos c3] at q
    refine ⟨.ref l, e0, l, ks, rfl, SqL.of hl, hp, fun m h1 h2 => ?_⟩
    obtain ⟨k1, k2⟩ := minL_is ks hk
    have : m = minL ks := by have := h2 _ k1; have := k2 _ h1; omega
    rw [this]; exact q
  rw [decide_eq_false c3]; rw [if_neg c3] at q
  refine test "highest" _ ?_
  by_cases c4 : w = "highest"
  · rw [decide_eq_true c4]; rw [if_pos c4] at q
    refine ⟨.ref l, e0, l, ks, rfl, SqL.of hl, hp, fun m h1 h2 => ?_⟩
    obtain ⟨k1, k2⟩ := maxL_is ks hk
    have : m = maxL ks := by have := h2 _ k1; have := k2 _ h1; omega
    rw [this]; exact q
  rw [decide_eq_false c4]; rw [if_neg c4] at q
  exact q
theorem kp_chosen {P : Program} {w : World} {K : PySem.W.Frag} {mg : Str → Option Value} {base : Heap} {x qual : Str} {st : Stmt} {f : Addr} {fd : FuncData} {N : List Str}
    (F : Fun K x qual st f fd) (hm : mg x = some (.ref f)) (S : FnScope N ["keys", "word"] (defScope st)) (hN : N.length = 2) (hb : Binds K fd ["keys", "word"] [])
    (hd : ∀ (cdv : Value) (A : Around) (outer : List Env) (s : Shared) (H : Hp) (E : XK), Ct (cxD P w K mg base N qual st f cdv A outer s H E) (fun c d _ H => E c d H) 1 → PSs (cxD P w K mg base N qual st f cdv A outer s H E) (defBody st) (tCho K)) :
    Kf P w K mg base 2 x spCho :=
  ⟨f, fd, ["keys", "word"], fnG_of F S (fun vs H Q E h => by obtain ⟨l, ks, w, rfl, _⟩ := h; rfl) (fun cdv A outer s H vs Q E C h => ⟨tCho K, hd cdv A outer s H E C, by
    obtain ⟨l, ks, w, rfl, h1, h2, q⟩ := h
    exact cho_run hN h1 h2 q⟩), hm, F.kp, hb⟩
/-- chosen(x, y), x one's own list of whole numbers -/
def fCho (i j : Nat) : Mo D := fun g => match g.r[i]?, g.r[j]? with
  | some (.own xs), some (.dat (.str w)) => match intsOf xs with
    | some (k :: ks) => some (.ok (choD (choO w (k :: ks))), g)
    | _ => none
  | _, _ => none
section
variable {X : Cx} {Γ : Gam} {W : WX} {pos : Pos} {k : Nat}
theorem d_cho (i j : Nat) {x y z : Str} {p py pz : Pos} {n : Nat} (F : Kf X.prog X.w X.K X.mg X.base n x spCho) (hk : n ≤ k) (C : Ct X W k) (hg : Gl X x)
    (hi : X.N[i]? = some y := by rfl) (hvi : Vis X.env.scope y := by first | exact Or.inl rfl | exact Or.inr (Or.inl rfl) | exact Or.inr (Or.inr rfl)) (hj : X.N[j]? = some z := by rfl) (hvj : Vis X.env.scope z := by first | exact Or.inl rfl | exact Or.inr (Or.inl rfl) | exact Or.inr (Or.inr rfl))
    (hdy : (y == ("__debug__" : Str)) = false := by decide) (hcy : (y == ("__classdict__" : Str)) = false := by decide) (hdz : (z == ("__debug__" : Str)) = false := by decide) (hcz : (z == ("__classdict__" : Str)) = false := by decide)
    (hdb : (x == ("__debug__" : Str)) = false := by decide) (he : starEach [.Name y py, .Name z pz] X.env = (false, eval (.Name y py) X.env) :: starEach [.Name z pz] X.env := by rfl) (he2 : starEach [.Name z pz] X.env = (false, eval (.Name z pz) X.env) :: starEach [] X.env := by rfl) (hpl : (backTo pos (starEach [.Name z pz] X.env)).any (·.1) = false := by rfl) :
    DX X Γ W (.Call (.Name x p) [.Name y py, .Name z pz] [] pos) (fCho i j) := by
  obtain ⟨f, fd, ps, h1, h2, h3, h4⟩ := F.mono hk
  refine (pe_callG h1 C hg h2 h3 h4 (pa_cons (pe_var hi hvi hdy hcy) (pa_cons (pe_var hj hvj hdz hcz) pa_nil he2) he) hdb he hpl).imp fun σ H Q ⟨H0, G0, G, g, E, r, g', ef, q⟩ => ?_
  unfold fCho at ef
  split at ef
  · rename_i xs w e1 e2
    split at ef
    · rename_i a as ei
      cases ef
      obtain ⟨l, vs, o1, o2, o3, o4, o5⟩ := E.own i xs e1
      obtain ⟨v, d1, d2⟩ := E.dat j _ e2
      cases d2
      rw [intsOf_eq ei] at o5
      have ev := dva_ints' o5
      subst ev
      refine ⟨_, o1, _, d1, l, a :: as, w, rfl, o2, by simp, ?_⟩
      refine q _ G H (Gr.refl _) E ?_
      cases choO w (a :: as) with
      | none => exact .non
      | some k => exact .int k
    · cases ef
  · cases ef
end
end DE
namespace DE
open PyProof.Rows PySem.Spec PySem L2
/-! ### len(script) -/
def fLenS (i : Nat) : Mo D := fun g => match g.r[i]? with
  | some (.dat (.scr ns)) => some (.ok (.int ns.length), g)
  | _ => none
section
variable {X : Cx} {Γ : Gam} {W : WX} {pos : Pos}
theorem d_lenS (i : Nat) {x y : Str} {p py : Pos} (hg : Gl X x) (hm : X.mg x = none) (hv : bootBuiltins x = some (.builtin "len")) (hN : X.N[i]? = some y := by rfl) (hvy : Vis X.env.scope y := by first | exact Or.inl rfl | exact Or.inr (Or.inl rfl) | exact Or.inr (Or.inr rfl))
    (hd : (y == ("__debug__" : Str)) = false := by decide) (hcd : (y == ("__classdict__" : Str)) = false := by decide) (hn : x ≠ "__name__" := by decide) (hdb : (x == ("__debug__" : Str)) = false := by decide)
    (hs : starEach [.Name y py] X.env = (false, eval (.Name y py) X.env) :: starEach [] X.env := by rfl) (hpl : (backTo pos (starEach [] X.env)).any (·.1) = false := by rfl) : DX X Γ W (.Call (.Name x p) [.Name y py] [] pos) (fLenS i) :=
  (pe_callB call_len_seq hg hm hv (pa_cons (pe_var hN hvy hd hcd) pa_nil hs) hn hdb hs hpl).imp fun σ H Q ⟨H0, G0, G, g, E, r, g', e, q⟩ => by
    unfold fLenS at e
    split at e
    · rename_i ns hi
      cases e
      obtain ⟨v, h1, h2⟩ := E.dat i _ hi
      cases h2 with
      | scr h2 =>
        rename_i a
        refine ⟨_, h1, a, ns.map V.int, rfl, .inl (E.sub.sqL h2), ?_⟩
        rw [List.length_map]
        exact q _ G H (Gr.refl _) E (.int _)
    · cases e
end
end DE
namespace DE
open PyProof.Rows PySem.Spec PySem L2
/-! ### a, b, c = x, [..], [..]; a, b, c, d = x, y, z, [..] -/
def fPar3b (i j l : Nat) (f : Mo D) (h k : Mo (List D)) : Ms := sb f fun d => sb h fun xs => sb k fun ys g => some (.nx, ⟨((g.r.set i (.dat d)).set j (.own xs)).set l (.own ys), g.s⟩)
def fPar4b (i j l q : Nat) (f h k : Mo D) (o : Mo (List D)) : Ms := sb f fun d => sb h fun e => sb k fun c => sb o fun xs g => some (.nx, ⟨(((g.r.set i (.dat d)).set j (.dat e)).set l (.dat c)).set q (.own xs), g.s⟩)
section
variable {X : Cx} {Γ : Gam} {W : WX} {a b c d : Expr} {pos pt pt2 px py pz pw : Pos} {kt k2 : Nat}
theorem s_par3b {i j l : Nat} {x y z : Str} {f : Mo D} {h k : Mo (List D)} (hc : X.calm = true) (hN : X.N.Nodup) (ha : DX X Γ W a f) (hb : DF X Γ W b h) (hk : DF X Γ W c k) (hi : X.N[i]? = some x := by rfl) (hj : X.N[j]? = some y := by rfl) (hl : X.N[l]? = some z := by rfl) (hij : i ≠ j := by decide) (hil : i ≠ l := by decide) (hjl : j ≠ l := by decide)
    (hx : X.env.scope.names.lookup x = some .local := by rfl) (hy : X.env.scope.names.lookup y = some .local := by rfl) (hz : X.env.scope.names.lookup z = some .local := by rfl) (h1 : starEach [a, b, c] X.env = (false, eval a X.env) :: starEach [b, c] X.env := by rfl) (h2 : starEach [b, c] X.env = (false, eval b X.env) :: starEach [c] X.env := by rfl) (h3 : starEach [c] X.env = (false, eval c X.env) :: starEach [] X.env := by rfl)
    (hw : swappedStores [.Tuple [.Name x px, .Name y py, .Name z pz] kt pt] (.Tuple [a, b, c] k2 pt2) X.env = pure (some [x, y, z]) := by rfl)
    (hs : swapsWithSole [.Tuple [.Name x px, .Name y py, .Name z pz] kt pt] (.Tuple [a, b, c] k2 pt2) pos.line X.env = pure false := by rfl) : DS_ X Γ W (.Assign [.Tuple [.Name x px, .Name y py, .Name z pz] kt pt] (.Tuple [a, b, c] k2 pt2) pos) (fPar3b i j l f h k) :=
  (ps_par3 hc hN hi hj hl hij hil hjl hx hy hz (pa_cons ha (pa_cons hb (pa_cons hk pa_nil h3) h2) h1) hw hs).imp fun Ds σ H hh => hh.bind fun H0 G0 d v g1 G1 H1 r1 t1 => by
    refine par_ownAt t1 fun G2 H2 g2 xs ys u w gr2 k1 k2 hne t2 => ⟨v, u, w, rfl, ?_⟩
    have E1 := t2.1.set i (Dv.mono gr2 r1)
    exact t2.next rfl (Gr.refl _) ((E1.setO j (k1.set i v d)).setO l ((k2.set i v d).setO E1 j hne))
theorem s_par4b {i j l q : Nat} {x y z t : Str} {f h k : Mo D} {o : Mo (List D)} (hc : X.calm = true) (hN : X.N.Nodup) (ha : DX X Γ W a f) (hb : DX X Γ W b h) (hk : DX X Γ W c k) (ho : DF X Γ W d o)
    (hi : X.N[i]? = some x := by rfl) (hj : X.N[j]? = some y := by rfl) (hl : X.N[l]? = some z := by rfl) (hq : X.N[q]? = some t := by rfl)
    (hx : X.env.scope.names.lookup x = some .local := by rfl) (hy : X.env.scope.names.lookup y = some .local := by rfl) (hz : X.env.scope.names.lookup z = some .local := by rfl) (ht : X.env.scope.names.lookup t = some .local := by rfl)
    (h1 : starEach [a, b, c, d] X.env = (false, eval a X.env) :: starEach [b, c, d] X.env := by rfl) (h2 : starEach [b, c, d] X.env = (false, eval b X.env) :: starEach [c, d] X.env := by rfl) (h3 : starEach [c, d] X.env = (false, eval c X.env) :: starEach [d] X.env := by rfl) (h4 : starEach [d] X.env = (false, eval d X.env) :: starEach [] X.env := by rfl)
    (hw : swappedStores [.Tuple [.Name x px, .Name y py, .Name z pz, .Name t pw] kt pt] (.Tuple [a, b, c, d] k2 pt2) X.env = pure none := by rfl)
    (hs : swapsWithSole [.Tuple [.Name x px, .Name y py, .Name z pz, .Name t pw] kt pt] (.Tuple [a, b, c, d] k2 pt2) pos.line X.env = pure false := by rfl)
    (he : (assignEach [.Tuple [.Name x px, .Name y py, .Name z pz, .Name t pw] kt pt] X.env).map (·.2) = [assign (.Tuple [.Name x px, .Name y py, .Name z pz, .Name t pw] kt pt) X.env] := by rfl)
    (hm : (assignEach [.Name x px, .Name y py, .Name z pz, .Name t pw] X.env).length = 4 := by rfl) (hst : (assignEach [.Name x px, .Name y py, .Name z pz, .Name t pw] X.env).findIdx? (·.1) = none := by rfl) :
    DS_ X Γ W (.Assign [.Tuple [.Name x px, .Name y py, .Name z pz, .Name t pw] kt pt] (.Tuple [a, b, c, d] k2 pt2) pos) (fPar4b i j l q f h k o) :=
  (ps_asg (pe_tup (pa_cons ha (pa_cons hb (pa_cons hk (pa_cons ho pa_nil h4) h3) h2) h1)) (pg_tup hc (pgs_cons (pg_name (i := i) hN hi (.inl hx) (hf := .inr hx)) (pgs_cons (pg_name (i := j) hN hj (.inl hy) (hf := .inr hy)) (pgs_cons (pg_name (i := l) hN hl (.inl hz) (hf := .inr hz)) (pgs_cons (pg_name (i := q) hN hq (.inl ht) (hf := .inr ht)) pgs_nil)))) hm hst) hs hw he).imp fun Ds σ H hh =>
    hh.bind fun H0 G0 d1 v1 g1 G1 H1 r1 t1 => (t1.bind (R1 := RD X.K Γ) fun d2 v2 g2 G2 H2 _ gr2 r2 t2 => (t2.bind (R1 := RD X.K Γ) fun d3 v3 g3 G3 H3 _ gr3 r3 t3 => (t3.bind (R1 := RF X.K Γ) fun xs v4 g4 G4 H4 _ gr4 r4 t4 => by
      show (_ : List V).length ≤ sizeLine ∧ _
      refine ⟨by show 4 ≤ sizeLine; decide, fun p hp => ⟨p, _, rfl, SqT.of upd_same, rfl, v1, _, rfl, v2, _, rfl, v3, _, rfl, v4, _, rfl, rfl, ?_⟩⟩
      have E := t4.1.newO (o := .tup [v1, v2, v3, v4]) hp
      have q4 := (((r4.newO (o := .tup [v1, v2, v3, v4]) hp).set i v1 d1).set j v2 d2).set l v3 d3
      have E1 := ((E.set i (((Dv.mono gr2 r1).mono gr3).mono gr4)).set j ((Dv.mono gr3 r2).mono gr4)).set l (Dv.mono gr4 r3)
      exact t4.next rfl (Gr.refl _) (E1.setO q q4)).g).g).g
/-! ### list(range(n)), for .. in range(a, b) -/
def fListR (f : Mo D) : Mo (List D) := bd f fun d => match d with
  | .int n => if n ≤ 100000 ∧ -100000 ≤ n then rt (intsD n) else stop
  | _ => stop
theorem dva_ints0 {K : PySem.W.Frag} {Γ : Gam} {G : Hp} : ∀ (l : List Nat) (a : Int), DvA K Γ G (l.map fun i => V.int (a + (i : Nat))) (l.map fun i => D.int (a + (i : Nat)))
  | [], _ => .nil
  | _ :: l, a => .cons (.int _) (dva_ints0 l a)
theorem d_listR {p p2 pos2 : Pos} {f : Mo D} (hc : X.calm = true) (ha : DX X Γ W a f) (hg : Gl X "list") (hm : X.mg "list" = none) (hg2 : Gl X "range") (hm2 : X.mg "range" = none) (na : starEach [a] X.env = (false, eval a X.env) :: starEach [] X.env := by rfl)
    (nb : starEach [.Call (.Name "range" p2) [a] [] pos2] X.env = (false, eval (.Call (.Name "range" p2) [a] [] pos2) X.env) :: starEach [] X.env := by rfl) : DF X Γ W (.Call (.Name "list" p) [.Call (.Name "range" p2) [a] [] pos2] [] pos) (fListR f) :=
  (pe_listRg hc hg hm (prg_1 hg2 hm2 ha na) nb).imp fun σ H Q h => h.bind fun H0 G0 d v g1 G1 H1 r1 h1 => by
    split at h1
    · rename_i n
      split at h1
      · rename_i hn
        cases r1
        refine ⟨n, rfl, ⟨by omega, by omega, by omega, by omega, by omega⟩, fun q hq => h1.newO hq ?_⟩
        have e : rgV 0 n = (List.range n.toNat).map fun i => V.int ((0 : Int) + (i : Nat)) := by unfold rgV; rw [show n - 0 = n by omega]
        have e2 : intsD n = (List.range n.toNat).map fun i => D.int ((0 : Int) + (i : Nat)) := by unfold intsD; exact List.map_congr_left fun i _ => by rw [Int.zero_add]
        rw [e, e2]; exact dva_ints0 _ _
      · exact h1.stop
    · exact h1.stop
def intsF (a b : Int) : List D := (List.range (b - a).toNat).map fun i => D.int (a + (i : Nat))
def fForR2 (f : Mo (List D)) (t : Mt) (b : Ms) : Ms := sb f fun ds => match ds with
  | [.int x, .int y] => if x ≤ 100000 ∧ -100000 ≤ x ∧ y ≤ 100000 ∧ -100000 ≤ y then loop t b (intsF x y) else sStop
  | _ => sStop
theorem intsF_at {x y : Int} {i : Nat} (h : i < (y - x).toNat) : (intsF x y).drop i = .int (x + (i : Nat)) :: (intsF x y).drop (i + 1) := by
  have e : (intsF x y)[i]? = some (.int (x + (i : Nat))) := by
    unfold intsF
    rw [List.getElem?_map, List.getElem?_range h]; rfl
  obtain ⟨hl, e⟩ := List.getElem?_eq_some_iff.mp e
  rw [← e]
  exact List.drop_eq_getElem_cons hl
theorem s_forR2 {tg : Expr} {p2 : Pos} {body : List Stmt} {f : Mo (List D)} {t : Mt} {kk : Ms} {js : List Nat} {gt : TG} {p : Pos} (hc : X.calm = true) (hp : PassesOwn (model X.prog X.w) X.A X.env X.xe) (hi : DA X Γ W [a, b] f) (hg : DG X Γ tg gt js t) (hb : DB X Γ W body kk)
    (hgl : Gl X "range") (hm : X.mg "range" = none) (hs1 : starEach [a, b] X.env = [(false, eval a X.env), (false, eval b X.env)] := by rfl) (hs2 : starEach [b] X.env = [(false, eval b X.env)] := by rfl)
    (hs : ∀ x, foldedSetIterable (.Call (.Name "range" p) [a, b] [] p2) X.env x = pure x := by intro _; rfl) : DS_ X Γ W (.For tg (.Call (.Name "range" p) [a, b] [] p2) body [] pos) (fForR2 f t kk) := by
  obtain ⟨pg, kg⟩ := hg
  refine (ps_for hp hc (pi_range2 hgl hm hi hs1 hs2) pg hb hs).imp fun Ds σ H h => h.bind (R1 := RA X.K Γ) fun H0 G0 ds vs g1 G1 H1 r1 h1 => ?_
  split at h1
  · rename_i x y
    split at h1
    · rename_i hn
      obtain rfl : vs = [V.int x, V.int y] := by
        cases r1 with
        | cons c d => cases c; cases d with
          | cons c d => cases c; cases d; rfl
      refine ⟨x, y, rfl, ⟨by omega, by omega, by omega, by omega⟩, for_range (lo := x) (n := (y - x).toNat) (fun i σ2 H2 => ∃ G2 g2, Gr G1 G2 ∧ tSt X.K Γ W (loop t kk ((intsF x y).drop i)) H0 G0 G2 g2 Ds σ2 H2) ⟨G1, g1, Gr.refl _, h1⟩ ?_ ?_⟩
      · rintro i σ2 H2 hi ⟨G2, g2, gr2, h2⟩
        rw [intsF_at hi] at h2
        exact loop_turn h2 (.int _) (fun Q g' e k => kg _ σ2 H2 Q H0 G0 G2 g2 g' _ h2.1 (.int _) e fun σ' E' _ => k σ' E') fun σ3 G3 H3 g3 gr3 h3 => ⟨G3, g3, gr2.trans gr3, h3⟩
      · rintro σ2 H2 ⟨G2, g2, gr2, h2⟩
        have el : (intsF x y).drop (y - x).toNat = [] := by
          apply List.drop_eq_nil_of_le
          unfold intsF; simp
        rw [el] at h2
        exact h2.next rfl (Gr.refl _) h2.1
    · exact h1.stop
  · exact h1.stop
end
end DE
namespace DE
open PyProof.Rows PySem.Spec PySem L2
/-! ### evaluating programs over data -/
theorem kb_int_bool : kitB "int" "bool" = some false := by kernel_rfl
theorem kb_bool_bool : kitB "bool" "bool" = some true := by kernel_rfl
theorem kb_int_int : kitB "int" "int" = some true := by kernel_rfl
theorem kb_str_str : kitB "str" "str" = some true := by kernel_rfl
theorem kb_tuple_tuple : kitB "tuple" "tuple" = some true := by kernel_rfl
theorem runB_ret {f : Ms} {N n : Nat} {ds : List D} {s : DS} {d : D} {r : List Sl} {s' : DS} (hn : ds.length = n) (h : f ⟨ds.map .dat ++ List.replicate (N - n) .no, s⟩ = some (.ret d, ⟨r, s'⟩)) : runB f N n ds s = some (.ok d, s') := by
  unfold runB; rw [if_pos hn, h]
theorem runB_exc {f : Ms} {N n : Nat} {ds : List D} {s : DS} {x : Exn} {r : List Sl} {s' : DS} (hn : ds.length = n) (h : f ⟨ds.map .dat ++ List.replicate (N - n) .no, s⟩ = some (.exc x, ⟨r, s'⟩)) : runB f N n ds s = some (.error x, s') := by
  unfold runB; rw [if_pos hn, h]
section
variable {α β : Type} {f : Mo α} {g g1 g2 : Sg} {a : α} {x : Exn}
theorem bd_ok {k : α → Mo β} (h : f g = some (.ok a, g1)) : bd f k g = k a g1 := by unfold bd; rw [h]
theorem bd_er {k : α → Mo β} (h : f g = some (.error x, g1)) : bd f k g = some (.error x, g1) := by unfold bd; rw [h]
theorem sb_ok {k : α → Ms} (h : f g = some (.ok a, g1)) : sb f k g = k a g1 := by unfold sb; rw [h]
theorem sb_er {k : α → Ms} (h : f g = some (.error x, g1)) : sb f k g = some (.exc x, g1) := by unfold sb; rw [h]
end
section
variable {f k t u : Ms} {g g1 g2 : Sg} {d : D} {x : Exn} {c : Mo Bool} {e : Mo D}
theorem seq_nx (h : f g = some (.nx, g1)) : fSeq f k g = k g1 := by unfold fSeq; rw [h]
theorem seq_ret (h : f g = some (.ret d, g1)) : fSeq f k g = some (.ret d, g1) := by unfold fSeq; rw [h]
theorem seq_exc (h : f g = some (.exc x, g1)) : fSeq f k g = some (.exc x, g1) := by unfold fSeq; rw [h]
theorem if_t (h : c g = some (.ok true, g1)) : fIf c t u g = t g1 := by unfold fIf; rw [sb_ok h]; rfl
theorem if_f (h : c g = some (.ok false, g1)) : fIf c t u g = u g1 := by unfold fIf; rw [sb_ok h]; rfl
theorem ret_ok (h : e g = some (.ok d, g1)) : fRet e g = some (.ret d, g1) := by unfold fRet; rw [sb_ok h]; rfl
theorem set_ok {i : Nat} (h : e g = some (.ok d, g1)) : fSet i e g = some (.nx, ⟨g1.r.set i (.dat d), g1.s⟩) := by unfold fSet; rw [sb_ok h]
theorem name_ok {i : Nat} (h : g.r[i]? = some (.dat d)) : fName i g = some (.ok d, g) := by unfold fName; rw [h]
theorem cons_ok {fs : Mo (List D)} {ds : List D} (h1 : e g = some (.ok d, g1)) (h2 : fs g1 = some (.ok ds, g2)) : fCons e fs g = some (.ok (d :: ds), g2) := by unfold fCons; rw [bd_ok h1, bd_ok h2]; rfl
theorem call_ok {n : Nat} {gm : Fd} {fa : Mo (List D)} {ds : List D} {r : Except Exn D} {s' : DS} (h1 : fa g = some (.ok ds, g1)) (h2 : ds.length = n) (h3 : gm ds g1.s = some (r, s')) : fCallN n gm fa g = some (r, ⟨g1.r, s'⟩) := by
  unfold fCallN; rw [bd_ok h1, if_pos h2]; unfold lift; rw [h3]
end
def inW : D → List Str → Bool
  | .str s, ws => ws.contains s
  | _, _ => false
theorem flat_strs : ∀ ws : List Str, flatA (ws.map D.str) = some (ws.map V.str)
  | [] => rfl
  | w :: ws => by simp [flatA, flat1, flat_strs ws]
theorem inV_strs (x : Str) (ws : List Str) : inV (.str x) (ws.map V.str) = ws.contains x := by
  rw [Bool.eq_iff_iff]
  unfold inV
  simp only [List.any_eq_true, List.mem_map, List.contains_iff_mem]
  constructor
  · rintro ⟨_, ⟨w, hw, rfl⟩, e⟩
    have : w = x := by simpa [eqV] using e
    exact this ▸ hw
  · intro h
    exact ⟨_, ⟨x, h, rfl⟩, by simp [eqV]⟩
end DE
namespace DE
open PyProof.Rows PySem.Spec PySem L2
section
variable {α β : Type} {g g1 g2 g3 : Sg} {d d' r : D} {x : Exn} {e f h : Mo D} {b : Bool} {c : Mo Bool}
theorem t_ok (he : e g = some (.ok (.bl b), g1)) : fT e g = some (.ok b, g1) := by unfold fT; rw [bd_ok he]; rfl
theorem not_ok (he : c g = some (.ok b, g1)) : fNot c g = some (.ok (!b), g1) := by unfold fNot; rw [bd_ok he]; rfl
theorem or_t {c' : Mo Bool} (he : c g = some (.ok true, g1)) : fOr c c' g = some (.ok true, g1) := by unfold fOr; rw [bd_ok he]; rfl
theorem or_f {c' : Mo Bool} (he : c g = some (.ok false, g1)) : fOr c c' g = c' g1 := by unfold fOr; rw [bd_ok he]; rfl
theorem and_t {c' : Mo Bool} (he : c g = some (.ok true, g1)) : fAnd c c' g = c' g1 := by unfold fAnd; rw [bd_ok he]; rfl
theorem and_f {c' : Mo Bool} (he : c g = some (.ok false, g1)) : fAnd c c' g = some (.ok false, g1) := by unfold fAnd; rw [bd_ok he]; rfl
theorem andV_t (he : e g = some (.ok (.bl true), g1)) : fAndV e f g = f g1 := by unfold fAndV; rw [bd_ok he]; rfl
theorem andV_f (he : e g = some (.ok (.bl false), g1)) : fAndV e f g = some (.ok (.bl false), g1) := by unfold fAndV; rw [bd_ok he]; rfl
theorem f2_ok {p : D → D → Mo D} (h1 : e g = some (.ok d, g1)) (h2 : f g1 = some (.ok d', g2)) : f2 p e f g = p d d' g2 := by unfold f2; rw [bd_ok h1, bd_ok h2]
theorem ix_ok {i : Int} {cs : List D} (h1 : e g = some (.ok d, g1)) (h2 : f g1 = some (.ok (.int i), g2)) (hs : aSeq d = some cs) (ha : atI cs i = some r) : fIxD e f g = some (.ok r, g2) := by
  unfold fIxD; rw [bd_ok h1, bd_ok h2, hs]; unfold pIx; simp only [ha]; rfl
theorem tup_ok {fs : Mo (List D)} {ds : List D} (h1 : fs g = some (.ok ds, g1)) (hl : ds.length ≤ 100000) : fTup fs g = some (.ok (.tup ds), g1) := by unfold fTup; rw [bd_ok h1, if_pos hl]; rfl
theorem lst_ok {fs : Mo (List D)} {ds : List D} (h1 : fs g = some (.ok ds, g1)) (hl : ds.length ≤ 100000) : fLst fs g = some (.ok ds, g1) := by unfold fLst; rw [bd_ok h1, if_pos hl]; rfl
theorem let_ok {fs : Mo (List D)} {ds : List D} (h1 : fs g = some (.ok ds, g1)) : fLet fs g = some (.ok (.lst ds), g1) := by unfold fLet; rw [bd_ok h1]; rfl
theorem len_ok {fs : Mo (List D)} {ds : List D} (h1 : fs g = some (.ok ds, g1)) : fLen fs g = some (.ok (.int ds.length), g1) := by unfold fLen; rw [bd_ok h1]; rfl
theorem peek_t {i : Nat} {ds : List D} (h1 : g.r[i]? = some (.dat (.tup ds))) : fPeek i g = some (.ok ds, g) := by unfold fPeek; rw [h1]
theorem peek_l {i : Nat} {ds : List D} (h1 : g.r[i]? = some (.dat (.lst ds))) : fPeek i g = some (.ok ds, g) := by unfold fPeek; rw [h1]
theorem peek_o {i : Nat} {ds : List D} (h1 : g.r[i]? = some (.own ds)) : fPeek i g = some (.ok ds, g) := by unfold fPeek; rw [h1]
theorem sl_t {l u : Mo (Option Int)} {lo hi : Option Int} {cs : List D} (h1 : e g = some (.ok (.tup cs), g1)) (h2 : l g1 = some (.ok lo, g2)) (h3 : u g2 = some (.ok hi, g3)) : fSl e l u g = some (.ok (.tup (cutD cs lo hi)), g3) := by
  unfold fSl; rw [bd_ok h1, bd_ok h2, bd_ok h3]; rfl
theorem part_ok {i : Int} (h1 : e g = some (.ok (.int i), g1)) : fPart e g = some (.ok (some i), g1) := by unfold fPart; rw [bd_ok h1]; rfl
theorem exp_ok (h1 : e g = some (.ok d, g1)) : fExp e g = some (.nx, g1) := by unfold fExp; rw [sb_ok h1]; rfl
theorem ifE_t {c : Mo Bool} (h1 : c g = some (.ok true, g1)) : fIfE c e f g = e g1 := by unfold fIfE; rw [bd_ok h1]; rfl
theorem ifE_f {c : Mo Bool} (h1 : c g = some (.ok false, g1)) : fIfE c e f g = f g1 := by unfold fIfE; rw [bd_ok h1]; rfl
theorem asg_ok {t : Mt} (h1 : e g = some (.ok d, g1)) (h2 : t d g1 = some g2) : fAsg e t g = some (.nx, g2) := by unfold fAsg; rw [sb_ok h1]; rw [h2]; rfl
theorem for_ok {t : Mt} {k : Ms} {ds : List D} (h1 : e g = some (.ok d, g1)) (h2 : aSeq d = some ds) : fFor e t k g = loop t k ds g1 := by unfold fFor; rw [sb_ok h1, h2]
theorem forR_ok {fs : Mo (List D)} {t : Mt} {k : Ms} {n : Int} (h1 : fs g = some (.ok [.int n], g1)) (h2 : n ≤ 1000000 ∧ -1000000 ≤ n) : fForR fs t k g = loop t k (intsD n) g1 := by unfold fForR; rw [sb_ok h1]; dsimp only; rw [if_pos h2]
theorem try_exc {fb : Ms} {l : List HSem} (h1 : fb g = some (.exc x, g1)) : fTry fb l g = hdl x l g1 := by unfold fTry; rw [h1]
theorem try_nx {fb : Ms} {l : List HSem} (h1 : fb g = some (.nx, g1)) : fTry fb l g = some (.nx, g1) := by unfold fTry; rw [h1]
end
theorem loop_cons {t : Mt} {b : Ms} {d : D} {ds : List D} {g g1 g2 : Sg} (h1 : t d g = some g1) (h2 : b g1 = some (.nx, g2)) : loop t b (d :: ds) g = loop t b ds g2 := by
  show (match t d g with | none => none | some g1 => match b g1 with | some (.nx, g2) => loop t b ds g2 | some (.ct, g2) => loop t b ds g2 | some (.brk, g2) => some (.nx, g2) | o => o) = _
  rw [h1]; dsimp only; rw [h2]
theorem loop_ret {t : Mt} {b : Ms} {d r : D} {ds : List D} {g g1 g2 : Sg} (h1 : t d g = some g1) (h2 : b g1 = some (.ret r, g2)) : loop t b (d :: ds) g = some (.ret r, g2) := by
  show (match t d g with | none => none | some g1 => match b g1 with | some (.nx, g2) => loop t b ds g2 | some (.ct, g2) => loop t b ds g2 | some (.brk, g2) => some (.nx, g2) | o => o) = _
  rw [h1]; dsimp only; rw [h2]
/-- a loop all of whose turns go on -/
theorem loop_all {t : Mt} {b : Ms} (Q : Sg → Prop) : ∀ {ds : List D} {g : Sg}, (∀ d ∈ ds, ∀ g, Q g → ∃ g1 g2, t d g = some g1 ∧ b g1 = some (.nx, g2) ∧ Q g2) → Q g → ∃ g', loop t b ds g = some (.nx, g') ∧ Q g'
  | [], g, _, q => ⟨g, rfl, q⟩
  | d :: ds, g, h, q => by
    obtain ⟨g1, g2, h1, h2, q2⟩ := h d List.mem_cons_self g q
    rw [loop_cons h1 h2]
    exact loop_all Q (fun d' hd => h d' (List.mem_cons_of_mem _ hd)) q2
/-- .. then one that returns -/
theorem loop_then {t : Mt} {b : Ms} (Q : Sg → Prop) {d r : D} {es : List D} : ∀ {ds : List D} {g : Sg}, (∀ d ∈ ds, ∀ g, Q g → ∃ g1 g2, t d g = some g1 ∧ b g1 = some (.nx, g2) ∧ Q g2) → (∀ g, Q g → ∃ g1 g2, t d g = some g1 ∧ b g1 = some (.ret r, g2) ∧ Q g2) → Q g → ∃ g', loop t b (ds ++ d :: es) g = some (.ret r, g') ∧ Q g'
  | [], g, _, hd, q => by
    obtain ⟨g1, g2, h1, h2, q2⟩ := hd g q
    exact ⟨g2, loop_ret h1 h2, q2⟩
  | a :: ds, g, h, hd, q => by
    obtain ⟨g1, g2, h1, h2, q2⟩ := h a List.mem_cons_self g q
    rw [List.cons_append, loop_cons h1 h2]
    exact loop_then Q (fun d' hd' => h d' (List.mem_cons_of_mem _ hd')) hd q2
theorem atI_nat {α : Type} (cs : List α) (i : Nat) (h : i < cs.length) : atI cs (i : Int) = cs[i]? := by
  unfold atI ixN
  have h1 : (0 : Int) ≤ (i : Int) := by omega
  have h2 : ((i : Int)) < (cs.length : Int) := by omega
  simp [h1, h2, Int.toNat_natCast, h]
theorem intsD_split {n j : Nat} (h : j < n) : intsD (n : Int) = (List.range j).map (fun (i : Nat) => D.int (i : Int)) ++ D.int (j : Int) :: ((List.range (n - j - 1)).map fun i => D.int ((j + 1 + i : Nat) : Int)) := by
  unfold intsD
  rw [Int.toNat_natCast]
  have e : n = j + (1 + (n - j - 1)) := by omega
  conv => lhs; rw [e]
  rw [List.range_add, List.map_append, Nat.add_comm 1, List.range_succ_eq_map]
  simp [Function.comp_def, Nat.add_assoc, Nat.add_comm, Nat.add_left_comm]
theorem cut_take {α : Type} (cs : List α) (i : Nat) (h : i ≤ cs.length) : cutD cs none (some (i : Int)) = cs.take i := by
  unfold cutD
  have e1 : HT.sIx cs.length 0 none = 0 := rfl
  have e2 : HT.sIx cs.length cs.length (some (i : Int)) = i := by
    rw [HT.sIx_nat]; omega
  rw [e1, e2]; simp
end DE
namespace DE
open PyProof.Rows PySem.Spec PySem L2
/-! ### comprehensions, texts, lambdas: equations -/
theorem compL_map {vs : List Nat} {t : Mt} {c : Mo Bool} {e : Mo D} {F : D → D} {S : List Sl} {s : DS} : ∀ (ds : List D), (∀ d ∈ ds, ∃ g1 g2, t d ⟨S, s⟩ = some g1 ∧ c g1 = some (.ok true, g1) ∧ e g1 = some (.ok (F d), g2) ∧ wipeR g2.r vs = S ∧ g2.s = s) → compL vs t c e ds ⟨S, s⟩ = some (ds.map F, ⟨S, s⟩)
  | [], _ => rfl
  | d :: ds, h => by
    obtain ⟨g1, g2, h1, h2, h3, h4, h5⟩ := h d List.mem_cons_self
    have ih := compL_map ds fun d' hd => h d' (List.mem_cons_of_mem _ hd)
    unfold compL
    rw [h1]; dsimp only; rw [h2]; dsimp only; rw [h3]; dsimp only; rw [h4, h5, ih]; rfl
theorem comp_ok {vs : List Nat} {fi : Mo D} {t : Mt} {c : Mo Bool} {e : Mo D} {d : D} {ds es : List D} {g g1 g2 : Sg} (h1 : fi g = some (.ok d, g1)) (h2 : aSeq d = some ds) (h3 : ds.length ≤ 100000) (h4 : compL vs t c e ds ⟨wipeR g1.r vs, g1.s⟩ = some (es, g2)) : fComp vs fi t c e g = some (.ok es, g2) := by
  unfold fComp
  rw [bd_ok h1, h2]
  unfold compF
  dsimp only
  rw [if_pos h3, h4]; rfl
theorem tupOf_ok {f : Mo (List D)} {ds : List D} {g g1 : Sg} (h : f g = some (.ok ds, g1)) : fTupOf f g = some (.ok (.tup ds), g1) := by unfold fTupOf; rw [bd_ok h]; rfl
theorem setO_ok {i : Nat} {f : Mo (List D)} {ds : List D} {g g1 : Sg} (h : f g = some (.ok ds, g1)) : fSetO i f g = some (.nx, ⟨g1.r.set i (.own ds), g1.s⟩) := by unfold fSetO; rw [sb_ok h]
def mapW (kvs : List (Str × Str)) (w : Str) : Str := match kvs.lookup w with
  | some v => v
  | none => w
theorem getK_ok {kvs : List (Str × Str)} {i : Nat} {w : Str} {g : Sg} (h : g.r[i]? = some (.dat (.str w))) : fGetK kvs (fName i) (fName i) g = some (.ok (.str (mapW kvs w)), g) := by
  unfold fGetK
  rw [bd_ok (name_ok h), bd_ok (name_ok h)]
  unfold mapW
  dsimp only
  cases kvs.lookup w <;> rfl
theorem repr_same {A B : Mo D} {d : D} {p : PyData} {g g1 g2 : Sg} (hA : A g = some (.ok d, g1)) (hB : B g1 = some (.ok d, g2)) (hp : pyd d = some p) (hs : showB p = true) : fT (f2 pNe (fRepr A) (fRepr B)) g = some (.ok false, g2) := by
  have r : ∀ {f : Mo D} {g g1 : Sg}, f g = some (.ok d, g1) → fRepr f g = some (.ok (.str p.shown), g1) := fun {f g g1} h => by
    unfold fRepr aRepr
    rw [bd_ok h, hp]
    dsimp only
    rw [if_pos hs]; rfl
  refine t_ok ((f2_ok (r hA) (r hB)).trans ?_)
  unfold pNe
  simp [rt]
theorem ret_er {e : Mo D} {x : Exn} {g g1 : Sg} (h : e g = some (.error x, g1)) : fRet e g = some (.exc x, g1) := sb_er h
theorem asg_er {e : Mo D} {t : Mt} {x : Exn} {g g1 : Sg} (h : e g = some (.error x, g1)) : fAsg e t g = some (.exc x, g1) := sb_er h
end DE
namespace DE
open PyProof.Rows PySem.Spec PySem L2
/-! ### rows of keys and marks -/
abbrev Pr := Int × Str
def prD (p : Pr) : D := .tup [.int p.1, .str p.2]
abbrev rowD (r : List Pr) : List D := r.map prD
def loudP (p : Pr) : Bool := !decide (p.2 = "waits")
abbrev keysOf (r : List Pr) : List Int := r.map (·.1)
theorem compL_on {α : Type} {vs : List Nat} {t : Mt} {c : Mo Bool} {e : Mo D} {E F : α → D} {P : α → Bool} {S : List Sl} {s : DS} : ∀ (l : List α), (∀ x ∈ l, ∃ g1 g2, t (E x) ⟨S, s⟩ = some g1 ∧ c g1 = some (.ok (P x), g2) ∧ (P x = true → ∃ g3, e g2 = some (.ok (F x), g3) ∧ wipeR g3.r vs = S ∧ g3.s = s) ∧ (P x = false → wipeR g2.r vs = S ∧ g2.s = s)) →
    compL vs t c e (l.map E) ⟨S, s⟩ = some ((l.filter P).map F, ⟨S, s⟩)
  | [], _ => rfl
  | x :: l, h => by
    obtain ⟨g1, g2, h1, h2, h3, h4⟩ := h x List.mem_cons_self
    have ih := compL_on l fun y hy => h y (List.mem_cons_of_mem _ hy)
    rw [List.map_cons]
    unfold compL
    rw [h1]; dsimp only; rw [h2]
    cases hp : P x with
    | true =>
      obtain ⟨g3, k1, k2, k3⟩ := h3 hp; rw [List.filter_cons_of_pos hp, List.map_cons]
      try dsimp only
      rw [k1]; dsimp only; rw [k2, k3, ih]; rfl
    | false =>
      obtain ⟨k2, k3⟩ := h4 hp
      rw [List.filter_cons_of_neg (by rw [hp]; exact Bool.false_ne_true)]
      try dsimp only
      rw [k2, k3, ih]
section
variable {g g1 : Sg} {i : Nat} {p : Pr}
theorem pr0 (h : g.r[i]? = some (.dat (prD p))) : fIxD (fName i) (rt (.int 0)) g = some (.ok (.int p.1), g) := ix_ok (name_ok h) rfl rfl rfl
theorem pr1 (h : g.r[i]? = some (.dat (prD p))) : fIxD (fName i) (rt (.int 1)) g = some (.ok (.str p.2), g) := ix_ok (name_ok h) rfl rfl rfl
end
theorem ne_str {e f : Mo D} {a b : Str} {g g1 g2 : Sg} (h1 : e g = some (.ok (.str a), g1)) (h2 : f g1 = some (.ok (.str b), g2)) : fT (f2 pNe e f) g = some (.ok (!decide (a = b)), g2) := t_ok ((f2_ok h1 h2).trans rfl)
theorem eq_str {e f : Mo D} {a b : Str} {g g1 g2 : Sg} (h1 : e g = some (.ok (.str a), g1)) (h2 : f g1 = some (.ok (.str b), g2)) : fT (f2 pEq e f) g = some (.ok (decide (a = b)), g2) := t_ok ((f2_ok h1 h2).trans rfl)
theorem eq_int {e f : Mo D} {a b : Int} {g g1 g2 : Sg} (h1 : e g = some (.ok (.int a), g1)) (h2 : f g1 = some (.ok (.int b), g2)) : fT (f2 pEq e f) g = some (.ok (decide (a = b)), g2) := t_ok ((f2_ok h1 h2).trans rfl)
theorem ne_int {e f : Mo D} {a b : Int} {g g1 g2 : Sg} (h1 : e g = some (.ok (.int a), g1)) (h2 : f g1 = some (.ok (.int b), g2)) : fT (f2 pNe e f) g = some (.ok (!decide (a = b)), g2) := t_ok ((f2_ok h1 h2).trans rfl)
theorem lt_int {e f : Mo D} {a b : Int} {g g1 g2 : Sg} (h1 : e g = some (.ok (.int a), g1)) (h2 : f g1 = some (.ok (.int b), g2)) : fT (f2 pLt e f) g = some (.ok (decide (a < b)), g2) := t_ok ((f2_ok h1 h2).trans rfl)
theorem gt_int {e f : Mo D} {a b : Int} {g g1 g2 : Sg} (h1 : e g = some (.ok (.int a), g1)) (h2 : f g1 = some (.ok (.int b), g2)) : fT (f2 pGt e f) g = some (.ok (decide (b < a)), g2) := t_ok ((f2_ok h1 h2).trans rfl)
/-- a in a sequence of texts -/
theorem in_strs {e f : Mo D} {a : Str} {ws : List Str} {d : D} {neg : Bool} {g g1 g2 : Sg} (h1 : e g = some (.ok (.str a), g1)) (h2 : f g1 = some (.ok d, g2)) (hd : aSeq d = some (ws.map .str)) : fT (f2 (pIn neg) e f) g = some (.ok (if neg then !ws.contains a else ws.contains a), g2) := by
  refine t_ok ((f2_ok h1 h2).trans ?_)
  unfold pIn
  rw [hd]
  simp only [flat1, flat_strs, inV_strs]
  cases neg <;> rfl
theorem flat_ints : ∀ xs : List Int, flatA (xs.map D.int) = some (xs.map V.int)
  | [] => rfl
  | x :: xs => by simp [flatA, flat1, flat_ints xs]
theorem inV_ints (x : Int) (xs : List Int) : inV (.int x) (xs.map V.int) = xs.contains x := by
  rw [Bool.eq_iff_iff]
  unfold inV
  simp only [List.any_eq_true, List.mem_map, List.contains_iff_mem]
  constructor
  · rintro ⟨_, ⟨w, hw, rfl⟩, e⟩
    have : w = x := by simpa [eqV] using e
    exact this ▸ hw
  · intro h
    exact ⟨_, ⟨x, h, rfl⟩, by simp [eqV]⟩
theorem in_ints {e f : Mo D} {a : Int} {xs : List Int} {d : D} {neg : Bool} {g g1 g2 : Sg} (h1 : e g = some (.ok (.int a), g1)) (h2 : f g1 = some (.ok d, g2)) (hd : aSeq d = some (xs.map .int)) : fT (f2 (pIn neg) e f) g = some (.ok (if neg then !xs.contains a else xs.contains a), g2) := by
  refine t_ok ((f2_ok h1 h2).trans ?_)
  unfold pIn
  rw [hd]
  simp only [flat1, flat_ints, inV_ints]
  cases neg <;> rfl
theorem intsOf_map : ∀ xs : List Int, intsOf (xs.map D.int) = some xs
  | [] => rfl
  | x :: xs => by simp [intsOf, intsOf_map xs]
theorem min_ok {f : Mo D} {xs : List Int} {g g1 : Sg} (h : f g = some (.ok (.lst (xs.map .int)), g1)) (hx : xs ≠ []) : fMin f g = some (.ok (.int (minL xs)), g1) := by
  unfold fMin
  rw [bd_ok h]
  dsimp only
  rw [intsOf_map]
  cases xs with
  | nil => exact absurd rfl hx
  | cons x xs => rfl
theorem max_ok {f : Mo D} {xs : List Int} {g g1 : Sg} (h : f g = some (.ok (.lst (xs.map .int)), g1)) (hx : xs ≠ []) : fMax f g = some (.ok (.int (maxL xs)), g1) := by
  unfold fMax
  rw [bd_ok h]
  dsimp only
  rw [intsOf_map]
  cases xs with
  | nil => exact absurd rfl hx
  | cons x xs => rfl
theorem sorted_ok {f : Mo D} {xs : List Int} {g g1 : Sg} (h : f g = some (.ok (.lst (xs.map .int)), g1)) : fSorted f g = some (.ok ((sortI xs).map .int), g1) := by
  unfold fSorted
  rw [bd_ok h]
  dsimp only
  rw [intsOf_map]; rfl
theorem parDD_ok {i j : Nat} {f h : Mo D} {d e : D} {g g1 g2 : Sg} (h1 : f g = some (.ok d, g1)) (h2 : h g1 = some (.ok e, g2)) : fParDD i j f h g = some (.nx, ⟨(g2.r.set i (.dat d)).set j (.dat e), g2.s⟩) := by unfold fParDD; rw [sb_ok h1, sb_ok h2]
theorem dixS {fd fk : Mo D} {ps : List (Key × D)} {s : Str} {d : D} {g g1 g2 : Sg} (h1 : fd g = some (.ok (.dic ps), g1)) (h2 : fk g1 = some (.ok (.str s), g2)) (h3 : valD ps (Sum.inr s) = some d) : fDix fd fk g = some (.ok d, g2) := by
  unfold fDix
  rw [bd_ok h1, bd_ok h2]
  dsimp only
  rw [h3]; rfl
/-- a list cut to its first, its last -/
theorem cut_first {α : Type} (xs : List α) : cutD xs none (some 1) = xs.take 1 := by
  cases xs with
  | nil => rfl
  | cons x xs =>
    have := cut_take (x :: xs) 1 (by simp)
    exact this
theorem cut_last {α : Type} (xs : List α) : cutD xs (some (-1)) none = xs.drop (xs.length - 1) := by
  have e : HT.sIx xs.length 0 (some (-1)) = xs.length - 1 := by
    show (if (-1 : Int) < 0 then ((-1 : Int) + (xs.length : Int)).toNat else min (-1 : Int).toNat xs.length) = _
    rw [if_pos (by decide)]; omega
  unfold cutD
  rw [e]
  exact List.take_of_length_le (by rw [List.length_drop]; exact Nat.le_refl _)
end DE
namespace DE
open PyProof.Rows PySem.Spec PySem L2
/-! ### rows as plain data -/
def MKS : List Str := ["sounds", "kept", "waits"]
def okR (r : List Pr) : Prop := ∀ p ∈ r, p.2 ∈ MKS
def prP (p : Pr) : PyData := .tuple [.int p.1, .str p.2]
theorem okR.tail {p : Pr} {r : List Pr} (h : okR (p :: r)) : okR r := fun q hq => h q (List.mem_cons_of_mem _ hq)
theorem okR.filter {r : List Pr} (h : okR r) (P : Pr → Bool) : okR (r.filter P) := fun p hp => h p (List.mem_filter.mp hp).1
theorem okR.app {r q : List Pr} (h : okR r) (k : okR q) : okR (r ++ q) := fun p hp => (List.mem_append.mp hp).elim (h p) (k p)
theorem pyd_pr (p : Pr) : pyd (prD p) = some (prP p) := rfl
theorem pyd_row : ∀ r : List Pr, pydA (rowD r) = some (r.map prP)
  | [] => rfl
  | p :: r => by
    show pydA (prD p :: rowD r) = _
    unfold pydA
    rw [pyd_pr, pyd_row r]; rfl
theorem mks_ok : ∀ m ∈ MKS, PyData.canLay0 (.str m) = true := by
  unfold MKS
  exact fun m hm => by
    simp only [List.mem_cons, List.not_mem_nil, or_false] at hm; rcases hm with rfl | rfl | rfl <;> kernel_rfl
theorem lay_row : ∀ {r : List Pr}, okR r → PyData.canLayAll0 (r.map prP) = true
  | [], _ => rfl
  | p :: r, h => by
    have := mks_ok p.2 (h p List.mem_cons_self)
    simp only [List.map_cons, prP, PyData.canLayAll0, PyData.canLay0, this, Bool.true_and, Bool.and_true] at *
    rw [this]
    exact lay_row h.tail
theorem dep_row : ∀ r : List Pr, PyData.depthAll (r.map prP) ≤ 1
  | [] => by (simp [PyData.depthAll])
  | p :: r => by
    have := dep_row r
    simp only [List.map_cons, prP, PyData.depthAll, PyData.depth]
    omega
theorem shaped_row {r : List Pr} (h : okR r) : SeqAt.shaped (.list (r.map prP)) = true := by
  unfold SeqAt.shaped
  have := dep_row r
  rw [Bool.and_eq_true, decide_eq_true_eq]
  refine ⟨by simp only [PyData.canLay0]; exact lay_row h, ?_⟩
  simp only [PyData.depth]; omega
theorem shaped_nil : SeqAt.shaped (.list []) = true := by kernel_rfl
theorem shaped_pr {p : Pr} (h : p.2 ∈ MKS) : SeqAt.shaped (prP p) = true := by
  have := mks_ok p.2 h
  unfold SeqAt.shaped prP
  rw [Bool.and_eq_true, decide_eq_true_eq]
  refine ⟨?_, ?_⟩
  · simp only [PyData.canLay0, PyData.canLayAll0, Bool.true_and, Bool.and_true]
    simpa [PyData.canLay0] using this
  · simp only [PyData.depth, PyData.depthAll]; decide
theorem eqv_nil (r : List Pr) : PyData.eqv (.list (r.map prP)) (.list []) = r.isEmpty := by
  cases r with
  | nil => rfl
  | cons p r => rfl
theorem eqv_pr (p q : Pr) : PyData.eqv (prP p) (prP q) = decide (p = q) := by
  obtain ⟨a, b⟩ := p
  obtain ⟨c, d⟩ := q
  have e : PyData.eqv (prP (a, b)) (prP (c, d)) = ((a == c) && ((b == d) && true)) := by kernel_rfl
  rw [e, Bool.and_true, Bool.eq_iff_iff]
  simp
theorem pEqD_row {r : List Pr} (h : okR r) (g : Sg) : pEq (.lst (rowD r)) (.lst []) g = some (.ok (.bl r.isEmpty), g) := by
  show pEqD (.lst (rowD r)) (.lst []) g = _
  have e1 : pyd (.lst (rowD r)) = some (.list (r.map prP)) := by unfold pyd; rw [pyd_row]; rfl
  have e2 : pyd (.lst []) = some (.list []) := rfl
  unfold pEqD
  rw [e1, e2]
  dsimp only
  rw [if_pos (by rw [shaped_row h, shaped_nil]; rfl), eqv_nil]; rfl
theorem pNeD_row {r : List Pr} (h : okR r) (g : Sg) : pNe (.lst (rowD r)) (.lst []) g = some (.ok (.bl (!r.isEmpty)), g) := by
  show pNeD (.lst (rowD r)) (.lst []) g = _
  have e1 : pyd (.lst (rowD r)) = some (.list (r.map prP)) := by unfold pyd; rw [pyd_row]; rfl
  have e2 : pyd (.lst []) = some (.list []) := rfl
  unfold pNeD
  rw [e1, e2]
  dsimp only
  rw [if_pos (by rw [shaped_row h, shaped_nil]; rfl), eqv_nil]; rfl
theorem pNe_pr {p q : Pr} (hp : p.2 ∈ MKS) (hq : q.2 ∈ MKS) (g : Sg) : pNe (prD p) (prD q) g = some (.ok (.bl (!decide (p = q))), g) := by
  show pNeD (prD p) (prD q) g = _
  unfold pNeD
  rw [pyd_pr, pyd_pr]
  dsimp only
  rw [if_pos (by rw [shaped_pr hp, shaped_pr hq]; rfl), eqv_pr]; rfl
theorem any_pr (r : List Pr) (p : Pr) : ((r.map prP).any fun z => PyData.eqv z (prP p)) = r.contains p := by
  rw [List.any_map, Bool.eq_iff_iff]
  simp only [List.any_eq_true, Function.comp_apply, eqv_pr, decide_eq_true_eq, List.contains_iff_mem]
  constructor
  · rintro ⟨q, hq, rfl⟩; exact hq
  · intro h; exact ⟨p, h, rfl⟩
theorem pInD_row {r : List Pr} {p : Pr} (h : okR r) (hp : p.2 ∈ MKS) (g : Sg) : pInD false (prD p) (.lst (rowD r)) g = some (.ok (.bl (r.contains p)), g) := by
  have e1 : pyd (.lst (rowD r)) = some (.list (r.map prP)) := by unfold pyd; rw [pyd_row]; rfl
  unfold pInD
  rw [pyd_pr, e1]
  dsimp only
  rw [if_pos (by rw [shaped_pr hp, shaped_row h]; rfl), any_pr]; rfl
theorem app_cat {f h : Mo D} {xs ys : List D} {g g1 g2 : Sg} (h1 : f g = some (.ok (.lst xs), g1)) (h2 : h g1 = some (.ok (.lst ys), g2)) (hl : xs.length + ys.length ≤ 100000) : fLet (fCat f h) g = some (.ok (.lst (xs ++ ys)), g2) := by
  refine let_ok ?_
  unfold fCat
  rw [bd_ok h1, bd_ok h2]; dsimp only; rw [if_pos hl]; rfl
end DE
namespace S
open PyProof.Rows PySem.Spec PySem L2 DE
def c_ENDS : D := .tup [.str "eldest", .str "latest", .str "lowest", .str "highest", .str "refuse"]
def c_ENOUGH : D := .tup [.int 88, .tup [.str "refuse"], .str "none"]
def c_FILTERS : D := .tup [.str "kept", .str "inner", .str "notlow", .str "nothigh", .str "below", .str "above", .str "under", .str "over"]
def c_KEY_WORDS : D := .tup [.str "down", .str "up"]
def c_MARKS : D := .tup [.str "sounds", .str "kept", .str "waits"]
def c_MOST_CRITERIA : D := .int 6
def c_MOST_EVENTS : D := .int 300
def c_MOST_KEY : D := .int 87
def c_MOST_KEYS : D := .int 4
def c_MOST_KEYS_WITH_PEDAL : D := .int 3
def c_MOST_MACHINES : D := .int 20
def c_MOST_VOICES : D := .int 8
def c_PEDAL_WORDS : D := .tup [.str "press", .str "lift"]
def c_RETURNS : D := .tup [.str "none", .str "eldest", .str "latest", .str "lowest", .str "highest"]
def c_START : D := .tup [.bl false, .tup []]
def cd_MIRROR : List (Str × Str) := [("lowest", "highest"), ("highest", "lowest"), ("notlow", "nothigh"), ("nothigh", "notlow"), ("below", "above"), ("above", "below"), ("under", "over"), ("over", "under")]
def tb_BadBoard : List (Str × Bool) := [("BadMachine", false), ("BadPlay", false), ("BadState", false), ("BadTrace", false), ("BadText", false), ("BadEvent", false), ("BadKey", false), ("BadBoard", true), ("Missing", false)]
def tb_BadEvent : List (Str × Bool) := [("BadMachine", false), ("BadPlay", false), ("BadState", false), ("BadTrace", false), ("BadText", false), ("BadEvent", true), ("BadKey", false), ("BadBoard", false), ("Missing", false)]
def tb_BadKey : List (Str × Bool) := [("BadMachine", false), ("BadPlay", false), ("BadState", false), ("BadTrace", false), ("BadText", false), ("BadEvent", false), ("BadKey", true), ("BadBoard", false), ("Missing", false)]
def tb_BadMachine : List (Str × Bool) := [("BadMachine", true), ("BadPlay", false), ("BadState", false), ("BadTrace", false), ("BadText", false), ("BadEvent", false), ("BadKey", false), ("BadBoard", false), ("Missing", false)]
def tb_BadPlay : List (Str × Bool) := [("BadMachine", false), ("BadPlay", true), ("BadState", false), ("BadTrace", false), ("BadText", false), ("BadEvent", false), ("BadKey", false), ("BadBoard", false), ("Missing", false)]
def tb_BadQuestion : List (Str × Bool) := [("BadMachine", false), ("BadPlay", false), ("BadState", false), ("BadTrace", false), ("BadText", false), ("BadEvent", false), ("BadKey", false), ("BadBoard", false), ("Missing", false)]
def tb_BadState : List (Str × Bool) := [("BadMachine", false), ("BadPlay", false), ("BadState", true), ("BadTrace", false), ("BadText", false), ("BadEvent", false), ("BadKey", false), ("BadBoard", false), ("Missing", false)]
def tb_ValueError : List (Str × Bool) := [("BadMachine", true), ("BadPlay", true), ("BadState", true), ("BadTrace", true), ("BadText", true), ("BadEvent", true), ("BadKey", true), ("BadBoard", true), ("Missing", false)]
def tb_VoiceError : List (Str × Bool) := [("BadMachine", true), ("BadPlay", true), ("BadState", true), ("BadTrace", true), ("BadText", true), ("BadEvent", true), ("BadKey", true), ("BadBoard", true), ("Missing", false)]
def cs_event : List Str := ["BadEvent"]
def cs_key : List Str := ["BadKey"]
def cs_many : List Str := ["BadBoard"]
def cs_place : List Str := ["BadMachine", "BadPlay", "BadState", "BadTrace", "BadText"]
def fb_down_keys : Ms := fRet (fLet (fComp [1, 2] (fName 0) (gT 2 (gsCons (gN 1) (gsCons (gN 2) gsNil))) (fT (f2 pNe (fName 2) (rt (.str "kept")))) (fName 1)))
def m_down_keys : Fd := runB fb_down_keys 3 1
def fb_is_whole : Ms := fSeq (fIf (fOr (fT (fIsi "bool" (fName 0))) (fNot (fT (fIsi "int" (fName 0))))) (fRet (rt (.bl false))) (sOut .nx))
  (fRet (fChain pLe pLe (fName 1) (fName 0) (fName 2)))
def m_is_whole : Fd := runB fb_is_whole 3 3
def fb_is_key : Ms := fRet (fCallN 3 m_is_whole (fCons (fName 0) (fCons (rt (.int 0)) (fCons (rt c_MOST_KEY) (rt [])))))
def m_is_key : Fd := runB fb_is_key 1 1
def fb_is_word : Ms := fRet (fAndV (fIsi "str" (fName 0)) (f2 (pIn false) (fName 0) (fName 1)))
def m_is_word : Fd := runB fb_is_word 2 2
def fb_is_event : Ms := fSeq (fIf (fNot (fT (fIsi "tuple" (fName 0)))) (fRet (rt (.bl false))) (sOut .nx))
  (fSeq (fIf (fT (f2 pEq (fLen (fPeek 0)) (rt (.int 1)))) (fRet (fCallN 2 m_is_word (fCons (fIxD (fName 0) (rt (.int 0))) (fCons (rt c_PEDAL_WORDS) (rt []))))) (sOut .nx))
  (fRet (fAndV (f2 pEq (fLen (fPeek 0)) (rt (.int 2))) (fAndV (fCallN 2 m_is_word (fCons (fIxD (fName 0) (rt (.int 0))) (fCons (rt c_KEY_WORDS) (rt [])))) (fCallN 1 m_is_key (fCons (fIxD (fName 0) (rt (.int 1))) (rt [])))))))
def m_is_event : Fd := runB fb_is_event 1 1
def fb_can_follow : Ms := fSeq (fIf (fNot (fT (fCallN 1 m_is_event (fCons (fName 1) (rt []))))) (fRet (rt (.bl false))) (sOut .nx))
  (fSeq (fAsg (fName 0) (gT 2 (gsCons (gN 3) (gsCons (gN 4) gsNil))))
  (fSeq (fSet 2 (fIxD (fName 1) (rt (.int 0))))
  (fSeq (fIf (fT (f2 pEq (fName 2) (rt (.str "press")))) (fRet (fNotV (fName 3))) (sOut .nx))
  (fSeq (fIf (fT (f2 pEq (fName 2) (rt (.str "lift")))) (fRet (fName 3)) (sOut .nx))
  (fRet (f2 pEq (f2 (pIn false) (fIxD (fName 1) (rt (.int 1))) (fCallN 1 m_down_keys (fCons (fName 4) (rt [])))) (f2 pEq (fName 2) (rt (.str "up")))))))))
def m_can_follow : Fd := runB fb_can_follow 5 2
def fb_can_stand : Ms := fSeq (fSet 2 (fIxD (fName 0) (fName 1)))
  (fSeq (fIf (fT (f2 pEq (fName 1) (f2 pSub (fLen (fPeek 0)) (rt (.int 1))))) (fRet (fCallN 2 m_is_word (fCons (fName 2) (fCons (rt c_ENDS) (rt []))))) (sOut .nx))
  (fRet (fAndV (fCallN 2 m_is_word (fCons (fName 2) (fCons (rt c_FILTERS) (rt [])))) (f2 (pIn true) (fName 2) (fSl (fName 0) (rt none) (fPart (fName 1)))))))
def m_can_stand : Fd := runB fb_can_stand 3 2
def fb_criteria_fault : Ms := fSeq (fIf (fOr (fNot (fT (fIsi "tuple" (fName 0)))) (fNot (fT (fChain pLe pLe (rt (.int 1)) (fLen (fPeek 0)) (rt c_MOST_CRITERIA))))) (fRet (fTup (fCons (rt (.str "criteria")) (rt [])))) (sOut .nx))
  (fSeq (fForR (fCons (fLen (fPeek 0)) (rt [])) (gN 1) (fIf (fNot (fT (fCallN 2 m_can_stand (fCons (fName 0) (fCons (fName 1) (rt [])))))) (fRet (fTup (fCons (rt (.str "criteria")) (fCons (fName 1) (rt []))))) (sOut .nx)))
  (fRet (rt .non)))
def m_criteria_fault : Fd := runB fb_criteria_fault 2 1
def fb_machine_fault : Ms := fSeq (fIf (fOr (fNot (fT (fIsi "tuple" (fName 0)))) (fT (f2 pNe (fLen (fPeek 0)) (rt (.int 3))))) (fRet (fTup (rt []))) (sOut .nx))
  (fSeq (fAsg (fName 0) (gT 3 (gsCons (gN 2) (gsCons (gN 3) (gsCons (gN 4) gsNil)))))
  (fSeq (fIf (fNot (fT (fCallN 3 m_is_whole (fCons (fName 2) (fCons (rt (.int 1)) (fCons (rt c_MOST_VOICES) (rt []))))))) (fRet (fTup (fCons (rt (.str "voices")) (rt [])))) (sOut .nx))
  (fSeq (fSet 1 (fCallN 1 m_criteria_fault (fCons (fName 3) (rt []))))
  (fSeq (fIf (fAnd (fT (f2 pIs (fName 1) (rt .non))) (fNot (fT (fCallN 2 m_is_word (fCons (fName 4) (fCons (rt c_RETURNS) (rt []))))))) (fRet (fTup (fCons (rt (.str "return")) (rt [])))) (sOut .nx))
  (fRet (fName 1))))))
def m_machine_fault : Fd := runB fb_machine_fault 5 1
def fb_need_machine : Ms := fSeq (fSet 1 (fCallN 1 m_machine_fault (fCons (fName 0) (rt []))))
  (fSeq (fIf (fT (f2 pNis (fName 1) (rt .non))) (fRaise "BadMachine" (fName 1)) (sOut .nx))
  (fRet (fName 0)))
def m_need_machine : Fd := runB fb_need_machine 2 1
def fb_is_pair : Ms := fSeq (fIf (fOr (fNot (fT (fIsi "tuple" (fName 0)))) (fT (f2 pNe (fLen (fPeek 0)) (rt (.int 2))))) (fRet (rt (.bl false))) (sOut .nx))
  (fRet (fAndV (fCallN 1 m_is_key (fCons (fIxD (fName 0) (rt (.int 0))) (rt []))) (fCallN 2 m_is_word (fCons (fIxD (fName 0) (rt (.int 1))) (fCons (rt c_MARKS) (rt []))))))
def m_is_pair : Fd := runB fb_is_pair 1 1
def fb_loud_keys : Ms := fRet (fLet (fComp [1, 2] (fName 0) (gT 2 (gsCons (gN 1) (gsCons (gN 2) gsNil))) (fT (f2 pNe (fName 2) (rt (.str "waits")))) (fName 1)))
def m_loud_keys : Fd := runB fb_loud_keys 3 1
def fb_can_be_next : Ms := fSeq (fIf (fNot (fT (fCallN 1 m_is_pair (fCons (fName 3) (rt []))))) (fRet (rt (.bl false))) (sOut .nx))
  (fSeq (fAsg (fName 3) (gT 2 (gsCons (gN 4) (gsCons (gN 5) gsNil))))
  (fSeq (fIf (fT (f2 (pIn false) (fName 4) (fLet (fComp [6] (fName 2) (gN 6) ((rt true)) (fIxD (fName 6) (rt (.int 0))))))) (fRet (rt (.bl false))) (sOut .nx))
  (fSeq (fIf (fAnd (fT (f2 pEq (fName 5) (rt (.str "kept")))) (fNot (fT (fName 1)))) (fRet (rt (.bl false))) (sOut .nx))
  (fRet (fOrV (f2 pEq (fName 5) (rt (.str "waits"))) (f2 pLt (fLen (fPk (fCallN 1 m_loud_keys (fCons (fName 2) (rt []))))) (fName 0)))))))
def m_can_be_next : Fd := runB fb_can_be_next 7 4
def fb_row_fault : Ms := fSeq (fIf (fNot (fT (fIsi "tuple" (fName 2)))) (fRet (fTup (fCons (rt (.str "row")) (rt [])))) (sOut .nx))
  (fSeq (fForR (fCons (fLen (fPeek 2)) (rt [])) (gN 3) (fIf (fNot (fT (fCallN 4 m_can_be_next (fCons (fName 0) (fCons (fName 1) (fCons (fSl (fName 2) (rt none) (fPart (fName 3))) (fCons (fIxD (fName 2) (fName 3)) (rt [])))))))) (fRet (fTup (fCons (rt (.str "row")) (fCons (fName 3) (rt []))))) (sOut .nx)))
  (fRet (rt .non)))
def m_row_fault : Fd := runB fb_row_fault 4 3
def fb_waits_in_vain : Ms := fSeq (fAsg (fName 0) (gT 3 (gsCons (gN 3) (gsCons (gN 4) (gsCons (gN 5) gsNil)))))
  (fSeq (fSet 2 (fLen (fPk (fCallN 1 m_loud_keys (fCons (fName 1) (rt []))))))
  (fRet (fAndV (f2 pNe (fName 5) (rt (.str "none"))) (fAndV (f2 pLt (fName 2) (fName 3)) (f2 pLt (fName 2) (fLen (fPeek 1)))))))
def m_waits_in_vain : Fd := runB fb_waits_in_vain 6 2
def fb_state_fault : Ms := fSeq (fIf (fOr (fNot (fT (fIsi "tuple" (fName 1)))) (fT (f2 pNe (fLen (fPeek 1)) (rt (.int 2))))) (fRet (fTup (rt []))) (sOut .nx))
  (fSeq (fAsg (fName 1) (gT 2 (gsCons (gN 3) (gsCons (gN 4) gsNil))))
  (fSeq (fIf (fNot (fT (fIsi "bool" (fName 3)))) (fRet (fTup (fCons (rt (.str "pedal")) (rt [])))) (sOut .nx))
  (fSeq (fSet 2 (fCallN 3 m_row_fault (fCons (fIxD (fName 0) (rt (.int 0))) (fCons (fName 3) (fCons (fName 4) (rt []))))))
  (fSeq (fIf (fAnd (fT (f2 pIs (fName 2) (rt .non))) (fT (fCallN 2 m_waits_in_vain (fCons (fName 0) (fCons (fName 4) (rt [])))))) (fRet (fTup (fCons (rt (.str "waits")) (rt [])))) (sOut .nx))
  (fRet (fName 2))))))
def m_state_fault : Fd := runB fb_state_fault 5 2
def fb_need_state : Ms := fSeq (fSet 2 (fCallN 2 m_state_fault (fCons (fCallN 1 m_need_machine (fCons (fName 0) (rt []))) (fCons (fName 1) (rt [])))))
  (fSeq (fIf (fT (f2 pNis (fName 2) (rt .non))) (fRaise "BadState" (fName 2)) (sOut .nx))
  (fRet (fName 1)))
def m_need_state : Fd := runB fb_need_state 3 2
def fb_need_event : Ms := fIf (fNot (fT (fCallN 2 m_can_follow (fCons (fCallN 2 m_need_state (fCons (fName 0) (fCons (fName 1) (rt [])))) (fCons (fName 2) (rt [])))))) (fRaise "BadEvent" (fName 2)) (sOut .nx)
def m_need_event : Fd := runB fb_need_event 3 3
def fb_marked : Ms := fRet (fTupOf (fComp [3] (fName 0) (gN 3) ((rt true)) (fIfE (fT (f2 (pIn false) (fIxD (fName 3) (rt (.int 0))) (fName 1))) (fTup (fCons (fIxD (fName 3) (rt (.int 0))) (fCons (fName 2) (rt [])))) (fName 3))))
def m_marked : Fd := runB fb_marked 4 3
def fb_chosen : Ms := fSeq (fIf (fT (f2 pEq (fName 1) (rt (.str "eldest")))) (fRet (fIxD (fName 0) (rt (.int 0)))) (sOut .nx))
  (fSeq (fIf (fT (f2 pEq (fName 1) (rt (.str "latest")))) (fRet (fIxD (fName 0) (fNeg (rt (.int 1))))) (sOut .nx))
  (fSeq (fIf (fT (f2 pEq (fName 1) (rt (.str "lowest")))) (fRet (fMin (fName 0))) (sOut .nx))
  (fSeq (fIf (fT (f2 pEq (fName 1) (rt (.str "highest")))) (fRet (fMax (fName 0))) (sOut .nx))
  (fRet (rt .non)))))
def m_chosen : Fd := runB fb_chosen 2 2
def fb_outer_keys : Ms := fSeq (fSetO 3 (fComp [2] (fName 1) (gN 2) ((rt true)) (fIxD (fName 2) (rt (.int 0)))))
  (fSeq (fSetO 4 (fLst (rt [])))
  (fSeq (fIf (fT (f2 pNe (fName 0) (rt (.str "nothigh")))) (fExp (fApp 4 (fMin (fName 3)))) (sOut .nx))
  (fSeq (fIf (fT (f2 pNe (fName 0) (rt (.str "notlow")))) (fExp (fApp 4 (fMax (fName 3)))) (sOut .nx))
  (fRet (fName 4)))))
def m_outer_keys : Fd := runB fb_outer_keys 5 2
def fb_left_by : Ms := fSeq (fIf (fT (f2 pEq (fName 0) (rt (.str "kept")))) (fRet (fLet (fComp [4] (fName 1) (gN 4) (fT (f2 pEq (fIxD (fName 4) (rt (.int 1))) (rt (.str "kept")))) (fName 4)))) (sOut .nx))
  (fSeq (fIf (fT (f2 (pIn false) (fName 0) (fTup (fCons (rt (.str "below")) (fCons (rt (.str "under")) (rt [])))))) (fRet (fLet (fComp [4] (fName 1) (gN 4) (fT (f2 pLt (fIxD (fName 4) (rt (.int 0))) (fName 3))) (fName 4)))) (sOut .nx))
  (fSeq (fIf (fT (f2 (pIn false) (fName 0) (fTup (fCons (rt (.str "above")) (fCons (rt (.str "over")) (rt [])))))) (fRet (fLet (fComp [4] (fName 1) (gN 4) (fT (f2 pGt (fIxD (fName 4) (rt (.int 0))) (fName 3))) (fName 4)))) (sOut .nx))
  (fSeq (fSet 5 (fCallN 2 m_outer_keys (fCons (fName 0) (fCons (fName 2) (rt [])))))
  (fRet (fLet (fComp [4] (fName 1) (gN 4) (fT (f2 (pIn true) (fIxD (fName 4) (rt (.int 0))) (fName 5))) (fName 4)))))))
def m_left_by : Fd := runB fb_left_by 6 4
def fb_victim_among : Ms := fSeq (fSet 3 (fName 1))
  (fSeq (fFor (fSl (fName 0) (rt none) (fPart (fNeg (rt (.int 1))))) (gN 4) (fSeq (fSet 5 (fCallN 4 m_left_by (fCons (fName 4) (fCons (fName 3) (fCons (fName 1) (fCons (fName 2) (rt [])))))))
  (fSeq (fIf (fAnd (fNot (fTr (fName 5))) (fT (f2 (pIn false) (fName 4) (fTup (fCons (rt (.str "under")) (fCons (rt (.str "over")) (rt []))))))) (fRet (rt .non)) (sOut .nx))
  (fSet 3 (fOrT (fName 5) (fName 3))))))
  (fRet (fCallN 2 m_chosen (fCons (fLet (fComp [6] (fName 3) (gN 6) ((rt true)) (fIxD (fName 6) (rt (.int 0))))) (fCons (fIxD (fName 0) (fNeg (rt (.int 1)))) (rt []))))))
def m_victim_among : Fd := runB fb_victim_among 7 3
def fb_without : Ms := fRet (fTupOf (fComp [2] (fName 0) (gN 2) (fT (f2 pNe (fIxD (fName 2) (rt (.int 0))) (fName 1))) (fName 2)))
def m_without : Fd := runB fb_without 3 2
def fb_go_down : Ms := fSeq (fAsg (fName 0) (gT 3 (gsCons (gN 3) (gsCons (gN 4) (gsCons (gN 5) gsNil)))))
  (fSeq (fIf (fT (f2 (pInT false) (fTup (fCons (fName 2) (fCons (rt (.str "kept")) (rt [])))) (fName 1))) (fRet (fTup (fCons (fTup (fStar (fCallN 2 m_without (fCons (fName 1) (fCons (fName 2) (rt [])))) (fCons (fTup (fCons (fName 2) (fCons (rt (.str "sounds")) (rt [])))) (rt [])))) (fCons (fTup (fCons (fTup (fCons (rt (.str "again")) (fCons (fName 2) (rt [])))) (rt []))) (rt []))))) (sOut .nx))
  (fSeq (fSetO 7 (fComp [6] (fName 1) (gN 6) (fT (f2 pNe (fIxD (fName 6) (rt (.int 1))) (rt (.str "waits")))) (fName 6)))
  (fSeq (fIf (fT (f2 pLt (fLen (fPeek 7)) (fName 3))) (fRet (fTup (fCons (fTup (fStar (fName 1) (fCons (fTup (fCons (fName 2) (fCons (rt (.str "sounds")) (rt [])))) (rt [])))) (fCons (fTup (fCons (fTup (fCons (rt (.str "begin")) (fCons (fName 2) (rt [])))) (rt []))) (rt []))))) (sOut .nx))
  (fSeq (fSet 8 (fCallN 3 m_victim_among (fCons (fName 4) (fCons (fName 7) (fCons (fName 2) (rt []))))))
  (fSeq (fIf (fT (f2 pIs (fName 8) (rt .non))) (fRet (fTup (fCons (fTup (fStar (fName 1) (fCons (fTup (fCons (fName 2) (fCons (rt (.str "waits")) (rt [])))) (rt [])))) (fCons (fTup (fCons (fTup (fCons (rt (.str "refuse")) (fCons (fName 2) (rt [])))) (rt []))) (rt []))))) (sOut .nx))
  (fSeq (fSet 9 (fIfE (fT (f2 (pInT false) (fTup (fCons (fName 8) (fCons (rt (.str "kept")) (rt [])))) (fName 1))) (fCallN 2 m_without (fCons (fName 1) (fCons (fName 8) (rt [])))) (fCallN 3 m_marked (fCons (fName 1) (fCons (fLet (fLst (fCons (fName 8) (rt [])))) (fCons (rt (.str "waits")) (rt [])))))))
  (fRet (fTup (fCons (fTup (fStar (fName 9) (fCons (fTup (fCons (fName 2) (fCons (rt (.str "sounds")) (rt [])))) (rt [])))) (fCons (fTup (fCons (fTup (fCons (rt (.str "cut")) (fCons (fName 8) (rt [])))) (fCons (fTup (fCons (rt (.str "begin")) (fCons (fName 2) (rt [])))) (rt [])))) (rt [])))))))))))
def m_go_down : Fd := runB fb_go_down 10 3
def fb_come_back : Ms := fSeq (fAsg (fName 0) (gT 3 (gsCons (gN 3) (gsCons (gN 4) (gsCons (gN 5) gsNil)))))
  (fSeq (fIf (fT (f2 pEq (fName 5) (rt (.str "none")))) (fRet (fTup (fCons (fName 1) (fCons (fName 2) (rt []))))) (sOut .nx))
  (fSeq (fSetO 8 (fComp [6, 7] (fName 1) (gT 2 (gsCons (gN 6) (gsCons (gN 7) gsNil))) (fT (f2 pEq (fName 7) (rt (.str "waits")))) (fName 6)))
  (fSeq (fSet 9 (f2 pSub (fName 3) (f2 pSub (fLen (fPeek 1)) (fLen (fPeek 8)))))
  (fSeq (fSet 10 (f2 pMin2 (fName 9) (fLen (fPeek 8))))
  (fSeq (fSetO 11 (fLst (rt [])))
  (fSeq (fForR (fCons (fName 10) (rt [])) (gN 4) (fSeq (fSet 6 (fCho 8 5))
  (fSeq (fExp (fRem 8 (fName 6)))
  (fExp (fApp 11 (fName 6))))))
  (fRet (fTup (fCons (fCallN 3 m_marked (fCons (fName 1) (fCons (fName 11) (fCons (rt (.str "sounds")) (rt []))))) (fCons (f2 pAdd (fName 2) (fTupOf (fComp [6] (fName 11) (gN 6) ((rt true)) (fTup (fCons (rt (.str "back")) (fCons (fName 6) (rt []))))))) (rt [])))))))))))
def m_come_back : Fd := runB fb_come_back 12 3
def fb_go_up : Ms := fSeq (fAsg (fName 1) (gT 2 (gsCons (gN 3) (gsCons (gN 4) gsNil))))
  (fSeq (fIf (fT (f2 (pInT false) (fTup (fCons (fName 2) (fCons (rt (.str "waits")) (rt [])))) (fName 4))) (fRet (fCallN 3 m_come_back (fCons (fName 0) (fCons (fCallN 2 m_without (fCons (fName 4) (fCons (fName 2) (rt [])))) (fCons (fTup (fCons (fTup (fCons (rt (.str "leave")) (fCons (fName 2) (rt [])))) (rt []))) (rt [])))))) (sOut .nx))
  (fSeq (fIf (fT (fName 3)) (fRet (fTup (fCons (fCallN 3 m_marked (fCons (fName 4) (fCons (fLet (fLst (fCons (fName 2) (rt [])))) (fCons (rt (.str "kept")) (rt []))))) (fCons (fTup (fCons (fTup (fCons (rt (.str "keep")) (fCons (fName 2) (rt [])))) (rt []))) (rt []))))) (sOut .nx))
  (fRet (fCallN 3 m_come_back (fCons (fName 0) (fCons (fCallN 2 m_without (fCons (fName 4) (fCons (fName 2) (rt [])))) (fCons (fTup (fCons (fTup (fCons (rt (.str "end")) (fCons (fName 2) (rt [])))) (rt []))) (rt []))))))))
def m_go_up : Fd := runB fb_go_up 5 3
def fb_lift : Ms := fSeq (fSet 3 (fTupOf (fComp [2] (fName 1) (gN 2) (fT (f2 pNe (fIxD (fName 2) (rt (.int 1))) (rt (.str "kept")))) (fName 2))))
  (fSeq (fSetO 6 (fComp [4, 5] (fName 1) (gT 2 (gsCons (gN 4) (gsCons (gN 5) gsNil))) (fT (f2 pEq (fName 5) (rt (.str "kept")))) (fTup (fCons (rt (.str "end")) (fCons (fName 4) (rt []))))))
  (fRet (fCallN 3 m_come_back (fCons (fName 0) (fCons (fName 3) (fCons (fTupOf (fPeek 6)) (rt [])))))))
def m_lift : Fd := runB fb_lift 7 2
def fb_perform : Ms := fSeq (fAsg (fName 1) (gT 2 (gsCons (gN 4) (gsCons (gN 5) gsNil))))
  (fSeq (fSet 3 (fIxD (fName 2) (rt (.int 0))))
  (fSeq (fIf (fT (f2 pEq (fName 3) (rt (.str "press")))) (fRet (fTup (fCons (fTup (fCons (rt (.bl true)) (fCons (fName 5) (rt [])))) (fCons (fTup (rt [])) (rt []))))) (sOut .nx))
  (fSeq (fIf (fT (f2 pEq (fName 3) (rt (.str "lift")))) (fSeq (fAsg (fCallN 2 m_lift (fCons (fName 0) (fCons (fName 5) (rt [])))) (gT 2 (gsCons (gN 6) (gsCons (gN 7) gsNil))))
  (fRet (fTup (fCons (fTup (fCons (rt (.bl false)) (fCons (fName 6) (rt [])))) (fCons (fName 7) (rt [])))))) (sOut .nx))
  (fSeq (fIf (fT (f2 pEq (fName 3) (rt (.str "down")))) (fAsg (fCallN 3 m_go_down (fCons (fName 0) (fCons (fName 5) (fCons (fIxD (fName 2) (rt (.int 1))) (rt []))))) (gT 2 (gsCons (gN 6) (gsCons (gN 7) gsNil)))) (fAsg (fCallN 3 m_go_up (fCons (fName 0) (fCons (fName 1) (fCons (fIxD (fName 2) (rt (.int 1))) (rt []))))) (gT 2 (gsCons (gN 6) (gsCons (gN 7) gsNil)))))
  (fRet (fTup (fCons (fTup (fCons (fName 4) (fCons (fName 6) (rt [])))) (fCons (fName 7) (rt [])))))))))
def m_perform : Fd := runB fb_perform 8 3
def fb_step : Ms := fSeq (fExp (fCallN 3 m_need_event (fCons (fName 0) (fCons (fName 1) (fCons (fName 2) (rt []))))))
  (fRet (fIxD (fCallN 3 m_perform (fCons (fName 0) (fCons (fName 1) (fCons (fName 2) (rt []))))) (rt (.int 0))))
def m_step : Fd := runB fb_step 3 3
def fb__law_full : Ms := fSeq (fSet 2 (rt c_START))
  (fSeq (fFor (fName 1) (gN 3) (fSet 2 (fCallN 3 m_step (fCons (fName 0) (fCons (fName 2) (fCons (fTup (fCons (rt (.str "down")) (fCons (fName 3) (rt [])))) (rt [])))))))
  (fRet (fName 2)))
def m__law_full : Fd := runB fb__law_full 4 2
def fb_deeds : Ms := fSeq (fExp (fCallN 3 m_need_event (fCons (fName 0) (fCons (fName 1) (fCons (fName 2) (rt []))))))
  (fRet (fIxD (fCallN 3 m_perform (fCons (fName 0) (fCons (fName 1) (fCons (fName 2) (rt []))))) (rt (.int 1))))
def m_deeds : Fd := runB fb_deeds 3 3
def fb__law_back_right : Ms := fSeq (fSet 3 (fTup (fCons (fName 0) (fCons (fTup (fCons (rt (.str "refuse")) (rt []))) (fCons (fName 2) (rt []))))))
  (fSeq (fSet 4 (fCallN 2 m__law_full (fCons (fName 3) (fCons (fName 1) (rt [])))))
  (fSeq (fAsg (fTup (fCons (fSl (fName 1) (fPart (fName 0)) (rt none)) (fCons (fTup (fCons (rt (.str "up")) (fCons (fIxD (fName 1) (rt (.int 0))) (rt [])))) (rt [])))) (gT 2 (gsCons (gN 5) (gsCons (gN 6) gsNil))))
  (fSeq (fSet 7 (fDix (fDisp [("eldest", fSl (fName 5) (rt none) (fPart (rt (.int 1)))), ("latest", fSl (fName 5) (fPart (fNeg (rt (.int 1)))) (rt none)), ("lowest", fLet (fLst (fCons (fMin (fName 5)) (rt [])))), ("highest", fLet (fLst (fCons (fMax (fName 5)) (rt [])))), ("none", fLet (fLst (rt [])))]) (fName 2)))
  (fSeq (fSetO 9 (fComp [8] (fSl (fName 1) (fPart (rt (.int 1))) (rt none)) (gN 8) ((rt true)) (fTup (fCons (fName 8) (fCons (fIfE (fAnd (fT (f2 (pIn false) (fName 8) (fName 5))) (fT (f2 (pIn true) (fName 8) (fName 7)))) (rt (.str "waits")) (rt (.str "sounds"))) (rt []))))))
  (fSeq (fIf (fT (f2 pNe (fRepr (fCallN 3 m_step (fCons (fName 3) (fCons (fName 4) (fCons (fName 6) (rt [])))))) (fRepr (fTup (fCons (rt (.bl false)) (fCons (fTupOf (fPeek 9)) (rt []))))))) (fRet (rt (.bl false))) (sOut .nx))
  (fSeq (fIf (fT (f2 pNe (fRepr (fCallN 3 m_deeds (fCons (fName 3) (fCons (fName 4) (fCons (fName 6) (rt [])))))) (fRepr (f2 pAdd (fTup (fCons (fTup (fCons (rt (.str "end")) (fCons (fIxD (fName 1) (rt (.int 0))) (rt [])))) (rt []))) (fTupOf (fComp [8] (fName 7) (gN 8) ((rt true)) (fTup (fCons (rt (.str "back")) (fCons (fName 8) (rt [])))))))))) (fRet (rt (.bl false))) (sOut .nx))
  (fSeq (fSet 10 (fCallN 3 m_step (fCons (fName 3) (fCons (fName 4) (fCons (fTup (fCons (rt (.str "up")) (fCons (fIxD (fName 5) (rt (.int 0))) (rt [])))) (rt []))))))
  (fSeq (fIf (fT (f2 pNe (fCallN 3 m_deeds (fCons (fName 3) (fCons (fName 4) (fCons (fTup (fCons (rt (.str "up")) (fCons (fIxD (fName 5) (rt (.int 0))) (rt [])))) (rt []))))) (fTup (fCons (fTup (fCons (rt (.str "leave")) (fCons (fIxD (fName 5) (rt (.int 0))) (rt [])))) (rt []))))) (fRet (rt (.bl false))) (sOut .nx))
  (fRet (f2 pEq (fRepr (fIxD (fName 10) (rt (.int 1)))) (fRepr (fTupOf (fComp [11] (fIxD (fName 4) (rt (.int 1))) (gN 11) (fT (f2 pNe (fIxD (fName 11) (rt (.int 0))) (fIxD (fName 5) (rt (.int 0))))) (fName 11))))))))))))))
def m__law_back_right : Fd := runB fb__law_back_right 12 3
def fb__law_draw : Ms := fSeq (fWhl (fun g => g.s.great.length + 1) (fAnd (fT (f2 pNe (fMg .great (fName 0)) (fLet (fLst (rt []))))) (fT (f2 pEq (fIxD (fMg .great (fName 0)) (rt (.int 0))) (rt (.int 0))))) (fMp .great 0 (fSl (fMg .great (fName 0)) (fPart (rt (.int 1))) (rt none))))
  (fSeq (fIf (fT (f2 pNe (fMg .great (fName 0)) (fLet (fLst (rt []))))) (fSeq (fSet 3 (fIxD (fMg .great (fName 0)) (rt (.int 0))))
  (fSeq (fMp .great 0 (fLet (fCat (fLet (fLst (fCons (f2 pDiv (fName 3) (fName 1)) (rt [])))) (fSl (fMg .great (fName 0)) (fPart (rt (.int 1))) (rt none)))))
  (fRet (f2 pMod (fInt (fName 3)) (fName 1))))) (sOut .nx))
  (fSeq (fMp .turns 0 (f2 pAdd (fMg .turns (fName 0)) (rt (.int 1))))
  (fSeq (fSet 2 (f2 pMod (fInt (f2 pAdd (f2 pAdd (f2 pMul (fMg .seed (fName 0)) (rt (.int 48271))) (f2 pMul (f2 pMul (fMg .turns (fName 0)) (fMg .turns (fName 0))) (rt (.int 16807)))) (fMg .turns (fName 0)))) (rt (.int 2147483647))))
  (fSeq (fSet 2 (f2 pMod (fInt (f2 pAdd (f2 pMul (fName 2) (rt (.int 69621))) (rt (.int 12345)))) (rt (.int 2147483629))))
  (fRet (f2 pMod (f2 pDiv (f2 pMod (fInt (f2 pAdd (f2 pMul (fName 2) (rt (.int 40014))) (fMg .turns (fName 0)))) (rt (.int 2147483563))) (rt (.int 64))) (fName 1)))))))
def m__law_draw : Fd := runB fb__law_draw 4 2
def fb__law_board : Ms := fRet (fIxD (fLet (fLst (fCons (fTup (fCons (rt (.int 1)) (fCons (rt (.bl false)) (rt [])))) (fCons (fTup (fCons (rt (.int 2)) (fCons (rt (.bl false)) (rt [])))) (fCons (fTup (fCons (rt (.int 3)) (fCons (rt (.bl false)) (rt [])))) (fCons (fTup (fCons (rt (.int 3)) (fCons (rt (.bl false)) (rt [])))) (fCons (fTup (fCons (rt (.int 1)) (fCons (rt (.bl true)) (rt [])))) (fCons (fTup (fCons (rt (.int 2)) (fCons (rt (.bl true)) (rt [])))) (rt []))))))))) (fCallN 2 m__law_draw (fCons (fName 0) (fCons (rt (.int 6)) (rt [])))))
def m__law_board : Fd := runB fb__law_board 1 1
def fb__law_can : Ms := fSeq (fIf (fT (f2 (pIn false) (fIxD (fName 1) (rt (.int 0))) (fTup (fCons (rt (.str "press")) (fCons (rt (.str "lift")) (rt [])))))) (fRet (f2 pEq (fIxD (fName 0) (rt (.int 0))) (f2 pEq (fIxD (fName 1) (rt (.int 0))) (rt (.str "lift"))))) (sOut .nx))
  (fSeq (fSet 3 (f2 pNe (fLet (fComp [2] (fIxD (fName 0) (rt (.int 1))) (gN 2) (fAnd (fT (f2 pEq (fIxD (fName 2) (rt (.int 0))) (fIxD (fName 1) (rt (.int 1))))) (fT (f2 pNe (fIxD (fName 2) (rt (.int 1))) (rt (.str "kept"))))) (fName 2))) (fLet (fLst (rt [])))))
  (fRet (f2 pEq (fName 3) (f2 pEq (fIxD (fName 1) (rt (.int 0))) (rt (.str "up"))))))
def m__law_can : Fd := runB fb__law_can 4 2
def fb__law_down : Ms := fRet (fLet (fSorted (fLet (fComp [1] (fIxD (fName 0) (rt (.int 1))) (gN 1) (fT (f2 pNe (fIxD (fName 1) (rt (.int 1))) (rt (.str "kept")))) (fIxD (fName 1) (rt (.int 0)))))))
def m__law_down : Fd := runB fb__law_down 2 1
def fb__law_due : Ms := fSeq (fSet 3 (fIxD (fLet (fLst (fCons (fSl (fName 2) (rt none) (rt none)) (fCons (fName 2) (fCons (fSl (fLet (fSorted (fName 2))) (rt none) (rt none)) (fCons (fLet (fSorted (fName 2))) (rt []))))))) (fName 0)))
  (fRet (fTupOf (fSorted (fSl (fName 3) (rt none) (fPart (fName 1))))))
def m__law_due : Fd := runB fb__law_due 4 3
def fb__law_end : Ms := fSeq (fSetO 3 (fComp [2] (fName 1) (gN 2) ((rt true)) (fIxD (fName 2) (rt (.int 0)))))
  (fSeq (fSet 4 (fDisp [("eldest", fSl (fName 3) (rt none) (fPart (rt (.int 1)))), ("latest", fSl (fName 3) (fPart (fNeg (rt (.int 1)))) (rt none)), ("lowest", fLet (fLst (fCons (fMin (fName 3)) (rt [])))), ("highest", fLet (fLst (fCons (fMax (fName 3)) (rt []))))]))
  (fRet (fDget (fName 4) (fName 0) (fLet (fLst (rt []))))))
def m__law_end : Fd := runB fb__law_end 5 2
def fb__law_events : Ms := fSeq (fSet 3 (fLet (fCat (fLet (fCompR [2] (fCons (fName 0) (rt [])) (gN 2) ((rt true)) (fTup (fCons (rt (.str "down")) (fCons (fName 2) (rt [])))))) (fLet (fCompR [2] (fCons (fName 0) (rt [])) (gN 2) ((rt true)) (fTup (fCons (rt (.str "up")) (fCons (fName 2) (rt [])))))))))
  (fRet (fLet (fCat (fName 3) (fLet (fRepL (fLet (fLst (fCons (fTup (fCons (rt (.str "press")) (rt []))) (fCons (fTup (fCons (rt (.str "lift")) (rt []))) (rt []))))) (fInt (fName 1)))))))
def m__law_events : Fd := runB fb__law_events 4 2
def fb__law_loud : Ms := fRet (fLet (fComp [1] (fName 0) (gN 1) (fT (f2 pNe (fIxD (fName 1) (rt (.int 1))) (rt (.str "waits")))) (fName 1)))
def m__law_loud : Fd := runB fb__law_loud 2 1
def fb__law_marked : Ms := fRet (fLet (fComp [3] (fName 0) (gN 3) ((rt true)) (fIfE (fT (f2 pEq (fIxD (fName 3) (rt (.int 0))) (fName 1))) (fTup (fCons (fIxD (fName 3) (rt (.int 0))) (fCons (fName 2) (rt [])))) (fName 3))))
def m__law_marked : Fd := runB fb__law_marked 4 3
def fb__law_filled : Ms := fSeq (fSetO 2 (fLst (rt [])))
  (fSeq (fForR (fCons (fLen (fPeek 1)) (rt [])) (gN 3) (fSeq (fSetO 5 (fComp [4] (fName 1) (gN 4) (fT (f2 pEq (fIxD (fName 4) (rt (.int 1))) (rt (.str "waits")))) (fName 4)))
  (fIf (fAnd (fT (f2 pNe (fIxD (fName 0) (rt (.int 2))) (rt (.str "none")))) (fAnd (fT (f2 pNe (fName 5) (fLet (fLst (rt []))))) (fT (f2 pLt (fLen (fPk (fCallN 1 m__law_loud (fCons (fName 1) (rt []))))) (fIxD (fName 0) (rt (.int 0))))))) (fSeq (fExp (fApp 2 (fIxD (fCallN 2 m__law_end (fCons (fIxD (fName 0) (rt (.int 2))) (fCons (fName 5) (rt [])))) (rt (.int 0)))))
  (fSet 1 (fCallN 3 m__law_marked (fCons (fName 1) (fCons (fIxC (fPeek 2) (-1)) (fCons (rt (.str "sounds")) (rt []))))))) (sOut .nx))))
  (fRet (fTup (fCons (fName 1) (fCons (fName 2) (rt []))))))
def m__law_filled : Fd := runB fb__law_filled 6 2
def fb__law_first : Ms := fSeq (fParDD 1 2 (fLet (fLst (rt []))) (rt (.bl false)))
  (fSeq (fForEn (fCons (fName 0) (rt [])) (gT 2 (gsCons (gN 3) (gsCons (gN 4) gsNil))) (fIf (fOr (fT (f2 pEq (fName 4) (fTup (fCons (rt (.str "press")) (rt []))))) (fT (f2 pEq (fName 4) (fTup (fCons (rt (.str "lift")) (rt [])))))) (fSeq (fIf (fT (f2 pEq (fName 2) (f2 pEq (fName 4) (fTup (fCons (rt (.str "press")) (rt [])))))) (fRet (fLet (fLst (fCons (fName 3) (rt []))))) (sOut .nx))
  (fSet 2 (fNotV (fName 2)))) (fIf (fT (f2 pEq (f2 (pIn false) (fIxD (fName 4) (rt (.int 1))) (fName 1)) (f2 pEq (fIxD (fName 4) (rt (.int 0))) (rt (.str "down"))))) (fRet (fLet (fLst (fCons (fName 3) (rt []))))) (fSet 1 (fLet (fCat (fLet (fComp [5] (fName 1) (gN 5) (fT (f2 pNe (fName 5) (fIxD (fName 4) (rt (.int 1))))) (fName 5))) (fLet (fRepL (fLet (fLst (fCons (fIxD (fName 4) (rt (.int 1))) (rt [])))) (fInt (f2 pEq (fIxD (fName 4) (rt (.int 0))) (rt (.str "down"))))))))))))
  (fRet (fLet (fLst (rt [])))))
def m__law_first : Fd := runB fb__law_first 6 1
def fb__law_of : Ms := fRet (fIxD (fName 1) (fCallN 2 m__law_draw (fCons (fName 0) (fCons (fLen (fPeek 1)) (rt [])))))
def m__law_of : Fd := runB fb__law_of 2 2
def fb__law_free : Ms := fSeq (fPar4 4 5 6 7 (f2 pEq (fCallN 2 m__law_draw (fCons (fName 0) (fCons (rt (.int 2)) (rt [])))) (rt (.int 0))) (fLst (rt [])) (bd (fPeek 2) rt) 0)
  (fSeq (fForR (fCons (fCallN 2 m__law_draw (fCons (fName 0) (fCons (f2 pAdd (fLen (fPeek 2)) (rt (.int 1))) (rt [])))) (rt [])) (gN 3) (fSeq (fSet 8 (fPopAt 6 (fCallN 2 m__law_draw (fCons (fName 0) (fCons (fLen (fPeek 6)) (rt []))))))
  (fSeq (fSet 9 (fCallN 2 m__law_of (fCons (fName 0) (fCons (fSl (fLet (fLst (fCons (rt (.str "sounds")) (fCons (rt (.str "waits")) (fCons (rt (.str "kept")) (rt [])))))) (rt none) (fPart (f2 pAdd (rt (.int 2)) (fInt (fName 4))))) (rt [])))))
  (fSeq (fSet 9 (fIfE (fT (f2 pLt (fName 7) (fIxD (fName 1) (rt (.int 0))))) (fName 9) (rt (.str "waits"))))
  (fSeq (fSet 7 (f2 pAdd (fName 7) (fInt (f2 pNe (fName 9) (rt (.str "waits"))))))
  (fExp (fApp 5 (fTup (fCons (fName 8) (fCons (fName 9) (rt [])))))))))))
  (fRet (fTup (fCons (fName 4) (fCons (fTupOf (fPk (fIxD (fCallN 2 m__law_filled (fCons (fName 1) (fCons (fName 5) (rt [])))) (rt (.int 0))))) (rt []))))))
def m__law_free : Fd := runB fb__law_free 10 3
def fb__law_left : Ms := fSeq (fParDD 5 6 (fMin (fLet (fComp [4] (fName 1) (gN 4) ((rt true)) (fIxD (fName 4) (rt (.int 0)))))) (fMax (fLet (fComp [4] (fName 1) (gN 4) ((rt true)) (fIxD (fName 4) (rt (.int 0)))))))
  (fSeq (fIf (fT (f2 (pIn false) (fName 0) (fTup (fCons (rt (.str "below")) (fCons (rt (.str "under")) (rt [])))))) (fRet (fLet (fComp [4] (fName 2) (gN 4) (fT (f2 pLt (fIxD (fName 4) (rt (.int 0))) (fName 3))) (fName 4)))) (sOut .nx))
  (fSeq (fIf (fT (f2 (pIn false) (fName 0) (fTup (fCons (rt (.str "above")) (fCons (rt (.str "over")) (rt [])))))) (fRet (fLet (fComp [4] (fName 2) (gN 4) (fT (f2 pGt (fIxD (fName 4) (rt (.int 0))) (fName 3))) (fName 4)))) (sOut .nx))
  (fSeq (fSet 7 (fDix (fDisp [("kept", fLet (fLst (rt []))), ("notlow", fLet (fLst (fCons (fName 5) (rt [])))), ("nothigh", fLet (fLst (fCons (fName 6) (rt [])))), ("inner", fLet (fLst (fCons (fName 5) (fCons (fName 6) (rt [])))))]) (fName 0)))
  (fRet (fLet (fComp [4] (fName 2) (gN 4) (fAnd (fT (f2 (pIn true) (fIxD (fName 4) (rt (.int 0))) (fName 7))) (fOr (fT (f2 pNe (fName 0) (rt (.str "kept")))) (fT (f2 pEq (fIxD (fName 4) (rt (.int 1))) (rt (.str "kept")))))) (fName 4)))))))
def m__law_left : Fd := runB fb__law_left 8 4
def fb__law_taken : Ms := fSeq (fSet 3 (fCallN 1 m__law_loud (fCons (fName 1) (rt []))))
  (fSeq (fIf (fT (f2 pLt (fLen (fPeek 3)) (fIxD (fName 0) (rt (.int 0))))) (fRet (fLet (fLst (rt [])))) (sOut .nx))
  (fSeq (fSet 4 (fName 3))
  (fSeq (fFor (fSl (fIxD (fName 0) (rt (.int 1))) (rt none) (fPart (fNeg (rt (.int 1))))) (gN 5) (fSeq (fSet 6 (fCallN 4 m__law_left (fCons (fName 5) (fCons (fName 3) (fCons (fName 4) (fCons (fName 2) (rt [])))))))
  (fSeq (fIf (fAnd (fT (f2 pEq (fName 6) (fLet (fLst (rt []))))) (fT (f2 (pIn false) (fName 5) (fTup (fCons (rt (.str "under")) (fCons (rt (.str "over")) (rt []))))))) (fRet (fLet (fLst (rt [])))) (sOut .nx))
  (fSet 4 (fIfE (fT (f2 pNe (fName 6) (fLet (fLst (rt []))))) (fName 6) (fName 4))))))
  (fRet (fCallN 2 m__law_end (fCons (fIxD (fIxD (fName 0) (rt (.int 1))) (fNeg (rt (.int 1)))) (fCons (fName 4) (rt []))))))))
def m__law_taken : Fd := runB fb__law_taken 7 3
def fb__law_gone_down : Ms := fSeq (fIf (fT (f2 (pInD false) (fTup (fCons (fName 2) (fCons (rt (.str "kept")) (rt [])))) (fName 1))) (fRet (fTup (fCons (fLet (fCat (fLet (fComp [3] (fName 1) (gN 3) (fT (f2 pNe (fIxD (fName 3) (rt (.int 0))) (fName 2))) (fName 3))) (fLet (fLst (fCons (fTup (fCons (fName 2) (fCons (rt (.str "sounds")) (rt [])))) (rt [])))))) (fCons (fLet (fLst (fCons (fTup (fCons (rt (.str "again")) (fCons (fName 2) (rt [])))) (rt [])))) (rt []))))) (sOut .nx))
  (fSeq (fIf (fT (f2 pLt (fLen (fPk (fCallN 1 m__law_loud (fCons (fName 1) (rt []))))) (fIxD (fName 0) (rt (.int 0))))) (fRet (fTup (fCons (fLet (fCat (fName 1) (fLet (fLst (fCons (fTup (fCons (fName 2) (fCons (rt (.str "sounds")) (rt [])))) (rt [])))))) (fCons (fLet (fLst (fCons (fTup (fCons (rt (.str "begin")) (fCons (fName 2) (rt [])))) (rt [])))) (rt []))))) (sOut .nx))
  (fSeq (fSet 4 (fCallN 3 m__law_taken (fCons (fName 0) (fCons (fName 1) (fCons (fName 2) (rt []))))))
  (fSeq (fIf (fT (f2 pEq (fName 4) (fLet (fLst (rt []))))) (fRet (fTup (fCons (fLet (fCat (fName 1) (fLet (fLst (fCons (fTup (fCons (fName 2) (fCons (rt (.str "waits")) (rt [])))) (rt [])))))) (fCons (fLet (fLst (fCons (fTup (fCons (rt (.str "refuse")) (fCons (fName 2) (rt [])))) (rt [])))) (rt []))))) (sOut .nx))
  (fSeq (fSetO 5 (fComp [3] (fName 1) (gN 3) (fT (f2 pNe (fName 3) (fTup (fCons (fIxD (fName 4) (rt (.int 0))) (fCons (rt (.str "kept")) (rt [])))))) (fName 3)))
  (fRet (fTup (fCons (fLet (fCat (fCallN 3 m__law_marked (fCons (fName 5) (fCons (fIxD (fName 4) (rt (.int 0))) (fCons (rt (.str "waits")) (rt []))))) (fLet (fLst (fCons (fTup (fCons (fName 2) (fCons (rt (.str "sounds")) (rt [])))) (rt [])))))) (fCons (fLet (fLst (fCons (fTup (fCons (rt (.str "cut")) (fCons (fIxD (fName 4) (rt (.int 0))) (rt [])))) (fCons (fTup (fCons (rt (.str "begin")) (fCons (fName 2) (rt [])))) (rt []))))) (rt [])))))))))
def m__law_gone_down : Fd := runB fb__law_gone_down 6 3
def fb__law_stepped : Ms := fSeq (fParDD 3 4 (fIxD (fName 1) (rt (.int 0))) (fLet (bd (fPk (fIxD (fName 1) (rt (.int 1)))) rt)))
  (fSeq (fIf (fT (f2 pEq (fIxD (fName 2) (rt (.int 0))) (rt (.str "press")))) (fRet (fTup (fCons (fTup (fCons (rt (.bl true)) (fCons (fIxD (fName 1) (rt (.int 1))) (rt [])))) (fCons (fTup (rt [])) (rt []))))) (sOut .nx))
  (fSeq (fIf (fT (f2 pEq (fIxD (fName 2) (rt (.int 0))) (rt (.str "down")))) (fSeq (fAsg (fCallN 3 m__law_gone_down (fCons (fName 0) (fCons (fName 4) (fCons (fIxD (fName 2) (rt (.int 1))) (rt []))))) (gT 2 (gsCons (gN 4) (gsCons (gN 5) gsNil))))
  (fRet (fTup (fCons (fTup (fCons (fName 3) (fCons (fTupOf (fPeek 4)) (rt [])))) (fCons (fTupOf (fPeek 5)) (rt [])))))) (sOut .nx))
  (fSeq (fIf (fAnd (fT (f2 pEq (fIxD (fName 2) (rt (.int 0))) (rt (.str "up")))) (fT (f2 (pInD false) (fTup (fCons (fIxD (fName 2) (rt (.int 1))) (fCons (rt (.str "waits")) (rt [])))) (fName 4)))) (fRet (fTup (fCons (fTup (fCons (fName 3) (fCons (fTupOf (fComp [6] (fName 4) (gN 6) (fT (f2 pNe (fIxD (fName 6) (rt (.int 0))) (fIxD (fName 2) (rt (.int 1))))) (fName 6))) (rt [])))) (fCons (fTup (fCons (fTup (fCons (rt (.str "leave")) (fCons (fIxD (fName 2) (rt (.int 1))) (rt [])))) (rt []))) (rt []))))) (sOut .nx))
  (fSeq (fIf (fAnd (fT (f2 pEq (fIxD (fName 2) (rt (.int 0))) (rt (.str "up")))) (fT (fName 3))) (fRet (fTup (fCons (fTup (fCons (fName 3) (fCons (fTupOf (fPk (fCallN 3 m__law_marked (fCons (fName 4) (fCons (fIxD (fName 2) (rt (.int 1))) (fCons (rt (.str "kept")) (rt []))))))) (rt [])))) (fCons (fTup (fCons (fTup (fCons (rt (.str "keep")) (fCons (fIxD (fName 2) (rt (.int 1))) (rt [])))) (rt []))) (rt []))))) (sOut .nx))
  (fSeq (fSet 7 (fIfE (fT (f2 pEq (fIxD (fName 2) (rt (.int 0))) (rt (.str "lift")))) (fLet (fComp [6] (fName 4) (gN 6) (fT (f2 pEq (fIxD (fName 6) (rt (.int 1))) (rt (.str "kept")))) (fIxD (fName 6) (rt (.int 0))))) (fLet (fLst (fCons (fIxD (fName 2) (rt (.int 1))) (rt []))))))
  (fSeq (fAsg (fCallN 2 m__law_filled (fCons (fName 0) (fCons (fLet (fComp [6] (fName 4) (gN 6) (fT (f2 (pIn true) (fIxD (fName 6) (rt (.int 0))) (fName 7))) (fName 6))) (rt [])))) (gT 2 (gsCons (gN 4) (gsCons (gN 8) gsNil))))
  (fRet (fTup (fCons (fTup (fCons (rt (.bl false)) (fCons (fTupOf (fPeek 4)) (rt [])))) (fCons (fTupOf (fCat (fLet (fComp [9] (fName 7) (gN 9) ((rt true)) (fTup (fCons (rt (.str "end")) (fCons (fName 9) (rt [])))))) (fLet (fComp [9] (fName 8) (gN 9) ((rt true)) (fTup (fCons (rt (.str "back")) (fCons (fName 9) (rt [])))))))) (rt [])))))))))))
def m__law_stepped : Fd := runB fb__law_stepped 10 3
def fb__law_free_right : Ms := fSeq (fSet 3 (fCallN 3 m__law_free (fCons (fName 0) (fCons (fName 1) (fCons (fName 2) (rt []))))))
  (fSeq (fSetO 5 (fComp [4] (fIxD (fName 3) (rt (.int 1))) (gN 4) (fT (f2 pNe (fIxD (fName 4) (rt (.int 1))) (rt (.str "kept")))) (fIxD (fName 4) (rt (.int 0)))))
  (fSeq (fSetO 7 (fComp [6] (fName 2) (gN 6) ((rt true)) (fIfE (fT (f2 (pIn false) (fName 6) (fName 5))) (fTup (fCons (rt (.str "up")) (fCons (fName 6) (rt [])))) (fTup (fCons (rt (.str "down")) (fCons (fName 6) (rt [])))))))
  (fSeq (fFor (fLet (fCat (fName 7) (fLet (fLst (fCons (fIfE (fT (fIxD (fName 3) (rt (.int 0)))) (fTup (fCons (rt (.str "lift")) (rt []))) (fTup (fCons (rt (.str "press")) (rt [])))) (rt [])))))) (gN 8) (fSeq (fAsg (fCallN 3 m__law_stepped (fCons (fName 1) (fCons (fName 3) (fCons (fName 8) (rt []))))) (gT 2 (gsCons (gN 9) (gsCons (gN 10) gsNil))))
  (fIf (fOr (fT (f2 pNe (fRepr (fCallN 3 m_step (fCons (fName 1) (fCons (fName 3) (fCons (fName 8) (rt [])))))) (fRepr (fName 9)))) (fT (f2 pNe (fRepr (fCallN 3 m_deeds (fCons (fName 1) (fCons (fName 3) (fCons (fName 8) (rt [])))))) (fRepr (fName 10))))) (fRet (rt (.bl false))) (sOut .nx))))
  (fRet (rt (.bl true))))))
def m__law_free_right : Fd := runB fb__law_free_right 11 3
def fb__law_sound : Ms := fRet (fTupOf (fSorted (fLet (fComp [1] (fCallN 1 m__law_loud (fCons (fIxD (fName 0) (rt (.int 1))) (rt []))) (gN 1) ((rt true)) (fIxD (fName 1) (rt (.int 0)))))))
def m__law_sound : Fd := runB fb__law_sound 2 1
def fb__law_heard : Ms := fSeq (fParDO 3 4 (fTup (fCons (rt (.bl false)) (fCons (fTup (rt [])) (rt [])))) (fLst (rt [])))
  (fSeq (fFor (fName 1) (gN 2) (fSeq (fSet 3 (fIxD (fCallN 3 m__law_stepped (fCons (fName 0) (fCons (fName 3) (fCons (fName 2) (rt []))))) (rt (.int 0))))
  (fExp (fApp 4 (fCallN 1 m__law_sound (fCons (fName 3) (rt [])))))))
  (fRet (fName 4)))
def m__law_heard : Fd := runB fb__law_heard 5 2
def fb__law_is_short : Ms := fRet (f2 pNe (fLet (fComp [1] (fCallN 1 m__law_sound (fCons (fIxD (fName 0) (rt (.int 1))) (rt []))) (gN 1) (fT (f2 (pIn true) (fName 1) (fCallN 1 m__law_sound (fCons (fIxD (fName 0) (rt (.int 0))) (rt []))))) (fName 1))) (fLet (fLst (rt []))))
def m__law_is_short : Fd := runB fb__law_is_short 2 1
def fb__law_is_state : Ms := fSeq (fIf (fOr (fNot (fT (fIsi "tuple" (fName 1)))) (fT (f2 pNe (fLen (fPeek 1)) (rt (.int 2))))) (fRet (rt (.bl false))) (sOut .nx))
  (fSeq (fIf (fOr (fNot (fT (fIsi "bool" (fIxD (fName 1) (rt (.int 0)))))) (fNot (fT (fIsi "tuple" (fIxD (fName 1) (rt (.int 1))))))) (fRet (rt (.bl false))) (sOut .nx))
  (fSeq (fForEn (fCons (fIxD (fName 1) (rt (.int 1))) (rt [])) (gT 2 (gsCons (gN 2) (gsCons (gN 3) gsNil))) (fSeq (fIf (fOr (fNot (fT (fIsi "tuple" (fName 3)))) (fOr (fT (f2 pNe (fLen (fPeek 3)) (rt (.int 2)))) (fT (f2 (pIn true) (fIxD (fName 3) (rt (.int 1))) (fTup (fCons (rt (.str "sounds")) (fCons (rt (.str "kept")) (fCons (rt (.str "waits")) (rt []))))))))) (fRet (rt (.bl false))) (sOut .nx))
  (fSeq (fIf (fOr (fNot (fT (fIsi "int" (fIxD (fName 3) (rt (.int 0)))))) (fOr (fT (fIsi "bool" (fIxD (fName 3) (rt (.int 0))))) (fNot (fT (fChain pLe pLe (rt (.int 0)) (fIxD (fName 3) (rt (.int 0))) (rt (.int 87))))))) (fRet (rt (.bl false))) (sOut .nx))
  (fIf (fOr (fT (f2 (pIn false) (fIxD (fName 3) (rt (.int 0))) (fLet (fComp [4] (fSl (fIxD (fName 1) (rt (.int 1))) (rt none) (fPart (fName 2))) (gN 4) ((rt true)) (fIxD (fName 4) (rt (.int 0))))))) (fAnd (fT (f2 pEq (fIxD (fName 3) (rt (.int 1))) (rt (.str "kept")))) (fNot (fT (fIxD (fName 1) (rt (.int 0))))))) (fRet (rt (.bl false))) (sOut .nx)))))
  (fSeq (fSet 5 (fLen (fPk (fCallN 1 m__law_loud (fCons (fIxD (fName 1) (rt (.int 1))) (rt []))))))
  (fRet (fOrV (f2 pEq (fName 5) (fIxD (fName 0) (rt (.int 0)))) (fAndV (f2 pLt (fName 5) (fIxD (fName 0) (rt (.int 0)))) (fOrV (f2 pEq (fIxD (fName 0) (rt (.int 2))) (rt (.str "none"))) (f2 pEq (fName 5) (fLen (fPk (fIxD (fName 1) (rt (.int 1)))))))))))))
def m__law_is_state : Fd := runB fb__law_is_state 6 2
def fb__law_lacks : Ms := fRet (f2 pNe (fLet (fComp [1] (fCallN 1 m__law_sound (fCons (fIxD (fName 0) (rt (.int 1))) (rt []))) (gN 1) (fT (f2 (pIn true) (fName 1) (fCallN 1 m__law_sound (fCons (fIxD (fName 0) (rt (.int 0))) (rt []))))) (fName 1))) (fLet (fLst (rt []))))
def m__law_lacks : Fd := runB fb__law_lacks 2 1
def fb__law_machine : Ms := fSeq (fParOO 5 6 (fLst (rt [])) (fLst (fCons (rt (.str "kept")) (fCons (rt (.str "inner")) (fCons (rt (.str "notlow")) (fCons (rt (.str "nothigh")) (fCons (rt (.str "below")) (fCons (rt (.str "above")) (fCons (rt (.str "under")) (fCons (rt (.str "over")) (rt [])))))))))))
  (fSeq (fForR (fCons (fCallN 2 m__law_draw (fCons (fName 0) (fCons (fName 2) (rt [])))) (rt [])) (gN 3) (fExp (fApp 5 (fPopAt 6 (fCallN 2 m__law_draw (fCons (fName 0) (fCons (fLen (fPeek 6)) (rt []))))))))
  (fSeq (fExp (fApp 5 (fCallN 2 m__law_of (fCons (fName 0) (fCons (fLet (fLst (fCons (rt (.str "eldest")) (fCons (rt (.str "latest")) (fCons (rt (.str "lowest")) (fCons (rt (.str "highest")) (fCons (rt (.str "refuse")) (rt [])))))))) (rt []))))))
  (fSeq (fSet 4 (fCallN 2 m__law_of (fCons (fName 0) (fCons (fLet (fLst (fCons (rt (.str "none")) (fCons (rt (.str "eldest")) (fCons (rt (.str "latest")) (fCons (rt (.str "lowest")) (fCons (rt (.str "highest")) (rt [])))))))) (rt [])))))
  (fRet (fTup (fCons (f2 pAdd (rt (.int 1)) (fCallN 2 m__law_draw (fCons (fName 0) (fCons (fName 1) (rt []))))) (fCons (fTupOf (fPeek 5)) (fCons (fName 4) (rt [])))))))))
def m__law_machine : Fd := runB fb__law_machine 7 3
def fb__law_near : Ms := fSeq (fAsg (fName 1) (gT 3 (gsCons (gN 2) (gsCons (gN 3) (gsCons (gN 4) gsNil)))))
  (fSeq (fSet 5 (fCallN 2 m__law_draw (fCons (fName 0) (fCons (rt (.int 6)) (rt [])))))
  (fSeq (fIf (fT (f2 pEq (fName 5) (rt (.int 0)))) (fRet (fTup (fCons (f2 pAdd (rt (.int 1)) (fCallN 2 m__law_draw (fCons (fName 0) (fCons (rt (.int 3)) (rt []))))) (fCons (fName 3) (fCons (fName 4) (rt [])))))) (sOut .nx))
  (fSeq (fIf (fT (f2 pEq (fName 5) (rt (.int 1)))) (fRet (fTup (fCons (fName 2) (fCons (fName 3) (fCons (fCallN 2 m__law_of (fCons (fName 0) (fCons (fLet (fLst (fCons (rt (.str "none")) (fCons (rt (.str "eldest")) (fCons (rt (.str "latest")) (fCons (rt (.str "lowest")) (fCons (rt (.str "highest")) (rt [])))))))) (rt [])))) (rt [])))))) (sOut .nx))
  (fSeq (fIf (fT (f2 pEq (fName 5) (rt (.int 2)))) (fRet (fTup (fCons (fName 2) (fCons (fIfE (fT (f2 pGt (fLen (fPeek 3)) (rt (.int 1)))) (fSl (fName 3) (fPart (rt (.int 1))) (rt none)) (fTup (fCons (rt (.str "refuse")) (rt [])))) (fCons (fName 4) (rt [])))))) (sOut .nx))
  (fSeq (fIf (fT (f2 pEq (fName 5) (rt (.int 3)))) (fRet (fTup (fCons (fName 2) (fCons (f2 pAdd (fSl (fName 3) (rt none) (fPart (fNeg (rt (.int 1))))) (fTup (fCons (fCallN 2 m__law_of (fCons (fName 0) (fCons (fLet (fLst (fCons (rt (.str "eldest")) (fCons (rt (.str "latest")) (fCons (rt (.str "lowest")) (fCons (rt (.str "highest")) (fCons (rt (.str "refuse")) (rt [])))))))) (rt [])))) (rt [])))) (fCons (fName 4) (rt [])))))) (sOut .nx))
  (fSeq (fSetO 7 (fComp [6] (fTup (fCons (rt (.str "kept")) (fCons (rt (.str "below")) (fCons (rt (.str "under")) (fCons (rt (.str "notlow")) (rt [])))))) (gN 6) (fAnd (fT (f2 (pIn true) (fName 6) (fName 3))) (fT (f2 pLt (fLen (fPeek 3)) (rt (.int 6))))) (fName 6)))
  (fSeq (fIf (fAnd (fT (f2 pEq (fName 5) (rt (.int 4)))) (fT (f2 pNe (fName 7) (fLet (fLst (rt [])))))) (fRet (fTup (fCons (fName 2) (fCons (f2 pAdd (fTup (fCons (fCallN 2 m__law_of (fCons (fName 0) (fCons (fName 7) (rt [])))) (rt []))) (fName 3)) (fCons (fName 4) (rt [])))))) (sOut .nx))
  (fRet (fCallN 3 m__law_machine (fCons (fName 0) (fCons (rt (.int 3)) (fCons (rt (.int 4)) (rt [])))))))))))))
def m__law_near : Fd := runB fb__law_near 8 2
def fb__law_odd : Ms := fSeq (fSet 1 (fLet (fLst (fCons (rt .non) (fCons (rt (.bl true)) (fCons (rt (.bl false)) (fCons (rt (.int 0)) (fCons (rt (.int 1)) (fCons (rt (.int 8)) (fCons (rt (.int 9)) (fCons (rt (.str "")) (fCons (rt (.str "kept")) (fCons (rt (.str "under")) (fCons (rt (.str "eldest")) (fCons (rt (.str "refuse")) (fCons (rt (.str "none")) (fCons (rt (.str "latest")) (fCons (rt (.str "Eldest")) (fCons (rt (.str "over")) (rt []))))))))))))))))))))
  (fSeq (fSet 1 (fLet (fCat (fName 1) (fLet (fLst (fCons (fTup (rt [])) (fCons (fTup (fCons (rt (.str "eldest")) (rt []))) (fCons (fTup (fCons (rt (.str "kept")) (fCons (rt (.str "lowest")) (rt [])))) (fCons (fLet (fLst (fCons (rt (.str "eldest")) (rt [])))) (fCons (fLet (fLst (rt []))) (fCons (rt (.dic [])) (fCons (fTup (fCons (rt (.int 3)) (rt []))) (fCons (fNeg (rt (.int 1))) (fCons (f2 pPow (rt (.int 10)) (rt (.int 30))) (fCons (rt (.str "eldest ")) (rt []))))))))))))))))
  (fRet (fCallN 2 m__law_of (fCons (fName 0) (fCons (fName 1) (rt []))))))
def m__law_odd : Fd := runB fb__law_odd 2 1
def fb__law_pedal_right : Ms := fSeq (fSet 3 (fTup (fCons (fName 0) (fCons (fTup (fCons (rt (.str "kept")) (fCons (rt (.str "eldest")) (rt [])))) (fCons (fName 2) (rt []))))))
  (fSeq (fSet 4 (fCallN 2 m__law_full (fCons (fName 3) (fCons (fSl (fName 1) (rt none) (fPart (fName 0))) (rt [])))))
  (fSeq (fIf (fOr (fT (f2 pNe (fCallN 3 m_deeds (fCons (fName 3) (fCons (fName 4) (fCons (fTup (fCons (rt (.str "press")) (rt []))) (rt []))))) (fTup (rt [])))) (fT (f2 pNe (fRepr (fCallN 3 m_step (fCons (fName 3) (fCons (fName 4) (fCons (fTup (fCons (rt (.str "press")) (rt []))) (rt [])))))) (fRepr (fTup (fCons (rt (.bl true)) (fCons (fIxD (fName 4) (rt (.int 1))) (rt [])))))))) (fRet (rt (.bl false))) (sOut .nx))
  (fSeq (fSet 4 (fCallN 3 m_step (fCons (fName 3) (fCons (fCallN 3 m_step (fCons (fName 3) (fCons (fName 4) (fCons (fTup (fCons (rt (.str "press")) (rt []))) (rt []))))) (fCons (fTup (fCons (rt (.str "up")) (fCons (fIxD (fName 1) (rt (.int 0))) (rt [])))) (rt []))))))
  (fSeq (fIf (fOr (fT (f2 pNe (fRepr (fIxD (fIxD (fName 4) (rt (.int 1))) (rt (.int 0)))) (fRepr (fTup (fCons (fIxD (fName 1) (rt (.int 0))) (fCons (rt (.str "kept")) (rt []))))))) (fT (f2 pNis (fIxD (fName 4) (rt (.int 0))) (rt (.bl true))))) (fRet (rt (.bl false))) (sOut .nx))
  (fSeq (fSet 5 (fCallN 3 m_step (fCons (fName 3) (fCons (fName 4) (fCons (fTup (fCons (rt (.str "down")) (fCons (fIxD (fName 1) (rt (.int 0))) (rt [])))) (rt []))))))
  (fSeq (fIf (fT (f2 pNe (fRepr (fName 5)) (fRepr (fTup (fCons (rt (.bl true)) (fCons (fTupOf (fComp [6] (f2 pAdd (fSl (fName 1) (fPart (rt (.int 1))) (fPart (fName 0))) (fSl (fName 1) (rt none) (fPart (rt (.int 1))))) (gN 6) ((rt true)) (fTup (fCons (fName 6) (fCons (rt (.str "sounds")) (rt [])))))) (rt []))))))) (fRet (rt (.bl false))) (sOut .nx))
  (fSeq (fIf (fT (f2 pNe (fCallN 3 m_deeds (fCons (fName 3) (fCons (fName 4) (fCons (fTup (fCons (rt (.str "down")) (fCons (fIxD (fName 1) (rt (.int 0))) (rt [])))) (rt []))))) (fTup (fCons (fTup (fCons (rt (.str "again")) (fCons (fIxD (fName 1) (rt (.int 0))) (rt [])))) (rt []))))) (fRet (rt (.bl false))) (sOut .nx))
  (fSeq (fSet 7 (fIxD (fName 1) (fName 0)))
  (fSeq (fIf (fT (f2 pNe (fCallN 3 m_deeds (fCons (fName 3) (fCons (fName 4) (fCons (fTup (fCons (rt (.str "down")) (fCons (fName 7) (rt [])))) (rt []))))) (fTup (fCons (fTup (fCons (rt (.str "cut")) (fCons (fIxD (fName 1) (rt (.int 0))) (rt [])))) (fCons (fTup (fCons (rt (.str "begin")) (fCons (fName 7) (rt [])))) (rt [])))))) (fRet (rt (.bl false))) (sOut .nx))
  (fSeq (fSet 8 (fTupOf (fComp [6] (fSl (fName 1) (fPart (rt (.int 1))) (fPart (fName 0))) (gN 6) ((rt true)) (fTup (fCons (fName 6) (fCons (rt (.str "sounds")) (rt [])))))))
  (fSeq (fIf (fT (f2 pNe (fRepr (fCallN 3 m_step (fCons (fName 3) (fCons (fName 4) (fCons (fTup (fCons (rt (.str "down")) (fCons (fName 7) (rt [])))) (rt [])))))) (fRepr (fTup (fCons (rt (.bl true)) (fCons (f2 pAdd (fName 8) (fTup (fCons (fTup (fCons (fName 7) (fCons (rt (.str "sounds")) (rt [])))) (rt [])))) (rt []))))))) (fRet (rt (.bl false))) (sOut .nx))
  (fSeq (fIf (fT (f2 pNe (fCallN 3 m_deeds (fCons (fName 3) (fCons (fName 4) (fCons (fTup (fCons (rt (.str "lift")) (rt []))) (rt []))))) (fTup (fCons (fTup (fCons (rt (.str "end")) (fCons (fIxD (fName 1) (rt (.int 0))) (rt [])))) (rt []))))) (fRet (rt (.bl false))) (sOut .nx))
  (fRet (f2 pEq (fRepr (fCallN 3 m_step (fCons (fName 3) (fCons (fName 4) (fCons (fTup (fCons (rt (.str "lift")) (rt []))) (rt [])))))) (fRepr (fTup (fCons (rt (.bl false)) (fCons (fName 8) (rt [])))))))))))))))))))
def m__law_pedal_right : Fd := runB fb__law_pedal_right 9 3
def fb__law_place : Ms := fSeq (fIf (fOr (fNot (fT (fIsi "tuple" (fName 0)))) (fT (f2 pNe (fLen (fPeek 0)) (rt (.int 3))))) (fRet (fLet (fLst (fCons (fTup (rt [])) (rt []))))) (sOut .nx))
  (fSeq (fAsg (fName 0) (gT 3 (gsCons (gN 1) (gsCons (gN 2) (gsCons (gN 3) gsNil)))))
  (fSeq (fIf (fOr (fNot (fT (fIsi "int" (fName 1)))) (fOr (fT (fIsi "bool" (fName 1))) (fOr (fT (f2 pLt (fName 1) (rt (.int 1)))) (fT (f2 pGt (fName 1) (rt (.int 8))))))) (fRet (fLet (fLst (fCons (fTup (fCons (rt (.str "voices")) (rt []))) (rt []))))) (sOut .nx))
  (fSeq (fIf (fOr (fNot (fT (fIsi "tuple" (fName 2)))) (fOr (fT (f2 pEqE (fName 2) (fTup (rt [])))) (fT (f2 pGt (fLen (fPeek 2)) (rt (.int 6)))))) (fRet (fLet (fLst (fCons (fTup (fCons (rt (.str "criteria")) (rt []))) (rt []))))) (sOut .nx))
  (fSeq (fSet 4 (fLet (fLst (fCons (rt (.str "kept")) (fCons (rt (.str "inner")) (fCons (rt (.str "notlow")) (fCons (rt (.str "nothigh")) (fCons (rt (.str "below")) (fCons (rt (.str "above")) (fCons (rt (.str "under")) (fCons (rt (.str "over")) (rt []))))))))))))
  (fSeq (fForEn (fCons (fName 2) (rt [])) (gT 2 (gsCons (gN 5) (gsCons (gN 6) gsNil))) (fSeq (fSetO 8 (fComp [7] (fName 4) (gN 7) (fT (f2 (pIn true) (fName 7) (fSl (fName 2) (rt none) (fPart (fName 5))))) (fName 7)))
  (fSeq (fIf (fT (f2 pEq (fName 5) (f2 pSub (fLen (fPeek 2)) (rt (.int 1))))) (fSet 8 (fLet (fLst (fCons (rt (.str "eldest")) (fCons (rt (.str "latest")) (fCons (rt (.str "lowest")) (fCons (rt (.str "highest")) (fCons (rt (.str "refuse")) (rt []))))))))) (sOut .nx))
  (fIf (fOr (fNot (fT (fIsi "str" (fName 6)))) (fT (f2 (pIn true) (fName 6) (fName 8)))) (fRet (fLet (fLst (fCons (fTup (fCons (rt (.str "criteria")) (fCons (fName 5) (rt [])))) (rt []))))) (sOut .nx)))))
  (fSeq (fSet 9 (fAndV (fIsi "str" (fName 3)) (f2 (pIn false) (fName 3) (fTup (fCons (rt (.str "none")) (fCons (rt (.str "eldest")) (fCons (rt (.str "latest")) (fCons (rt (.str "lowest")) (fCons (rt (.str "highest")) (rt []))))))))))
  (fRet (fIfE (fT (fName 9)) (fLet (fLst (rt []))) (fLet (fLst (fCons (fTup (fCons (rt (.str "return")) (rt []))) (rt []))))))))))))
def m__law_place : Fd := runB fb__law_place 10 1
def fb__law_play : Ms := fSeq (fPar3 4 5 6 (fLet (fLst (rt []))) (rt (.bl false)) (fLst (rt [])))
  (fSeq (fForR (fCons (fName 2) (rt [])) (gN 7) (fIf (fAnd (fT (fName 3)) (fT (f2 pEq (fCallN 2 m__law_draw (fCons (fName 0) (fCons (rt (.int 5)) (rt [])))) (rt (.int 0))))) (fSeq (fExp (fApp 6 (fIfE (fT (fName 5)) (fTup (fCons (rt (.str "lift")) (rt []))) (fTup (fCons (rt (.str "press")) (rt []))))))
  (fSet 5 (fNotV (fName 5)))) (fSeq (fSet 8 (fCallN 2 m__law_of (fCons (fName 0) (fCons (fName 1) (rt [])))))
  (fIf (fT (f2 (pIn false) (fName 8) (fName 4))) (fSeq (fSetO 4 (fComp [9] (fName 4) (gN 9) (fT (f2 pNe (fName 9) (fName 8))) (fName 9)))
  (fExp (fApp 6 (fTup (fCons (rt (.str "up")) (fCons (fName 8) (rt []))))))) (fSeq (fSet 4 (fLet (fCat (fName 4) (fLet (fLst (fCons (fName 8) (rt [])))))))
  (fExp (fApp 6 (fTup (fCons (rt (.str "down")) (fCons (fName 8) (rt [])))))))))))
  (fRet (fTupOf (fPeek 6))))
def m__law_play : Fd := runB fb__law_play 10 4
def fb__law_spoilt (rec : Fd) : Ms := fSeq (fIf (fOr (fNot (fT (fIsi "tuple" (fName 1)))) (fOr (fT (f2 pEqE (fName 1) (fTup (rt [])))) (fT (f2 pEq (fCallN 2 m__law_draw (fCons (fName 0) (fCons (rt (.int 7)) (rt [])))) (rt (.int 0)))))) (fRet (fCallN 1 m__law_odd (fCons (fName 0) (rt [])))) (sOut .nx))
  (fSeq (fParDD 3 4 (fCallN 2 m__law_draw (fCons (fName 0) (fCons (fLen (fPeek 1)) (rt [])))) (fCallN 2 m__law_draw (fCons (fName 0) (fCons (rt (.int 11)) (rt [])))))
  (fSeq (fIf (fT (f2 pLt (fName 4) (rt (.int 5)))) (fRet (f2 pAdd (f2 pAdd (fSl (fName 1) (rt none) (fPart (fName 3))) (fTup (fCons (fCallN 2 rec (fCons (fName 0) (fCons (fIxD (fName 1) (fName 3)) (rt [])))) (rt [])))) (fSl (fName 1) (fPart (f2 pAdd (fName 3) (rt (.int 1)))) (rt none)))) (sOut .nx))
  (fSeq (fIf (fT (f2 pEq (fName 4) (rt (.int 5)))) (fRet (f2 pAdd (fSl (fName 1) (rt none) (fPart (fName 3))) (fSl (fName 1) (fPart (f2 pAdd (fName 3) (rt (.int 1)))) (rt none)))) (sOut .nx))
  (fSeq (fIf (fT (f2 pEq (fName 4) (rt (.int 6)))) (fRet (f2 pAdd (f2 pAdd (fSl (fName 1) (rt none) (fPart (fName 3))) (f2 pRepT (fSl (fName 1) (fPart (fName 3)) (fPart (f2 pAdd (fName 3) (rt (.int 1))))) (rt (.int 2)))) (fSl (fName 1) (fPart (f2 pAdd (fName 3) (rt (.int 1)))) (rt none)))) (sOut .nx))
  (fSeq (fIf (fT (f2 pEq (fName 4) (rt (.int 7)))) (fRet (f2 pAdd (f2 pAdd (fSl (fName 1) (rt none) (fPart (fName 3))) (fTup (fCons (fCallN 1 m__law_odd (fCons (fName 0) (rt []))) (rt [])))) (fSl (fName 1) (fPart (fName 3)) (rt none)))) (sOut .nx))
  (fSeq (fIf (fT (f2 pEq (fName 4) (rt (.int 8)))) (fRet (fLet (bd (fPeek 1) rt))) (sOut .nx))
  (fSeq (fSet 2 (fIxD (fName 1) (fCallN 2 m__law_draw (fCons (fName 0) (fCons (fLen (fPeek 1)) (rt []))))))
  (fRet (fIfE (fT (f2 pEq (fName 4) (rt (.int 9)))) (f2 pAdd (f2 pAdd (fSl (fName 1) (rt none) (fPart (fName 3))) (fTup (fCons (fName 2) (rt [])))) (fSl (fName 1) (fPart (f2 pAdd (fName 3) (rt (.int 1)))) (rt none))) (f2 pAdd (fSl (fName 1) (fPart (fName 3)) (rt none)) (fSl (fName 1) (rt none) (fPart (fName 3)))))))))))))
def mr__law_spoilt : Nat → Fd
  | 0 => fun _ _ => none
  | n + 1 => runB (fb__law_spoilt (mr__law_spoilt n)) 5 2
def m__law_spoilt : Fd := mr__law_spoilt 6
def fb__law_state : Ms := fSeq (fSet 3 (fTup (fCons (rt (.bl false)) (fCons (fTup (rt [])) (rt [])))))
  (fSeq (fFor (fCallN 4 m__law_play (fCons (fName 0) (fCons (fName 2) (fCons (fCallN 2 m__law_draw (fCons (fName 0) (fCons (rt (.int 16)) (rt [])))) (fCons (rt (.bl true)) (rt [])))))) (gN 4) (fSet 3 (fIxD (fCallN 3 m__law_stepped (fCons (fName 1) (fCons (fName 3) (fCons (fName 4) (rt []))))) (rt (.int 0)))))
  (fRet (fName 3)))
def m__law_state : Fd := runB fb__law_state 5 3
def fb__law_taken_right : Ms := fSeq (fParDD 5 6 (fTup (fCons (fName 0) (fCons (fTup (fCons (fName 3) (rt []))) (fCons (rt (.str "none")) (rt []))))) (fLet (fComp [4] (fName 1) (gN 4) ((rt true)) (fTup (fCons (fName 4) (fCons (rt (.str "sounds")) (rt [])))))))
  (fSeq (fSet 7 (fDget (fDisp [("eldest", fIxD (fName 1) (rt (.int 0))), ("latest", fIxD (fName 1) (fNeg (rt (.int 1)))), ("lowest", fMin (fName 1)), ("highest", fMax (fName 1))]) (fName 3) (fName 2)))
  (fSeq (fSet 8 (fCallN 2 m__law_full (fCons (fName 5) (fCons (fName 1) (rt [])))))
  (fSeq (fIf (fT (f2 pNe (fRepr (fName 8)) (fRepr (fTup (fCons (rt (.bl false)) (fCons (fTupOf (fPeek 6)) (rt []))))))) (fRet (rt (.bl false))) (sOut .nx))
  (fSeq (fSetO 9 (fComp [4] (fLet (fCat (fName 1) (fLet (fLst (fCons (fName 2) (rt [])))))) (gN 4) ((rt true)) (fTup (fCons (fName 4) (fCons (fIfE (fT (f2 pEq (fName 4) (fName 7))) (rt (.str "waits")) (rt (.str "sounds"))) (rt []))))))
  (fSeq (fIf (fT (f2 pNe (fRepr (fCallN 3 m_step (fCons (fName 5) (fCons (fName 8) (fCons (fTup (fCons (rt (.str "down")) (fCons (fName 2) (rt [])))) (rt [])))))) (fRepr (fTup (fCons (rt (.bl false)) (fCons (fTupOf (fPeek 9)) (rt []))))))) (fRet (rt (.bl false))) (sOut .nx))
  (fSeq (fSet 10 (fIfE (fT (f2 pEq (fName 3) (rt (.str "refuse")))) (fTup (fCons (fTup (fCons (rt (.str "refuse")) (fCons (fName 2) (rt [])))) (rt []))) (fTup (fCons (fTup (fCons (rt (.str "cut")) (fCons (fName 7) (rt [])))) (fCons (fTup (fCons (rt (.str "begin")) (fCons (fName 2) (rt [])))) (rt []))))))
  (fRet (f2 pEq (fRepr (fCallN 3 m_deeds (fCons (fName 5) (fCons (fName 8) (fCons (fTup (fCons (rt (.str "down")) (fCons (fName 2) (rt [])))) (rt [])))))) (fRepr (fName 10))))))))))
def m__law_taken_right : Fd := runB fb__law_taken_right 11 4
def fb__law_told : Ms := fSeq (fParDD 3 4 (rt .non) (fLet (fLst (rt []))))
  (fSeq (fTry (fSet 4 (fLet (fLst (fCons (fCallN 1 m_need_machine (fCons (fName 0) (rt []))) (rt []))))) [⟨tb_VoiceError, some 1, fSet 3 (fName 1)⟩])
  (fSeq (fIf (fT (f2 pIs (fName 3) (rt .non))) (fRet (fName 4)) (sOut .nx))
  (fSeq (fSet 2 (fOrV (fIsT [tb_BadPlay, tb_BadState, tb_BadKey] (fName 3)) (fNotV (fIsE tb_ValueError (fName 3)))))
  (fRet (fIfE (fOr (fT (fName 2)) (fNot (fT (fIsE tb_BadMachine (fName 3))))) (fTup (fCons (rt (.str "other")) (rt []))) (fTup (fCons (rt (.str "refused")) (fCons (fFld cs_place (fName 3)) (rt [])))))))))
def m__law_told : Fd := runB fb__law_told 5 1
def fb__law_turned : Ms := fSeq (fFor (fTup (fCons (fTup (fCons (rt (.str "lowest")) (fCons (rt (.str "highest")) (rt [])))) (fCons (fTup (fCons (rt (.str "notlow")) (fCons (rt (.str "nothigh")) (rt [])))) (fCons (fTup (fCons (rt (.str "below")) (fCons (rt (.str "above")) (rt [])))) (fCons (fTup (fCons (rt (.str "under")) (fCons (rt (.str "over")) (rt [])))) (rt [])))))) (gT 2 (gsCons (gN 1) (gsCons (gN 2) gsNil))) (fSeq (fIf (fT (f2 pEq (fName 0) (fName 1))) (fRet (fName 2)) (sOut .nx))
  (fIf (fT (f2 pEq (fName 0) (fName 2))) (fRet (fName 1)) (sOut .nx))))
  (fRet (fName 0))
def m__law_turned : Fd := runB fb__law_turned 3 1
def fb_board_events : Ms := fSeq (fSet 3 (fCallN 1 m_down_keys (fCons (fIxD (fName 0) (rt (.int 1))) (rt []))))
  (fSeq (fSetO 5 (fCompR [4] (fCons (fName 1) (rt [])) (gN 4) (fT (f2 (pIn true) (fName 4) (fName 3))) (fTup (fCons (rt (.str "down")) (fCons (fName 4) (rt []))))))
  (fSeq (fIf (fT (fName 2)) (fExp (fApp 5 (fIfE (fT (fIxD (fName 0) (rt (.int 0)))) (fTup (fCons (rt (.str "lift")) (rt []))) (fTup (fCons (rt (.str "press")) (rt [])))))) (sOut .nx))
  (fRet (fLet (fCat (fName 5) (fLet (fCompR [4] (fCons (fName 1) (rt [])) (gN 4) (fT (f2 (pIn false) (fName 4) (fName 3))) (fTup (fCons (rt (.str "up")) (fCons (fName 4) (rt [])))))))))))
def m_board_events : Fd := runB fb_board_events 6 3
def fb_cut_key : Ms := fSeq (fFor (fName 0) (gT 2 (gsCons (gN 1) (gsCons (gN 2) gsNil))) (fIf (fT (f2 pEq (fName 1) (rt (.str "cut")))) (fRet (fName 2)) (sOut .nx)))
  (fRet (rt .non))
def m_cut_key : Fd := runB fb_cut_key 3 1
def fb_play_fault : Ms := fSeq (fIf (fOr (fNot (fT (fIsi "tuple" (fName 0)))) (fT (f2 pGt (fLen (fPeek 0)) (rt c_MOST_EVENTS)))) (fRet (fTup (rt []))) (sOut .nx))
  (fSeq (fSet 1 (rt c_START))
  (fSeq (fForEn (fCons (fName 0) (rt [])) (gT 2 (gsCons (gN 2) (gsCons (gN 3) gsNil))) (fSeq (fIf (fNot (fT (fCallN 2 m_can_follow (fCons (fName 1) (fCons (fName 3) (rt [])))))) (fRet (fTup (fCons (fName 2) (rt [])))) (sOut .nx))
  (fAsg (fCallN 3 m_perform (fCons (rt c_ENOUGH) (fCons (fName 1) (fCons (fName 3) (rt []))))) (gT 2 (gsCons (gN 1) (gsCons (gN 4) gsNil))))))
  (fRet (rt .non))))
def m_play_fault : Fd := runB fb_play_fault 5 1
def fb_need_play : Ms := fSeq (fSet 1 (fCallN 1 m_play_fault (fCons (fName 0) (rt []))))
  (fSeq (fIf (fT (f2 pNis (fName 1) (rt .non))) (fRaise "BadPlay" (fName 1)) (sOut .nx))
  (fRet (fName 0)))
def m_need_play : Fd := runB fb_need_play 2 1
def fb_cuts : Ms := fSeq (fExp (fCallN 1 m_need_machine (fCons (fName 0) (rt []))))
  (fSeq (fSet 2 (rt c_START))
  (fSeq (fSetO 3 (fLst (rt [])))
  (fSeq (fForEn (fCons (fCallN 1 m_need_play (fCons (fName 1) (rt []))) (rt [])) (gT 2 (gsCons (gN 4) (gsCons (gN 5) gsNil))) (fSeq (fAsg (fCallN 3 m_perform (fCons (fName 0) (fCons (fName 2) (fCons (fName 5) (rt []))))) (gT 2 (gsCons (gN 2) (gsCons (gN 7) gsNil))))
  (fSeq (fSet 6 (fCallN 1 m_cut_key (fCons (fName 7) (rt []))))
  (fIf (fT (f2 pNis (fName 6) (rt .non))) (fExp (fApp 3 (fTup (fCons (fName 4) (fCons (fName 6) (rt [])))))) (sOut .nx)))))
  (fRet (fTupOf (fPeek 3))))))
def m_cuts : Fd := runB fb_cuts 8 2
def fb_cuts_following : Ms := fSeq (fSetO 4 (fLst (rt [])))
  (fSeq (fFor (fCallN 3 m_board_events (fCons (fName 1) (fCons (fName 2) (fCons (fName 3) (rt []))))) (gN 5) (fSeq (fAsg (fCallN 3 m_perform (fCons (fName 0) (fCons (fName 1) (fCons (fName 5) (rt []))))) (gT 2 (gsCons (gN 6) (gsCons (gN 7) gsNil))))
  (fExp (fApp 4 (fTup (fCons (fName 5) (fCons (fTup (fCons (fName 6) (fCons (fCallN 1 m_cut_key (fCons (fName 7) (rt []))) (rt [])))) (rt []))))))))
  (fRet (fName 4)))
def m_cuts_following : Fd := runB fb_cuts_following 8 4
def fb_sound_of : Ms := fRet (fTupOf (fSorted (fCallN 1 m_loud_keys (fCons (fIxD (fName 0) (rt (.int 1))) (rt [])))))
def m_sound_of : Fd := runB fb_sound_of 1 1
def fb_differ : Ms := fRet (f2 pNe (fCallN 1 m_sound_of (fCons (fIxD (fName 0) (rt (.int 0))) (rt []))) (fCallN 1 m_sound_of (fCons (fIxD (fName 0) (rt (.int 1))) (rt []))))
def m_differ : Fd := runB fb_differ 1 1
def fb_following : Ms := fRet (fLet (fComp [4] (fCallN 3 m_board_events (fCons (fName 1) (fCons (fName 2) (fCons (fName 3) (rt []))))) (gN 4) ((rt true)) (fTup (fCons (fName 4) (fCons (fIxD (fCallN 3 m_perform (fCons (fName 0) (fCons (fName 1) (fCons (fName 4) (rt []))))) (rt (.int 0))) (rt []))))))
def m_following : Fd := runB fb_following 5 4
def fb_is_machine : Ms := fRet (f2 pIs (fCallN 1 m_machine_fault (fCons (fName 0) (rt []))) (rt .non))
def m_is_machine : Fd := runB fb_is_machine 1 1
def fb_is_play : Ms := fRet (f2 pIs (fCallN 1 m_play_fault (fCons (fName 0) (rt []))) (rt .non))
def m_is_play : Fd := runB fb_is_play 1 1
def fb_is_state : Ms := fRet (f2 pIs (fCallN 2 m_state_fault (fCons (fCallN 1 m_need_machine (fCons (fName 0) (rt []))) (fCons (fName 1) (rt [])))) (rt .non))
def m_is_state : Fd := runB fb_is_state 2 2
def fb_states_behind : Ms := fSeq (fSet 2 (rt c_START))
  (fSeq (fSetO 3 (fLst (rt [])))
  (fSeq (fFor (fName 1) (gN 4) (fSeq (fAsg (fCallN 3 m_perform (fCons (fName 0) (fCons (fName 2) (fCons (fName 4) (rt []))))) (gT 2 (gsCons (gN 2) (gsCons (gN 5) gsNil))))
  (fExp (fApp 3 (fName 2)))))
  (fRet (fName 3))))
def m_states_behind : Fd := runB fb_states_behind 6 2
def fb_last_state : Ms := fSeq (fSet 2 (fCallN 2 m_states_behind (fCons (fCallN 1 m_need_machine (fCons (fName 0) (rt []))) (fCons (fCallN 1 m_need_play (fCons (fName 1) (rt []))) (rt [])))))
  (fRet (fIfE (fTr (fName 2)) (fIxD (fName 2) (fNeg (rt (.int 1)))) (rt c_START)))
def m_last_state : Fd := runB fb_last_state 3 2
def fb_mirrored : Ms := fSeq (fAsg (fCallN 1 m_need_machine (fCons (fName 0) (rt []))) (gT 3 (gsCons (gN 1) (gsCons (gN 2) (gsCons (gN 3) gsNil)))))
  (fSeq (fSetO 5 (fComp [4] (fName 2) (gN 4) ((rt true)) (fGetK cd_MIRROR (fName 4) (fName 4))))
  (fRet (fTup (fCons (fName 1) (fCons (fTupOf (fPeek 5)) (fCons (fGetK cd_MIRROR (fName 3) (fName 3)) (rt [])))))))
def m_mirrored : Fd := runB fb_mirrored 6 1
def fb_need_board : Ms := fSeq (fIf (fAnd (fT (f2 pNis (fName 1) (rt (.bl true)))) (fT (f2 pNis (fName 1) (rt (.bl false))))) (fRaise "BadBoard" (fName 0)) (sOut .nx))
  (fIf (fNot (fT (fCallN 3 m_is_whole (fCons (fName 0) (fCons (rt (.int 1)) (fCons (fIfE (fT (fName 1)) (rt c_MOST_KEYS_WITH_PEDAL) (rt c_MOST_KEYS)) (rt []))))))) (fRaise "BadBoard" (fName 0)) (sOut .nx))
def m_need_board : Fd := runB fb_need_board 2 2
def fb_need_machines : Ms := fSeq (fIf (fOr (fNot (fT (fIsi "tuple" (fName 0)))) (fT (f2 pGt (fLen (fPeek 0)) (rt c_MOST_MACHINES)))) (fRaise "BadQuestion" (rt (.str "no tuple of at most 20 machines"))) (sOut .nx))
  (fSeq (fFor (fName 0) (gN 1) (fExp (fCallN 1 m_need_machine (fCons (fName 1) (rt [])))))
  (fRet (fName 0)))
def m_need_machines : Fd := runB fb_need_machines 2 1
def fb_need_question : Ms := fSeq (fExp (fCallN 1 m_need_machine (fCons (fName 0) (rt []))))
  (fSeq (fExp (fCallN 1 m_need_machine (fCons (fName 1) (rt []))))
  (fExp (fCallN 2 m_need_board (fCons (fName 2) (fCons (fName 3) (rt []))))))
def m_need_question : Fd := runB fb_need_question 4 4
def fb_play_to : Ms := fSeq (fSetO 2 (fLst (rt [])))
  (fSeq (fSet 3 (fIxD (fName 0) (fName 1)))
  (fSeq (fWhl (fun _ => 1000000) (fT (f2 pNis (fName 3) (rt .non))) (fSeq (fAsg (fName 3) (gT 2 (gsCons (gN 4) (gsCons (gN 5) gsNil))))
  (fSeq (fExp (fApp 2 (fName 5)))
  (fSet 3 (fIxD (fName 0) (fName 4))))))
  (fRet (fTupOf (fPk (fSl (fName 2) (rt none) (rt none)))))))
def m_play_to : Fd := runB fb_play_to 6 2
def fb_sound : Ms := fRet (fCallN 1 m_sound_of (fCons (fCallN 2 m_need_state (fCons (fName 0) (fCons (fName 1) (rt [])))) (rt [])))
def m_sound : Fd := runB fb_sound 2 2
def fb_trace : Ms := fSeq (fSet 2 (fCallN 2 m_states_behind (fCons (fCallN 1 m_need_machine (fCons (fName 0) (rt []))) (fCons (fCallN 1 m_need_play (fCons (fName 1) (rt []))) (rt [])))))
  (fRet (fTupOf (fComp [3] (fName 2) (gN 3) ((rt true)) (fCallN 1 m_sound_of (fCons (fName 3) (rt []))))))
def m_trace : Fd := runB fb_trace 4 2
def fb_victim : Ms := fSeq (fAsg (fCallN 2 m_need_state (fCons (fName 0) (fCons (fName 1) (rt [])))) (gT 2 (gsCons (gN 3) (gsCons (gN 4) gsNil))))
  (fSeq (fIf (fOr (fNot (fT (fCallN 1 m_is_key (fCons (fName 2) (rt []))))) (fT (f2 (pIn false) (fName 2) (fLet (fComp [5] (fName 4) (gN 5) ((rt true)) (fIxD (fName 5) (rt (.int 0)))))))) (fRaise "BadKey" (fName 2)) (sOut .nx))
  (fRet (fCallN 1 m_cut_key (fCons (fIxD (fCallN 3 m_perform (fCons (fName 0) (fCons (fName 1) (fCons (fTup (fCons (rt (.str "down")) (fCons (fName 2) (rt [])))) (rt []))))) (rt (.int 1))) (rt [])))))
def m_victim : Fd := runB fb_victim 6 3
def fb_with_voices : Ms := fSeq (fAsg (fCallN 1 m_need_machine (fCons (fName 0) (rt []))) (gT 3 (gsCons (gN 2) (gsCons (gN 3) (gsCons (gN 4) gsNil)))))
  (fRet (fCallN 1 m_need_machine (fCons (fTup (fCons (fName 1) (fCons (fName 3) (fCons (fName 4) (rt []))))) (rt []))))
def m_with_voices : Fd := runB fb_with_voices 5 2
def fb_without_filter : Ms := fSeq (fAsg (fName 0) (gT 3 (gsCons (gN 2) (gsCons (gN 3) (gsCons (gN 4) gsNil)))))
  (fRet (fTup (fCons (fName 2) (fCons (f2 pAdd (fSl (fName 3) (rt none) (fPart (fName 1))) (fSl (fName 3) (fPart (f2 pAdd (fName 1) (rt (.int 1)))) (rt none))) (fCons (fName 4) (rt []))))))
def m_without_filter : Fd := runB fb_without_filter 5 2
end S
namespace S
open PyProof.Rows PySem.Spec PySem L2 DE
def FIL : List Str := ["kept", "inner", "notlow", "nothigh", "below", "above", "under", "over"]
def END_ : List Str := ["eldest", "latest", "lowest", "highest", "refuse"]
def RET_ : List Str := ["none", "eldest", "latest", "lowest", "highest"]
theorem is_word_ok (d : D) (ws : List Str) (s : DS) (h : isExc d = false) : m_is_word [d, .tup (ws.map .str)] s = some (.ok (.bl (inW d ws)), s) := by
  cases d with
  | str x =>
    refine runB_ret (r := [.dat (.str x), .dat (.tup (ws.map .str))]) rfl (ret_ok ?_)
    rw [andV_t (g1 := ⟨[.dat (.str x), .dat (.tup (ws.map .str))], s⟩) (by kernel_rfl)]
    rw [f2_ok (name_ok rfl) (name_ok rfl)]
    unfold pIn
    simp only [aSeq, flat1, flat_strs, inV_strs, inW]
    rfl
  | exc c w => cases h
  | scr ns => cases h
  | _ => kernel_rfl
theorem isw (i : Nat) (c : D) (ws : List Str) (hc : c = .tup (ws.map .str)) {d : D} {g : Sg} (h : g.r[i]? = some (.dat d)) (hd : isExc d = false) : fCallN 2 m_is_word (fCons (fName i) (fCons (rt c) (rt []))) g = some (.ok (.bl (inW d ws)), g) := by
  have e := is_word_ok d ws g.s hd
  rw [← hc] at e
  exact call_ok (ds := [d, c]) (g1 := g) (cons_ok (name_ok h) (cons_ok rfl rfl)) rfl e
theorem chain_ok {p q : D → D → Mo D} {f h j : Mo D} {g g1 g2 g3 : Sg} {a b c : D} {t : Bool} {r : D} (h1 : f g = some (.ok a, g1)) (h2 : h g1 = some (.ok b, g2)) (h3 : p a b g2 = some (.ok (.bl t), g2)) (h4 : t = true → j g2 = some (.ok c, g3) ∧ q b c g3 = some (.ok r, g3)) (h5 : t = false → r = .bl false ∧ g3 = g2) :
    fChain p q f h j g = some (.ok r, g3) := by
  unfold fChain
  rw [bd_ok h1, bd_ok h2, bd_ok h3]
  cases t with
  | true => obtain ⟨h6, h7⟩ := h4 rfl; show bd j _ g2 = _; rw [bd_ok h6]; exact h7
  | false => obtain ⟨rfl, rfl⟩ := h5 rfl; rfl
theorem is_whole_ok (i lo hi : Int) (s : DS) : m_is_whole [.int i, .int lo, .int hi] s = some (.ok (.bl (decide (lo ≤ i) && decide (i ≤ hi))), s) := by
  refine runB_ret (r := [.dat (.int i), .dat (.int lo), .dat (.int hi)]) rfl ?_
  unfold fb_is_whole
  rw [seq_nx (g1 := ⟨[.dat (.int i), .dat (.int lo), .dat (.int hi)], s⟩) (by kernel_rfl)]
  refine ret_ok (chain_ok (t := decide (lo ≤ i)) (g2 := ⟨[.dat (.int i), .dat (.int lo), .dat (.int hi)], s⟩) (name_ok rfl) (name_ok rfl) rfl (c := .int hi) (fun z => ⟨name_ok rfl, by rw [z]; rfl⟩) (fun z => ⟨by rw [z]; rfl, rfl⟩))
theorem pEq_ii (a b : Int) (g : Sg) : pEq (.int a) (.int b) g = some (.ok (.bl (decide (a = b))), g) := rfl
/-- the test whether i is the last place -/
theorem last_ok {cs : List D} {i : Nat} {d : D} (s : DS) : fT (f2 pEq (fName 1) (f2 pSub (fLen (fPeek 0)) (rt (.int 1)))) ⟨[.dat (.tup cs), .dat (.int (i : Int)), .dat d], s⟩ = some (.ok (decide ((i : Int) = (cs.length : Int) - 1)), ⟨[.dat (.tup cs), .dat (.int (i : Int)), .dat d], s⟩) := by
  refine t_ok ?_
  rw [f2_ok (name_ok rfl) (g2 := ⟨[.dat (.tup cs), .dat (.int (i : Int)), .dat d], s⟩) (d' := .int ((cs.length : Int) - 1)) (by rw [f2_ok (len_ok (peek_t rfl)) rfl]; rfl)]
  rfl
theorem can_last {cs : List D} {i : Nat} {d : D} (s : DS) (h : cs[i]? = some d) (hd : isExc d = false) (hl : i + 1 = cs.length) : m_can_stand [.tup cs, .int (i : Int)] s = some (.ok (.bl (inW d END_)), s) := by
  have hi : i < cs.length := by omega
  refine runB_ret (r := [.dat (.tup cs), .dat (.int (i : Int)), .dat d]) rfl ?_
  unfold fb_can_stand
  rw [seq_nx (set_ok (ix_ok (name_ok rfl) (name_ok rfl) rfl ((atI_nat cs i hi).trans h)))]
  refine seq_ret ?_
  have e := last_ok (cs := cs) (i := i) (d := d) s
  rw [decide_eq_true (by omega)] at e
  exact (if_t e).trans (ret_ok (isw 2 c_ENDS END_ rfl rfl hd))
theorem can_first {cs : List D} {i : Nat} {d : D} (s : DS) (h : cs[i]? = some d) (hd : isExc d = false) (hl : i + 1 < cs.length) (hw : inW d FIL = false) : m_can_stand [.tup cs, .int (i : Int)] s = some (.ok (.bl false), s) := by
  have hi : i < cs.length := by omega
  refine runB_ret (r := [.dat (.tup cs), .dat (.int (i : Int)), .dat d]) rfl ?_
  unfold fb_can_stand
  rw [seq_nx (set_ok (ix_ok (name_ok rfl) (name_ok rfl) rfl ((atI_nat cs i hi).trans h)))]
  have e := last_ok (cs := cs) (i := i) (d := d) s
  rw [decide_eq_false (by omega)] at e
  rw [seq_nx (if_f e)]
  have e2 := isw 2 c_FILTERS FIL rfl (d := d) (g := ⟨[.dat (.tup cs), .dat (.int (i : Int)), .dat d], s⟩) rfl hd
  rw [hw] at e2
  exact ret_ok (andV_f e2)
theorem can_inner {cs : List D} {i : Nat} {x : Str} {ws : List Str} (s : DS) (h : cs[i]? = some (.str x)) (hl : i + 1 < cs.length) (hw : FIL.contains x = true) (ht : cs.take i = ws.map .str) : m_can_stand [.tup cs, .int (i : Int)] s = some (.ok (.bl (!ws.contains x)), s) := by
  have hi : i < cs.length := by omega
  refine runB_ret (r := [.dat (.tup cs), .dat (.int (i : Int)), .dat (.str x)]) rfl ?_
  unfold fb_can_stand
  rw [seq_nx (set_ok (ix_ok (name_ok rfl) (name_ok rfl) rfl ((atI_nat cs i hi).trans h)))]
  have e := last_ok (cs := cs) (i := i) (d := .str x) s
  rw [decide_eq_false (by omega)] at e
  rw [seq_nx (if_f e)]
  have e2 := isw 2 c_FILTERS FIL rfl (d := .str x) (g := ⟨[.dat (.tup cs), .dat (.int (i : Int)), .dat (.str x)], s⟩) rfl rfl
  rw [show inW (.str x) FIL = true from hw] at e2
  refine ret_ok ?_
  rw [andV_t e2]
  rw [f2_ok (d := .str x) (d' := .tup (cutD cs none (some (i : Int)))) (g1 := ⟨[.dat (.tup cs), .dat (.int (i : Int)), .dat (.str x)], s⟩) (g2 := ⟨[.dat (.tup cs), .dat (.int (i : Int)), .dat (.str x)], s⟩) (name_ok rfl) (sl_t (g1 := ⟨[.dat (.tup cs), .dat (.int (i : Int)), .dat (.str x)], s⟩) (g2 := ⟨[.dat (.tup cs), .dat (.int (i : Int)), .dat (.str x)], s⟩) (name_ok rfl) rfl (part_ok (name_ok rfl)))]
  rw [cut_take cs i (by omega), ht]
  unfold pIn
  simp only [aSeq, flat1, flat_strs, inV_strs, if_true]
  rfl
theorem len_test (cs : List D) (s : DS) : fOr (fNot (fT (fIsi "tuple" (fName 0)))) (fNot (fT (fChain pLe pLe (rt (.int 1)) (fLen (fPeek 0)) (rt c_MOST_CRITERIA)))) ⟨[.dat (.tup cs), .no], s⟩ = some (.ok (!(decide ((1 : Int) ≤ cs.length) && decide ((cs.length : Int) ≤ 6))), ⟨[.dat (.tup cs), .no], s⟩) := by
  rw [or_f (g1 := ⟨[.dat (.tup cs), .no], s⟩) (by kernel_rfl)]
  refine not_ok (t_ok (chain_ok (t := decide ((1 : Int) ≤ cs.length)) (g2 := ⟨[.dat (.tup cs), .no], s⟩) rfl (len_ok (peek_t rfl)) rfl (c := c_MOST_CRITERIA) (fun z => ⟨rfl, by rw [z]; rfl⟩) (fun z => ⟨by rw [z]; rfl, rfl⟩)))
theorem crit_len {cs : List D} (s : DS) (h : cs.length = 0 ∨ 6 < cs.length) : m_criteria_fault [.tup cs] s = some (.ok (.tup [.str "criteria"]), s) := by
  refine runB_ret (r := [.dat (.tup cs), .no]) rfl ?_
  unfold fb_criteria_fault
  have e := len_test cs s
  have c : (!(decide ((1 : Int) ≤ cs.length) && decide ((cs.length : Int) ≤ 6))) = true := by
    rcases h with h | h
    · rw [decide_eq_false (by omega)]; rfl
    · rw [decide_eq_false (p := (cs.length : Int) ≤ 6) (by omega), Bool.and_false]; rfl
  rw [c] at e
  refine seq_ret ((if_t e).trans ?_)
  rfl
abbrev critB : Ms := fIf (fNot (fT (fCallN 2 m_can_stand (fCons (fName 0) (fCons (fName 1) (rt [])))))) (fRet (fTup (fCons (rt (.str "criteria")) (fCons (fName 1) (rt []))))) (sOut .nx)
def AtC (cs : List D) (s : DS) (g : Sg) : Prop := ∃ x, g = ⟨[.dat (.tup cs), x], s⟩
theorem crit_turn {cs : List D} {s : DS} {i : Nat} {b : Bool} {g : Sg} (h : m_can_stand [.tup cs, .int (i : Int)] s = some (.ok (.bl b), s)) (q : AtC cs s g) :
    gN 1 (.int (i : Int)) g = some ⟨[.dat (.tup cs), .dat (.int (i : Int))], s⟩ ∧ critB ⟨[.dat (.tup cs), .dat (.int (i : Int))], s⟩ = (if b = true then some (.nx, ⟨[.dat (.tup cs), .dat (.int (i : Int))], s⟩) else some (.ret (.tup [.str "criteria", .int (i : Int)]), ⟨[.dat (.tup cs), .dat (.int (i : Int))], s⟩)) := by
  obtain ⟨x, rfl⟩ := q
  refine ⟨rfl, ?_⟩
  have e : fNot (fT (fCallN 2 m_can_stand (fCons (fName 0) (fCons (fName 1) (rt []))))) ⟨[.dat (.tup cs), .dat (.int (i : Int))], s⟩ = some (.ok (!b), ⟨[.dat (.tup cs), .dat (.int (i : Int))], s⟩) :=
    not_ok (t_ok (call_ok (ds := [.tup cs, .int (i : Int)]) (g1 := ⟨[.dat (.tup cs), .dat (.int (i : Int))], s⟩) (cons_ok (name_ok rfl) (cons_ok (name_ok rfl) rfl)) rfl h))
  cases b with
  | true => exact if_f e
  | false => exact if_t e
theorem crit_pre {cs : List D} (s : DS) (h1 : 1 ≤ cs.length) (h6 : cs.length ≤ 6) : fb_criteria_fault ⟨[.dat (.tup cs), .no], s⟩ = fSeq (loop (gN 1) critB (intsD (cs.length : Int))) (fRet (rt .non)) ⟨[.dat (.tup cs), .no], s⟩ := by
  unfold fb_criteria_fault
  have e := len_test cs s
  rw [decide_eq_true (by omega), decide_eq_true (p := (cs.length : Int) ≤ 6) (by omega)] at e
  rw [seq_nx (if_f e)]
  unfold fSeq
  rw [forR_ok (n := (cs.length : Int)) (g1 := ⟨[.dat (.tup cs), .no], s⟩) (cons_ok (len_ok (peek_t rfl)) rfl) (by omega)]
theorem crit_none {cs : List D} (s : DS) (h1 : 1 ≤ cs.length) (h6 : cs.length ≤ 6) (h : ∀ i, i < cs.length → m_can_stand [.tup cs, .int (i : Int)] s = some (.ok (.bl true), s)) : m_criteria_fault [.tup cs] s = some (.ok .non, s) := by
  obtain ⟨g', e, x, rfl⟩ := loop_all (t := gN 1) (b := critB) (AtC cs s) (ds := intsD (cs.length : Int)) (g := ⟨[.dat (.tup cs), .no], s⟩) (fun d hd g q => by
    unfold intsD at hd
    obtain ⟨i, hi, rfl⟩ := List.mem_map.mp hd
    rw [List.mem_range, Int.toNat_natCast] at hi
    obtain ⟨a, b⟩ := crit_turn (h i hi) q
    exact ⟨_, _, a, b, _, rfl⟩) ⟨_, rfl⟩
  refine runB_ret (r := [.dat (.tup cs), x]) rfl ?_
  refine (crit_pre s h1 h6).trans ?_
  rw [seq_nx e]; rfl
theorem crit_at {cs : List D} (s : DS) (h6 : cs.length ≤ 6) {j : Nat} (hj : j < cs.length) (h : ∀ i, i < j → m_can_stand [.tup cs, .int (i : Int)] s = some (.ok (.bl true), s)) (hf : m_can_stand [.tup cs, .int (j : Int)] s = some (.ok (.bl false), s)) :
    m_criteria_fault [.tup cs] s = some (.ok (.tup [.str "criteria", .int (j : Int)]), s) := by
  obtain ⟨g', e, x, rfl⟩ := loop_then (t := gN 1) (b := critB) (AtC cs s) (d := .int (j : Int)) (r := .tup [.str "criteria", .int (j : Int)]) (es := (List.range (cs.length - j - 1)).map fun i => D.int ((j + 1 + i : Nat) : Int)) (ds := (List.range j).map fun (i : Nat) => D.int (i : Int)) (g := ⟨[.dat (.tup cs), .no], s⟩) (fun d hd g q => by
    obtain ⟨i, hi, rfl⟩ := List.mem_map.mp hd
    rw [List.mem_range] at hi
    obtain ⟨a, b⟩ := crit_turn (h i hi) q
    exact ⟨_, _, a, b, _, rfl⟩) (fun g q => by
    obtain ⟨a, b⟩ := crit_turn hf q
    exact ⟨_, _, a, b, _, rfl⟩) ⟨_, rfl⟩
  rw [← intsD_split hj] at e
  refine runB_ret (r := [.dat (.tup cs), x]) rfl ?_
  refine (crit_pre s (by omega) h6).trans ?_
  exact seq_ret e
/-- a machine's parts -/
theorem mach {k : Int} {c b r : D} (s : DS) (hk : 1 ≤ k ∧ k ≤ 8) (hc : m_criteria_fault [c] s = some (.ok r, s)) (hr : r = .non ∨ ∃ xs, r = .tup xs) (hb : isExc b = false) :
    m_machine_fault [.tup [.int k, c, b]] s = some (.ok (if DE.isNon r = true then (if inW b RET_ = true then .non else .tup [.str "return"]) else r), s) := by
  have G : ∀ x, m_is_whole [.int k, .int 1, c_MOST_VOICES] x = some (.ok (.bl true), x) := fun x => by
    have e := is_whole_ok k 1 8 x
    rw [decide_eq_true hk.1, decide_eq_true hk.2] at e
    exact e
  have e1 : fNot (fT (fCallN 3 m_is_whole (fCons (fName 2) (fCons (rt (.int 1)) (fCons (rt c_MOST_VOICES) (rt [])))))) ⟨[.dat (.tup [.int k, c, b]), .no, .dat (.int k), .dat c, .dat b], s⟩ = some (.ok false, ⟨[.dat (.tup [.int k, c, b]), .no, .dat (.int k), .dat c, .dat b], s⟩) :=
    not_ok (t_ok (call_ok (ds := [.int k, .int 1, c_MOST_VOICES]) (g1 := ⟨[.dat (.tup [.int k, c, b]), .no, .dat (.int k), .dat c, .dat b], s⟩) (cons_ok (name_ok rfl) (cons_ok rfl (cons_ok rfl rfl))) rfl (G s)))
  have e2 : fCallN 1 m_criteria_fault (fCons (fName 3) (rt [])) ⟨[.dat (.tup [.int k, c, b]), .no, .dat (.int k), .dat c, .dat b], s⟩ = some (.ok r, ⟨[.dat (.tup [.int k, c, b]), .no, .dat (.int k), .dat c, .dat b], s⟩) :=
    call_ok (ds := [c]) (g1 := ⟨[.dat (.tup [.int k, c, b]), .no, .dat (.int k), .dat c, .dat b], s⟩) (cons_ok (name_ok rfl) rfl) rfl hc
  refine runB_ret (r := [.dat (.tup [.int k, c, b]), .dat r, .dat (.int k), .dat c, .dat b]) rfl ?_
  unfold fb_machine_fault
  rw [seq_nx (g1 := ⟨[.dat (.tup [.int k, c, b]), .no, .no, .no, .no], s⟩) (by kernel_rfl)]
  rw [seq_nx (g1 := ⟨[.dat (.tup [.int k, c, b]), .no, .dat (.int k), .dat c, .dat b], s⟩) (by kernel_rfl)]
  rw [seq_nx (if_f e1)]
  refine (seq_nx (g1 := ⟨[.dat (.tup [.int k, c, b]), .dat r, .dat (.int k), .dat c, .dat b], s⟩) (set_ok e2)).trans ?_
  have e3 := isw 4 c_RETURNS RET_ rfl (d := b) (g := ⟨[.dat (.tup [.int k, c, b]), .dat r, .dat (.int k), .dat c, .dat b], s⟩) rfl hb
  have e4 : fT (f2 pIs (fName 1) (rt .non)) ⟨[.dat (.tup [.int k, c, b]), .dat r, .dat (.int k), .dat c, .dat b], s⟩ = some (.ok (DE.isNon r), ⟨[.dat (.tup [.int k, c, b]), .dat r, .dat (.int k), .dat c, .dat b], s⟩) := t_ok ((f2_ok (name_ok rfl) rfl).trans rfl)
  cases hn : DE.isNon r with
  | true =>
    rw [hn] at e4
    cases hw : inW b RET_ with
    | true =>
      rw [hw] at e3
      have e5 : fIf _ _ _ _ = _ := if_f (t := fRet (fTup (fCons (rt (.str "return")) (rt [])))) (u := sOut .nx) ((and_t e4).trans (not_ok (t_ok e3)))
      rw [seq_nx e5]
      have : r = .non := by cases r <;> simp [DE.isNon] at hn; rfl
      subst this
      rfl
    | false =>
      rw [hw] at e3
      have e5 : fIf _ _ _ _ = _ := if_t (t := fRet (fTup (fCons (rt (.str "return")) (rt [])))) (u := sOut .nx) ((and_t e4).trans (not_ok (t_ok e3)))
      rw [seq_ret e5]
      rfl
  | false =>
    rw [hn] at e4
    have e5 : fIf _ _ _ _ = _ := if_f (t := fRet (fTup (fCons (rt (.str "return")) (rt [])))) (u := sOut .nx) (and_f (c' := fNot (fT (fCallN 2 m_is_word (fCons (fName 4) (fCons (rt c_RETURNS) (rt [])))))) e4)
    rw [seq_nx e5]
    rfl
theorem need_ok {t : D} (s : DS) (h : m_machine_fault [t] s = some (.ok .non, s)) : m_need_machine [t] s = some (.ok t, s) := by
  have e : fCallN 1 m_machine_fault (fCons (fName 0) (rt [])) ⟨[.dat t, .no], s⟩ = some (.ok .non, ⟨[.dat t, .no], s⟩) := call_ok (ds := [t]) (g1 := ⟨[.dat t, .no], s⟩) (cons_ok (name_ok rfl) rfl) rfl h
  refine runB_ret (r := [.dat t, .dat .non]) rfl ?_
  unfold fb_need_machine
  refine (seq_nx (g1 := ⟨[.dat t, .dat .non], s⟩) (set_ok e)).trans ?_
  kernel_rfl
theorem need_no {t : D} {xs : List D} (s : DS) (h : m_machine_fault [t] s = some (.ok (.tup xs), s)) : m_need_machine [t] s = some (.error ⟨"BadMachine", .tup xs⟩, s) := by
  have e : fCallN 1 m_machine_fault (fCons (fName 0) (rt [])) ⟨[.dat t, .no], s⟩ = some (.ok (.tup xs), ⟨[.dat t, .no], s⟩) := call_ok (ds := [t]) (g1 := ⟨[.dat t, .no], s⟩) (cons_ok (name_ok rfl) rfl) rfl h
  refine runB_exc (r := [.dat t, .dat (.tup xs)]) rfl ?_
  unfold fb_need_machine
  refine (seq_nx (g1 := ⟨[.dat t, .dat (.tup xs)], s⟩) (set_ok e)).trans ?_
  kernel_rfl
/-! ### good criteria -/
structure Crit (ws : List Str) (e : Str) : Prop where
  len : ws.length ≤ 5
  nd : ws.Nodup
  fil : ∀ w ∈ ws, FIL.contains w = true
  en : END_.contains e = true
abbrev csOf (ws : List Str) (e : Str) : List D := (ws ++ [e]).map D.str
theorem cs_len (ws : List Str) (e : Str) : (csOf ws e).length = ws.length + 1 := by simp
theorem crit_can {ws : List Str} {e : Str} (C : Crit ws e) (s : DS) (i : Nat) (hi : i < ws.length + 1) : m_can_stand [.tup (csOf ws e), .int (i : Int)] s = some (.ok (.bl true), s) := by
  by_cases c : i = ws.length
  · subst c
    have e1 : (csOf ws e)[ws.length]? = some (.str e) := by simp
    rw [can_last s e1 rfl (by rw [cs_len])]
    rw [show inW (.str e) END_ = true from C.en]
  · have hi' : i < ws.length := by omega
    have e1 : (csOf ws e)[i]? = some (.str ws[i]) := by
      show ((ws ++ [e]).map D.str)[i]? = _
      rw [List.getElem?_map, List.getElem?_append_left hi', List.getElem?_eq_getElem hi']; rfl
    have e2 : (csOf ws e).take i = (ws.take i).map .str := by
      rw [← List.map_take, List.take_append_of_le_length (by omega)]
    rw [can_inner s e1 (by rw [cs_len]; omega) (C.fil _ (List.getElem_mem hi')) e2]
    have : (ws.take i).contains ws[i] = false := by
      rw [Bool.eq_false_iff]
      intro z
      rw [List.contains_iff_mem] at z
      obtain ⟨j, hj, ej⟩ := List.getElem_of_mem z
      rw [List.length_take] at hj
      rw [List.getElem_take] at ej
      have := (List.getElem_inj C.nd).mp ej
      omega
    rw [this]; rfl
theorem crit_good {ws : List Str} {e : Str} (C : Crit ws e) (s : DS) : m_criteria_fault [.tup (csOf ws e)] s = some (.ok .non, s) :=
  crit_none s (by rw [cs_len]; omega) (by rw [cs_len]; have := C.len; omega) fun i hi => crit_can C s i (by rw [cs_len] at hi; exact hi)
end S
namespace S
open PyProof.Rows PySem.Spec PySem L2 DE
/-! ### the draws -/
theorem pyd_ints : ∀ xs : List Int, pydA (xs.map D.int) = some (xs.map PyData.int)
  | [] => rfl
  | x :: xs => by simp [pydA, pyd, pyd_ints xs]
theorem lay_ints : ∀ xs : List Int, PyData.canLayAll0 (xs.map PyData.int) = true
  | [] => rfl
  | x :: xs => by simp [PyData.canLayAll0, PyData.canLay0, lay_ints xs]
theorem dep_ints : ∀ xs : List Int, PyData.depthAll (xs.map PyData.int) = 0
  | [] => rfl
  | x :: xs => by simp [PyData.depthAll, PyData.depth, dep_ints xs]
theorem ne_nil (xs : List Int) (g : Sg) : pNe (.lst (xs.map D.int)) (.lst []) g = some (.ok (.bl (!xs.isEmpty)), g) := by
  show pNeD (.lst (xs.map D.int)) (.lst []) g = _
  have e1 : pyd (.lst (xs.map D.int)) = some (.list (xs.map PyData.int)) := by simp [pyd, pyd_ints]
  have e2 : pyd (.lst []) = some (.list []) := rfl
  unfold pNeD
  rw [e1, e2]
  have s1 : (SeqAt.shaped (.list (xs.map PyData.int)) && SeqAt.shaped (.list [])) = true := by
    have : SeqAt.shaped (.list []) = true := by kernel_rfl
    rw [this, Bool.and_true]
    unfold SeqAt.shaped
    simp [PyData.canLay0, lay_ints, PyData.depth, dep_ints]
  dsimp only
  rw [if_pos s1]
  cases xs with
  | nil => rfl
  | cons x xs => rfl
theorem mg_ok {g : Sg} (h : g.r[0]? = some (.dat .m)) : fMg .great (fName 0) g = some (.ok (.lst (g.s.great.map D.int)), g) := by
  unfold fMg; rw [bd_ok (name_ok h)]
theorem mt_ok {g : Sg} (h : g.r[0]? = some (.dat .m)) : fMg .turns (fName 0) g = some (.ok (.int g.s.turns), g) := by
  unfold fMg; rw [bd_ok (name_ok h)]
theorem ms_ok {g : Sg} (h : g.r[0]? = some (.dat .m)) : fMg .seed (fName 0) g = some (.ok (.int g.s.seed), g) := by
  unfold fMg; rw [bd_ok (name_ok h)]
theorem ints_of : ∀ xs : List Int, intsOf (xs.map D.int) = some xs
  | [] => rfl
  | x :: xs => by simp [intsOf, ints_of xs]
theorem mpG_ok {e : Mo D} {g g1 : Sg} {xs : List Int} (h : e g = some (.ok (.lst (xs.map D.int)), g1)) (h0 : g1.r[0]? = some (.dat .m)) : fMp .great 0 e g = some (.nx, ⟨g1.r, { g1.s with great := xs }⟩) := by
  unfold fMp; rw [sb_ok h, sb_ok (name_ok h0)]; dsimp only; rw [ints_of]
theorem mpT_ok {e : Mo D} {g g1 : Sg} {n : Int} (h : e g = some (.ok (.int n), g1)) (h0 : g1.r[0]? = some (.dat .m)) : fMp .turns 0 e g = some (.nx, ⟨g1.r, { g1.s with turns := n }⟩) := by
  unfold fMp; rw [sb_ok h, sb_ok (name_ok h0)]
theorem hasGreat {g : Sg} (h : g.r[0]? = some (.dat .m)) : fT (f2 pNe (fMg .great (fName 0)) (fLet (fLst (rt [])))) g = some (.ok (!g.s.great.isEmpty), g) :=
  t_ok ((f2_ok (g1 := g) (g2 := g) (d' := .lst []) (mg_ok h) rfl).trans (ne_nil _ _))
abbrev dC : Mo Bool := fAnd (fT (f2 pNe (fMg .great (fName 0)) (fLet (fLst (rt []))))) (fT (f2 pEq (fIxD (fMg .great (fName 0)) (rt (.int 0))) (rt (.int 0))))
abbrev dB : Ms := fMp .great 0 (fSl (fMg .great (fName 0)) (fPart (rt (.int 1))) (rt none))
theorem slL_ok {e : Mo D} {l u : Mo (Option Int)} {lo hi : Option Int} {cs : List D} {g g1 g2 g3 : Sg} (h1 : e g = some (.ok (.lst cs), g1)) (h2 : l g1 = some (.ok lo, g2)) (h3 : u g2 = some (.ok hi, g3)) : fSl e l u g = some (.ok (.lst (cutD cs lo hi)), g3) := by
  unfold fSl; rw [bd_ok h1, bd_ok h2, bd_ok h3]; rfl
theorem cut_tail (x : Int) (xs : List Int) : cutD ((x :: xs).map D.int) (some 1) none = xs.map D.int := by
  unfold DE.cutD
  have e1 : HT.sIx ((x :: xs).map D.int).length 0 (some 1) = 1 := by
    rw [show (1 : Int) = ((1 : Nat) : Int) from rfl, HT.sIx_nat]; simp
  have e2 : HT.sIx ((x :: xs).map D.int).length ((x :: xs).map D.int).length none = xs.length + 1 := by simp [HT.sIx]
  rw [e1, e2]
  simp; exact List.take_of_length_le (by simp)
theorem tail_ok {g : Sg} (h : g.r[0]? = some (.dat .m)) {x : Int} {xs : List Int} (hx : g.s.great = x :: xs) : fSl (fMg .great (fName 0)) (fPart (rt (.int 1))) (rt none) g = some (.ok (.lst (xs.map D.int)), g) := by
  have e := slL_ok (e := fMg .great (fName 0)) (l := fPart (rt (.int 1))) (u := rt none) (g := g) (g1 := g) (g2 := g) (g3 := g) (mg_ok h) rfl rfl
  rw [hx, cut_tail] at e
  exact e
theorem head_ok {g : Sg} (h : g.r[0]? = some (.dat .m)) {x : Int} {xs : List Int} (hx : g.s.great = x :: xs) : fIxD (fMg .great (fName 0)) (rt (.int 0)) g = some (.ok (.int x), g) :=
  ix_ok (i := ((0 : Nat) : Int)) (g1 := g) (mg_ok h) rfl rfl (by rw [hx]; exact (atI_nat _ 0 (by simp)).trans rfl)
theorem loop_draw (r : List Sl) (s : DS) (h0 : r[0]? = some (.dat .m)) : ∀ (k : Nat) (xs : List Int), xs.length < k → ∃ ys, ys.length ≤ xs.length ∧ whl dC dB k ⟨r, { s with great := xs }⟩ = some (.nx, ⟨r, { s with great := ys }⟩)
  | 0, xs, h => by omega
  | k + 1, xs, h => by
    have hg := hasGreat (g := ⟨r, { s with great := xs }⟩) h0
    cases xs with
    | nil =>
      refine ⟨[], Nat.le_refl _, ?_⟩
      show sb dC _ _ = _
      rw [sb_ok (and_f hg)]; rfl
    | cons x xs =>
      have e2 : fT (f2 pEq (fIxD (fMg .great (fName 0)) (rt (.int 0))) (rt (.int 0))) ⟨r, { s with great := x :: xs }⟩ = some (.ok (decide (x = 0)), ⟨r, { s with great := x :: xs }⟩) := t_ok ((f2_ok (head_ok h0 rfl) rfl).trans rfl)
      have e3 : dC ⟨r, { s with great := x :: xs }⟩ = some (.ok (decide (x = 0)), ⟨r, { s with great := x :: xs }⟩) := (and_t hg).trans e2
      by_cases c : x = 0
      · rw [decide_eq_true c] at e3
        obtain ⟨ys, hy, e⟩ := loop_draw r s h0 k xs (by simp at h; omega)
        refine ⟨ys, by simp; omega, ?_⟩
        show sb dC _ _ = _
        rw [sb_ok e3]
        have e4 : dB ⟨r, { s with great := x :: xs }⟩ = some (.nx, ⟨r, { s with great := xs }⟩) := mpG_ok (tail_ok h0 rfl) h0
        show (match dB ⟨r, { s with great := x :: xs }⟩ with | some (.nx, g2) => whl dC dB k g2 | some (.ct, g2) => whl dC dB k g2 | some (.brk, g2) => some (.nx, g2) | o => o) = _
        rw [e4]; exact e
      · rw [decide_eq_false c] at e3
        refine ⟨x :: xs, Nat.le_refl _, ?_⟩
        show sb dC _ _ = _
        rw [sb_ok e3]; rfl
structure Good (k : Nat) (s : DS) : Prop where
  lo : 0 ≤ s.turns
  hi : s.turns + k < 2 ^ 60
  gr : s.great.length ≤ 1000
theorem Good.mono {j k : Nat} {s : DS} (h : Good k s) (hj : j ≤ k) : Good j s := ⟨h.lo, by have := h.hi; omega, h.gr⟩
theorem mul_r {a b : Int} (g : Sg) (h : b.natAbs < 2 ^ 60) : pMul (.int a) (.int b) g = some (.ok (.int (a * b)), g) := by
  show (if (decide (a.natAbs < 2 ^ 60) || decide (b.natAbs < 2 ^ 60)) = true then rt (D.int (a * b)) else stop) g = _
  rw [decide_eq_true h, Bool.or_true, if_pos rfl]; rfl
theorem mod_r {a b : Int} (g : Sg) (h : 0 < b) : pMod (.int a) (.int b) g = some (.ok (.int (a % b)), g) := by
  show (if decide (0 < b) = true then rt (D.int (a % b)) else stop) g = _
  rw [decide_eq_true h, if_pos rfl]; rfl
theorem div_r {a b : Int} (g : Sg) (h : 0 < b) (h2 : b < 2 ^ 29) : pDiv (.int a) (.int b) g = some (.ok (.int (a / b)), g) := by
  show (if (decide (0 < b) && decide (b < 2 ^ 29)) = true then rt (D.int (a / b)) else stop) g = _
  rw [decide_eq_true h, decide_eq_true h2]; rfl
theorem int_ok {e : Mo D} {g g1 : Sg} {i : Int} (h : e g = some (.ok (.int i), g1)) : fInt e g = some (.ok (.int i), g1) := by unfold fInt; rw [bd_ok h]; rfl
theorem cat_ok {e f : Mo D} {g g1 g2 : Sg} {xs ys : List D} (h1 : e g = some (.ok (.lst xs), g1)) (h2 : f g1 = some (.ok (.lst ys), g2)) (hl : xs.length + ys.length ≤ 100000) : fCat e f g = some (.ok (xs ++ ys), g2) := by
  unfold fCat; rw [bd_ok h1, bd_ok h2]; dsimp only; rw [if_pos hl]; rfl
theorem draw_ok {n : Int} (hn : 1 ≤ n) (hn2 : n < 2 ^ 29) {k : Nat} {s : DS} (h : Good (k + 1) s) : ∃ r s', m__law_draw [.m, .int n] s = some (.ok (.int r), s') ∧ 0 ≤ r ∧ r < n ∧ Good k s' := by
  obtain ⟨ys, hy, e1⟩ := loop_draw [.dat .m, .dat (.int n), .no, .no] s rfl (s.great.length + 1) s.great (Nat.lt_succ_self _)
  have e1 : fWhl (fun g => g.s.great.length + 1) dC dB ⟨[.dat .m, .dat (.int n), .no, .no], s⟩ = some (.nx, ⟨[.dat .m, .dat (.int n), .no, .no], { s with great := ys }⟩) := e1
  have hl : ys.length ≤ 1000 := Nat.le_trans hy h.gr
  have hg := hasGreat (g := ⟨[.dat .m, .dat (.int n), .no, .no], { s with great := ys }⟩) rfl
  cases ys with
  | cons x xs =>
    refine ⟨x % n, { s with great := x / n :: xs }, ?_, Int.emod_nonneg _ (by omega), Int.emod_lt_of_pos _ (by omega), ⟨h.lo, by have := h.hi; show s.turns + k < _; omega, by simpa using hl⟩⟩
    refine runB_ret (r := [.dat .m, .dat (.int n), .no, .dat (.int x)]) rfl ?_
    unfold fb__law_draw
    refine (seq_nx e1).trans ?_
    refine seq_ret ((if_t hg).trans ?_)
    refine (seq_nx (g1 := ⟨[.dat .m, .dat (.int n), .no, .dat (.int x)], { s with great := x :: xs }⟩) (set_ok (head_ok rfl rfl))).trans ?_
    have e2 : fMp .great 0 (fLet (fCat (fLet (fLst (fCons (f2 pDiv (fName 3) (fName 1)) (rt [])))) (fSl (fMg .great (fName 0)) (fPart (rt (.int 1))) (rt none)))) ⟨[.dat .m, .dat (.int n), .no, .dat (.int x)], { s with great := x :: xs }⟩ = some (.nx, ⟨[.dat .m, .dat (.int n), .no, .dat (.int x)], { s with great := x / n :: xs }⟩) :=
      mpG_ok (xs := x / n :: xs) (g1 := ⟨[.dat .m, .dat (.int n), .no, .dat (.int x)], { s with great := x :: xs }⟩) (let_ok (cat_ok (xs := [.int (x / n)]) (let_ok (lst_ok (cons_ok ((f2_ok (name_ok rfl) (name_ok rfl)).trans (div_r _ (by omega) hn2)) rfl) (by show 1 ≤ 100000; decide))) (tail_ok rfl rfl) (by simp at hl ⊢; omega))) rfl
    rw [seq_nx e2]
    exact ret_ok ((f2_ok (int_ok (name_ok rfl)) (name_ok rfl)).trans (mod_r _ (by omega)))
  | nil =>
    have ht : s.turns + 1 < 2 ^ 60 := by have := h.hi; omega
    have hlo := h.lo
    obtain ⟨t, ht'⟩ : ∃ t, t = s.turns + 1 := ⟨_, rfl⟩
    obtain ⟨m1, hm1⟩ : ∃ m1, m1 = (s.seed * 48271 + t * t * 16807 + t) % 2147483647 := ⟨_, rfl⟩
    obtain ⟨m2, hm2⟩ : ∃ m2, m2 = (m1 * 69621 + 12345) % 2147483629 := ⟨_, rfl⟩
    refine ⟨(m2 * 40014 + t) % 2147483563 / 64 % n, { s with great := [], turns := t }, ?_, Int.emod_nonneg _ (by omega), Int.emod_lt_of_pos _ (by omega), ⟨by show 0 ≤ t; omega, by have := h.hi; show t + k < _; omega, by simp⟩⟩
    have nt : t.natAbs < 2 ^ 60 := by omega
    refine runB_ret (r := [.dat .m, .dat (.int n), .dat (.int m2), .no]) rfl ?_
    unfold fb__law_draw
    refine (seq_nx e1).trans ?_
    refine (seq_nx (if_f hg)).trans ?_
    have e2 : fMp .turns 0 (f2 pAdd (fMg .turns (fName 0)) (rt (.int 1))) ⟨[.dat .m, .dat (.int n), .no, .no], { s with great := [] }⟩ = some (.nx, ⟨[.dat .m, .dat (.int n), .no, .no], { s with great := [], turns := t }⟩) := by
      rw [ht']
      exact mpT_ok (g1 := ⟨[.dat .m, .dat (.int n), .no, .no], { s with great := [] }⟩) ((f2_ok (mt_ok rfl) rfl).trans rfl) rfl
    refine (seq_nx e2).trans ?_
    have tt : ∀ (r : List Sl) (h0 : r[0]? = some (.dat .m)), fMg .turns (fName 0) ⟨r, { s with great := [], turns := t }⟩ = some (.ok (.int t), ⟨r, { s with great := [], turns := t }⟩) := fun r h0 => mt_ok h0
    have e3 : fSet 2 (f2 pMod (fInt (f2 pAdd (f2 pAdd (f2 pMul (fMg .seed (fName 0)) (rt (.int 48271))) (f2 pMul (f2 pMul (fMg .turns (fName 0)) (fMg .turns (fName 0))) (rt (.int 16807)))) (fMg .turns (fName 0)))) (rt (.int 2147483647))) ⟨[.dat .m, .dat (.int n), .no, .no], { s with great := [], turns := t }⟩ = some (.nx, ⟨[.dat .m, .dat (.int n), .dat (.int m1), .no], { s with great := [], turns := t }⟩) := by
      rw [hm1]
      refine set_ok (g1 := ⟨[.dat .m, .dat (.int n), .no, .no], { s with great := [], turns := t }⟩) ?_
      refine (f2_ok (int_ok (i := s.seed * 48271 + t * t * 16807 + t) (g1 := ⟨[.dat .m, .dat (.int n), .no, .no], { s with great := [], turns := t }⟩) ?_) rfl).trans (mod_r _ (by decide))
      refine (f2_ok (d := .int (s.seed * 48271 + t * t * 16807)) (g1 := ⟨[.dat .m, .dat (.int n), .no, .no], { s with great := [], turns := t }⟩) ?_ (tt _ rfl)).trans rfl
      refine (f2_ok (d := .int (s.seed * 48271)) (d' := .int (t * t * 16807)) (g1 := ⟨[.dat .m, .dat (.int n), .no, .no], { s with great := [], turns := t }⟩) (g2 := ⟨[.dat .m, .dat (.int n), .no, .no], { s with great := [], turns := t }⟩) ?_ ?_).trans rfl
      · exact (f2_ok (ms_ok rfl) rfl).trans (mul_r _ (by decide))
      · refine (f2_ok (d := .int (t * t)) (g1 := ⟨[.dat .m, .dat (.int n), .no, .no], { s with great := [], turns := t }⟩) ?_ rfl).trans (mul_r _ (by decide))
        exact (f2_ok (tt _ rfl) (tt _ rfl)).trans (mul_r _ nt)
    refine (seq_nx e3).trans ?_
    have e4 : fSet 2 (f2 pMod (fInt (f2 pAdd (f2 pMul (fName 2) (rt (.int 69621))) (rt (.int 12345)))) (rt (.int 2147483629))) ⟨[.dat .m, .dat (.int n), .dat (.int m1), .no], { s with great := [], turns := t }⟩ = some (.nx, ⟨[.dat .m, .dat (.int n), .dat (.int m2), .no], { s with great := [], turns := t }⟩) := by
      rw [hm2]
      refine set_ok (g1 := ⟨[.dat .m, .dat (.int n), .dat (.int m1), .no], { s with great := [], turns := t }⟩) ?_
      refine (f2_ok (int_ok (i := m1 * 69621 + 12345) (g1 := ⟨[.dat .m, .dat (.int n), .dat (.int m1), .no], { s with great := [], turns := t }⟩) ?_) rfl).trans (mod_r _ (by decide))
      refine (f2_ok (d := .int (m1 * 69621)) (g1 := ⟨[.dat .m, .dat (.int n), .dat (.int m1), .no], { s with great := [], turns := t }⟩) ((f2_ok (name_ok rfl) rfl).trans (mul_r _ (by decide))) rfl).trans rfl
    refine (seq_nx e4).trans (ret_ok ?_)
    refine (f2_ok (d := .int ((m2 * 40014 + t) % 2147483563 / 64)) (g1 := ⟨[.dat .m, .dat (.int n), .dat (.int m2), .no], { s with great := [], turns := t }⟩) ?_ (name_ok rfl)).trans (mod_r _ (by omega))
    refine (f2_ok (d := .int ((m2 * 40014 + t) % 2147483563)) (g1 := ⟨[.dat .m, .dat (.int n), .dat (.int m2), .no], { s with great := [], turns := t }⟩) ?_ rfl).trans (div_r _ (by decide) (by decide))
    refine (f2_ok (int_ok (i := m2 * 40014 + t) (g1 := ⟨[.dat .m, .dat (.int n), .dat (.int m2), .no], { s with great := [], turns := t }⟩) ?_) rfl).trans (mod_r _ (by decide))
    exact (f2_ok (d := .int (m2 * 40014)) (g1 := ⟨[.dat .m, .dat (.int n), .dat (.int m2), .no], { s with great := [], turns := t }⟩) ((f2_ok (name_ok rfl) rfl).trans (mul_r _ (by decide))) (tt _ rfl)).trans rfl
/-- one of some -/
theorem of_ok {xs : List D} (h1 : 1 ≤ xs.length) (h2 : xs.length < 2 ^ 29) {k : Nat} {s : DS} (h : Good (k + 1) s) : ∃ d s', m__law_of [.m, .lst xs] s = some (.ok d, s') ∧ d ∈ xs ∧ Good k s' := by
  obtain ⟨r, s', e, lo, hi, g⟩ := draw_ok (n := (xs.length : Int)) (by omega) (by omega) h
  obtain ⟨j, rfl⟩ : ∃ j : Nat, r = (j : Int) := ⟨r.toNat, by omega⟩
  have hj : j < xs.length := by omega
  refine ⟨xs[j], s', ?_, List.getElem_mem hj, g⟩
  refine runB_ret (r := [.dat .m, .dat (.lst xs)]) rfl (ret_ok ?_)
  exact ix_ok (g1 := ⟨[.dat .m, .dat (.lst xs)], s⟩) (g2 := ⟨[.dat .m, .dat (.lst xs)], s'⟩) (name_ok rfl) (call_ok (ds := [.m, .int (xs.length : Int)]) (g1 := ⟨[.dat .m, .dat (.lst xs)], s⟩) (cons_ok (name_ok rfl) (cons_ok (len_ok (peek_l rfl)) rfl)) rfl e) rfl ((atI_nat xs j hj).trans (List.getElem?_eq_getElem hj))
end S
namespace S
open PyProof.Rows PySem.Spec PySem L2 DE
/-! ### a machine is drawn -/
theorem map_erase {α β : Type} (f : α → β) : ∀ (l : List α) (j : Nat), (l.map f).eraseIdx j = (l.eraseIdx j).map f
  | [], _ => by simp
  | a :: l, 0 => by simp
  | a :: l, j + 1 => by simp [map_erase f l j]
theorem erase_perm {α : Type} : ∀ (l : List α) (j : Nat) (h : j < l.length), (l[j] :: l.eraseIdx j).Perm l
  | [], _, h => by simp at h
  | a :: l, 0, _ => List.Perm.refl _
  | a :: l, j + 1, h => by
    have ih := erase_perm l j (by simpa using h)
    simp only [List.getElem_cons_succ, List.eraseIdx_cons_succ]
    exact (List.Perm.swap _ _ _).trans (List.Perm.cons a ih)
theorem popAt_ok {i : Nat} {e : Mo D} {g g1 : Sg} {xs0 xs : List D} {j : Nat} {y : D} (h0 : g.r[i]? = some (.own xs0)) (h : e g = some (.ok (.int (j : Int)), g1)) (h1 : g1.r[i]? = some (.own xs)) (hj : j < 100000) (hy : xs[j]? = some y) :
    fPopAt i e g = some (.ok y, ⟨g1.r.set i (.own (xs.eraseIdx j)), g1.s⟩) := by
  unfold fPopAt
  rw [h0]
  show bd e _ g = _
  rw [bd_ok h]
  simp only [h1]
  rw [if_pos (by omega), Int.toNat_natCast, hy]
theorem app_ok {i : Nat} {e : Mo D} {g g1 : Sg} {xs0 xs : List D} {d : D} (h0 : g.r[i]? = some (.own xs0)) (h : e g = some (.ok d, g1)) (h1 : g1.r[i]? = some (.own xs)) (hl : xs.length < 100000) :
    fApp i e g = some (.ok .non, ⟨g1.r.set i (.own (xs ++ [d])), g1.s⟩) := by
  unfold fApp
  rw [h0]
  show bd e _ g = _
  rw [bd_ok h]
  simp only [h1]
  rw [if_pos hl]
abbrev mB : Ms := fExp (fApp 5 (fPopAt 6 (fCallN 2 m__law_draw (fCons (fName 0) (fCons (fLen (fPeek 6)) (rt []))))))
def mS (A B : Int) (x : Sl) (b : Sl) (ws so : List Str) : List Sl := [.dat .m, .dat (.int A), .dat (.int B), x, b, .own (ws.map .str), .own (so.map .str)]
theorem mach_loop {A B : Int} : ∀ (is : List D) (k : Nat) (x : Sl) (ws so : List Str) (s : DS), is.length + 1 ≤ so.length → so.length ≤ 8 → ws.length ≤ 1000 → (ws ++ so).Perm FIL → Good (k + is.length) s →
    ∃ x' ws' so' s', loop (gN 3) mB is ⟨mS A B x .no ws so, s⟩ = some (.nx, ⟨mS A B x' .no ws' so', s'⟩) ∧ ws'.length = ws.length + is.length ∧ (ws' ++ so').Perm FIL ∧ Good k s'
  | [], k, x, ws, so, s, _, _, _, p, g => ⟨x, ws, so, s, rfl, rfl, p, g⟩
  | d :: is, k, x, ws, so, s, h1, h8, hw, p, g => by
    obtain ⟨r, s1, e, lo, hi, g1⟩ := draw_ok (n := (so.length : Int)) (k := k + is.length) (by simp at h1; omega) (by omega) (by rw [Nat.add_assoc]; exact g)
    obtain ⟨j, rfl⟩ : ∃ j : Nat, r = (j : Int) := ⟨r.toNat, by omega⟩
    have hj : j < so.length := by omega
    have e1 : fCallN 2 m__law_draw (fCons (fName 0) (fCons (fLen (fPeek 6)) (rt []))) ⟨mS A B (.dat d) .no ws so, s⟩ = some (.ok (.int (j : Int)), ⟨mS A B (.dat d) .no ws so, s1⟩) :=
      call_ok (ds := [.m, .int (so.length : Int)]) (g1 := ⟨mS A B (.dat d) .no ws so, s⟩) (cons_ok (name_ok rfl) (cons_ok ((len_ok (peek_o (ds := so.map .str) rfl)).trans (by rw [List.length_map])) rfl)) rfl e
    have e2 := popAt_ok (i := 6) (g := ⟨mS A B (.dat d) .no ws so, s⟩) rfl e1 rfl (by omega) (y := .str so[j]) (by rw [List.getElem?_map, List.getElem?_eq_getElem hj]; rfl)
    have e3 := app_ok (i := 5) (g := ⟨mS A B (.dat d) .no ws so, s⟩) rfl e2 rfl (by rw [List.length_map]; omega)
    have e4 : mB ⟨mS A B (.dat d) .no ws so, s⟩ = some (.nx, ⟨mS A B (.dat d) .no (ws ++ [so[j]]) (so.eraseIdx j), s1⟩) := by
      refine (exp_ok e3).trans ?_
      have a : (so.map D.str).eraseIdx j = (so.eraseIdx j).map .str := map_erase D.str so j
      rw [a]
      unfold mS
      simp
    have hp : ((ws ++ [so[j]]) ++ so.eraseIdx j).Perm FIL := by
      refine List.Perm.trans ?_ p
      rw [List.append_assoc]
      exact List.Perm.append_left ws (erase_perm so j hj)
    have le : (so.eraseIdx j).length = so.length - 1 := by rw [List.length_eraseIdx]; simp [hj]
    obtain ⟨x', ws', so', s', f1, f2, f3, f4⟩ := mach_loop is k (.dat d) (ws ++ [so[j]]) (so.eraseIdx j) s1 (by rw [le]; simp at h1; omega) (by rw [le]; omega) (by simp at h1 ⊢; have := p.length_eq; simp at this; have : FIL.length = 8 := rfl; omega) hp g1
    refine ⟨x', ws', so', s', ?_, ?_, f3, f4⟩
    · rw [loop_cons (g1 := ⟨mS A B (.dat d) .no ws so, s⟩) rfl e4]; exact f1
    · rw [f2]; simp; omega
theorem fil_nd : FIL.Nodup := by decide
theorem machine_ok {A B : Int} (hA : 1 ≤ A) (hA2 : A ≤ 1000) (hB : 1 ≤ B) (hB2 : B ≤ 6) {k : Nat} {s : DS} (g : Good (k + B.toNat + 3) s) : ∃ (v : Int) (ws : List Str) (e b : Str) (s' : DS), m__law_machine [.m, .int A, .int B] s = some (.ok (.tup [.int v, .tup (csOf ws e), .str b]), s') ∧ 1 ≤ v ∧ v ≤ A ∧ Crit ws e ∧ RET_.contains b = true ∧ Good k s' := by
  obtain ⟨n, s1, d1, lo, hi, g1⟩ := draw_ok (n := B) (k := k + B.toNat + 2) (by omega) (by omega) g
  obtain ⟨j, rfl⟩ : ∃ j : Nat, n = (j : Int) := ⟨n.toNat, by omega⟩
  have lj : (intsD (j : Int)).length = j := by unfold intsD; simp
  obtain ⟨x, ws, so, s2, e2, l2, p2, g2⟩ := mach_loop (intsD (j : Int)) (k + 3) .no [] FIL s1 (by rw [lj]; have : FIL.length = 8 := rfl; omega) (by decide) (by simp) (List.Perm.refl _) (g1.mono (by rw [lj]; omega))
  obtain ⟨de, s3, e3, m3, g3⟩ := of_ok (xs := END_.map D.str) (k := k + 2) (by decide) (by decide) g2
  obtain ⟨e, he, rfl⟩ := List.mem_map.mp m3
  obtain ⟨db, s4, e4, m4, g4⟩ := of_ok (xs := RET_.map D.str) (k := k + 1) (by decide) (by decide) g3
  obtain ⟨b, hb, rfl⟩ := List.mem_map.mp m4
  obtain ⟨v, s5, d5, lo5, hi5, g5⟩ := draw_ok (n := A) (k := k) (by omega) (by omega) g4
  have nd : (ws ++ so).Nodup := p2.nodup_iff.mpr fil_nd
  rw [lj] at l2
  have l2 : ws.length = j := by simpa using l2
  refine ⟨1 + v, ws, e, b, s5, ?_, by omega, by omega, ⟨by omega, (List.nodup_append.mp nd).1, fun w hw => ?_, ?_⟩, ?_, g5⟩
  · refine runB_ret (r := mS A B x (.dat (.str b)) (ws ++ [e]) so) rfl ?_
    unfold fb__law_machine
    refine (seq_nx (g1 := ⟨mS A B .no .no [] FIL, s⟩) (by kernel_rfl)).trans ?_
    have f1 : fCons (fCallN 2 m__law_draw (fCons (fName 0) (fCons (fName 2) (rt [])))) (rt []) ⟨mS A B .no .no [] FIL, s⟩ = some (.ok [.int (j : Int)], ⟨mS A B .no .no [] FIL, s1⟩) :=
      cons_ok (call_ok (ds := [.m, .int B]) (g1 := ⟨mS A B .no .no [] FIL, s⟩) (cons_ok (name_ok rfl) (cons_ok (name_ok rfl) rfl)) rfl d1) rfl
    refine (seq_nx ((forR_ok f1 (by omega)).trans e2)).trans ?_
    have f2 : fExp (fApp 5 (fCallN 2 m__law_of (fCons (fName 0) (fCons (fLet (fLst (fCons (rt (.str "eldest")) (fCons (rt (.str "latest")) (fCons (rt (.str "lowest")) (fCons (rt (.str "highest")) (fCons (rt (.str "refuse")) (rt [])))))))) (rt []))))) ⟨mS A B x .no ws so, s2⟩ = some (.nx, ⟨mS A B x .no (ws ++ [e]) so, s3⟩) := by
      refine (exp_ok (app_ok (i := 5) (g := ⟨mS A B x .no ws so, s2⟩) rfl (call_ok (ds := [.m, .lst (END_.map .str)]) (g1 := ⟨mS A B x .no ws so, s2⟩) (cons_ok (name_ok rfl) rfl) rfl e3) rfl (by rw [List.length_map]; omega))).trans ?_
      unfold mS
      simp
    refine (seq_nx f2).trans ?_
    have f3 : fSet 4 (fCallN 2 m__law_of (fCons (fName 0) (fCons (fLet (fLst (fCons (rt (.str "none")) (fCons (rt (.str "eldest")) (fCons (rt (.str "latest")) (fCons (rt (.str "lowest")) (fCons (rt (.str "highest")) (rt [])))))))) (rt [])))) ⟨mS A B x .no (ws ++ [e]) so, s3⟩ = some (.nx, ⟨mS A B x (.dat (.str b)) (ws ++ [e]) so, s4⟩) :=
      set_ok (g1 := ⟨mS A B x .no (ws ++ [e]) so, s4⟩) (call_ok (ds := [.m, .lst (RET_.map .str)]) (g1 := ⟨mS A B x .no (ws ++ [e]) so, s3⟩) (cons_ok (name_ok rfl) rfl) rfl e4)
    refine (seq_nx f3).trans (ret_ok ?_)
    refine tup_ok (ds := [.int (1 + v), .tup (csOf ws e), .str b]) ?_ (by show 3 ≤ 100000; decide)
    refine cons_ok (g1 := ⟨mS A B x (.dat (.str b)) (ws ++ [e]) so, s5⟩) ((f2_ok (g2 := ⟨mS A B x (.dat (.str b)) (ws ++ [e]) so, s5⟩) rfl (call_ok (ds := [.m, .int A]) (g1 := ⟨mS A B x (.dat (.str b)) (ws ++ [e]) so, s4⟩) (cons_ok (name_ok rfl) (cons_ok (name_ok rfl) rfl)) rfl d5)).trans rfl) ?_
    refine cons_ok (g1 := ⟨mS A B x (.dat (.str b)) (ws ++ [e]) so, s5⟩) ?_ (cons_ok (name_ok rfl) rfl)
    unfold fTupOf
    rw [bd_ok (peek_o (ds := (ws ++ [e]).map .str) rfl)]; rfl
  · have : w ∈ FIL := p2.mem_iff.mp (List.mem_append_left _ hw)
    simpa using this
  · simpa using he
  · simpa using hb
end S
namespace S
open PyProof.Rows PySem.Spec PySem L2 DE
/-! ### the law's own helpers on rows -/
theorem row_len (r : List Pr) : (rowD r).length = r.length := List.length_map _
theorem loud_ok {a : D} {r : List Pr} (h : aSeq a = some (rowD r)) (hl : r.length ≤ 1000) (s : DS) : m__law_loud [a] s = some (.ok (.lst (rowD (r.filter loudP))), s) := by
  refine runB_ret (r := [.dat a, .no]) rfl (ret_ok (let_ok ?_))
  have c := compL_on (vs := [1]) (t := gN 1) (c := fT (f2 pNe (fIxD (fName 1) (rt (.int 1))) (rt (.str "waits")))) (e := fName 1) (E := prD) (F := prD) (P := loudP) (S := [.dat a, .no]) (s := s) r fun p _ =>
    ⟨⟨[.dat a, .dat (prD p)], s⟩, ⟨[.dat a, .dat (prD p)], s⟩, rfl, ne_str (pr1 rfl) rfl, fun _ => ⟨⟨[.dat a, .dat (prD p)], s⟩, name_ok rfl, rfl, rfl⟩, fun _ => ⟨rfl, rfl⟩⟩
  exact comp_ok (g1 := ⟨[.dat a, .no], s⟩) (name_ok rfl) h (by rw [row_len]; omega) c
theorem sound_ok {p a : D} {r : List Pr} (h : aSeq a = some (rowD r)) (hl : r.length ≤ 1000) (s : DS) : m__law_sound [.tup [p, a]] s = some (.ok (.tup ((sortI (keysOf (r.filter loudP))).map .int)), s) := by
  refine runB_ret (r := [.dat (.tup [p, a]), .no]) rfl (ret_ok (tupOf_ok (sorted_ok (let_ok ?_))))
  have c1 : fCallN 1 m__law_loud (fCons (fIxD (fName 0) (rt (.int 1))) (rt [])) ⟨[.dat (.tup [p, a]), .no], s⟩ = some (.ok (.lst (rowD (r.filter loudP))), ⟨[.dat (.tup [p, a]), .no], s⟩) :=
    call_ok (ds := [a]) (g1 := ⟨[.dat (.tup [p, a]), .no], s⟩) (cons_ok (ix_ok (name_ok rfl) rfl rfl rfl) rfl) rfl (loud_ok h hl s)
  have c := compL_on (vs := [1]) (t := gN 1) (c := rt true) (e := fIxD (fName 1) (rt (.int 0))) (E := prD) (F := fun p : Pr => D.int p.1) (P := fun _ => true) (S := [.dat (.tup [p, a]), .no]) (s := s) (r.filter loudP) fun q _ =>
    ⟨⟨[.dat (.tup [p, a]), .dat (prD q)], s⟩, ⟨[.dat (.tup [p, a]), .dat (prD q)], s⟩, rfl, rfl, fun _ => ⟨⟨[.dat (.tup [p, a]), .dat (prD q)], s⟩, pr0 rfl, rfl, rfl⟩, fun z => by cases z⟩
  rw [List.filter_eq_self.mpr fun _ _ => rfl] at c
  have := comp_ok (g1 := ⟨[.dat (.tup [p, a]), .no], s⟩) c1 rfl (by have := List.length_filter_le loudP r; rw [row_len]; omega) c
  rw [show (r.filter loudP).map (fun p : Pr => D.int p.1) = (keysOf (r.filter loudP)).map D.int by simp] at this
  exact this
def endL (w : Str) (hs : List Int) : List Int := if w = "eldest" then hs.take 1 else if w = "latest" then hs.drop (hs.length - 1) else if w = "lowest" then [minL hs] else if w = "highest" then [maxL hs] else []
theorem heights (i j : Nat) {S S1 : List Sl} {s : DS} {r : List Pr} (hS : S[i]? = some (.dat (.lst (rowD r)))) (hl : r.length ≤ 1000) (hw : wipeR S [j] = S) (hj : ∀ p : Pr, (S.set j (.dat (prD p)))[j]? = some (.dat (prD p))) (hb : ∀ p : Pr, wipeR (S.set j (.dat (prD p))) [j] = S) :
    fComp [j] (fName i) (gN j) (rt true) (fIxD (fName j) (rt (.int 0))) ⟨S, s⟩ = some (.ok ((keysOf r).map .int), ⟨S, s⟩) := by
  have c := compL_on (vs := [j]) (t := gN j) (c := rt true) (e := fIxD (fName j) (rt (.int 0))) (E := prD) (F := fun p : Pr => D.int p.1) (P := fun _ => true) (S := S) (s := s) r fun q _ =>
    ⟨⟨S.set j (.dat (prD q)), s⟩, ⟨S.set j (.dat (prD q)), s⟩, rfl, rfl, fun _ => ⟨⟨S.set j (.dat (prD q)), s⟩, pr0 (hj q), hb q, rfl⟩, fun z => by cases z⟩
  rw [List.filter_eq_self.mpr fun _ _ => rfl] at c
  have k := comp_ok (vs := [j]) (fi := fName i) (t := gN j) (c := rt true) (e := fIxD (fName j) (rt (.int 0))) (g := ⟨S, s⟩) (g1 := ⟨S, s⟩) (g2 := ⟨S, s⟩) (ds := rowD r) (name_ok hS) rfl (by rw [row_len]; omega) (by show compL _ _ _ _ _ ⟨wipeR S [j], s⟩ = _; rw [hw]; exact c)
  rw [show r.map (fun p : Pr => D.int p.1) = (keysOf r).map D.int by simp] at k
  exact k
theorem end_ok (w : Str) {r : List Pr} (hr : r ≠ []) (hl : r.length ≤ 1000) (s : DS) : m__law_end [.str w, .lst (rowD r)] s = some (.ok (.lst ((endL w (keysOf r)).map .int)), s) := by
  obtain ⟨hs, ehs⟩ : ∃ hs, hs = keysOf r := ⟨_, rfl⟩
  have hne : hs ≠ [] := by rw [ehs]; simpa using hr
  have c := heights 1 2 (S := [.dat (.str w), .dat (.lst (rowD r)), .no, .no, .no]) (S1 := []) (s := s) (r := r) rfl hl rfl (fun _ => rfl) (fun _ => rfl)
  rw [← ehs] at c ⊢
  obtain ⟨g, hg⟩ : ∃ g : Sg, g = ⟨[.dat (.str w), .dat (.lst (rowD r)), .no, .dat (.lst (hs.map .int)), .no], s⟩ := ⟨_, rfl⟩
  obtain ⟨g0, hg0⟩ : ∃ g : Sg, g = ⟨[.dat (.str w), .dat (.lst (rowD r)), .no, .own (hs.map .int), .no], s⟩ := ⟨_, rfl⟩
  have n0 : fName 3 g0 = some (.ok (.lst (hs.map .int)), g) := by rw [hg0, hg]; rfl
  have n3 : fName 3 g = some (.ok (.lst (hs.map .int)), g) := by rw [hg]; exact name_ok rfl
  have d1 : fSl (fName 3) (rt none) (fPart (rt (.int 1))) g0 = some (.ok (.lst ((hs.take 1).map .int)), g) := by
    unfold fSl
    rw [bd_ok n0, bd_ok (show rt none g = some (.ok none, g) from rfl), bd_ok (show fPart (rt (.int 1)) g = some (.ok (some 1), g) from rfl)]
    dsimp only
    rw [cut_first, ← List.map_take]; rfl
  have d2 : fSl (fName 3) (fPart (fNeg (rt (.int 1)))) (rt none) g = some (.ok (.lst ((hs.drop (hs.length - 1)).map .int)), g) := by
    unfold fSl
    rw [bd_ok n3, bd_ok (show fPart (fNeg (rt (.int 1))) g = some (.ok (some (-1)), g) from rfl), bd_ok (show rt none g = some (.ok none, g) from rfl)]
    dsimp only
    rw [cut_last, List.length_map, ← List.map_drop]; rfl
  have d3 : fLet (fLst (fCons (fMin (fName 3)) (rt []))) g = some (.ok (.lst [.int (minL hs)]), g) := let_ok (lst_ok (ds := [.int (minL hs)]) (cons_ok (min_ok n3 hne) rfl) (by show 1 ≤ 100000; decide))
  have d4 : fLet (fLst (fCons (fMax (fName 3)) (rt []))) g = some (.ok (.lst [.int (maxL hs)]), g) := let_ok (lst_ok (ds := [.int (maxL hs)]) (cons_ok (max_ok n3 hne) rfl) (by show 1 ≤ 100000; decide))
  obtain ⟨ps, eps⟩ : ∃ ps : List (Key × D), ps = ([(Sum.inr "eldest", .lst ((hs.take 1).map .int)), (Sum.inr "latest", .lst ((hs.drop (hs.length - 1)).map .int)), (Sum.inr "lowest", .lst [.int (minL hs)]), (Sum.inr "highest", .lst [.int (maxL hs)])] : List (Key × D)) := ⟨_, rfl⟩
  have dd : fDisp [("eldest", fSl (fName 3) (rt none) (fPart (rt (.int 1)))), ("latest", fSl (fName 3) (fPart (fNeg (rt (.int 1)))) (rt none)), ("lowest", fLet (fLst (fCons (fMin (fName 3)) (rt [])))), ("highest", fLet (fLst (fCons (fMax (fName 3)) (rt []))))] g0 = some (.ok (.dic ps), g) := by
    unfold fDisp fPairs fPairs fPairs fPairs fPairs
    simp only [bd, d1, d2, d3, d4, rt]
    rw [eps]; rfl
  have dv : valD ps (Sum.inr w) = if w = "eldest" then some (D.lst ((hs.take 1).map .int)) else if w = "latest" then some (D.lst ((hs.drop (hs.length - 1)).map .int)) else if w = "lowest" then some (D.lst [.int (minL hs)]) else if w = "highest" then some (D.lst [.int (maxL hs)]) else none := by
    rw [eps]
    unfold valD
    by_cases c1 : w = "eldest"
    · subst c1; rfl
    by_cases c2 : w = "latest"
    · subst c2; rfl
    by_cases c3 : w = "lowest"
    · subst c3; rfl
    by_cases c4 : w = "highest"
    · subst c4; rfl
    rw [if_neg c1, if_neg c2, if_neg c3, if_neg c4]
    have n1 : ¬ ("eldest" : Str) = w := fun z => c1 z.symm
    have n2 : ¬ ("latest" : Str) = w := fun z => c2 z.symm
    have n3 : ¬ ("lowest" : Str) = w := fun z => c3 z.symm
    have n4 : ¬ ("highest" : Str) = w := fun z => c4 z.symm
    simp [List.find?_cons, n1, n2, n3, n4]
  refine runB_ret (r := [.dat (.str w), .dat (.lst (rowD r)), .no, .dat (.lst (hs.map .int)), .dat (.dic ps)]) rfl ?_
  unfold fb__law_end
  refine (seq_nx (g1 := g0) ((setO_ok c).trans (by rw [hg0]; rfl))).trans ?_
  refine (seq_nx (g1 := ⟨[.dat (.str w), .dat (.lst (rowD r)), .no, .dat (.lst (hs.map .int)), .dat (.dic ps)], s⟩) ((set_ok dd).trans (by rw [hg]; rfl))).trans ?_
  refine ret_ok ?_
  unfold fDget
  rw [bd_ok (name_ok rfl)]
  dsimp only
  rw [bd_ok (name_ok rfl), bd_ok (show fLet (fLst (rt [])) _ = some (.ok (.lst []), _) from rfl)]
  dsimp only
  rw [dv]
  unfold endL
  by_cases c1 : w = "eldest"
  · rw [if_pos c1, if_pos c1]; rfl
  rw [if_neg c1, if_neg c1]
  by_cases c2 : w = "latest"
  · rw [if_pos c2, if_pos c2]; rfl
  rw [if_neg c2, if_neg c2]
  by_cases c3 : w = "lowest"
  · rw [if_pos c3, if_pos c3]; rfl
  rw [if_neg c3, if_neg c3]
  by_cases c4 : w = "highest"
  · rw [if_pos c4, if_pos c4]; rfl
  rw [if_neg c4, if_neg c4]; rfl
end S
namespace S
open PyProof.Rows PySem.Spec PySem L2 DE
/-! ### the narrowing, the marks -/
def sparedL (w : Str) (ring : List Pr) : List Int := if w = "kept" then [] else if w = "notlow" then [minL (keysOf ring)] else if w = "nothigh" then [maxL (keysOf ring)] else [minL (keysOf ring), maxL (keysOf ring)]
def leftL (w : Str) (ring some : List Pr) (key : Int) : List Pr :=
  if w = "below" ∨ w = "under" then some.filter (fun p => decide (p.1 < key))
  else if w = "above" ∨ w = "over" then some.filter (fun p => decide (key < p.1))
  else some.filter (fun p => !(sparedL w ring).contains p.1 && (!decide (w = "kept") || decide (p.2 = "kept")))
theorem contains2 (a b w : Str) : ([a, b] : List Str).contains w = decide (w = a ∨ w = b) := by
  rw [Bool.eq_iff_iff]; simp
section
variable {S : List Sl} {s : DS} {r : List Pr} {i j : Nat}
/-- a comprehension that keeps some pairs -/
theorem keep (c : Mo Bool) (P : Pr → Bool) (hi : S[i]? = some (.dat (.lst (rowD r)))) (hl : r.length ≤ 1000) (hw : wipeR S [j] = S) (hj : ∀ p : Pr, (S.set j (.dat (prD p)))[j]? = some (.dat (prD p))) (hb : ∀ p : Pr, wipeR (S.set j (.dat (prD p))) [j] = S)
    (hc : ∀ p ∈ r, c ⟨S.set j (.dat (prD p)), s⟩ = some (.ok (P p), ⟨S.set j (.dat (prD p)), s⟩)) : fComp [j] (fName i) (gN j) c (fName j) ⟨S, s⟩ = some (.ok (rowD (r.filter P)), ⟨S, s⟩) := by
  have k := compL_on (vs := [j]) (t := gN j) (c := c) (e := fName j) (E := prD) (F := prD) (P := P) (S := S) (s := s) r fun q hq =>
    ⟨⟨S.set j (.dat (prD q)), s⟩, ⟨S.set j (.dat (prD q)), s⟩, rfl, hc q hq, fun _ => ⟨⟨S.set j (.dat (prD q)), s⟩, name_ok (hj q), hb q, rfl⟩, fun _ => ⟨hb q, rfl⟩⟩
  exact comp_ok (vs := [j]) (g := ⟨S, s⟩) (g1 := ⟨S, s⟩) (ds := rowD r) (name_ok hi) rfl (by rw [row_len]; omega) (by show compL _ _ _ _ _ ⟨wipeR S [j], s⟩ = _; rw [hw]; exact k)
end
theorem left_ok {w : Str} (hwf : w ∈ FIL) {ring some_ : List Pr} (hr : ring ≠ []) (h1 : ring.length ≤ 1000) (h2 : some_.length ≤ 1000) (key : Int) (s : DS) :
    m__law_left [.str w, .lst (rowD ring), .lst (rowD some_), .int key] s = some (.ok (.lst (rowD (leftL w ring some_ key))), s) := by
  have hne : keysOf ring ≠ [] := by simpa using hr
  obtain ⟨lo, elo⟩ : ∃ x, x = minL (keysOf ring) := ⟨_, rfl⟩
  obtain ⟨hi, ehi⟩ : ∃ x, x = maxL (keysOf ring) := ⟨_, rfl⟩
  obtain ⟨S0, hS0⟩ : ∃ S : List Sl, S = [.dat (.str w), .dat (.lst (rowD ring)), .dat (.lst (rowD some_)), .dat (.int key), .no, .no, .no, .no] := ⟨_, rfl⟩
  obtain ⟨S1, hS1⟩ : ∃ S : List Sl, S = [.dat (.str w), .dat (.lst (rowD ring)), .dat (.lst (rowD some_)), .dat (.int key), .no, .dat (.int lo), .dat (.int hi), .no] := ⟨_, rfl⟩
  have hs := heights 1 4 (S := S0) (S1 := []) (s := s) (r := ring) (by rw [hS0]; rfl) h1 (by rw [hS0]; rfl) (fun _ => by rw [hS0]; rfl) (fun _ => by rw [hS0]; rfl)
  have b1 : fParDD 5 6 (fMin (fLet (fComp [4] (fName 1) (gN 4) (rt true) (fIxD (fName 4) (rt (.int 0)))))) (fMax (fLet (fComp [4] (fName 1) (gN 4) (rt true) (fIxD (fName 4) (rt (.int 0)))))) ⟨S0, s⟩ = some (.nx, ⟨S1, s⟩) :=
    (parDD_ok (min_ok (let_ok hs) hne) (max_ok (let_ok hs) hne)).trans (by rw [hS0, hS1, elo, ehi]; rfl)
  have n0 : fName 0 ⟨S1, s⟩ = some (.ok (.str w), ⟨S1, s⟩) := by rw [hS1]; exact name_ok rfl
  have i1 : fT (f2 (pIn false) (fName 0) (fTup (fCons (rt (.str "below")) (fCons (rt (.str "under")) (rt []))))) ⟨S1, s⟩ = some (.ok (decide (w = "below" ∨ w = "under")), ⟨S1, s⟩) :=
    (in_strs (ws := ["below", "under"]) (neg := false) n0 rfl rfl).trans (by rw [contains2]; rfl)
  have i2 : fT (f2 (pIn false) (fName 0) (fTup (fCons (rt (.str "above")) (fCons (rt (.str "over")) (rt []))))) ⟨S1, s⟩ = some (.ok (decide (w = "above" ∨ w = "over")), ⟨S1, s⟩) :=
    (in_strs (ws := ["above", "over"]) (neg := false) n0 rfl rfl).trans (by rw [contains2]; rfl)
  have k1 := keep (S := S1) (s := s) (r := some_) (i := 2) (j := 4) (fT (f2 pLt (fIxD (fName 4) (rt (.int 0))) (fName 3))) (fun p => decide (p.1 < key)) (by rw [hS1]; rfl) h2 (by rw [hS1]; rfl) (fun _ => by rw [hS1]; rfl) (fun _ => by rw [hS1]; rfl)
    (fun p _ => lt_int (pr0 (p := p) (by rw [hS1]; rfl)) (name_ok (by rw [hS1]; rfl)))
  have k2 := keep (S := S1) (s := s) (r := some_) (i := 2) (j := 4) (fT (f2 pGt (fIxD (fName 4) (rt (.int 0))) (fName 3))) (fun p => decide (key < p.1)) (by rw [hS1]; rfl) h2 (by rw [hS1]; rfl) (fun _ => by rw [hS1]; rfl) (fun _ => by rw [hS1]; rfl)
    (fun p _ => gt_int (pr0 (p := p) (by rw [hS1]; rfl)) (name_ok (by rw [hS1]; rfl)))
  unfold leftL
  by_cases c1 : w = "below" ∨ w = "under"
  · rw [if_pos c1]
    rw [decide_eq_true c1] at i1
    refine runB_ret (r := S1) rfl ?_
    refine (congrArg (fun x => fb__law_left ⟨x, s⟩) (show _ = S0 by rw [hS0]; rfl)).trans ?_
    unfold fb__law_left
    refine (seq_nx b1).trans ?_
    exact seq_ret ((if_t i1).trans (ret_ok (let_ok k1)))
  rw [if_neg c1]
  rw [decide_eq_false c1] at i1
  by_cases c2 : w = "above" ∨ w = "over"
  · rw [if_pos c2]
    rw [decide_eq_true c2] at i2
    refine runB_ret (r := S1) rfl ?_
    refine (congrArg (fun x => fb__law_left ⟨x, s⟩) (show _ = S0 by rw [hS0]; rfl)).trans ?_
    unfold fb__law_left
    refine (seq_nx b1).trans ?_
    exact (seq_nx ((if_f i1).trans rfl)).trans (seq_ret ((if_t i2).trans (ret_ok (let_ok k2))))
  rw [if_neg c2]
  rw [decide_eq_false c2] at i2
  obtain ⟨sp, esp⟩ : ∃ x, x = sparedL w ring := ⟨_, rfl⟩
  obtain ⟨S2, hS2⟩ : ∃ S : List Sl, S = [.dat (.str w), .dat (.lst (rowD ring)), .dat (.lst (rowD some_)), .dat (.int key), .no, .dat (.int lo), .dat (.int hi), .dat (.lst (sp.map .int))] := ⟨_, rfl⟩
  have b2 : fSet 7 (fDix (fDisp [("kept", fLet (fLst (rt []))), ("notlow", fLet (fLst (fCons (fName 5) (rt [])))), ("nothigh", fLet (fLst (fCons (fName 6) (rt [])))), ("inner", fLet (fLst (fCons (fName 5) (fCons (fName 6) (rt [])))))]) (fName 0)) ⟨S1, s⟩ = some (.nx, ⟨S2, s⟩) := by
    have dd : fDisp [("kept", fLet (fLst (rt []))), ("notlow", fLet (fLst (fCons (fName 5) (rt [])))), ("nothigh", fLet (fLst (fCons (fName 6) (rt [])))), ("inner", fLet (fLst (fCons (fName 5) (fCons (fName 6) (rt [])))))] ⟨S1, s⟩ =
        some (.ok (.dic [(Sum.inr "kept", .lst []), (Sum.inr "notlow", .lst [.int lo]), (Sum.inr "nothigh", .lst [.int hi]), (Sum.inr "inner", .lst [.int lo, .int hi])]), ⟨S1, s⟩) := by rw [hS1]; kernel_rfl
    have hv : valD [(Sum.inr "kept", .lst []), (Sum.inr "notlow", .lst [.int lo]), (Sum.inr "nothigh", .lst [.int hi]), (Sum.inr "inner", .lst [.int lo, .int hi])] (Sum.inr w) = some (.lst (sp.map .int)) := by
      rw [esp]
      unfold FIL at hwf
      simp only [List.mem_cons, List.not_mem_nil, or_false] at hwf
      rcases hwf with rfl | rfl | rfl | rfl | rfl | rfl | rfl | rfl
      · rfl
      · rw [elo, ehi]; rfl
      · rw [elo]; rfl
      · rw [ehi]; rfl
      · exact absurd (.inl rfl) c1
      · exact absurd (.inl rfl) c2
      · exact absurd (.inr rfl) c1
      · exact absurd (.inr rfl) c2
    exact (set_ok (dixS dd n0 hv)).trans (by rw [hS1, hS2]; rfl)
  have k3 := keep (S := S2) (s := s) (r := some_) (i := 2) (j := 4) (fAnd (fT (f2 (pIn true) (fIxD (fName 4) (rt (.int 0))) (fName 7))) (fOr (fT (f2 pNe (fName 0) (rt (.str "kept")))) (fT (f2 pEq (fIxD (fName 4) (rt (.int 1))) (rt (.str "kept"))))))
    (fun p => !sp.contains p.1 && (!decide (w = "kept") || decide (p.2 = "kept"))) (by rw [hS2]; rfl) h2 (by rw [hS2]; rfl) (fun _ => by rw [hS2]; rfl) (fun _ => by rw [hS2]; rfl)
    (fun p _ => by
      have a1 := in_ints (neg := true) (xs := sp) (pr0 (p := p) (i := 4) (g := ⟨S2.set 4 (.dat (prD p)), s⟩) (by rw [hS2]; rfl)) (name_ok (i := 7) (d := .lst (sp.map .int)) (by rw [hS2]; rfl)) rfl
      have a2 := ne_str (f := rt (.str "kept")) (b := "kept") (name_ok (i := 0) (d := .str w) (g := ⟨S2.set 4 (.dat (prD p)), s⟩) (by rw [hS2]; rfl)) rfl
      have a3 := eq_str (f := rt (.str "kept")) (b := "kept") (pr1 (p := p) (i := 4) (g := ⟨S2.set 4 (.dat (prD p)), s⟩) (by rw [hS2]; rfl)) rfl
      cases h1 : sp.contains p.1 with
      | true => rw [h1] at a1; exact and_f a1
      | false =>
        rw [h1] at a1
        refine (and_t a1).trans ?_
        cases h2 : decide (w = "kept") with
        | false => rw [h2] at a2; exact or_t a2
        | true => rw [h2] at a2; exact (or_f a2).trans a3)
  refine runB_ret (r := S2) rfl ?_
  refine (congrArg (fun x => fb__law_left ⟨x, s⟩) (show _ = S0 by rw [hS0]; rfl)).trans ?_
  unfold fb__law_left
  refine (seq_nx b1).trans ?_
  refine (seq_nx ((if_f i1).trans rfl)).trans ((seq_nx ((if_f i2).trans rfl)).trans ((seq_nx b2).trans (ret_ok (let_ok ?_))))
  rw [← esp]
  exact k3
end S
namespace S
open PyProof.Rows PySem.Spec PySem L2 DE
/-! ### who is taken -/
def narrowL (ring : List Pr) (key : Int) : List Str → List Pr → Option (List Pr)
  | [], cur => some cur
  | w :: ws, cur => if (leftL w ring cur key).isEmpty = true ∧ (w = "under" ∨ w = "over") then none else narrowL ring key ws (if (leftL w ring cur key).isEmpty = true then cur else leftL w ring cur key)
def takenL (v : Int) (ws : List Str) (e : Str) (row : List Pr) (key : Int) : List Int :=
  if ((row.filter loudP).length : Int) < v then [] else match narrowL (row.filter loudP) key ws (row.filter loudP) with
    | none => []
    | some cur => endL e (keysOf cur)
theorem leftL_len (w : Str) (ring some_ : List Pr) (key : Int) : (leftL w ring some_ key).length ≤ some_.length := by
  unfold leftL
  split
  · exact List.length_filter_le _ _
  · split <;> exact List.length_filter_le _ _
theorem leftL_ok {w : Str} {ring some_ : List Pr} {key : Int} (h : okR some_) : okR (leftL w ring some_ key) := by
  unfold leftL
  split
  · exact h.filter _
  · split <;> exact h.filter _
theorem leftL_sub {w : Str} {ring some_ : List Pr} {key : Int} {p : Pr} (h : p ∈ leftL w ring some_ key) : p ∈ some_ := by
  unfold leftL at h
  split at h
  · exact (List.mem_filter.mp h).1
  · split at h <;> exact (List.mem_filter.mp h).1
abbrev tB : Ms := fSeq (fSet 6 (fCallN 4 m__law_left (fCons (fName 5) (fCons (fName 3) (fCons (fName 4) (fCons (fName 2) (rt [])))))))
  (fSeq (fIf (fAnd (fT (f2 pEq (fName 6) (fLet (fLst (rt []))))) (fT (f2 (pIn false) (fName 5) (fTup (fCons (rt (.str "under")) (fCons (rt (.str "over")) (rt []))))))) (fRet (fLet (fLst (rt [])))) (sOut .nx))
  (fSet 4 (fIfE (fT (f2 pNe (fName 6) (fLet (fLst (rt []))))) (fName 6) (fName 4))))
abbrev tS (M R : D) (key : Int) (ring cur : List Pr) (w l : Sl) : List Sl := [.dat M, .dat R, .dat (.int key), .dat (.lst (rowD ring)), .dat (.lst (rowD cur)), w, l]
theorem taken_turn {M R : D} {key : Int} {ring cur : List Pr} {w : Str} {l : Sl} {s : DS} (hw : w ∈ FIL) (hr : ring ≠ []) (h1 : ring.length ≤ 1000) (h2 : cur.length ≤ 1000) (ok : okR cur) :
    tB ⟨tS M R key ring cur (.dat (.str w)) l, s⟩ = if (leftL w ring cur key).isEmpty = true ∧ (w = "under" ∨ w = "over") then some (.ret (.lst []), ⟨tS M R key ring cur (.dat (.str w)) (.dat (.lst (rowD (leftL w ring cur key)))), s⟩)
      else some (.nx, ⟨tS M R key ring (if (leftL w ring cur key).isEmpty = true then cur else leftL w ring cur key) (.dat (.str w)) (.dat (.lst (rowD (leftL w ring cur key)))), s⟩) := by
  obtain ⟨L, eL⟩ : ∃ L, L = leftL w ring cur key := ⟨_, rfl⟩
  have okL : okR L := by rw [eL]; exact leftL_ok ok
  have c1 : fSet 6 (fCallN 4 m__law_left (fCons (fName 5) (fCons (fName 3) (fCons (fName 4) (fCons (fName 2) (rt [])))))) ⟨tS M R key ring cur (.dat (.str w)) l, s⟩ = some (.nx, ⟨tS M R key ring cur (.dat (.str w)) (.dat (.lst (rowD L))), s⟩) :=
    set_ok (g1 := ⟨tS M R key ring cur (.dat (.str w)) l, s⟩) (call_ok (ds := [.str w, .lst (rowD ring), .lst (rowD cur), .int key]) (g1 := ⟨tS M R key ring cur (.dat (.str w)) l, s⟩) (cons_ok (name_ok rfl) (cons_ok (name_ok rfl) (cons_ok (name_ok rfl) (cons_ok (name_ok rfl) rfl)))) rfl (by rw [eL]; exact left_ok hw hr h1 h2 key s))
  obtain ⟨g, hg⟩ : ∃ g : Sg, g = ⟨tS M R key ring cur (.dat (.str w)) (.dat (.lst (rowD L))), s⟩ := ⟨_, rfl⟩
  have n6 : fName 6 g = some (.ok (.lst (rowD L)), g) := by rw [hg]; exact name_ok rfl
  have n5 : fName 5 g = some (.ok (.str w), g) := by rw [hg]; exact name_ok rfl
  have n4 : fName 4 g = some (.ok (.lst (rowD cur)), g) := by rw [hg]; exact name_ok rfl
  have t1 : fT (f2 pEq (fName 6) (fLet (fLst (rt [])))) g = some (.ok L.isEmpty, g) := t_ok ((f2_ok (d' := .lst []) (g2 := g) n6 rfl).trans (pEqD_row okL g))
  have t2 : fT (f2 (pIn false) (fName 5) (fTup (fCons (rt (.str "under")) (fCons (rt (.str "over")) (rt []))))) g = some (.ok (decide (w = "under" ∨ w = "over")), g) := (in_strs (ws := ["under", "over"]) (neg := false) n5 rfl rfl).trans (by rw [contains2]; rfl)
  have t3 : fT (f2 pNe (fName 6) (fLet (fLst (rt [])))) g = some (.ok (!L.isEmpty), g) := t_ok ((f2_ok (d' := .lst []) (g2 := g) n6 rfl).trans (pNeD_row okL g))
  rw [← eL]
  refine (seq_nx c1).trans ?_
  rw [← hg]
  have last : fSet 4 (fIfE (fT (f2 pNe (fName 6) (fLet (fLst (rt []))))) (fName 6) (fName 4)) g = some (.nx, ⟨tS M R key ring (if L.isEmpty = true then cur else L) (.dat (.str w)) (.dat (.lst (rowD L))), s⟩) := by
    cases hE : L.isEmpty with
    | true =>
      rw [hE] at t3
      rw [if_pos rfl]
      exact (set_ok ((ifE_f t3).trans n4)).trans (by rw [hg]; rfl)
    | false =>
      rw [hE] at t3
      rw [if_neg Bool.false_ne_true]; exact (set_ok ((ifE_t t3).trans n6)).trans (by rw [hg]; rfl)
  cases hE : L.isEmpty with
  | true =>
    rw [hE] at t1 last
    by_cases c : w = "under" ∨ w = "over"
    · rw [if_pos ⟨rfl, c⟩]
      rw [decide_eq_true c] at t2
      exact seq_ret ((if_t ((and_t t1).trans t2)).trans rfl)
    · rw [if_neg (fun z => c z.2)]
      rw [decide_eq_false c] at t2
      exact (seq_nx ((if_f ((and_t t1).trans t2)).trans rfl)).trans last
  | false =>
    rw [hE] at t1 last
    rw [if_neg (fun z => Bool.false_ne_true z.1)]
    exact (seq_nx ((if_f (and_f t1)).trans rfl)).trans last
theorem taken_loop {M R : D} {key : Int} {ring : List Pr} {s : DS} (hr : ring ≠ []) (h1 : ring.length ≤ 1000) : ∀ (ws : List Str) (cur : List Pr) (w l : Sl), (∀ x ∈ ws, x ∈ FIL) → cur.length ≤ 1000 → okR cur →
    ∃ (w' : List Sl) (l' : Sl × Sl), loop (gN 5) tB (ws.map .str) ⟨tS M R key ring cur w l, s⟩ = match narrowL ring key ws cur with
      | none => some (.ret (.lst []), ⟨w', s⟩)
      | some cur' => some (.nx, ⟨tS M R key ring cur' l'.1 l'.2, s⟩)
  | [], cur, w, l, _, _, _ => ⟨[], (w, l), rfl⟩
  | x :: ws, cur, w, l, hw, h2, ok => by
    have t := taken_turn (M := M) (R := R) (key := key) (ring := ring) (cur := cur) (w := x) (l := l) (s := s) (hw x List.mem_cons_self) hr h1 h2 ok
    unfold narrowL
    by_cases c : (leftL x ring cur key).isEmpty = true ∧ (x = "under" ∨ x = "over")
    · rw [if_pos c] at t ⊢
      exact ⟨_, (w, l), loop_ret (g1 := ⟨tS M R key ring cur (.dat (.str x)) l, s⟩) rfl t⟩
    · rw [if_neg c] at t ⊢
      obtain ⟨w', l', e⟩ := taken_loop hr h1 ws (if (leftL x ring cur key).isEmpty = true then cur else leftL x ring cur key) (.dat (.str x)) (.dat (.lst (rowD (leftL x ring cur key)))) (fun y hy => hw y (List.mem_cons_of_mem _ hy))
        (by have := leftL_len x ring cur key; split <;> omega) (by split; exact ok; exact leftL_ok ok)
      exact ⟨w', l', (loop_cons (g1 := ⟨tS M R key ring cur (.dat (.str x)) l, s⟩) rfl t).trans e⟩
theorem narrow_ne {ring : List Pr} {key : Int} : ∀ (ws : List Str) (cur : List Pr) {r : List Pr}, cur ≠ [] → narrowL ring key ws cur = some r → r ≠ [] ∧ r.length ≤ cur.length ∧ ∀ p ∈ r, p ∈ cur
  | [], cur, r, h, e => by cases e; exact ⟨h, Nat.le_refl _, fun _ z => z⟩
  | w :: ws, cur, r, h, e => by
    unfold narrowL at e
    split at e
    · cases e
    · have len := leftL_len w ring cur key
      by_cases c : (leftL w ring cur key).isEmpty = true
      · rw [if_pos c] at e
        exact narrow_ne ws cur h e
      · rw [if_neg c] at e
        obtain ⟨a, b, d⟩ := narrow_ne ws _ (fun z => c (by rw [z]; rfl)) e
        exact ⟨a, by omega, fun p hp => leftL_sub (d p hp)⟩
theorem taken_ok {v : Int} {ws : List Str} {e b : Str} {R : D} {row : List Pr} (hR : aSeq R = some (rowD row)) (hl : row.length ≤ 1000) (ok : okR row) (hv : 1 ≤ v) (hw : ∀ x ∈ ws, x ∈ FIL) (hwl : ws.length ≤ 1000) (key : Int) (s : DS) :
    m__law_taken [.tup [.int v, .tup (csOf ws e), .str b], R, .int key] s = some (.ok (.lst ((takenL v ws e row key).map .int)), s) := by
  obtain ⟨M, hM⟩ : ∃ M, M = D.tup [.int v, .tup (csOf ws e), .str b] := ⟨_, rfl⟩
  obtain ⟨ring, hring⟩ : ∃ r, r = row.filter loudP := ⟨_, rfl⟩
  have lr : ring.length ≤ 1000 := by rw [hring]; exact Nat.le_trans (List.length_filter_le _ _) hl
  have okr : okR ring := by rw [hring]; exact ok.filter _
  rw [← hM]
  unfold takenL
  rw [← hring]
  have c1 : fSet 3 (fCallN 1 m__law_loud (fCons (fName 1) (rt []))) ⟨[.dat M, .dat R, .dat (.int key), .no, .no, .no, .no], s⟩ = some (.nx, ⟨[.dat M, .dat R, .dat (.int key), .dat (.lst (rowD ring)), .no, .no, .no], s⟩) :=
    set_ok (g1 := ⟨[.dat M, .dat R, .dat (.int key), .no, .no, .no, .no], s⟩) (call_ok (ds := [R]) (g1 := ⟨[.dat M, .dat R, .dat (.int key), .no, .no, .no, .no], s⟩) (cons_ok (name_ok rfl) rfl) rfl (by rw [hring]; exact loud_ok hR hl s))
  have t1 : fT (f2 pLt (fLen (fPeek 3)) (fIxD (fName 0) (rt (.int 0)))) ⟨[.dat M, .dat R, .dat (.int key), .dat (.lst (rowD ring)), .no, .no, .no], s⟩ = some (.ok (decide ((ring.length : Int) < v)), ⟨[.dat M, .dat R, .dat (.int key), .dat (.lst (rowD ring)), .no, .no, .no], s⟩) := by
    have := lt_int (e := fLen (fPeek 3)) (f := fIxD (fName 0) (rt (.int 0))) (g := ⟨[.dat M, .dat R, .dat (.int key), .dat (.lst (rowD ring)), .no, .no, .no], s⟩) (g2 := ⟨[.dat M, .dat R, .dat (.int key), .dat (.lst (rowD ring)), .no, .no, .no], s⟩) (len_ok (peek_l rfl)) (ix_ok (i := 0) (r := .int v) (name_ok (d := M) rfl) rfl (by rw [hM]; rfl) rfl)
    rw [row_len] at this
    exact this
  by_cases c : (ring.length : Int) < v
  · rw [if_pos c]
    rw [decide_eq_true c] at t1
    refine runB_ret (r := [.dat M, .dat R, .dat (.int key), .dat (.lst (rowD ring)), .no, .no, .no]) rfl ?_
    unfold fb__law_taken
    exact (seq_nx c1).trans (seq_ret ((if_t t1).trans rfl))
  · rw [if_neg c]
    rw [decide_eq_false c] at t1
    have hr : ring ≠ [] := by rintro rfl; exact c (by show ((0 : Nat) : Int) < v; omega)
    obtain ⟨w', l', el⟩ := taken_loop (M := M) (R := R) (key := key) (s := s) hr lr ws ring .no .no hw lr okr
    have c4 : fSet 4 (fName 3) ⟨[.dat M, .dat R, .dat (.int key), .dat (.lst (rowD ring)), .no, .no, .no], s⟩ = some (.nx, ⟨tS M R key ring ring .no .no, s⟩) := set_ok (name_ok rfl)
    have cw : fSl (fIxD (fName 0) (rt (.int 1))) (rt none) (fPart (fNeg (rt (.int 1)))) ⟨tS M R key ring ring .no .no, s⟩ = some (.ok (.tup (ws.map .str)), ⟨tS M R key ring ring .no .no, s⟩) := by
      have := sl_t (e := fIxD (fName 0) (rt (.int 1))) (l := rt none) (u := fPart (fNeg (rt (.int 1)))) (g := ⟨tS M R key ring ring .no .no, s⟩) (lo := none) (hi := some (-1)) (ix_ok (i := 1) (r := .tup (csOf ws e)) (name_ok (d := M) rfl) rfl (by rw [hM]; rfl) rfl) rfl rfl
      rw [this]
      have e1 : DE.cutD (csOf ws e) none (some (-1)) = ws.map .str := by
        have l := cs_len ws e
        have : HT.sIx (csOf ws e).length (csOf ws e).length (some (-1)) = ws.length := by
          show (if (-1 : Int) < 0 then ((-1 : Int) + ((csOf ws e).length : Int)).toNat else min (-1 : Int).toNat (csOf ws e).length) = _
          rw [if_pos (by decide), l]; omega
        unfold DE.cutD
        rw [this]
        show ((csOf ws e).drop 0).take (ws.length - 0) = _
        simp
      rw [e1]
    have fl := for_ok (t := gN 5) (k := tB) cw rfl
    cases hn : narrowL ring key ws ring with
    | none =>
      rw [hn] at el
      refine runB_ret (r := w') rfl ?_
      unfold fb__law_taken
      exact (seq_nx c1).trans ((seq_nx ((if_f t1).trans rfl)).trans ((seq_nx c4).trans (seq_ret (fl.trans el))))
    | some cur =>
      rw [hn] at el
      obtain ⟨a1, a2, a3⟩ := narrow_ne ws ring hr hn
      refine runB_ret (r := tS M R key ring cur l'.1 l'.2) rfl ?_
      unfold fb__law_taken
      refine (seq_nx c1).trans ((seq_nx ((if_f t1).trans rfl)).trans ((seq_nx c4).trans ((seq_nx (fl.trans el)).trans (ret_ok ?_))))
      refine call_ok (ds := [.str e, .lst (rowD cur)]) (g1 := ⟨tS M R key ring cur l'.1 l'.2, s⟩) (cons_ok ?_ (cons_ok (name_ok rfl) rfl)) rfl (end_ok e a1 (by omega) s)
      refine ix_ok (i := -1) (d := .tup (csOf ws e)) (cs := csOf ws e) (ix_ok (i := 1) (r := .tup (csOf ws e)) (name_ok (d := M) rfl) rfl (by rw [hM]; rfl) rfl) rfl rfl ?_
      unfold atI ixN
      rw [if_neg (by decide), if_pos (by rw [cs_len]; omega), cs_len]
      show (csOf ws e)[((-1 : Int) + ((ws.length + 1 : Nat) : Int)).toNat]? = _
      rw [show ((-1 : Int) + ((ws.length + 1 : Nat) : Int)).toNat = ws.length by omega]
      simp
end S
namespace S
open PyProof.Rows PySem.Spec PySem L2 DE
/-! ### other marks, the return -/
def markP (key : Int) (mark : Str) (p : Pr) : Pr := if p.1 = key then (p.1, mark) else p
abbrev markL (r : List Pr) (key : Int) (mark : Str) : List Pr := r.map (markP key mark)
theorem seq_row {a : D} {r : List Pr} (h : a = .lst (rowD r) ∨ a = .tup (rowD r)) : aSeq a = some (rowD r) := by rcases h with rfl | rfl <;> rfl
theorem marked_ok {a : D} {r : List Pr} {key : Int} {mark : Str} (h : aSeq a = some (rowD r)) (hl : r.length ≤ 1000) (s : DS) : m__law_marked [a, .int key, .str mark] s = some (.ok (.lst (rowD (markL r key mark))), s) := by
  refine runB_ret (r := [.dat a, .dat (.int key), .dat (.str mark), .no]) rfl (ret_ok (let_ok ?_))
  have c := compL_on (vs := [3]) (t := gN 3) (c := rt true) (e := fIfE (fT (f2 pEq (fIxD (fName 3) (rt (.int 0))) (fName 1))) (fTup (fCons (fIxD (fName 3) (rt (.int 0))) (fCons (fName 2) (rt [])))) (fName 3)) (E := prD) (F := fun p => prD (markP key mark p)) (P := fun _ => true) (S := [.dat a, .dat (.int key), .dat (.str mark), .no]) (s := s) r fun p _ =>
    ⟨⟨[.dat a, .dat (.int key), .dat (.str mark), .dat (prD p)], s⟩, ⟨[.dat a, .dat (.int key), .dat (.str mark), .dat (prD p)], s⟩, rfl, rfl, fun _ => ⟨⟨[.dat a, .dat (.int key), .dat (.str mark), .dat (prD p)], s⟩, (by
      have t := eq_int (f := fName 1) (pr0 (p := p) (i := 3) (g := ⟨[.dat a, .dat (.int key), .dat (.str mark), .dat (prD p)], s⟩) rfl) (name_ok rfl)
      by_cases k : p.1 = key
      · rw [decide_eq_true k] at t
        refine (ifE_t t).trans ?_
        unfold markP
        rw [if_pos k]
        exact tup_ok (ds := [.int p.1, .str mark]) (cons_ok (pr0 rfl) (cons_ok (name_ok rfl) rfl)) (by show 2 ≤ 100000; decide)
      · rw [decide_eq_false k] at t
        refine (ifE_f t).trans ?_
        unfold markP
        rw [if_neg k]
        exact name_ok rfl), rfl, rfl⟩, fun z => by cases z⟩
  rw [List.filter_eq_self.mpr fun _ _ => rfl] at c
  have := comp_ok (fi := fName 0) (g := ⟨[.dat a, .dat (.int key), .dat (.str mark), .no], s⟩) (g1 := ⟨[.dat a, .dat (.int key), .dat (.str mark), .no], s⟩) (name_ok rfl) h (by rw [row_len]; omega) c
  rw [show r.map (fun p => prD (markP key mark p)) = rowD (markL r key mark) by simp] at this
  exact this
def waitP (p : Pr) : Bool := decide (p.2 = "waits")
theorem okR_mark {r : List Pr} (h : okR r) (key : Int) {mark : Str} (hm : mark ∈ MKS) : okR (markL r key mark) := by
  intro p hp
  obtain ⟨q, hq, rfl⟩ := List.mem_map.mp hp; unfold markP
  split
  · exact hm
  · exact h q hq
def backL (b : Str) (r : List Pr) : Int := (endL b (keysOf (r.filter waitP))).headD 0
abbrev goesB (v : Int) (b : Str) (r : List Pr) : Prop := b ≠ "none" ∧ r.filter waitP ≠ [] ∧ ((r.filter loudP).length : Int) < v
instance (v : Int) (b : Str) (r : List Pr) : Decidable (goesB v b r) := inferInstanceAs (Decidable (_ ∧ _ ∧ _))
def fillL (v : Int) (b : Str) : Nat → List Pr → List Int → List Pr × List Int
  | 0, r, f => (r, f)
  | n + 1, r, f => if goesB v b r then fillL v b n (markL r (backL b r) "sounds") (f ++ [backL b r]) else fillL v b n r f
theorem end_ne {b : Str} (hb : b ∈ RET_) (hn : b ≠ "none") {xs : List Int} (hx : xs ≠ []) : endL b xs = (endL b xs).headD 0 :: (endL b xs).tail := by
  have : endL b xs ≠ [] := by
    unfold RET_ at hb; simp only [List.mem_cons, List.not_mem_nil, or_false] at hb
    cases xs with
    | nil => exact absurd rfl hx
    | cons x xs =>
      rcases hb with rfl | rfl | rfl | rfl | rfl
      · exact absurd rfl hn
      · show List.take 1 (x :: xs) ≠ []; simp
      · show List.drop _ (x :: xs) ≠ []; simp
      · show [minL (x :: xs)] ≠ []; simp
      · show [maxL (x :: xs)] ≠ []; simp
  cases h : endL b xs with
  | nil => exact absurd h this
  | cons y ys => rfl
abbrev fB : Ms := fSeq (fSetO 5 (fComp [4] (fName 1) (gN 4) (fT (f2 pEq (fIxD (fName 4) (rt (.int 1))) (rt (.str "waits")))) (fName 4)))
  (fIf (fAnd (fT (f2 pNe (fIxD (fName 0) (rt (.int 2))) (rt (.str "none")))) (fAnd (fT (f2 pNe (fName 5) (fLet (fLst (rt []))))) (fT (f2 pLt (fLen (fPk (fCallN 1 m__law_loud (fCons (fName 1) (rt []))))) (fIxD (fName 0) (rt (.int 0))))))) (fSeq (fExp (fApp 2 (fIxD (fCallN 2 m__law_end (fCons (fIxD (fName 0) (rt (.int 2))) (fCons (fName 5) (rt [])))) (rt (.int 0)))))
  (fSet 1 (fCallN 3 m__law_marked (fCons (fName 1) (fCons (fIxC (fPeek 2) (-1)) (fCons (rt (.str "sounds")) (rt []))))))) (sOut .nx))
abbrev fS (M : D) (r : List Pr) (f : List Int) (t w : Sl) : List Sl := [.dat M, .dat (.lst (rowD r)), .own (f.map .int), t, .no, w]
theorem ixC_last {i : Nat} {g : Sg} {xs : List D} {d : D} (h : g.r[i]? = some (.own (xs ++ [d]))) : fIxC (fPeek i) (-1) g = some (.ok d, g) := by
  unfold fIxC
  rw [bd_ok (peek_o h)]
  have : atI (xs ++ [d]) (-1) = some d := by
    unfold atI ixN
    rw [if_neg (by decide), if_pos (by simp; omega)]
    rw [show ((-1 : Int) + ((xs ++ [d]).length : Int)).toNat = xs.length by simp; omega]
    simp
  rw [this]; rfl
theorem fill_turn {v : Int} {C : D} {b : Str} (hb : b ∈ RET_) {r : List Pr} {f : List Int} {t w : Sl} {s : DS} (ok : okR r) (hl : r.length ≤ 1000) (hf : f.length ≤ 10000) :
    ∃ w', fB ⟨fS (.tup [.int v, C, .str b]) r f t w, s⟩ = some (.nx, ⟨if goesB v b r then fS (.tup [.int v, C, .str b]) (markL r (backL b r) "sounds") (f ++ [backL b r]) t w' else fS (.tup [.int v, C, .str b]) r f t w', s⟩) := by
  obtain ⟨M, hM⟩ : ∃ M, M = D.tup [.int v, C, .str b] := ⟨_, rfl⟩
  rw [← hM]
  obtain ⟨W, hW⟩ : ∃ W, W = r.filter waitP := ⟨_, rfl⟩
  have okW : okR W := by rw [hW]; exact ok.filter _
  have k1 : fComp [4] (fName 1) (gN 4) (fT (f2 pEq (fIxD (fName 4) (rt (.int 1))) (rt (.str "waits")))) (fName 4) ⟨fS M r f t w, s⟩ = some (.ok (rowD W), ⟨fS M r f t w, s⟩) := by
    rw [hW]
    exact keep (S := fS M r f t w) (s := s) (r := r) (i := 1) (j := 4) (fT (f2 pEq (fIxD (fName 4) (rt (.int 1))) (rt (.str "waits")))) waitP rfl hl rfl (fun _ => rfl) (fun _ => rfl) (fun p _ => eq_str (pr1 rfl) rfl)
  obtain ⟨g0, hg0⟩ : ∃ g : Sg, g = ⟨fS M r f t (.own (rowD W)), s⟩ := ⟨_, rfl⟩
  obtain ⟨g, hg⟩ : ∃ g : Sg, g = ⟨fS M r f t (.dat (.lst (rowD W))), s⟩ := ⟨_, rfl⟩
  have c1 : fSetO 5 (fComp [4] (fName 1) (gN 4) (fT (f2 pEq (fIxD (fName 4) (rt (.int 1))) (rt (.str "waits")))) (fName 4)) ⟨fS M r f t w, s⟩ = some (.nx, g0) := (setO_ok k1).trans (by rw [hg0]; rfl)
  have m2 : ∀ w : Sl, fIxD (fName 0) (rt (.int 2)) ⟨fS M r f t w, s⟩ = some (.ok (.str b), ⟨fS M r f t w, s⟩) := fun w => ix_ok (i := 2) (name_ok (d := M) rfl) rfl (by rw [hM]; rfl) rfl
  have t1 : fT (f2 pNe (fIxD (fName 0) (rt (.int 2))) (rt (.str "none"))) g0 = some (.ok (!decide (b = "none")), g0) := by rw [hg0]; exact ne_str (m2 _) rfl
  have n5 : fName 5 g0 = some (.ok (.lst (rowD W)), g) := by rw [hg0, hg]; rfl
  have t2 : fT (f2 pNe (fName 5) (fLet (fLst (rt [])))) g0 = some (.ok (!W.isEmpty), g) := t_ok ((f2_ok (d' := .lst []) (g2 := g) n5 rfl).trans (pNeD_row okW g))
  have t3 : fT (f2 pLt (fLen (fPk (fCallN 1 m__law_loud (fCons (fName 1) (rt []))))) (fIxD (fName 0) (rt (.int 0)))) g = some (.ok (decide (((r.filter loudP).length : Int) < v)), g) := by
    have c : fCallN 1 m__law_loud (fCons (fName 1) (rt [])) g = some (.ok (.lst (rowD (r.filter loudP))), g) := by
      rw [hg]
      exact call_ok (ds := [.lst (rowD r)]) (g1 := ⟨fS M r f t (.dat (.lst (rowD W))), s⟩) (cons_ok (name_ok rfl) rfl) rfl (loud_ok rfl hl s)
    have p : fPk (fCallN 1 m__law_loud (fCons (fName 1) (rt []))) g = some (.ok (rowD (r.filter loudP)), g) := by unfold fPk; rw [bd_ok c]; rfl
    have i0 : fIxD (fName 0) (rt (.int 0)) g = some (.ok (.int v), g) := by rw [hg]; exact ix_ok (i := 0) (name_ok (d := M) rfl) rfl (by rw [hM]; rfl) rfl
    have := lt_int (len_ok p) i0
    rw [row_len] at this
    exact this
  by_cases c : goesB v b r
  · obtain ⟨b1, b2, b3⟩ := c
    refine ⟨.dat (.lst (rowD W)), ?_⟩
    rw [if_pos ⟨b1, b2, b3⟩]
    rw [← hW] at b2
    rw [decide_eq_false b1] at t1
    rw [show W.isEmpty = false by cases W with | nil => exact absurd rfl b2 | cons a l => rfl] at t2
    rw [decide_eq_true b3] at t3
    refine (seq_nx c1).trans ((if_t ((and_t t1).trans ((and_t t2).trans t3))).trans ?_)
    have e1 : fIxD (fCallN 2 m__law_end (fCons (fIxD (fName 0) (rt (.int 2))) (fCons (fName 5) (rt [])))) (rt (.int 0)) g = some (.ok (.int (backL b r)), g) := by
      have e := end_ok b (r := W) b2 (by rw [hW]; exact Nat.le_trans (List.length_filter_le _ _) hl) s
      have ne := end_ne hb b1 (xs := keysOf W) (by simpa using b2)
      have : backL b r = (endL b (keysOf W)).headD 0 := by unfold backL; rw [hW]
      rw [this]
      rw [hg]
      generalize hq : endL b (keysOf W) = q at e ne ⊢
      refine ix_ok (i := 0) (d := .lst (q.map .int)) (cs := q.map .int) (call_ok (ds := [.str b, .lst (rowD W)]) (g1 := ⟨fS M r f t (.dat (.lst (rowD W))), s⟩) (cons_ok (m2 _) (cons_ok (name_ok rfl) rfl)) rfl e) rfl rfl ?_
      cases q with
      | nil => cases ne
      | cons y ys => exact (atI_nat (D.int y :: ys.map D.int) 0 (by simp)).trans rfl
    have e2 := app_ok (i := 2) (xs0 := f.map .int) (xs := f.map .int) (by rw [hg]; rfl) e1 (by rw [hg]; rfl) (by rw [List.length_map]; omega)
    refine (seq_nx (exp_ok e2)).trans ?_
    have e3 : (⟨g.r.set 2 (.own (f.map D.int ++ [.int (backL b r)])), g.s⟩ : Sg) = ⟨[.dat M, .dat (.lst (rowD r)), .own (f.map D.int ++ [.int (backL b r)]), t, .no, .dat (.lst (rowD W))], s⟩ := by rw [hg]; rfl
    rw [e3]
    refine (set_ok (call_ok (ds := [.lst (rowD r), .int (backL b r), .str "sounds"]) (g1 := ⟨[.dat M, .dat (.lst (rowD r)), .own (f.map D.int ++ [.int (backL b r)]), t, .no, .dat (.lst (rowD W))], s⟩) (cons_ok (name_ok rfl) (cons_ok (ixC_last rfl) (cons_ok rfl rfl))) rfl (marked_ok rfl hl s))).trans ?_
    show some (_, _) = _
    simp
  · by_cases b1 : b = "none"
    · refine ⟨.own (rowD W), ?_⟩
      rw [if_neg c]
      rw [decide_eq_true b1] at t1
      exact (seq_nx c1).trans ((if_f (and_f t1)).trans (by rw [hg0]; rfl))
    · refine ⟨.dat (.lst (rowD W)), ?_⟩
      rw [if_neg c]
      rw [decide_eq_false b1] at t1
      refine (seq_nx c1).trans ((if_f (g1 := g) ((and_t t1).trans ?_)).trans (by rw [hg]; rfl))
      cases hE : W.isEmpty with
      | true => rw [hE] at t2; exact and_f t2
      | false =>
        rw [hE] at t2
        refine (and_t t2).trans (t3.trans ?_)
        rw [decide_eq_false (fun z => c ⟨b1, ⟨by (rw [← hW]; intro q; rw [q] at hE; cases hE), z⟩⟩)]
theorem fill_loop {v : Int} {C : D} {b : Str} (hb : b ∈ RET_) {s : DS} : ∀ (is : List D) (r : List Pr) (f : List Int) (t w : Sl), okR r → r.length ≤ 1000 → f.length + is.length ≤ 10000 →
    ∃ t' w', loop (gN 3) fB is ⟨fS (.tup [.int v, C, .str b]) r f t w, s⟩ = some (.nx, ⟨fS (.tup [.int v, C, .str b]) (fillL v b is.length r f).1 (fillL v b is.length r f).2 t' w', s⟩)
  | [], r, f, t, w, _, _, _ => ⟨t, w, rfl⟩
  | d :: is, r, f, t, w, ok, hl, hf => by
    obtain ⟨w', e⟩ := fill_turn (v := v) (C := C) hb (t := .dat d) (w := w) (s := s) ok hl (f := f) (by simp at hf; omega)
    rw [show fillL v b (d :: is).length r f = if goesB v b r then fillL v b is.length (markL r (backL b r) "sounds") (f ++ [backL b r]) else fillL v b is.length r f from rfl]
    by_cases c : goesB v b r
    · rw [if_pos c] at e ⊢
      obtain ⟨t', w'', e'⟩ := fill_loop hb is (markL r (backL b r) "sounds") (f ++ [backL b r]) (.dat d) w' (okR_mark ok _ (by decide)) (by rw [List.length_map]; exact hl) (by simp at hf ⊢; omega)
      exact ⟨t', w'', (loop_cons (g1 := ⟨fS (.tup [.int v, C, .str b]) r f (.dat d) w, s⟩) rfl e).trans e'⟩
    · rw [if_neg c] at e ⊢
      obtain ⟨t', w'', e'⟩ := fill_loop hb is r f (.dat d) w' ok hl (by simp at hf ⊢; omega)
      exact ⟨t', w'', (loop_cons (g1 := ⟨fS (.tup [.int v, C, .str b]) r f (.dat d) w, s⟩) rfl e).trans e'⟩
theorem intsD_length (n : Nat) : (intsD (n : Int)).length = n := by unfold intsD; simp
theorem filled_ok {v : Int} {C : D} {b : Str} (hb : b ∈ RET_) {r : List Pr} (ok : okR r) (hl : r.length ≤ 1000) (s : DS) :
    m__law_filled [.tup [.int v, C, .str b], .lst (rowD r)] s = some (.ok (.tup [.lst (rowD (fillL v b r.length r []).1), .lst ((fillL v b r.length r []).2.map .int)]), s) := by
  obtain ⟨t', w', e⟩ := fill_loop (v := v) (C := C) (s := s) hb (intsD (r.length : Int)) r [] .no .no ok hl (by rw [intsD_length]; simp; omega)
  rw [intsD_length] at e
  obtain ⟨r', hr⟩ : ∃ x, x = (fillL v b r.length r []).1 := ⟨_, rfl⟩
  obtain ⟨f', hf⟩ : ∃ x, x = (fillL v b r.length r []).2 := ⟨_, rfl⟩
  rw [← hr, ← hf] at e ⊢
  refine runB_ret (r := [.dat (.tup [.int v, C, .str b]), .dat (.lst (rowD r')), .dat (.lst (f'.map .int)), t', .no, w']) rfl ?_
  unfold fb__law_filled
  refine (seq_nx (g1 := ⟨fS (.tup [.int v, C, .str b]) r [] .no .no, s⟩) rfl).trans ?_
  refine (seq_nx ((forR_ok (n := (r.length : Int)) (g1 := ⟨fS (.tup [.int v, C, .str b]) r [] .no .no, s⟩) (cons_ok ((len_ok (peek_l (ds := rowD r) rfl)).trans (by rw [row_len])) rfl) (by omega)).trans e)).trans ?_
  refine ret_ok (tup_ok (ds := [.lst (rowD r'), .lst (f'.map .int)]) (cons_ok (name_ok rfl) (cons_ok ?_ rfl)) (by show 2 ≤ 100000; decide))
  rfl
end S
namespace S
open PyProof.Rows PySem.Spec PySem L2 DE
/-! ### the steps -/
theorem eq_nil (xs : List Int) (g : Sg) : pEq (.lst (xs.map D.int)) (.lst []) g = some (.ok (.bl xs.isEmpty), g) := by
  show pEqD (.lst (xs.map D.int)) (.lst []) g = _
  have e1 : pyd (.lst (xs.map D.int)) = some (.list (xs.map PyData.int)) := by simp [pyd, pyd_ints]
  have e2 : pyd (.lst []) = some (.list []) := rfl
  unfold pEqD
  rw [e1, e2]
  have s1 : (SeqAt.shaped (.list (xs.map PyData.int)) && SeqAt.shaped (.list [])) = true := by
    have : SeqAt.shaped (.list []) = true := by kernel_rfl
    rw [this, Bool.and_true]
    unfold SeqAt.shaped
    simp [PyData.canLay0, lay_ints, PyData.depth, dep_ints]
  dsimp only
  rw [if_pos s1]
  cases xs with
  | nil => rfl
  | cons x xs => rfl
abbrev pr (k : Int) (m : Str) : Pr := (k, m)
def downL (v : Int) (ws : List Str) (e : Str) (r : List Pr) (key : Int) : List Pr :=
  if r.contains (pr key "kept") = true then r.filter (fun p => !decide (p.1 = key)) ++ [(pr key "sounds")]
  else if ((r.filter loudP).length : Int) < v then r ++ [(pr key "sounds")]
  else match takenL v ws e r key with
    | [] => r ++ [(pr key "waits")]
    | k :: _ => markL (r.filter fun p => !decide (p = (pr k "kept"))) k "waits" ++ [(pr key "sounds")]
def downD (v : Int) (ws : List Str) (e : Str) (r : List Pr) (key : Int) : List (Str × Int) :=
  if r.contains (pr key "kept") = true then [("again", key)]
  else if ((r.filter loudP).length : Int) < v then [("begin", key)]
  else match takenL v ws e r key with
    | [] => [("refuse", key)]
    | k :: _ => [("cut", k), ("begin", key)]
abbrev ddD (l : List (Str × Int)) : List D := l.map fun p => .tup [.str p.1, .int p.2]
theorem pair_ok {f h : Mo D} {g : Sg} {xs ys : List D} (h1 : f g = some (.ok (.lst xs), g)) (h2 : h g = some (.ok (.lst ys), g)) : fTup (fCons f (fCons h (rt []))) g = some (.ok (.tup [.lst xs, .lst ys]), g) := tup_ok (ds := [.lst xs, .lst ys]) (cons_ok h1 (cons_ok h2 rfl)) (by show 2 ≤ 100000; decide)
theorem gone_ok {v : Int} {ws : List Str} {e b : Str} {r : List Pr} (hl : r.length ≤ 900) (ok : okR r) (hv : 1 ≤ v) (hw : ∀ x ∈ ws, x ∈ FIL) (hwl : ws.length ≤ 1000) (key : Int) (s : DS) :
    m__law_gone_down [.tup [.int v, .tup (csOf ws e), .str b], .lst (rowD r), .int key] s = some (.ok (.tup [.lst (rowD (downL v ws e r key)), .lst (ddD (downD v ws e r key))]), s) := by
  obtain ⟨M, hM⟩ : ∃ M, M = D.tup [.int v, .tup (csOf ws e), .str b] := ⟨_, rfl⟩
  have tk := taken_ok (v := v) (ws := ws) (e := e) (b := b) (R := .lst (rowD r)) (row := r) rfl (by omega) ok hv hw hwl key s
  rw [← hM] at tk ⊢
  obtain ⟨T, hT⟩ : ∃ T, T = takenL v ws e r key := ⟨_, rfl⟩
  rw [← hT] at tk
  unfold downL downD
  rw [← hT]
  obtain ⟨S, hS⟩ : ∃ S : List Sl, S = [.dat M, .dat (.lst (rowD r)), .dat (.int key), .no, .no, .no] := ⟨_, rfl⟩
  have t1 : fT (f2 (pInD false) (fTup (fCons (fName 2) (fCons (rt (.str "kept")) (rt [])))) (fName 1)) ⟨S, s⟩ = some (.ok (r.contains (pr key "kept")), ⟨S, s⟩) := by
    rw [hS]
    exact t_ok ((f2_ok (d := prD (pr key "kept")) (d' := .lst (rowD r)) (g2 := ⟨[.dat M, .dat (.lst (rowD r)), .dat (.int key), .no, .no, .no], s⟩) (tup_ok (ds := [.int key, .str "kept"]) (cons_ok (name_ok rfl) (cons_ok rfl rfl)) (by show 2 ≤ 100000; decide)) (name_ok rfl)).trans (pInD_row ok (show ("kept" : Str) ∈ MKS by decide) _))
  have one : ∀ (w : Str) (S' : List Sl), S'[2]? = some (.dat (.int key)) → fLet (fLst (fCons (fTup (fCons (fName 2) (fCons (rt (.str w)) (rt [])))) (rt []))) ⟨S', s⟩ = some (.ok (.lst (rowD [(pr key w)])), ⟨S', s⟩) := fun w S' h =>
    let_ok (lst_ok (ds := [prD (pr key w)]) (cons_ok (tup_ok (ds := [.int key, .str w]) (cons_ok (name_ok h) (cons_ok rfl rfl)) (by show 2 ≤ 100000; decide)) rfl) (by show 1 ≤ 100000; decide))
  have cat : ∀ {f h : Mo D} {a c : List Pr} {S' : List Sl}, f ⟨S', s⟩ = some (.ok (.lst (rowD a)), ⟨S', s⟩) → h ⟨S', s⟩ = some (.ok (.lst (rowD c)), ⟨S', s⟩) → a.length + c.length ≤ 1000 → fLet (fCat f h) ⟨S', s⟩ = some (.ok (.lst (rowD (a ++ c))), ⟨S', s⟩) := fun h1 h2 h3 => by
    have := app_cat h1 h2 (by rw [row_len, row_len]; omega)
    rw [this]
    simp
  by_cases c1 : r.contains (pr key "kept") = true
  · rw [if_pos c1, if_pos c1]
    rw [c1] at t1
    have k1 := keep (S := S) (s := s) (r := r) (i := 1) (j := 3) (fT (f2 pNe (fIxD (fName 3) (rt (.int 0))) (fName 2))) (fun p => !decide (p.1 = key)) (by rw [hS]; rfl) (by omega) (by rw [hS]; rfl) (fun _ => by rw [hS]; rfl) (fun _ => by rw [hS]; rfl)
      (fun p _ => ne_int (pr0 (p := p) (by rw [hS]; rfl)) (name_ok (by rw [hS]; rfl)))
    refine runB_ret (r := S) rfl ?_
    refine (congrArg (fun x => fb__law_gone_down ⟨x, s⟩) (show _ = S by rw [hS]; rfl)).trans ?_
    unfold fb__law_gone_down
    refine seq_ret ((if_t t1).trans (ret_ok (pair_ok (cat (let_ok k1) (one _ _ (by rw [hS]; rfl)) ?_) (by rw [hS]; kernel_rfl))))
    have := List.length_filter_le (fun p : Pr => !decide (p.1 = key)) r
    simp; omega
  rw [if_neg c1, if_neg c1]
  rw [Bool.eq_false_iff.mpr c1] at t1
  have n1 : fName 1 ⟨S, s⟩ = some (.ok (.lst (rowD r)), ⟨S, s⟩) := by rw [hS]; exact name_ok rfl
  have t2 : fT (f2 pLt (fLen (fPk (fCallN 1 m__law_loud (fCons (fName 1) (rt []))))) (fIxD (fName 0) (rt (.int 0)))) ⟨S, s⟩ = some (.ok (decide (((r.filter loudP).length : Int) < v)), ⟨S, s⟩) := by
    have c : fCallN 1 m__law_loud (fCons (fName 1) (rt [])) ⟨S, s⟩ = some (.ok (.lst (rowD (r.filter loudP))), ⟨S, s⟩) := call_ok (ds := [.lst (rowD r)]) (g1 := ⟨S, s⟩) (cons_ok n1 rfl) rfl (loud_ok rfl (by omega) s)
    have p : fPk (fCallN 1 m__law_loud (fCons (fName 1) (rt []))) ⟨S, s⟩ = some (.ok (rowD (r.filter loudP)), ⟨S, s⟩) := by unfold fPk; rw [bd_ok c]; rfl
    have i0 : fIxD (fName 0) (rt (.int 0)) ⟨S, s⟩ = some (.ok (.int v), ⟨S, s⟩) := by rw [hS]; exact ix_ok (i := 0) (name_ok (d := M) rfl) rfl (by rw [hM]; rfl) rfl
    have := lt_int (len_ok p) i0
    rw [row_len] at this
    exact this
  by_cases c2 : ((r.filter loudP).length : Int) < v
  · rw [if_pos c2, if_pos c2]
    rw [decide_eq_true c2] at t2
    refine runB_ret (r := S) rfl ?_
    refine (congrArg (fun x => fb__law_gone_down ⟨x, s⟩) (show _ = S by rw [hS]; rfl)).trans ?_
    unfold fb__law_gone_down
    exact (seq_nx ((if_f t1).trans rfl)).trans (seq_ret ((if_t t2).trans (ret_ok (pair_ok (cat n1 (one _ _ (by rw [hS]; rfl)) (by simp; omega)) (by rw [hS]; kernel_rfl)))))
  rw [if_neg c2, if_neg c2]
  rw [decide_eq_false c2] at t2
  obtain ⟨S4, hS4⟩ : ∃ S : List Sl, S = [.dat M, .dat (.lst (rowD r)), .dat (.int key), .no, .dat (.lst (T.map .int)), .no] := ⟨_, rfl⟩
  have c4 : fSet 4 (fCallN 3 m__law_taken (fCons (fName 0) (fCons (fName 1) (fCons (fName 2) (rt []))))) ⟨S, s⟩ = some (.nx, ⟨S4, s⟩) :=
    (set_ok (g1 := ⟨S, s⟩) (call_ok (ds := [M, .lst (rowD r), .int key]) (g1 := ⟨S, s⟩) (cons_ok (name_ok (by rw [hS]; rfl)) (cons_ok n1 (cons_ok (name_ok (by rw [hS]; rfl)) rfl))) rfl tk)).trans (by rw [hS, hS4]; rfl)
  have t3 : fT (f2 pEq (fName 4) (fLet (fLst (rt [])))) ⟨S4, s⟩ = some (.ok T.isEmpty, ⟨S4, s⟩) := t_ok ((f2_ok (d := .lst (T.map .int)) (d' := .lst []) (g2 := ⟨S4, s⟩) (name_ok (by rw [hS4]; rfl)) rfl).trans (eq_nil T _))
  cases T with
  | nil =>
    refine runB_ret (r := S4) rfl ?_
    refine (congrArg (fun x => fb__law_gone_down ⟨x, s⟩) (show _ = S by rw [hS]; rfl)).trans ?_
    unfold fb__law_gone_down
    exact (seq_nx ((if_f t1).trans rfl)).trans ((seq_nx ((if_f t2).trans rfl)).trans ((seq_nx c4).trans (seq_ret ((if_t t3).trans (ret_ok (pair_ok (cat (a := r) (S' := S4) (name_ok (by rw [hS4]; rfl)) (one _ _ (by rw [hS4]; rfl)) (by simp; omega)) (by rw [hS4]; kernel_rfl)))))))
  | cons k T =>
    obtain ⟨R, hR⟩ : ∃ R, R = r.filter (fun p => !decide (p = (pr k "kept"))) := ⟨_, rfl⟩
    dsimp only
    rw [← hR]
    have lR : R.length ≤ 900 := by rw [hR]; exact Nat.le_trans (List.length_filter_le _ _) hl
    have i4 : ∀ S' : List Sl, S'[4]? = some (.dat (.lst ((k :: T).map .int))) → fIxD (fName 4) (rt (.int 0)) ⟨S', s⟩ = some (.ok (.int k), ⟨S', s⟩) := fun S' h => ix_ok (i := 0) (cs := D.int k :: T.map .int) (name_ok h) rfl rfl ((atI_nat (D.int k :: T.map .int) 0 (by simp)).trans rfl)
    have k5 := keep (S := S4) (s := s) (r := r) (i := 1) (j := 3) (fT (f2 pNe (fName 3) (fTup (fCons (fIxD (fName 4) (rt (.int 0))) (fCons (rt (.str "kept")) (rt [])))))) (fun p => !decide (p = (pr k "kept"))) (by rw [hS4]; rfl) (by omega) (by rw [hS4]; rfl) (fun _ => by rw [hS4]; rfl) (fun _ => by rw [hS4]; rfl)
      (fun p hp => t_ok ((f2_ok (d := prD p) (d' := prD (pr k "kept")) (name_ok (by rw [hS4]; rfl)) (tup_ok (ds := [.int k, .str "kept"]) (cons_ok (i4 _ (by rw [hS4]; rfl)) (cons_ok rfl rfl)) (by show 2 ≤ 100000; decide))).trans (pNe_pr (ok p hp) (show ("kept" : Str) ∈ MKS by decide) _)))
    rw [← hR] at k5
    obtain ⟨S5, hS5⟩ : ∃ S : List Sl, S = [.dat M, .dat (.lst (rowD r)), .dat (.int key), .no, .dat (.lst ((k :: T).map .int)), .own (rowD R)] := ⟨_, rfl⟩
    obtain ⟨S6, hS6⟩ : ∃ S : List Sl, S = [.dat M, .dat (.lst (rowD r)), .dat (.int key), .no, .dat (.lst ((k :: T).map .int)), .dat (.lst (rowD R))] := ⟨_, rfl⟩
    refine runB_ret (r := S6) rfl ?_
    refine (congrArg (fun x => fb__law_gone_down ⟨x, s⟩) (show _ = S by rw [hS]; rfl)).trans ?_
    unfold fb__law_gone_down
    refine (seq_nx ((if_f t1).trans rfl)).trans ((seq_nx ((if_f t2).trans rfl)).trans ((seq_nx c4).trans ((seq_nx ((if_f t3).trans rfl)).trans ((seq_nx (g1 := ⟨S5, s⟩) ((setO_ok k5).trans (by rw [hS4, hS5]; rfl))).trans (ret_ok ?_)))))
    have n5 : fName 5 ⟨S5, s⟩ = some (.ok (.lst (rowD R)), ⟨S6, s⟩) := by rw [hS5, hS6]; rfl
    have m5 : fCallN 3 m__law_marked (fCons (fName 5) (fCons (fIxD (fName 4) (rt (.int 0))) (fCons (rt (.str "waits")) (rt [])))) ⟨S5, s⟩ = some (.ok (.lst (rowD (markL R k "waits"))), ⟨S6, s⟩) :=
      call_ok (ds := [.lst (rowD R), .int k, .str "waits"]) (g1 := ⟨S6, s⟩) (cons_ok n5 (cons_ok (i4 _ (by rw [hS6]; rfl)) (cons_ok rfl rfl))) rfl (marked_ok rfl (by omega) s)
    have a5 := app_cat m5 (one "sounds" S6 (by rw [hS6]; rfl)) (by rw [row_len, row_len, List.length_map]; simp; omega)
    have h8 : fLet (fLst (fCons (fTup (fCons (rt (.str "cut")) (fCons (fIxD (fName 4) (rt (.int 0))) (rt [])))) (fCons (fTup (fCons (rt (.str "begin")) (fCons (fName 2) (rt [])))) (rt [])))) ⟨S6, s⟩ = some (.ok (.lst [.tup [.str "cut", .int k], .tup [.str "begin", .int key]]), ⟨S6, s⟩) := by
      rw [hS6]
      exact let_ok (lst_ok (ds := [.tup [.str "cut", .int k], .tup [.str "begin", .int key]]) (cons_ok (tup_ok (ds := [.str "cut", .int k]) (cons_ok rfl (cons_ok (i4 _ rfl) rfl)) (by show 2 ≤ 100000; decide)) (cons_ok (tup_ok (ds := [.str "begin", .int key]) (cons_ok rfl (cons_ok (name_ok rfl) rfl)) (by show 2 ≤ 100000; decide)) rfl)) (by show 2 ≤ 100000; decide))
    have a6 := a5.trans (show _ = some (.ok (.lst (rowD (markL R k "waits" ++ [pr key "sounds"]))), (⟨S6, s⟩ : Sg)) by rw [show rowD (markL R k "waits" ++ [pr key "sounds"]) = rowD (markL R k "waits") ++ rowD [pr key "sounds"] from List.map_append])
    exact tup_ok (cons_ok a6 (cons_ok h8 rfl)) (by show 2 ≤ 100000; decide)
end S
namespace S
open PyProof.Rows PySem.Spec PySem L2 DE
inductive Ev where | press | lift | up (k : Int) | down (k : Int)
def evD : Ev → D
  | .press => .tup [.str "press"]
  | .lift => .tup [.str "lift"]
  | .up k => .tup [.str "up", .int k]
  | .down k => .tup [.str "down", .int k]
abbrev stD (f : Bool) (r : List Pr) : D := .tup [.bl f, .tup (rowD r)]
abbrev lessL (r : List Pr) (gone : List Int) : List Pr := r.filter fun p => !gone.contains p.1
def keptP (p : Pr) : Bool := decide (p.2 = "kept")
def backR (v : Int) (b : Str) (r : List Pr) (gone : List Int) : List Pr := (fillL v b (lessL r gone).length (lessL r gone) []).1
def stepL (v : Int) (ws : List Str) (e b : Str) : Bool × List Pr → Ev → Bool × List Pr
  | (f, r), .press => (true, r)
  | (f, r), .down k => (f, downL v ws e r k)
  | (f, r), .up k => if r.contains (pr k "waits") = true then (f, r.filter fun p => !decide (p.1 = k)) else if f = true then (f, markL r k "kept") else (false, backR v b r [k])
  | (f, r), .lift => (false, backR v b r (keysOf (r.filter keptP)))
def backB (v : Int) (b : Str) (r : List Pr) (gone : List Int) : List Int := (fillL v b (lessL r gone).length (lessL r gone) []).2
abbrev endB (gone back : List Int) : List (Str × Int) := gone.map (fun x => (("end" : Str), x)) ++ back.map (fun x => (("back" : Str), x))
def deedsL (v : Int) (ws : List Str) (e b : Str) : Bool × List Pr → Ev → List (Str × Int)
  | _, .press => []
  | (_, r), .down k => downD v ws e r k
  | (f, r), .up k => if r.contains (pr k "waits") = true then [("leave", k)] else if f = true then [("keep", k)] else endB [k] (backB v b r [k])
  | (_, r), .lift => endB (keysOf (r.filter keptP)) (backB v b r (keysOf (r.filter keptP)))
abbrev evS (M : D) (f : Bool) (r : List Pr) (ev : D) (r4 : D) (s7 s8 : Sl) : List Sl := [.dat M, .dat (stD f r), .dat ev, .dat (.bl f), .dat r4, .no, .no, s7, s8, .no]
abbrev b0 : Ms := fParDD 3 4 (fIxD (fName 1) (rt (.int 0))) (fLet (bd (fPk (fIxD (fName 1) (rt (.int 1)))) rt))
theorem step0 (M : D) (f : Bool) (r : List Pr) (ev : D) (s : DS) : b0 ⟨[.dat M, .dat (stD f r), .dat ev, .no, .no, .no, .no, .no, .no, .no], s⟩ = some (.nx, ⟨evS M f r ev (.lst (rowD r)) .no .no, s⟩) := rfl
theorem res_ok {f : Mo D} {h : Mo (List D)} {g : Sg} {b : Bool} {xs : List D} {e : Mo D} {d : D} {g2 : Sg} (h1 : f g = some (.ok (.bl b), g)) (h2 : h g = some (.ok xs, g)) (h3 : e g = some (.ok d, g2)) : fTup (fCons (fTup (fCons f (fCons (fTupOf h) (rt [])))) (fCons e (rt []))) g = some (.ok (.tup [.tup [.bl b, .tup xs], d]), g2) :=
  tup_ok (ds := [.tup [.bl b, .tup xs], d]) (cons_ok (tup_ok (ds := [.bl b, .tup xs]) (cons_ok h1 (cons_ok (tupOf_ok h2) rfl)) (by show 2 ≤ 100000; decide)) (cons_ok h3 rfl)) (by show 2 ≤ 100000; decide)
/-- what is left behind keys that are gone, filled again -/
theorem refill_ok {v : Int} {C : D} {b : Str} (hb : b ∈ RET_) {f : Bool} {r : List Pr} (hl : r.length ≤ 900) (ok : okR r) {ev : D} {gone : List Int} (hg : gone.length ≤ 900) (s : DS) :
    ∃ (g : Sg), g.s = s ∧ fSeq (fAsg (fCallN 2 m__law_filled (fCons (fName 0) (fCons (fLet (fComp [6] (fName 4) (gN 6) (fT (f2 (pIn true) (fIxD (fName 6) (rt (.int 0))) (fName 7))) (fName 6))) (rt [])))) (gT 2 (gsCons (gN 4) (gsCons (gN 8) gsNil))))
      (fRet (fTup (fCons (fTup (fCons (rt (.bl false)) (fCons (fTupOf (fPeek 4)) (rt [])))) (fCons (fTupOf (fCat (fLet (fComp [9] (fName 7) (gN 9) ((rt true)) (fTup (fCons (rt (.str "end")) (fCons (fName 9) (rt [])))))) (fLet (fComp [9] (fName 8) (gN 9) ((rt true)) (fTup (fCons (rt (.str "back")) (fCons (fName 9) (rt [])))))))) (rt [])))))
      ⟨evS (.tup [.int v, C, .str b]) f r ev (.lst (rowD r)) (.dat (.lst (gone.map .int))) .no, s⟩ = some (.ret (.tup [stD false (backR v b r gone), .tup (ddD (endB gone (backB v b r gone)))]), g) := by
  obtain ⟨M, hM⟩ : ∃ M, M = D.tup [.int v, C, .str b] := ⟨_, rfl⟩
  have fo := filled_ok (v := v) (C := C) hb (r := lessL r gone) (ok.filter _) (by have := List.length_filter_le (fun p : Pr => !gone.contains p.1) r; show (List.filter _ r).length ≤ _; omega) s
  rw [← hM] at fo ⊢
  obtain ⟨bk, hbk⟩ : ∃ x, x = (fillL v b (lessL r gone).length (lessL r gone) []).2 := ⟨_, rfl⟩
  have eR : (fillL v b (lessL r gone).length (lessL r gone) []).1 = backR v b r gone := rfl
  rw [eR, ← hbk] at fo
  have eB : backB v b r gone = bk := hbk.symm
  rw [eB, show ddD (endB gone bk) = gone.map (fun x => D.tup [.str "end", .int x]) ++ bk.map (fun x => D.tup [.str "back", .int x]) by unfold ddD endB; rw [List.map_append, List.map_map, List.map_map]; rfl]
  have lbk : bk.length ≤ 900 := by
    have : ∀ (n : Nat) (q : List Pr) (f : List Int), (fillL v b n q f).2.length ≤ f.length + n := by
      intro n
      induction n with
      | zero => intro q f; exact Nat.le_refl _
      | succ n ih =>
        intro q f
        unfold fillL
        split
        · have := ih (markL q (backL b q) "sounds") (f ++ [backL b q]); simp at this; omega
        · have := ih q f; omega
    have h1 := this (lessL r gone).length (lessL r gone) []
    have h2 := List.length_filter_le (fun p : Pr => !gone.contains p.1) r
    rw [hbk]
    simp at h1
    exact Nat.le_trans h1 (Nat.le_trans h2 hl)
  have k := keep (S := evS M f r ev (.lst (rowD r)) (.dat (.lst (gone.map .int))) .no) (s := s) (r := r) (i := 4) (j := 6) (fT (f2 (pIn true) (fIxD (fName 6) (rt (.int 0))) (fName 7))) (fun p => !gone.contains p.1) rfl (by omega) rfl (fun _ => rfl) (fun _ => rfl)
    (fun p _ => in_ints (neg := true) (xs := gone) (pr0 (p := p) rfl) (name_ok rfl) rfl)
  have c1 : fAsg (fCallN 2 m__law_filled (fCons (fName 0) (fCons (fLet (fComp [6] (fName 4) (gN 6) (fT (f2 (pIn true) (fIxD (fName 6) (rt (.int 0))) (fName 7))) (fName 6))) (rt [])))) (gT 2 (gsCons (gN 4) (gsCons (gN 8) gsNil))) ⟨evS M f r ev (.lst (rowD r)) (.dat (.lst (gone.map .int))) .no, s⟩ =
      some (.nx, ⟨evS M f r ev (.lst (rowD (backR v b r gone))) (.dat (.lst (gone.map .int))) (.dat (.lst (bk.map .int))), s⟩) :=
    asg_ok (g1 := ⟨evS M f r ev (.lst (rowD r)) (.dat (.lst (gone.map .int))) .no, s⟩) (call_ok (ds := [M, .lst (rowD (lessL r gone))]) (g1 := ⟨evS M f r ev (.lst (rowD r)) (.dat (.lst (gone.map .int))) .no, s⟩) (cons_ok (name_ok rfl) (cons_ok (let_ok k) rfl)) rfl fo) rfl
  obtain ⟨S, hS⟩ : ∃ S, S = evS M f r ev (.lst (rowD (backR v b r gone))) (.dat (.lst (gone.map .int))) (.dat (.lst (bk.map .int))) := ⟨_, rfl⟩
  rw [← hS] at c1
  have lst : ∀ (i : Nat) (w : Str) (xs : List Int), S[i]? = some (.dat (.lst (xs.map .int))) → xs.length ≤ 1000 → fLet (fComp [9] (fName i) (gN 9) (rt true) (fTup (fCons (rt (.str w)) (fCons (fName 9) (rt []))))) ⟨S, s⟩ = some (.ok (.lst (xs.map fun x => D.tup [.str w, .int x])), ⟨S, s⟩) := fun i w xs h hx => by
    have c := compL_on (vs := [9]) (t := gN 9) (c := rt true) (e := fTup (fCons (rt (.str w)) (fCons (fName 9) (rt [])))) (E := D.int) (F := fun x : Int => D.tup [.str w, .int x]) (P := fun _ => true) (S := S) (s := s) xs fun q _ =>
      ⟨⟨S.set 9 (.dat (.int q)), s⟩, ⟨S.set 9 (.dat (.int q)), s⟩, rfl, rfl, fun _ => ⟨⟨S.set 9 (.dat (.int q)), s⟩, tup_ok (ds := [.str w, .int q]) (cons_ok rfl (cons_ok (name_ok (by rw [hS]; rfl)) rfl)) (by show 2 ≤ 100000; decide), by rw [hS]; rfl, rfl⟩, fun z => by cases z⟩
    rw [List.filter_eq_self.mpr fun _ _ => rfl] at c
    exact let_ok (comp_ok (vs := [9]) (fi := fName i) (t := gN 9) (g := ⟨S, s⟩) (g1 := ⟨S, s⟩) (name_ok h) rfl (by rw [List.length_map]; omega) (by show compL _ _ _ _ _ ⟨wipeR S [9], s⟩ = _; rw [show wipeR S [9] = S by rw [hS]; rfl]; exact c))
  have e9 : fCat (fLet (fComp [9] (fName 7) (gN 9) ((rt true)) (fTup (fCons (rt (.str "end")) (fCons (fName 9) (rt [])))))) (fLet (fComp [9] (fName 8) (gN 9) ((rt true)) (fTup (fCons (rt (.str "back")) (fCons (fName 9) (rt [])))))) ⟨S, s⟩ = some (.ok (gone.map (fun x => D.tup [.str "end", .int x]) ++ bk.map (fun x => D.tup [.str "back", .int x])), ⟨S, s⟩) := by
    unfold fCat
    rw [bd_ok (lst 7 "end" gone (by rw [hS]; rfl) (by omega)), bd_ok (lst 8 "back" bk (by rw [hS]; rfl) (by omega))]
    dsimp only
    rw [if_pos (by simp; omega)]; rfl
  exact ⟨⟨S, s⟩, rfl, (seq_nx c1).trans (ret_ok (res_ok rfl (peek_l (by rw [hS]; rfl)) (tupOf_ok e9)))⟩
theorem step_ok {v : Int} {ws : List Str} {e b : Str} (hb : b ∈ RET_) {f : Bool} {r : List Pr} (hl : r.length ≤ 900) (ok : okR r) (hv : 1 ≤ v) (hw : ∀ x ∈ ws, x ∈ FIL) (hwl : ws.length ≤ 1000) (ev : Ev) (s : DS) :
    m__law_stepped [.tup [.int v, .tup (csOf ws e), .str b], stD f r, evD ev] s = some (.ok (.tup [stD (stepL v ws e b (f, r) ev).1 (stepL v ws e b (f, r) ev).2, .tup (ddD (deedsL v ws e b (f, r) ev))]), s) := by
  obtain ⟨M, hM⟩ : ∃ M, M = D.tup [.int v, .tup (csOf ws e), .str b] := ⟨_, rfl⟩
  rw [← hM]
  cases ev with
  | press => kernel_rfl
  | down k =>
    have go := gone_ok (v := v) (ws := ws) (e := e) (b := b) hl ok hv hw hwl k s
    rw [← hM] at go
    rw [show deedsL v ws e b (f, r) (.down k) = downD v ws e r k from rfl, show (stepL v ws e b (f, r) (.down k)) = (f, downL v ws e r k) from rfl]
    obtain ⟨ds, hds⟩ : ∃ ds, ds = ddD (downD v ws e r k) := ⟨_, rfl⟩
    rw [← hds] at go ⊢
    refine (runB_ret (r := [.dat M, .dat (stD f r), .dat (evD (.down k)), .dat (.bl f), .dat (.lst (rowD (downL v ws e r k))), .dat (.lst ds), .no, .no, .no, .no]) rfl ?_)
    unfold fb__law_stepped
    refine (seq_nx (step0 M f r _ s)).trans ((seq_nx (g1 := ⟨evS M f r (evD (.down k)) (.lst (rowD r)) .no .no, s⟩) (by kernel_rfl)).trans (seq_ret ((if_t (g1 := ⟨evS M f r (evD (.down k)) (.lst (rowD r)) .no .no, s⟩) (by kernel_rfl)).trans ?_)))
    refine (seq_nx (asg_ok (d := .tup [.lst (rowD (downL v ws e r k)), .lst ds]) (g1 := ⟨evS M f r (evD (.down k)) (.lst (rowD r)) .no .no, s⟩) (g2 := ⟨[.dat M, .dat (stD f r), .dat (evD (.down k)), .dat (.bl f), .dat (.lst (rowD (downL v ws e r k))), .dat (.lst ds), .no, .no, .no, .no], s⟩) (call_ok (ds := [M, .lst (rowD r), .int k]) (g1 := ⟨evS M f r (evD (.down k)) (.lst (rowD r)) .no .no, s⟩) (by kernel_rfl) rfl go) rfl)).trans ?_
    exact ret_ok (res_ok (name_ok rfl) (peek_l rfl) (tupOf_ok (peek_l rfl)))
  | lift =>
    obtain ⟨S, hS⟩ : ∃ S, S = evS M f r (evD .lift) (.lst (rowD r)) .no .no := ⟨_, rfl⟩
    have hk : (keysOf (r.filter keptP)).length ≤ 900 := by rw [List.length_map]; exact Nat.le_trans (List.length_filter_le _ _) hl
    obtain ⟨g, hs, tl⟩ := refill_ok (v := v) (C := .tup (csOf ws e)) hb (f := f) hl ok (ev := evD .lift) hk s
    rw [← hM] at tl
    obtain ⟨gr, gs⟩ := g
    have hs : s = gs := hs.symm
    subst hs
    refine runB_ret (r := gr) rfl ?_
    unfold fb__law_stepped
    have e1 := step0 M f r (evD .lift) s
    rw [← hS] at e1
    refine (seq_nx e1).trans ((seq_nx (g1 := ⟨S, s⟩) (by rw [hS]; kernel_rfl)).trans ((seq_nx (g1 := ⟨S, s⟩) (by rw [hS]; kernel_rfl)).trans ((seq_nx (g1 := ⟨S, s⟩) (by rw [hS]; kernel_rfl)).trans ((seq_nx (g1 := ⟨S, s⟩) (by rw [hS]; kernel_rfl)).trans ?_))))
    have c := compL_on (vs := [6]) (t := gN 6) (c := fT (f2 pEq (fIxD (fName 6) (rt (.int 1))) (rt (.str "kept")))) (e := fIxD (fName 6) (rt (.int 0))) (E := prD) (F := fun p : Pr => D.int p.1) (P := keptP) (S := S) (s := s) r fun q _ =>
      ⟨⟨S.set 6 (.dat (prD q)), s⟩, ⟨S.set 6 (.dat (prD q)), s⟩, rfl, eq_str (pr1 (by rw [hS]; rfl)) rfl, fun _ => ⟨⟨S.set 6 (.dat (prD q)), s⟩, pr0 (by rw [hS]; rfl), by rw [hS]; rfl, rfl⟩, fun _ => ⟨by rw [hS]; rfl, rfl⟩⟩
    have k := comp_ok (vs := [6]) (fi := fName 4) (t := gN 6) (g := ⟨S, s⟩) (g1 := ⟨S, s⟩) (ds := rowD r) (name_ok (d := .lst (rowD r)) (by rw [hS]; rfl)) rfl (by rw [row_len]; omega) (by show compL _ _ _ _ _ ⟨wipeR S [6], s⟩ = _; rw [show wipeR S [6] = S by rw [hS]; rfl]; exact c)
    rw [show (r.filter keptP).map (fun p : Pr => D.int p.1) = (keysOf (r.filter keptP)).map D.int by simp] at k
    have c7 : fSet 7 (fIfE (fT (f2 pEq (fIxD (fName 2) (rt (.int 0))) (rt (.str "lift")))) (fLet (fComp [6] (fName 4) (gN 6) (fT (f2 pEq (fIxD (fName 6) (rt (.int 1))) (rt (.str "kept")))) (fIxD (fName 6) (rt (.int 0))))) (fLet (fLst (fCons (fIxD (fName 2) (rt (.int 1))) (rt []))))) ⟨S, s⟩ =
        some (.nx, ⟨evS M f r (evD .lift) (.lst (rowD r)) (.dat (.lst ((keysOf (r.filter keptP)).map .int))) .no, s⟩) :=
      (set_ok ((ifE_t (g1 := ⟨S, s⟩) (by rw [hS]; kernel_rfl)).trans (let_ok k))).trans (by rw [hS]; rfl)
    exact (seq_nx c7).trans tl
  | up k =>
    obtain ⟨S, hS⟩ : ∃ S, S = evS M f r (evD (.up k)) (.lst (rowD r)) .no .no := ⟨_, rfl⟩
    have e1 := step0 M f r (evD (.up k)) s
    rw [← hS] at e1
    have i1 : ∀ S' : List Sl, S'[2]? = some (.dat (evD (.up k))) → fIxD (fName 2) (rt (.int 1)) ⟨S', s⟩ = some (.ok (.int k), ⟨S', s⟩) := fun S' h => ix_ok (i := 1) (name_ok h) rfl rfl rfl
    have t1 : fT (f2 pEq (fIxD (fName 2) (rt (.int 0))) (rt (.str "up"))) ⟨S, s⟩ = some (.ok true, ⟨S, s⟩) := by rw [hS]; kernel_rfl
    have t2 : fT (f2 (pInD false) (fTup (fCons (fIxD (fName 2) (rt (.int 1))) (fCons (rt (.str "waits")) (rt [])))) (fName 4)) ⟨S, s⟩ = some (.ok (r.contains (pr k "waits")), ⟨S, s⟩) :=
      t_ok ((f2_ok (d := prD (pr k "waits")) (d' := .lst (rowD r)) (g2 := ⟨S, s⟩) (tup_ok (ds := [.int k, .str "waits"]) (cons_ok (i1 S (by rw [hS]; rfl)) (cons_ok rfl rfl)) (by show 2 ≤ 100000; decide)) (name_ok (by rw [hS]; rfl))).trans (pInD_row ok (show ("waits" : Str) ∈ MKS by decide) _))
    by_cases c1 : r.contains (pr k "waits") = true
    · rw [c1] at t2
      have k1 := keep (S := S) (s := s) (r := r) (i := 4) (j := 6) (fT (f2 pNe (fIxD (fName 6) (rt (.int 0))) (fIxD (fName 2) (rt (.int 1))))) (fun p => !decide (p.1 = k)) (by rw [hS]; rfl) (by omega) (by rw [hS]; rfl) (fun _ => by rw [hS]; rfl) (fun _ => by rw [hS]; rfl)
        (fun p _ => ne_int (pr0 (p := p) (by rw [hS]; rfl)) (i1 _ (by rw [hS]; rfl)))
      rw [show stepL v ws e b (f, r) (.up k) = (f, r.filter fun p => !decide (p.1 = k)) from if_pos c1, show deedsL v ws e b (f, r) (.up k) = [(("leave" : Str), k)] from if_pos c1]
      refine runB_ret (r := S) rfl ?_
      unfold fb__law_stepped
      refine (seq_nx e1).trans ((seq_nx (g1 := ⟨S, s⟩) (by rw [hS]; kernel_rfl)).trans ((seq_nx (g1 := ⟨S, s⟩) (by rw [hS]; kernel_rfl)).trans (seq_ret ((if_t ((and_t t1).trans t2)).trans (ret_ok (res_ok (name_ok (by rw [hS]; rfl)) k1 ?_))))))
      rw [hS]; kernel_rfl
    rw [Bool.eq_false_iff.mpr c1] at t2
    cases f with
    | true =>
      rw [show stepL v ws e b (true, r) (.up k) = (true, markL r k "kept") from (if_neg c1).trans (if_pos rfl), show deedsL v ws e b (true, r) (.up k) = [(("keep" : Str), k)] from (if_neg c1).trans (if_pos rfl)]
      refine runB_ret (r := S) rfl ?_
      unfold fb__law_stepped
      refine (seq_nx e1).trans ((seq_nx (g1 := ⟨S, s⟩) (by rw [hS]; kernel_rfl)).trans ((seq_nx (g1 := ⟨S, s⟩) (by rw [hS]; kernel_rfl)).trans ((seq_nx (g1 := ⟨S, s⟩) ((if_f ((and_t t1).trans t2)).trans rfl)).trans (seq_ret ((if_t (g1 := ⟨S, s⟩) ((and_t t1).trans (by rw [hS]; kernel_rfl))).trans (ret_ok (res_ok (name_ok (by rw [hS]; rfl)) ?_ ?_)))))))
      · refine (bd_ok (?_ : fCallN 3 m__law_marked (fCons (fName 4) (fCons (fIxD (fName 2) (rt (.int 1))) (fCons (rt (.str "kept")) (rt [])))) ⟨S, s⟩ = some (.ok (.lst (rowD (markL r k "kept"))), ⟨S, s⟩))).trans rfl
        exact (call_ok (ds := [.lst (rowD r), .int k, .str "kept"]) (g1 := ⟨S, s⟩) (cons_ok (name_ok (by rw [hS]; rfl)) (cons_ok (i1 S (by rw [hS]; rfl)) (cons_ok rfl rfl))) rfl (marked_ok (r := r) rfl (by omega) s))
      · rw [hS]; kernel_rfl
    | false =>
      rw [show stepL v ws e b (false, r) (.up k) = (false, backR v b r [k]) from (if_neg c1).trans (if_neg Bool.false_ne_true), show deedsL v ws e b (false, r) (.up k) = endB [k] (backB v b r [k]) from (if_neg c1).trans (if_neg Bool.false_ne_true)]
      obtain ⟨g, hs, tl⟩ := refill_ok (v := v) (C := .tup (csOf ws e)) hb (f := false) hl ok (ev := evD (.up k)) (gone := [k]) (by show 1 ≤ 900; decide) s
      rw [← hM] at tl
      obtain ⟨gr, gs⟩ := g
      have hs : s = gs := hs.symm
      subst hs
      refine runB_ret (r := gr) rfl ?_
      unfold fb__law_stepped
      refine (seq_nx e1).trans ((seq_nx (g1 := ⟨S, s⟩) (by rw [hS]; kernel_rfl)).trans ((seq_nx (g1 := ⟨S, s⟩) (by rw [hS]; kernel_rfl)).trans ((seq_nx (g1 := ⟨S, s⟩) ((if_f ((and_t t1).trans t2)).trans rfl)).trans ((seq_nx (g1 := ⟨S, s⟩) (by rw [hS]; kernel_rfl)).trans ((seq_nx (g1 := ⟨evS M false r (evD (.up k)) (.lst (rowD r)) (.dat (.lst ([k].map .int))) .no, s⟩) (by rw [hS]; kernel_rfl)).trans tl)))))
end S
namespace S
open PyProof.Rows PySem.Spec PySem L2 DE
/-! ### counts in rows -/
theorem loud_wait (p : Pr) : loudP p = !waitP p := rfl
theorem counts : ∀ r : List Pr, (r.filter loudP).length + (r.filter waitP).length = r.length
  | [] => rfl
  | p :: r => by
    have := counts r
    by_cases h : waitP p = true
    · rw [List.filter_cons_of_pos (p := waitP) h, List.filter_cons_of_neg (p := loudP) (by rw [loud_wait, h]; decide)]
      simp; omega
    · rw [List.filter_cons_of_neg (p := waitP) h, List.filter_cons_of_pos (p := loudP) (by rw [loud_wait, Bool.eq_false_iff.mpr h]; decide)]
      simp; omega
theorem filt_one {k : Int} : ∀ {l : List Pr}, (keysOf l).Nodup → k ∈ keysOf l → (l.filter fun p => !decide (p.1 = k)).length + 1 = l.length
  | [], _, h => by simp at h
  | p :: l, nd, h => by
    have nd' := List.nodup_cons.mp nd
    by_cases e : p.1 = k
    · rw [List.filter_cons_of_neg (by simp [e])]
      have : l.filter (fun p => !decide (p.1 = k)) = l := List.filter_eq_self.mpr fun q hq => by
        have : q.1 ≠ k := fun z => nd'.1 (show p.1 ∈ keysOf l by rw [e, ← z]; exact List.mem_map_of_mem hq)
        simp [this]
      rw [this]; rfl
    · rw [List.filter_cons_of_pos (by simp [e])]
      have h' : k ∈ keysOf l := by
        rcases List.mem_cons.mp h with h | h
        · exact absurd h.symm e
        · exact h
      have := filt_one nd'.2 h'; simp only [List.length_cons]; omega
theorem nd_sub {r q : List Pr} (h : q.Sublist r) (nd : (keysOf r).Nodup) : (keysOf q).Nodup := (h.map (·.1)).nodup nd
theorem nd_uniq {r : List Pr} (nd : (keysOf r).Nodup) {p q : Pr} (hp : p ∈ r) (hq : q ∈ r) (e : p.1 = q.1) : p = q := by
  induction r with
  | nil => cases hp
  | cons a r ih =>
    have nd' := List.nodup_cons.mp nd; rcases List.mem_cons.mp hp with rfl | hp'
    · rcases List.mem_cons.mp hq with rfl | hq'
      · rfl
      · exact absurd (show p.1 ∈ keysOf r by rw [e]; exact List.mem_map_of_mem hq') nd'.1
    · rcases List.mem_cons.mp hq with rfl | hq'
      · exact absurd (show q.1 ∈ keysOf r by rw [← e]; exact List.mem_map_of_mem hp') nd'.1
      · exact ih nd'.2 hp' hq'
theorem keys_mark (r : List Pr) (k : Int) (m : Str) : keysOf (markL r k m) = keysOf r := by
  refine (List.map_map ..).trans (List.map_congr_left fun p _ => ?_)
  show (markP k m p).1 = p.1
  unfold markP; split <;> rfl
theorem mark_len (P : Pr → Bool) (r : List Pr) (k : Int) (m : Str) : ((markL r k m).filter P).length = (r.filter fun p => P (markP k m p)).length := by
  rw [List.filter_map, List.length_map]; rfl
theorem end_mem {w : Str} {hs : List Int} (h : hs ≠ []) {x : Int} (hx : x ∈ endL w hs) : x ∈ hs := by
  unfold endL at hx
  split at hx
  · exact List.mem_of_mem_take hx
  split at hx
  · exact List.mem_of_mem_drop hx
  split at hx
  · rw [List.mem_singleton.mp hx]; exact (minL_is hs h).1
  split at hx
  · rw [List.mem_singleton.mp hx]; exact (maxL_is hs h).1
  · cases hx
theorem mem_key {r : List Pr} {k : Int} (h : k ∈ keysOf r) : ∃ p ∈ r, p.1 = k := by
  obtain ⟨p, hp, rfl⟩ := List.mem_map.mp h; exact ⟨p, hp, rfl⟩
theorem key_mem {r : List Pr} {p : Pr} (h : p ∈ r) : p.1 ∈ keysOf r := List.mem_map_of_mem h
theorem wait_is {p : Pr} (h : waitP p = true) : p = pr p.1 "waits" := by
  have : p.2 = "waits" := of_decide_eq_true h
  exact Prod.ext rfl this
/-! ### the return -/
abbrev nL (r : List Pr) : Int := ((r.filter loudP).length : Int)
def waitsB (v : Int) (b : Str) (r : List Pr) : Prop := b = "none" ∨ v ≤ nL r ∨ r.filter waitP = []
theorem back_mem {b : Str} (hb : b ∈ RET_) {v : Int} {r : List Pr} (g : goesB v b r) : pr (backL b r) "waits" ∈ r := by
  obtain ⟨g1, g2, g3⟩ := g
  have ne : keysOf (r.filter waitP) ≠ [] := by simpa using g2
  have e := end_ne hb g1 ne
  have : backL b r ∈ keysOf (r.filter waitP) := end_mem ne (w := b) (by rw [e]; exact List.mem_cons_self)
  obtain ⟨p, hp, k⟩ := mem_key this
  obtain ⟨h1, h2⟩ := List.mem_filter.mp hp
  rw [← k, ← wait_is h2]
  exact h1
theorem wait_sounds {r : List Pr} {k : Int} (nd : (keysOf r).Nodup) (h : pr k "waits" ∈ r) : ((markL r k "sounds").filter waitP).length + 1 = (r.filter waitP).length := by
  rw [mark_len]
  have e : (r.filter fun p => waitP (markP k "sounds" p)) = (r.filter waitP).filter fun p => !decide (p.1 = k) := by
    rw [List.filter_filter]
    refine List.filter_congr fun p _ => ?_
    unfold markP
    by_cases c : p.1 = k
    · rw [if_pos c]; simp [c]; rfl
    · rw [if_neg c]; simp [c]
  rw [e]
  exact filt_one (nd_sub (List.filter_sublist) nd) (by
    have : pr k "waits" ∈ r.filter waitP := List.mem_filter.mpr ⟨h, rfl⟩
    exact key_mem this)
structure Fills (b : Str) (v : Int) (r q : List Pr) : Prop where
  keys : keysOf q = keysOf r
  ok : okR q
  kept : ∀ p ∈ q, p.2 = "kept" → p ∈ r
  rest : ∀ p ∈ q, p.2 ≠ "kept" → ∃ m : Str, m ≠ "kept" ∧ pr p.1 m ∈ r
  lo : nL q ≤ v
  wt : waitsB v b q
theorem fill_is {v : Int} {b : Str} (hb : b ∈ RET_) : ∀ (n : Nat) (r : List Pr) (f : List Int), (r.filter waitP).length ≤ n → (keysOf r).Nodup → okR r → nL r ≤ v → Fills b v r (fillL v b n r f).1
  | 0, r, f, h, nd, ok, lo => ⟨rfl, ok, fun p hp _ => hp, fun p hp hk => ⟨p.2, hk, hp⟩, lo, .inr (.inr (by cases e : r.filter waitP with | nil => exact e | cons a l => rw [e] at h; simp at h))⟩
  | n + 1, r, f, h, nd, ok, lo => by
    show Fills b v r (if goesB v b r then fillL v b n (markL r (backL b r) "sounds") (f ++ [backL b r]) else fillL v b n r f).1
    by_cases g : goesB v b r
    · rw [if_pos g]
      have hm := back_mem hb g
      have w := wait_sounds nd hm
      have c1 := counts r
      have c2 := counts (markL r (backL b r) "sounds")
      rw [List.length_map] at c2
      have g3 := g.2.2
      obtain ⟨i1, i2, i3, i4, i5, i6⟩ := fill_is hb n (markL r (backL b r) "sounds") (f ++ [backL b r]) (by omega) (by rw [keys_mark]; exact nd) (okR_mark ok _ (show ("sounds" : Str) ∈ MKS by decide)) (by show ((_ : Nat) : Int) ≤ v; omega)
      refine ⟨i1.trans (keys_mark ..), i2, fun p hp hk => ?_, fun p hp hk => ?_, i5, i6⟩
      · obtain ⟨q, hq, e⟩ := List.mem_map.mp (i3 p hp hk)
        unfold markP at e
        split at e
        · rw [← e] at hk; exact absurd hk (show ¬ ("sounds" : Str) = "kept" by decide)
        · rw [← e]; exact hq
      · obtain ⟨m, hm1, hm2⟩ := i4 p hp hk
        obtain ⟨q, hq, e⟩ := List.mem_map.mp hm2
        unfold markP at e
        split at e
        · rename_i c
          have : p.1 = backL b r := by have := congrArg Prod.fst e; exact this.symm.trans c
          exact ⟨"waits", by decide, by rw [this]; exact hm⟩
        · exact ⟨m, hm1, by rw [← e]; exact hq⟩
    · rw [if_neg g]
      have : ∀ (n : Nat) (f : List Int), (fillL v b n r f).1 = r := by
        intro n
        induction n with
        | zero => intro f; rfl
        | succ n ih =>
          intro f
          show (if goesB v b r then _ else fillL v b n r f).1 = r
          rw [if_neg g]; exact ih f
      rw [this]
      refine ⟨rfl, ok, fun p hp _ => hp, fun p hp hk => ⟨p.2, hk, hp⟩, lo, ?_⟩
      by_cases b1 : b = "none"
      · exact .inl b1
      by_cases b2 : r.filter waitP = []
      · exact .inr (.inr b2)
      · exact .inr (.inl (by
          have k : ¬ nL r < v := fun z => g ⟨b1, b2, z⟩
          exact Int.not_lt.mp k))
end S
namespace S
open PyProof.Rows PySem.Spec PySem L2 DE
/-! ### states that hold -/
/-- the keys that the law's states have -/
abbrev Kok (k : Int) : Prop := (0 ≤ k ∧ k ≤ 87) ∧ True
structure Val (v : Int) (b : Str) (f : Bool) (r : List Pr) : Prop where
  ok : okR r
  key : ∀ p ∈ r, Kok p.1
  nd : (keysOf r).Nodup
  pd : f = false → ∀ p ∈ r, p.2 ≠ "kept"
  lo : nL r ≤ v
  wt : waitsB v b r
abbrev Held (r : List Pr) (hs : List Int) : Prop := ∀ p ∈ r, p.2 ≠ "kept" → p.1 ∈ hs
theorem taken_is {v : Int} {ws : List Str} {e : Str} {r : List Pr} {key k : Int} {T : List Int} (hv : 1 ≤ v) (h : takenL v ws e r key = k :: T) : ∃ p ∈ r, p.1 = k ∧ loudP p = true := by
  unfold takenL at h
  split at h
  · cases h
  · rename_i c
    split at h
    · cases h
    · rename_i cur hc
      have hr : r.filter loudP ≠ [] := by intro z; rw [z] at c; exact c (by show ((0 : Nat) : Int) < v; omega)
      obtain ⟨n1, n2, n3⟩ := narrow_ne ws _ hr hc
      have : k ∈ keysOf cur := end_mem (w := e) (by simpa using n1) (by rw [h]; exact List.mem_cons_self)
      obtain ⟨p, hp, e⟩ := mem_key this
      obtain ⟨m1, m2⟩ := List.mem_filter.mp (n3 p hp)
      exact ⟨p, m1, e, m2⟩
theorem nL_app (r : List Pr) (p : Pr) : nL (r ++ [p]) = nL r + (if loudP p = true then 1 else 0) := by
  show (((r ++ [p]).filter loudP).length : Int) = ((r.filter loudP).length : Int) + _
  rw [List.filter_append, List.length_append]
  cases h : loudP p <;> simp [h]
theorem nW_app (r : List Pr) (p : Pr) : (r ++ [p]).filter waitP = r.filter waitP ++ (if waitP p = true then [p] else []) := by
  rw [List.filter_append]
  cases h : waitP p <;> simp [h]
theorem okR_one {k : Int} {m : Str} (h : m ∈ MKS) : okR [pr k m] := fun p hp => by rw [List.mem_singleton.mp hp]; exact h
theorem nd_app {r : List Pr} {k : Int} {m : Str} (nd : (keysOf r).Nodup) (h : k ∉ keysOf r) : (keysOf (r ++ [pr k m])).Nodup := by
  rw [show keysOf (r ++ [pr k m]) = keysOf r ++ [k] by simp]
  rw [List.nodup_append]
  refine ⟨nd, by simp, fun a ha c hc => ?_⟩
  rw [List.mem_singleton.mp hc]
  rintro rfl
  exact h ha
theorem down_val {v : Int} {ws : List Str} {e b : Str} {f : Bool} {r : List Pr} {hs : List Int} (hv : 1 ≤ v) (V : Val v b f r) (H : Held r hs) {k : Int} (hk : Kok k) (hn : k ∉ hs) :
    Val v b f (downL v ws e r k) ∧ Held (downL v ws e r k) (hs ++ [k]) ∧ (downL v ws e r k).length ≤ r.length + 1 := by
  obtain ⟨ok, key, nd, pd, lo, wt⟩ := V
  have kk : ∀ p ∈ r, p.1 = k → p = pr k "kept" := fun p hp c => by
    by_cases m : p.2 = "kept"
    · exact Prod.ext c m
    · exact absurd (c ▸ H p hp m) hn
  have hm : ∀ {q : List Pr} {m : Str}, (∀ p ∈ q, p.1 ∈ keysOf r ∧ (p.2 ≠ "kept" → p.1 ∈ hs)) → Held (q ++ [pr k m]) (hs ++ [k]) := fun h p hp m => by
    rcases (List.mem_append.mp hp) with hp | hp
    · exact List.mem_append_left _ ((h p hp).2 m)
    · rw [(List.mem_singleton.mp hp)]; simp
  have hkey : ∀ {q : List Pr} {m : Str}, (∀ p ∈ q, Kok p.1) → ∀ p ∈ q ++ [pr k m], Kok p.1 := fun h p hp => by
    rcases (List.mem_append.mp hp) with hp | hp
    · exact h p hp
    · rw [(List.mem_singleton.mp hp)]; exact hk
  have hpd : ∀ {q : List Pr} {m : Str}, m ≠ "kept" → (f = false → ∀ p ∈ q, p.2 ≠ "kept") → f = false → ∀ p ∈ q ++ [pr k m], p.2 ≠ "kept" := fun h1 h2 hf p hp => by
    rcases (List.mem_append.mp hp) with hp | hp
    · exact h2 hf p hp
    · rw [(List.mem_singleton.mp hp)]; exact h1
  unfold downL
  by_cases c1 : r.contains (pr k "kept") = true
  · rw [if_pos c1]
    have c1 : pr k "kept" ∈ r := by simpa using c1
    have sub : (r.filter fun p => !decide (p.1 = k)).Sublist r := List.filter_sublist
    have cnt : nL (r.filter fun p => !decide (p.1 = k)) + 1 = nL r := by
      have e1 : (r.filter fun p => !decide (p.1 = k)).filter loudP = (r.filter loudP).filter fun p => !decide (p.1 = k) := by
        rw [List.filter_filter, List.filter_filter]
        exact List.filter_congr fun p _ => Bool.and_comm _ _
      have := filt_one (k := k) (l := r.filter loudP) (nd_sub List.filter_sublist nd) (key_mem (p := pr k "kept") (List.mem_filter.mpr ⟨c1, rfl⟩))
      show (((r.filter fun p => !decide (p.1 = k)).filter loudP).length : Int) + 1 = ((r.filter loudP).length : Int)
      rw [e1]; omega
    refine ⟨⟨(ok.filter _).app (okR_one (show ("sounds" : Str) ∈ MKS by decide)), hkey fun p hp => key p (sub.mem hp), nd_app (nd_sub sub nd) ?_, hpd (by decide) fun hf p hp => pd hf p (sub.mem hp), ?_, ?_⟩, hm fun p hp => ⟨key_mem (sub.mem hp), H p (sub.mem hp)⟩, ?_⟩
    · intro h
      obtain ⟨p, hp, e⟩ := mem_key h
      have := (List.mem_filter.mp hp).2
      simp [e] at this
    · rw [nL_app, if_pos (show loudP (pr k "sounds") = true by rfl)]; omega
    · rcases wt with w | w | w
      · exact .inl w
      · refine .inr (.inl ?_)
        rw [nL_app, if_pos (show loudP (pr k "sounds") = true by rfl)]; omega
      · refine .inr (.inr ?_)
        rw [nW_app, if_neg (show ¬ waitP (pr k "sounds") = true from Bool.false_ne_true)]
        rw [List.append_nil, List.filter_eq_nil_iff]
        intro p hp
        exact List.filter_eq_nil_iff.mp w p (sub.mem hp)
    · have := sub.length_le
      rw [List.length_append]; show _ + 1 ≤ _; omega
  rw [if_neg c1]
  have c1 : pr k "kept" ∉ r := by simpa using c1
  have nk : k ∉ keysOf r := fun h => by
    obtain ⟨p, hp, e⟩ := mem_key h
    exact c1 (kk p hp e ▸ hp)
  by_cases c2 : ((r.filter loudP).length : Int) < v
  · rw [if_pos c2]
    refine ⟨⟨ok.app (okR_one (show ("sounds" : Str) ∈ MKS by decide)), hkey key, nd_app nd nk, hpd (by decide) pd, ?_, ?_⟩, hm fun p hp => ⟨key_mem hp, H p hp⟩, by rw [List.length_append]; exact Nat.le_refl _⟩
    · rw [nL_app, if_pos (show loudP (pr k "sounds") = true by rfl)]
      have : nL r < v := c2
      omega
    · rcases wt with w | w | w
      · exact .inl w
      · exact absurd c2 (Int.not_lt.mpr w)
      · refine .inr (.inr ?_)
        rw [nW_app, if_neg (show ¬ waitP (pr k "sounds") = true from Bool.false_ne_true), w]; rfl
  rw [if_neg c2]
  cases hT : takenL v ws e r k with
  | nil =>
    dsimp only
    refine ⟨⟨ok.app (okR_one (show ("waits" : Str) ∈ MKS by decide)), hkey key, nd_app nd nk, hpd (by decide) pd, ?_, ?_⟩, hm fun p hp => ⟨key_mem hp, H p hp⟩, by rw [List.length_append]; exact Nat.le_refl _⟩
    · rw [nL_app, if_neg (show ¬ loudP (pr k "waits") = true from Bool.false_ne_true)]
      omega
    · refine .inr (.inl ?_)
      rw [nL_app, if_neg (show ¬ loudP (pr k "waits") = true from Bool.false_ne_true)]
      have : v ≤ nL r := Int.not_lt.mp c2
      omega
  | cons j T =>
    dsimp only
    obtain ⟨p, hp, rfl, lp⟩ := taken_is hv hT
    obtain ⟨R, hR⟩ : ∃ R, R = r.filter (fun q => !decide (q = pr p.1 "kept")) := ⟨_, rfl⟩
    rw [← hR]
    have sub : R.Sublist r := by rw [hR]; exact List.filter_sublist
    have okq : okR R := by rw [hR]; exact ok.filter _
    have kq : ∀ q ∈ markL R p.1 "waits", ∃ q0 ∈ r, q.1 = q0.1 ∧ (q = q0 ∧ q.1 ≠ p.1 ∨ q.2 = "waits" ∧ q0.2 ≠ "kept") := fun q hq => by
      obtain ⟨q0, h0, e⟩ := List.mem_map.mp hq
      refine ⟨q0, sub.mem h0, ?_⟩
      unfold markP at e
      split at e
      · rename_i c
        rw [← e]
        refine ⟨rfl, .inr ⟨rfl, fun z => ?_⟩⟩
        rw [hR] at h0
        have := (List.mem_filter.mp h0).2
        rw [show q0 = pr p.1 "kept" from Prod.ext c z] at this
        simp at this
      · rename_i c
        rw [← e]; exact ⟨rfl, .inl ⟨rfl, c⟩⟩
    have cnt : nL (markL R p.1 "waits") + 1 = nL r := by
      have e1 : (R.filter fun q => loudP (markP p.1 "waits" q)) = (r.filter loudP).filter fun q => !decide (q.1 = p.1) := by
        rw [hR, List.filter_filter, List.filter_filter]
        refine List.filter_congr fun q _ => ?_
        unfold markP
        by_cases c : q.1 = p.1
        · rw [if_pos c, decide_eq_true c]; rfl
        · rw [if_neg c, decide_eq_false c]
          rw [decide_eq_false (fun z : q = pr p.1 "kept" => c (by rw [z]))]
          cases loudP q <;> rfl
      have := filt_one (k := p.1) (l := r.filter loudP) (nd_sub List.filter_sublist nd) (key_mem (List.mem_filter.mpr ⟨hp, lp⟩))
      show (((markL R p.1 "waits").filter loudP).length : Int) + 1 = ((r.filter loudP).length : Int)
      rw [mark_len, e1]; omega
    refine ⟨⟨(okR_mark okq _ (show ("waits" : Str) ∈ MKS by decide)).app (okR_one (show ("sounds" : Str) ∈ MKS by decide)), hkey fun q hq => ?_, nd_app ?_ ?_, hpd (by decide) fun hf q hq => ?_, ?_, ?_⟩, hm fun q hq => ?_, ?_⟩
    · obtain ⟨q0, h0, e0, _⟩ := kq q hq
      rw [e0]; exact key q0 h0
    · rw [keys_mark]; exact nd_sub sub nd
    · rw [keys_mark]
      exact fun h => nk ((sub.map (·.1)).mem h)
    · obtain ⟨q0, h0, e0, h | h⟩ := kq q hq
      · rw [h.1]; exact pd hf q0 h0
      · rw [h.1]; decide
    · rw [nL_app, if_pos (show loudP (pr k "sounds") = true by rfl)]; omega
    · refine .inr (.inl ?_)
      rw [nL_app, if_pos (show loudP (pr k "sounds") = true by rfl)]
      have : v ≤ nL r := Int.not_lt.mp c2
      omega
    · obtain ⟨q0, h0, e0, h⟩ := kq q hq
      refine ⟨by rw [e0]; exact key_mem h0, fun m => ?_⟩
      rcases h with h | h
      · rw [h.1] at m ⊢; exact H q0 h0 m
      · rw [e0]; exact H q0 h0 h.2
    · rw [List.length_append, List.length_map]
      have := sub.length_le
      show _ + 1 ≤ _; omega
end S
namespace S
open PyProof.Rows PySem.Spec PySem L2 DE
def evOk (hs : List Int) : Ev → Prop
  | .down k => Kok k ∧ k ∉ hs
  | _ => True
def heldL (hs : List Int) : Ev → List Int
  | .press => hs
  | .lift => hs
  | .up k => hs.filter fun x => !decide (x = k)
  | .down k => hs ++ [k]
theorem less_sub (r : List Pr) (gone : List Int) : (lessL r gone).Sublist r := List.filter_sublist
theorem back_val {v : Int} {b : Str} (hb : b ∈ RET_) {f : Bool} {r : List Pr} {hs : List Int} (V : Val v b f r) (H : Held r hs) {gone : List Int} (hg : ∀ p ∈ r, p.2 = "kept" → p.1 ∈ gone) :
    Val v b false (backR v b r gone) ∧ (∀ p ∈ backR v b r gone, p.1 ∉ gone ∧ p.1 ∈ hs) ∧ (backR v b r gone).length ≤ r.length := by
  obtain ⟨ok, key, nd, pd, lo, wt⟩ := V
  have lo' : nL (lessL r gone) ≤ v := by
    have : ((lessL r gone).filter loudP).length ≤ (r.filter loudP).length := ((less_sub r gone).filter _).length_le
    have : nL (lessL r gone) ≤ nL r := Int.ofNat_le.mpr this
    omega
  obtain ⟨i1, i2, i3, i4, i5, i6⟩ := fill_is hb (lessL r gone).length (lessL r gone) [] (List.length_filter_le _ _) (nd_sub (less_sub r gone) nd) (ok.filter _) lo'
  have nk : ∀ p ∈ backR v b r gone, p.2 ≠ "kept" := fun p hp z => by
    have h := i3 p hp z
    obtain ⟨h1, h2⟩ := List.mem_filter.mp h
    have := hg p h1 z
    simp [this] at h2
  have mem : ∀ p ∈ backR v b r gone, ∃ q ∈ r, q.1 = p.1 ∧ q.2 ≠ "kept" ∧ q.1 ∉ gone := fun p hp => by
    obtain ⟨m, m1, m2⟩ := i4 p hp (nk p hp)
    obtain ⟨h1, h2⟩ := List.mem_filter.mp m2
    exact ⟨pr p.1 m, h1, rfl, m1, fun z => by simp [z] at h2⟩
  refine ⟨⟨i2, fun p hp => ?_, ?_, fun _ => nk, i5, i6⟩, fun p hp => ?_, ?_⟩
  · obtain ⟨q, h1, h2, _⟩ := mem p hp
    rw [← h2]; exact key q h1
  · show (keysOf (fillL v b _ (lessL r gone) []).1).Nodup
    rw [i1]; exact nd_sub (less_sub r gone) nd
  · obtain ⟨q, h1, h2, h3, h4⟩ := mem p hp
    rw [← h2]; exact ⟨h4, H q h1 h3⟩
  · have e : (keysOf (backR v b r gone)).length = (keysOf (lessL r gone)).length := congrArg List.length i1
    rw [List.length_map, List.length_map] at e; have := (less_sub r gone).length_le
    omega
theorem step_val {v : Int} {ws : List Str} {e b : Str} (hb : b ∈ RET_) {f : Bool} {r : List Pr} {hs : List Int} (hv : 1 ≤ v) (V : Val v b f r) (H : Held r hs) {ev : Ev} (he : evOk hs ev) :
    Val v b (stepL v ws e b (f, r) ev).1 (stepL v ws e b (f, r) ev).2 ∧ Held (stepL v ws e b (f, r) ev).2 (heldL hs ev) ∧ (stepL v ws e b (f, r) ev).2.length ≤ r.length + 1 := by
  cases ev with
  | press => exact ⟨⟨V.ok, V.key, V.nd, fun z => (by cases z), V.lo, V.wt⟩, H, Nat.le_succ _⟩
  | down k => exact down_val hv V H he.1 he.2
  | lift =>
    obtain ⟨a, c, d⟩ := back_val hb V H (gone := keysOf (r.filter keptP)) fun p hp m => key_mem (List.mem_filter.mpr ⟨hp, decide_eq_true m⟩)
    exact ⟨a, fun p hp _ => (c p hp).2, Nat.le_succ_of_le d⟩
  | up k =>
    by_cases c1 : r.contains (pr k "waits") = true
    · rw [show stepL v ws e b (f, r) (.up k) = (f, r.filter fun p => !decide (p.1 = k)) from if_pos c1]
      have c1 : pr k "waits" ∈ r := by simpa using c1
      obtain ⟨ok, key, nd, pd, lo, wt⟩ := V
      have sub : (r.filter fun p => !decide (p.1 = k)).Sublist r := List.filter_sublist
      have e1 : (r.filter fun p => !decide (p.1 = k)).filter loudP = r.filter loudP := by
        rw [List.filter_filter]; refine List.filter_congr fun p hp => ?_
        by_cases c : p.1 = k
        · rw [nd_uniq nd hp c1 c]
          rfl
        · simp [c]
      have e2 : nL (r.filter fun p => !decide (p.1 = k)) = nL r := by show (((_ : List Pr).length : Nat) : Int) = _; rw [e1]
      refine ⟨⟨ok.filter _, fun p hp => key p (sub.mem hp), nd_sub sub nd, fun hf p hp => pd hf p (sub.mem hp), by show nL (r.filter fun p => !decide (p.1 = k)) ≤ v; rw [e2]; exact lo, ?_⟩, fun p hp m => ?_, Nat.le_succ_of_le sub.length_le⟩
      · rcases wt with w | w | w
        · exact .inl w
        · exact .inr (.inl (by show v ≤ nL (r.filter fun p => !decide (p.1 = k)); rw [e2]; exact w))
        · refine .inr (.inr ?_)
          rw [List.filter_eq_nil_iff]
          intro p hp
          exact List.filter_eq_nil_iff.mp w p (sub.mem hp)
      · exact List.mem_filter.mpr ⟨H p (sub.mem hp) m, (List.mem_filter.mp hp).2⟩
    · cases f with
      | true =>
        rw [show stepL v ws e b (true, r) (.up k) = (true, markL r k "kept") from (if_neg c1).trans (if_pos rfl)]
        have c1 : pr k "waits" ∉ r := by simpa using c1
        obtain ⟨ok, key, nd, pd, lo, wt⟩ := V
        have lw : ∀ p ∈ r, waitP (markP k "kept" p) = waitP p := fun p hp => by
          unfold markP
          split
          · rename_i c
            have : ¬ waitP p = true := fun z => c1 (by rw [← c, ← wait_is z]; exact hp)
            rw [Bool.eq_false_iff.mpr this]; rfl
          · rfl
        have e2 : nL (markL r k "kept") = nL r := by
          show (((markL r k "kept").filter loudP).length : Int) = ((r.filter loudP).length : Int)
          rw [mark_len]
          rw [List.filter_congr fun p hp => show loudP (markP k "kept" p) = loudP p by rw [loud_wait, loud_wait, lw p hp]]
        refine ⟨⟨okR_mark ok _ (show ("kept" : Str) ∈ MKS by decide), fun p hp => ?_, by rw [keys_mark]; exact nd, fun z => (by cases z), by show nL (markL r k "kept") ≤ v; rw [e2]; exact lo, ?_⟩, fun p hp m => ?_, by rw [List.length_map]; exact Nat.le_succ _⟩
        · have : p.1 ∈ keysOf (markL r k "kept") := key_mem hp
          rw [keys_mark] at this
          obtain ⟨q, hq, e⟩ := mem_key this
          rw [← e]; exact key q hq
        · rcases wt with w | w | w
          · exact .inl w
          · exact .inr (.inl (by show v ≤ nL (markL r k "kept"); rw [e2]; exact w))
          · refine .inr (.inr ?_)
            rw [List.filter_eq_nil_iff]
            intro p hp
            obtain ⟨q, hq, rfl⟩ := List.mem_map.mp hp; rw [lw q hq]
            exact List.filter_eq_nil_iff.mp w q hq
        · obtain ⟨q, hq, e⟩ := List.mem_map.mp hp
          unfold markP at e
          split at e
          · rw [← e] at m; exact absurd rfl m
          · rename_i c
            rw [← e] at m ⊢
            exact List.mem_filter.mpr ⟨H q hq m, by simp [c]⟩
      | false =>
        rw [show stepL v ws e b (false, r) (.up k) = (false, backR v b r [k]) from (if_neg c1).trans (if_neg Bool.false_ne_true)]
        obtain ⟨a, c, d⟩ := back_val hb V H (gone := [k]) fun p hp m => absurd m (V.pd rfl p hp)
        exact ⟨a, fun p hp _ => List.mem_filter.mpr ⟨(c p hp).2, by have := (c p hp).1; simpa using this⟩, Nat.le_succ_of_le d⟩
end S
namespace S
open PyProof.Rows PySem.Spec PySem L2 DE
/-! ### a drawn play, a state of it -/
def evsOk : List Int → List Ev → Prop
  | _, [] => True
  | hs, e :: es => evOk hs e ∧ evsOk (heldL hs e) es
theorem evs_snoc : ∀ {es : List Ev} {hs : List Int} {e : Ev}, evsOk hs es → evOk (es.foldl heldL hs) e → evsOk hs (es ++ [e])
  | [], hs, e, _, h => ⟨h, trivial⟩
  | a :: es, hs, e, h, k => ⟨h.1, evs_snoc h.2 k⟩
abbrev pB : Ms := fIf (fAnd (fT (fName 3)) (fT (f2 pEq (fCallN 2 m__law_draw (fCons (fName 0) (fCons (rt (.int 5)) (rt [])))) (rt (.int 0))))) (fSeq (fExp (fApp 6 (fIfE (fT (fName 5)) (fTup (fCons (rt (.str "lift")) (rt []))) (fTup (fCons (rt (.str "press")) (rt []))))))
  (fSet 5 (fNotV (fName 5)))) (fSeq (fSet 8 (fCallN 2 m__law_of (fCons (fName 0) (fCons (fName 1) (rt [])))))
  (fIf (fT (f2 (pIn false) (fName 8) (fName 4))) (fSeq (fSetO 4 (fComp [9] (fName 4) (gN 9) (fT (f2 pNe (fName 9) (fName 8))) (fName 9)))
  (fExp (fApp 6 (fTup (fCons (rt (.str "up")) (fCons (fName 8) (rt []))))))) (fSeq (fSet 4 (fLet (fCat (fName 4) (fLet (fLst (fCons (fName 8) (rt [])))))))
  (fExp (fApp 6 (fTup (fCons (rt (.str "down")) (fCons (fName 8) (rt [])))))))))
structure DownIs (x : Sl) (hs : List Int) : Prop where
  is : x = .dat (.lst (hs.map .int)) ∨ x = .own (hs.map .int)
abbrev pS (cs : List Int) (n : Int) (x4 : Sl) (pr : Bool) (evs : List Ev) (t x8 : Sl) : List Sl := [.dat .m, .dat (.lst (cs.map .int)), .dat (.int n), .dat (.bl true), x4, .dat (.bl pr), .own (evs.map evD), t, x8, .no]
theorem play_turn {cs : List Int} (hc : ∀ c ∈ cs, Kok c) (h1 : 1 ≤ cs.length) (h2 : cs.length ≤ 100) {n : Int} {x4 : Sl} {hs : List Int} (hx : DownIs x4 hs) {p : Bool} {evs : List Ev} {t x8 : Sl} {k : Nat} {s : DS} (hl : hs.length ≤ 1000) (he : evs.length ≤ 1000) (g : Good (k + 2) s) :
    ∃ x4' p' t' x8' ev s', pB ⟨pS cs n x4 p evs t x8, s⟩ = some (.nx, ⟨pS cs n x4' p' (evs ++ [ev]) t' x8', s'⟩) ∧ evOk hs ev ∧ DownIs x4' (heldL hs ev) ∧ (heldL hs ev).length ≤ hs.length + 1 ∧ Good k s' := by
  obtain ⟨r, s1, d1, lo, hi, g1⟩ := draw_ok (n := 5) (k := k + 1) (by decide) (by decide) g
  have c1 : fT (f2 pEq (fCallN 2 m__law_draw (fCons (fName 0) (fCons (rt (.int 5)) (rt [])))) (rt (.int 0))) ⟨pS cs n x4 p evs t x8, s⟩ = some (.ok (decide (r = 0)), ⟨pS cs n x4 p evs t x8, s1⟩) :=
    eq_int (g1 := ⟨pS cs n x4 p evs t x8, s1⟩) (call_ok (ds := [.m, .int 5]) (g1 := ⟨pS cs n x4 p evs t x8, s⟩) (cons_ok (name_ok rfl) (cons_ok rfl rfl)) rfl d1) rfl
  have c0 : fT (fName 3) ⟨pS cs n x4 p evs t x8, s⟩ = some (.ok true, ⟨pS cs n x4 p evs t x8, s⟩) := t_ok (name_ok rfl)
  have app : ∀ (x4 : Sl) (x8 : Sl) (ev : Ev) (s : DS) (f : Mo D), f ⟨pS cs n x4 p evs t x8, s⟩ = some (.ok (evD ev), ⟨pS cs n x4 p evs t x8, s⟩) → fExp (fApp 6 f) ⟨pS cs n x4 p evs t x8, s⟩ = some (.nx, ⟨pS cs n x4 p (evs ++ [ev]) t x8, s⟩) := fun x4 x8 ev s f h => by
    refine (exp_ok (app_ok (i := 6) (xs0 := evs.map evD) (xs := evs.map evD) rfl h rfl (by rw [List.length_map]; omega))).trans ?_
    rw [show evs.map evD ++ [evD ev] = (evs ++ [ev]).map evD by simp]; rfl
  by_cases z : r = 0
  · rw [decide_eq_true z] at c1
    have e5 : fSet 5 (fNotV (fName 5)) ⟨pS cs n x4 p (evs ++ [if p = true then Ev.lift else Ev.press]) t x8, s1⟩ = some (.nx, ⟨pS cs n x4 (!p) (evs ++ [if p = true then Ev.lift else Ev.press]) t x8, s1⟩) := rfl
    refine ⟨x4, !p, t, x8, if p = true then .lift else .press, s1, (if_t ((and_t c0).trans c1)).trans ((seq_nx (app x4 x8 _ s1 _ ?_)).trans e5), by split <;> trivial, by split <;> exact hx, by split <;> exact Nat.le_succ _, g1.mono (by omega)⟩
    cases p <;> kernel_rfl
  · rw [decide_eq_false z] at c1
    obtain ⟨d, s2, d2, m2, g2⟩ := of_ok (xs := cs.map D.int) (k := k) (by rw [List.length_map]; exact h1) (by rw [List.length_map]; omega) g1
    obtain ⟨c, mc, rfl⟩ := List.mem_map.mp m2
    have e8 : fSet 8 (fCallN 2 m__law_of (fCons (fName 0) (fCons (fName 1) (rt [])))) ⟨pS cs n x4 p evs t x8, s1⟩ = some (.nx, ⟨pS cs n x4 p evs t (.dat (.int c)), s2⟩) :=
      set_ok (g1 := ⟨pS cs n x4 p evs t x8, s2⟩) (call_ok (ds := [.m, .lst (cs.map .int)]) (g1 := ⟨pS cs n x4 p evs t x8, s1⟩) (cons_ok (name_ok rfl) (cons_ok (name_ok rfl) rfl)) rfl d2)
    obtain ⟨S, hS⟩ : ∃ S, S = pS cs n (.dat (.lst (hs.map .int))) p evs t (.dat (.int c)) := ⟨_, rfl⟩
    have n4 : fName 4 ⟨pS cs n x4 p evs t (.dat (.int c)), s2⟩ = some (.ok (.lst (hs.map .int)), ⟨S, s2⟩) := by
      rcases hx.is with rfl | rfl
      · rw [hS]; rfl
      · rw [hS]; rfl
    have i1 : fT (f2 (pIn false) (fName 8) (fName 4)) ⟨pS cs n x4 p evs t (.dat (.int c)), s2⟩ = some (.ok (hs.contains c), ⟨S, s2⟩) := in_ints (neg := false) (xs := hs) (g1 := ⟨pS cs n x4 p evs t (.dat (.int c)), s2⟩) (name_ok rfl) n4 rfl
    by_cases h : hs.contains c = true
    · rw [h] at i1
      have cc := compL_on (vs := [9]) (t := gN 9) (c := fT (f2 pNe (fName 9) (fName 8))) (e := fName 9) (E := D.int) (F := D.int) (P := fun x => !decide (x = c)) (S := S) (s := s2) hs fun q _ =>
        ⟨⟨S.set 9 (.dat (.int q)), s2⟩, ⟨S.set 9 (.dat (.int q)), s2⟩, rfl, ne_int (name_ok (by rw [hS]; rfl)) (name_ok (by rw [hS]; rfl)), fun _ => ⟨⟨S.set 9 (.dat (.int q)), s2⟩, name_ok (by rw [hS]; rfl), by rw [hS]; rfl, rfl⟩, fun _ => ⟨by rw [hS]; rfl, rfl⟩⟩
      have k9 := comp_ok (vs := [9]) (fi := fName 4) (t := gN 9) (g := ⟨S, s2⟩) (g1 := ⟨S, s2⟩) (ds := hs.map .int) (name_ok (d := .lst (hs.map .int)) (by rw [hS]; rfl)) rfl (by rw [List.length_map]; omega) (by show compL _ _ _ _ _ ⟨wipeR S [9], s2⟩ = _; rw [show wipeR S [9] = S by rw [hS]; rfl]; exact cc)
      refine ⟨.own ((hs.filter fun x => !decide (x = c)).map .int), p, t, .dat (.int c), .up c, s2, ?_, trivial, ⟨.inr rfl⟩, Nat.le_succ_of_le (List.length_filter_le _ _), g2⟩
      refine (if_f ((and_t c0).trans c1)).trans ((seq_nx e8).trans ((if_t i1).trans ((seq_nx (g1 := ⟨pS cs n (.own ((hs.filter fun x => !decide (x = c)).map .int)) p evs t (.dat (.int c)), s2⟩) ((setO_ok k9).trans (by rw [hS]; rfl))).trans (app _ _ (.up c) s2 _ ?_))))
      exact tup_ok (ds := [.str "up", .int c]) (cons_ok rfl (cons_ok (name_ok rfl) rfl)) (by show 2 ≤ 100000; decide)
    · rw [Bool.eq_false_iff.mpr h] at i1
      refine ⟨.dat (.lst ((hs ++ [c]).map .int)), p, t, .dat (.int c), .down c, s2, ?_, ⟨hc c mc, by simpa using h⟩, ⟨.inl rfl⟩, by show (hs ++ [c]).length ≤ _; simp, g2⟩
      have e4 : fSet 4 (fLet (fCat (fName 4) (fLet (fLst (fCons (fName 8) (rt [])))))) ⟨S, s2⟩ = some (.nx, ⟨pS cs n (.dat (.lst ((hs ++ [c]).map .int))) p evs t (.dat (.int c)), s2⟩) := by
        refine (set_ok (app_cat (xs := hs.map .int) (ys := [.int c]) (g1 := ⟨S, s2⟩) (g2 := ⟨S, s2⟩) (name_ok (by rw [hS]; rfl)) (let_ok (lst_ok (ds := [.int c]) (cons_ok (name_ok (by rw [hS]; rfl)) rfl) (by show 1 ≤ 100000; decide))) (by rw [List.length_map]; show _ + 1 ≤ _; omega))).trans ?_
        rw [hS, show hs.map D.int ++ [D.int c] = (hs ++ [c]).map D.int by simp]; rfl
      refine (if_f ((and_t c0).trans c1)).trans ((seq_nx e8).trans ((if_f i1).trans ((seq_nx e4).trans (app _ _ (.down c) s2 _ ?_))))
      exact tup_ok (ds := [.str "down", .int c]) (cons_ok rfl (cons_ok (name_ok rfl) rfl)) (by show 2 ≤ 100000; decide)
theorem play_loop {cs : List Int} (hc : ∀ c ∈ cs, Kok c) (h1 : 1 ≤ cs.length) (h2 : cs.length ≤ 100) {n : Int} : ∀ (is : List D) (k : Nat) (x4 : Sl) (hs : List Int) (p : Bool) (evs : List Ev) (t x8 : Sl) (s : DS), DownIs x4 hs → hs.length + is.length ≤ 1000 → evs.length + is.length ≤ 1000 →
    evsOk [] evs → evs.foldl heldL [] = hs → Good (k + 2 * is.length) s →
    ∃ S' evs' s', loop (gN 7) pB is ⟨pS cs n x4 p evs t x8, s⟩ = some (.nx, ⟨S', s'⟩) ∧ S'[6]? = some (.own (evs'.map evD)) ∧ evsOk [] evs' ∧ evs'.length = evs.length + is.length ∧ Good k s'
  | [], k, x4, hs, p, evs, t, x8, s, _, _, _, ok, _, g => ⟨_, evs, s, rfl, rfl, ok, rfl, g⟩
  | d :: is, k, x4, hs, p, evs, t, x8, s, hx, hl, he, ok, fo, g => by
    simp only [List.length_cons] at hl he
    obtain ⟨x4', p', t', x8', ev, s', e1, o1, hx', l', g'⟩ := play_turn (k := k + 2 * is.length) (n := n) hc h1 h2 hx (p := p) (evs := evs) (t := .dat d) (x8 := x8) (by omega) (by omega) (g.mono (by simp; omega))
    obtain ⟨S', evs', s2, e2, e3, e4, e5, e6⟩ := play_loop hc h1 h2 is k x4' (heldL hs ev) p' (evs ++ [ev]) t' x8' s' hx' (by omega) (by simp; omega) (evs_snoc ok (by rw [fo]; exact o1)) (by rw [List.foldl_append, fo]; rfl) g'
    exact ⟨S', evs', s2, (loop_cons (g1 := ⟨pS cs n x4 p evs (.dat d) x8, s⟩) rfl e1).trans e2, e3, e4, by rw [e5]; simp; omega, e6⟩
theorem play_ok {cs : List Int} (hc : ∀ c ∈ cs, Kok c) (h1 : 1 ≤ cs.length) (h2 : cs.length ≤ 100) {n : Nat} (hn : n ≤ 100) {k : Nat} {s : DS} (g : Good (k + 2 * n) s) :
    ∃ evs s', m__law_play [.m, .lst (cs.map .int), .int (n : Int), .bl true] s = some (.ok (.tup (evs.map evD)), s') ∧ evsOk [] evs ∧ evs.length = n ∧ Good k s' := by
  obtain ⟨S', evs, s', e1, e2, e3, e4, e5⟩ := play_loop (n := (n : Int)) hc h1 h2 (intsD (n : Int)) k (.dat (.lst [])) [] false [] .no .no s ⟨.inl rfl⟩ (by rw [intsD_length]; simp; omega) (by rw [intsD_length]; simp; omega) trivial rfl (by rw [intsD_length]; exact g)
  refine ⟨evs, s', runB_ret (r := S') rfl ?_, e3, by rw [e4, intsD_length]; simp, e5⟩
  unfold fb__law_play
  refine (seq_nx (g1 := ⟨pS cs (n : Int) (.dat (.lst [])) false [] .no .no, s⟩) rfl).trans ((seq_nx ((forR_ok (n := (n : Int)) (g1 := ⟨pS cs (n : Int) (.dat (.lst [])) false [] .no .no, s⟩) (cons_ok (name_ok rfl) rfl) (by omega)).trans e1)).trans (ret_ok (tupOf_ok (peek_o e2))))
theorem state_loop {v : Int} {ws : List Str} {e b : Str} {cs : D} (hb : b ∈ RET_) (hv : 1 ≤ v) (hw : ∀ x ∈ ws, x ∈ FIL) (hwl : ws.length ≤ 1000) {s : DS} : ∀ (evs : List Ev) (hs : List Int) (f : Bool) (r : List Pr) (x : Sl), evsOk hs evs → Val v b f r → Held r hs → r.length + evs.length ≤ 900 →
    ∃ f' r' x', loop (gN 4) (fSet 3 (fIxD (fCallN 3 m__law_stepped (fCons (fName 1) (fCons (fName 3) (fCons (fName 4) (rt []))))) (rt (.int 0)))) (evs.map evD) ⟨[.dat .m, .dat (.tup [.int v, .tup (csOf ws e), .str b]), .dat cs, .dat (stD f r), x], s⟩ =
      some (.nx, ⟨[.dat .m, .dat (.tup [.int v, .tup (csOf ws e), .str b]), .dat cs, .dat (stD f' r'), x'], s⟩) ∧ Val v b f' r' ∧ r'.length ≤ r.length + evs.length
  | [], hs, f, r, x, _, V, _, _ => ⟨f, r, x, rfl, V, Nat.le_refl _⟩
  | ev :: evs, hs, f, r, x, ok, V, H, hl => by
    simp only [List.length_cons] at hl
    have e1 := step_ok (e := e) hb (f := f) (by omega : r.length ≤ 900) V.ok hv hw hwl ev s
    obtain ⟨V', H', l'⟩ := step_val (ws := ws) (e := e) hb hv V H ok.1
    obtain ⟨f2, r2, x2, e2, V2, l2⟩ := state_loop (e := e) (cs := cs) hb hv hw hwl (s := s) evs (heldL hs ev) _ _ (.dat (evD ev)) ok.2 V' H' (by omega)
    refine ⟨f2, r2, x2, (loop_cons (g1 := ⟨[.dat .m, .dat (.tup [.int v, .tup (csOf ws e), .str b]), .dat cs, .dat (stD f r), .dat (evD ev)], s⟩) rfl ?_).trans e2, V2, by simp only [List.length_cons]; omega⟩
    exact set_ok (g1 := ⟨[.dat .m, .dat (.tup [.int v, .tup (csOf ws e), .str b]), .dat cs, .dat (stD f r), .dat (evD ev)], s⟩) (ix_ok (i := 0) (call_ok (ds := [.tup [.int v, .tup (csOf ws e), .str b], stD f r, evD ev]) (g1 := ⟨[.dat .m, .dat (.tup [.int v, .tup (csOf ws e), .str b]), .dat cs, .dat (stD f r), .dat (evD ev)], s⟩) (cons_ok (name_ok rfl) (cons_ok (name_ok rfl) (cons_ok (name_ok rfl) rfl))) rfl e1) rfl rfl rfl)
theorem val_nil {v : Int} (hv : 1 ≤ v) (b : Str) (f : Bool) : Val v b f [] := ⟨fun p hp => (by cases hp), fun p hp => (by cases hp), List.nodup_nil, fun _ p hp => (by cases hp), (show ((0 : Nat) : Int) ≤ v by omega), .inr (.inr rfl)⟩
theorem state_ok {v : Int} {ws : List Str} {e b : Str} (hb : b ∈ RET_) (hv : 1 ≤ v) (hw : ∀ x ∈ ws, x ∈ FIL) (hwl : ws.length ≤ 1000) {cs : List Int} (hc : ∀ c ∈ cs, Kok c) (h1 : 1 ≤ cs.length) (h2 : cs.length ≤ 100) {k : Nat} {s : DS} (g : Good (k + 31) s) :
    ∃ f r s', m__law_state [.m, .tup [.int v, .tup (csOf ws e), .str b], .lst (cs.map .int)] s = some (.ok (stD f r), s') ∧ Val v b f r ∧ r.length ≤ 15 ∧ Good k s' := by
  obtain ⟨n, s1, d1, lo, hi, g1⟩ := draw_ok (n := 16) (k := k + 30) (by decide) (by decide) g
  obtain ⟨j, rfl⟩ : ∃ j : Nat, n = (j : Int) := ⟨n.toNat, by omega⟩
  obtain ⟨evs, s2, e2, o2, l2, g2⟩ := play_ok hc h1 h2 (n := j) (by omega) (k := k) (g1.mono (by omega))
  obtain ⟨f, r, x, e3, V, l3⟩ := state_loop (e := e) (cs := .lst (cs.map .int)) hb hv hw hwl (s := s2) evs [] false [] .no o2 (val_nil hv b false) (fun p hp => by cases hp) (by simp; omega)
  refine ⟨f, r, s2, runB_ret (r := [.dat .m, .dat (.tup [.int v, .tup (csOf ws e), .str b]), .dat (.lst (cs.map .int)), .dat (stD f r), x]) rfl ?_, V, by simp at l3; omega, g2⟩
  unfold fb__law_state
  obtain ⟨S, hS⟩ : ∃ S : List Sl, S = [.dat .m, .dat (.tup [.int v, .tup (csOf ws e), .str b]), .dat (.lst (cs.map .int)), .dat (stD false []), .no] := ⟨_, rfl⟩
  rw [← hS] at e3
  refine (seq_nx (g1 := ⟨S, s⟩) (by rw [hS]; rfl)).trans ((seq_nx ((for_ok (d := .tup (evs.map evD)) (g1 := ⟨S, s2⟩) ?_ rfl).trans e3)).trans (ret_ok (name_ok rfl)))
  refine call_ok (ds := [.m, .lst (cs.map .int), .int (j : Int), .bl true]) (g1 := ⟨S, s1⟩) (cons_ok (name_ok (by rw [hS]; rfl)) (cons_ok (name_ok (by rw [hS]; rfl)) (cons_ok (g1 := ⟨S, s1⟩) (call_ok (ds := [.m, .int 16]) (g1 := ⟨S, s⟩) (cons_ok (name_ok (by rw [hS]; rfl)) (cons_ok rfl rfl)) rfl d1) (cons_ok rfl rfl)))) rfl e2
end S
namespace S
open PyProof.Rows PySem.Spec PySem L2 DE
/-! ### a state drawn by its form -/
abbrev qS (M : D) (cs : List Int) (f : Bool) (r : List Pr) (left : List Int) (t x8 x9 : Sl) : List Sl := [.dat .m, .dat M, .dat (.lst (cs.map .int)), t, .dat (.bl f), .own (rowD r), .own (left.map .int), .dat (.int (nL r)), x8, x9]
abbrev qB : Ms := fSeq (fSet 8 (fPopAt 6 (fCallN 2 m__law_draw (fCons (fName 0) (fCons (fLen (fPeek 6)) (rt []))))))
  (fSeq (fSet 9 (fCallN 2 m__law_of (fCons (fName 0) (fCons (fSl (fLet (fLst (fCons (rt (.str "sounds")) (fCons (rt (.str "waits")) (fCons (rt (.str "kept")) (rt [])))))) (rt none) (fPart (f2 pAdd (rt (.int 2)) (fInt (fName 4))))) (rt [])))))
  (fSeq (fSet 9 (fIfE (fT (f2 pLt (fName 7) (fIxD (fName 1) (rt (.int 0))))) (fName 9) (rt (.str "waits"))))
  (fSeq (fSet 7 (f2 pAdd (fName 7) (fInt (f2 pNe (fName 9) (rt (.str "waits"))))))
  (fExp (fApp 5 (fTup (fCons (fName 8) (fCons (fName 9) (rt [])))))))))
def MKF : Bool → List Str
  | true => ["sounds", "waits", "kept"]
  | false => ["sounds", "waits"]
structure Fr (v : Int) (f : Bool) (cs : List Int) (r : List Pr) (left : List Int) : Prop where
  pm : (keysOf r ++ left).Perm cs
  ok : okR r
  pd : f = false → ∀ p ∈ r, p.2 ≠ "kept"
  lo : nL r ≤ v
theorem free_turn {v : Int} {C b : D} {cs left : List Int} {f : Bool} {r : List Pr} {t x8 x9 : Sl} {k : Nat} {s : DS} (hc : cs.length ≤ 100) (hl : 1 ≤ left.length) (F : Fr v f cs r left) (g : Good (k + 2) s) :
    ∃ r' left' x8' x9' s', qB ⟨qS (.tup [.int v, C, b]) cs f r left t x8 x9, s⟩ = some (.nx, ⟨qS (.tup [.int v, C, b]) cs f r' left' t x8' x9', s'⟩) ∧ left'.length + 1 = left.length ∧ Fr v f cs r' left' ∧ Good k s' := by
  obtain ⟨M, hM⟩ : ∃ M, M = D.tup [.int v, C, b] := ⟨_, rfl⟩
  rw [← hM]
  have plen := F.pm.length_eq
  rw [List.length_append, List.length_map] at plen
  obtain ⟨i, s1, d1, lo, hi, g1⟩ := draw_ok (n := (left.length : Int)) (k := k + 1) (by omega) (by omega) g
  obtain ⟨j, rfl⟩ : ∃ j : Nat, i = (j : Int) := ⟨i.toNat, by omega⟩
  have hj : j < left.length := by omega
  have e1 : fCallN 2 m__law_draw (fCons (fName 0) (fCons (fLen (fPeek 6)) (rt []))) ⟨qS M cs f r left t x8 x9, s⟩ = some (.ok (.int (j : Int)), ⟨qS M cs f r left t x8 x9, s1⟩) :=
    call_ok (ds := [.m, .int (left.length : Int)]) (g1 := ⟨qS M cs f r left t x8 x9, s⟩) (cons_ok (name_ok rfl) (cons_ok ((len_ok (peek_o (ds := left.map .int) rfl)).trans (by rw [List.length_map])) rfl)) rfl d1
  have e2 := popAt_ok (i := 6) (g := ⟨qS M cs f r left t x8 x9, s⟩) rfl e1 rfl (by omega) (y := .int left[j]) (by rw [List.getElem?_map, List.getElem?_eq_getElem hj]; rfl)
  have e3 : fSet 8 (fPopAt 6 (fCallN 2 m__law_draw (fCons (fName 0) (fCons (fLen (fPeek 6)) (rt []))))) ⟨qS M cs f r left t x8 x9, s⟩ = some (.nx, ⟨qS M cs f r (left.eraseIdx j) t (.dat (.int left[j])) x9, s1⟩) := by
    refine (set_ok e2).trans ?_
    rw [show (left.map D.int).eraseIdx j = (left.eraseIdx j).map .int from map_erase D.int left j]; rfl
  obtain ⟨d, s2, d2, m2, g2⟩ := of_ok (xs := (MKF f).map D.str) (k := k) (by cases f <;> decide) (by cases f <;> decide) g1
  obtain ⟨w, hw, rfl⟩ := List.mem_map.mp m2
  have e4 : fSet 9 (fCallN 2 m__law_of (fCons (fName 0) (fCons (fSl (fLet (fLst (fCons (rt (.str "sounds")) (fCons (rt (.str "waits")) (fCons (rt (.str "kept")) (rt [])))))) (rt none) (fPart (f2 pAdd (rt (.int 2)) (fInt (fName 4))))) (rt [])))) ⟨qS M cs f r (left.eraseIdx j) t (.dat (.int left[j])) x9, s1⟩ =
      some (.nx, ⟨qS M cs f r (left.eraseIdx j) t (.dat (.int left[j])) (.dat (.str w)), s2⟩) := by
    refine set_ok (g1 := ⟨qS M cs f r (left.eraseIdx j) t (.dat (.int left[j])) x9, s2⟩) (call_ok (ds := [.m, .lst ((MKF f).map .str)]) (g1 := ⟨qS M cs f r (left.eraseIdx j) t (.dat (.int left[j])) x9, s1⟩) (cons_ok (name_ok rfl) (cons_ok (g1 := ⟨qS M cs f r (left.eraseIdx j) t (.dat (.int left[j])) x9, s1⟩) ?_ rfl)) rfl d2)
    generalize left[j] = q
    cases f <;> kernel_rfl
  have t5 : fT (f2 pLt (fName 7) (fIxD (fName 1) (rt (.int 0)))) ⟨qS M cs f r (left.eraseIdx j) t (.dat (.int left[j])) (.dat (.str w)), s2⟩ = some (.ok (decide (nL r < v)), ⟨qS M cs f r (left.eraseIdx j) t (.dat (.int left[j])) (.dat (.str w)), s2⟩) :=
    lt_int (g1 := ⟨qS M cs f r (left.eraseIdx j) t (.dat (.int left[j])) (.dat (.str w)), s2⟩) (name_ok rfl) (ix_ok (i := 0) (name_ok (d := M) rfl) rfl (by rw [hM]; rfl) rfl)
  obtain ⟨mk, hmk⟩ : ∃ mk : Str, mk = if nL r < v then w else "waits" := ⟨_, rfl⟩
  have e5 : fSet 9 (fIfE (fT (f2 pLt (fName 7) (fIxD (fName 1) (rt (.int 0))))) (fName 9) (rt (.str "waits"))) ⟨qS M cs f r (left.eraseIdx j) t (.dat (.int left[j])) (.dat (.str w)), s2⟩ = some (.nx, ⟨qS M cs f r (left.eraseIdx j) t (.dat (.int left[j])) (.dat (.str mk)), s2⟩) := by
    rw [hmk]
    by_cases c : nL r < v
    · rw [decide_eq_true c] at t5
      rw [if_pos c]
      exact set_ok ((ifE_t t5).trans (name_ok rfl))
    · rw [decide_eq_false c] at t5
      rw [if_neg c]
      exact (set_ok (d := .str "waits") (g1 := ⟨qS M cs f r (left.eraseIdx j) t (.dat (.int left[j])) (.dat (.str w)), s2⟩) ((ifE_f t5).trans rfl)).trans rfl
  have hmks : mk ∈ MKF f := by
    rw [hmk]; split
    · exact hw
    · cases f <;> decide
  obtain ⟨r', hr'⟩ : ∃ r', r' = r ++ [pr left[j] mk] := ⟨_, rfl⟩
  have n' : nL r' = nL r + (if loudP (pr left[j] mk) = true then 1 else 0) := by rw [hr']; exact nL_app r _
  have e6 : fSet 7 (f2 pAdd (fName 7) (fInt (f2 pNe (fName 9) (rt (.str "waits"))))) ⟨qS M cs f r (left.eraseIdx j) t (.dat (.int left[j])) (.dat (.str mk)), s2⟩ =
      some (.nx, ⟨[.dat .m, .dat M, .dat (.lst (cs.map .int)), t, .dat (.bl f), .own (rowD r), .own ((left.eraseIdx j).map .int), .dat (.int (nL r')), .dat (.int left[j]), .dat (.str mk)], s2⟩) := by
    have z : fInt (f2 pNe (fName 9) (rt (.str "waits"))) ⟨qS M cs f r (left.eraseIdx j) t (.dat (.int left[j])) (.dat (.str mk)), s2⟩ = some (.ok (.int (if loudP (pr left[j] mk) = true then 1 else 0)), ⟨qS M cs f r (left.eraseIdx j) t (.dat (.int left[j])) (.dat (.str mk)), s2⟩) := by
      have e : f2 pNe (fName 9) (rt (.str "waits")) ⟨qS M cs f r (left.eraseIdx j) t (.dat (.int left[j])) (.dat (.str mk)), s2⟩ = some (.ok (.bl (loudP (pr left[j] mk))), ⟨qS M cs f r (left.eraseIdx j) t (.dat (.int left[j])) (.dat (.str mk)), s2⟩) := (f2_ok (d := .str mk) (d' := .str "waits") (g2 := ⟨qS M cs f r (left.eraseIdx j) t (.dat (.int left[j])) (.dat (.str mk)), s2⟩) (name_ok rfl) rfl).trans rfl
      unfold fInt
      rw [bd_ok e]
      cases loudP (pr left[j] mk) <;> rfl
    have e : f2 pAdd (fName 7) (fInt (f2 pNe (fName 9) (rt (.str "waits")))) ⟨qS M cs f r (left.eraseIdx j) t (.dat (.int left[j])) (.dat (.str mk)), s2⟩ = some (.ok (.int (nL r')), ⟨qS M cs f r (left.eraseIdx j) t (.dat (.int left[j])) (.dat (.str mk)), s2⟩) := by
      refine (f2_ok (d := .int (nL r)) (name_ok rfl) z).trans ?_
      rw [n']; rfl
    exact (set_ok e).trans rfl
  have e7 : fExp (fApp 5 (fTup (fCons (fName 8) (fCons (fName 9) (rt []))))) ⟨[.dat .m, .dat M, .dat (.lst (cs.map .int)), t, .dat (.bl f), .own (rowD r), .own ((left.eraseIdx j).map .int), .dat (.int (nL r')), .dat (.int left[j]), .dat (.str mk)], s2⟩ =
      some (.nx, ⟨qS M cs f r' (left.eraseIdx j) t (.dat (.int left[j])) (.dat (.str mk)), s2⟩) := by
    refine (exp_ok (app_ok (i := 5) (xs0 := rowD r) (xs := rowD r) (d := prD (pr left[j] mk)) (g1 := ⟨[.dat .m, .dat M, .dat (.lst (cs.map .int)), t, .dat (.bl f), .own (rowD r), .own ((left.eraseIdx j).map .int), .dat (.int (nL r')), .dat (.int left[j]), .dat (.str mk)], s2⟩) rfl (tup_ok (ds := [.int left[j], .str mk]) (cons_ok (name_ok rfl) (cons_ok (name_ok rfl) rfl)) (by show 2 ≤ 100000; decide)) rfl (by rw [row_len]; omega))).trans ?_
    rw [show rowD r ++ [prD (pr left[j] mk)] = rowD r' by rw [hr']; simp]; rfl
  refine ⟨r', left.eraseIdx j, _, _, s2, (seq_nx e3).trans ((seq_nx e4).trans ((seq_nx e5).trans ((seq_nx e6).trans e7))), by rw [List.length_eraseIdx]; simp [hj]; omega, ⟨?_, ?_, ?_, ?_⟩, g2⟩
  · rw [hr', show keysOf (r ++ [pr left[j] mk]) = keysOf r ++ [left[j]] by simp, List.append_assoc]
    exact (List.Perm.append_left _ (erase_perm left j hj)).trans F.pm
  · rw [hr']
    exact F.ok.app (okR_one (by
      cases f
      · simp only [MKF, List.mem_cons, List.not_mem_nil, or_false] at hmks
        rcases hmks with h | h <;> rw [h] <;> decide
      · simp only [MKF, List.mem_cons, List.not_mem_nil, or_false] at hmks
        rcases hmks with h | h | h <;> rw [h] <;> decide))
  · intro hf p hp
    rw [hr'] at hp
    rcases (List.mem_append.mp hp) with hp | hp
    · exact F.pd hf p hp
    · rw [(List.mem_singleton.mp hp)]
      subst hf
      simp only [MKF, List.mem_cons, List.not_mem_nil, or_false] at hmks
      have : mk ≠ "kept" := by rcases hmks with h | h <;> rw [h] <;> decide
      exact this
  · rw [n']
    have := F.lo
    by_cases c : nL r < v
    · split <;> omega
    · rw [if_neg c] at hmk
      rw [hmk, if_neg (show ¬ loudP (pr left[j] "waits") = true from Bool.false_ne_true)]
      omega
theorem free_loop {v : Int} {C b : D} {cs : List Int} {f : Bool} (hc : cs.length ≤ 100) : ∀ (is : List D) (k : Nat) (r : List Pr) (left : List Int) (t x8 x9 : Sl) (s : DS), is.length ≤ left.length → Fr v f cs r left → Good (k + 2 * is.length) s →
    ∃ r' left' t' x8' x9' s', loop (gN 3) qB is ⟨qS (.tup [.int v, C, b]) cs f r left t x8 x9, s⟩ = some (.nx, ⟨qS (.tup [.int v, C, b]) cs f r' left' t' x8' x9', s'⟩) ∧ Fr v f cs r' left' ∧ Good k s'
  | [], k, r, left, t, x8, x9, s, _, F, g => ⟨r, left, t, x8, x9, s, rfl, F, g⟩
  | d :: is, k, r, left, t, x8, x9, s, h, F, g => by
    simp only [List.length_cons] at h
    obtain ⟨r1, l1, y8, y9, s1, e1, h1, F1, g1⟩ := free_turn (C := C) (b := b) (t := .dat d) (x8 := x8) (x9 := x9) (k := k + 2 * is.length) hc (by omega) F (g.mono (by simp; omega))
    obtain ⟨r2, l2, t2, z8, z9, s2, e2, F2, g2⟩ := free_loop (C := C) (b := b) hc is k r1 l1 (.dat d) y8 y9 s1 (by omega) F1 g1
    exact ⟨r2, l2, t2, z8, z9, s2, (loop_cons (g1 := ⟨qS (.tup [.int v, C, b]) cs f r left (.dat d) x8 x9, s⟩) rfl e1).trans e2, F2, g2⟩
theorem free_ok {v : Int} {C : D} {b : Str} (hb : b ∈ RET_) (hv : 1 ≤ v) {cs : List Int} (hk : ∀ c ∈ cs, Kok c) (nd : cs.Nodup) (hc : cs.length ≤ 100) {k : Nat} {s : DS} (g : Good (k + 2 + 2 * cs.length) s) :
    ∃ f r s', m__law_free [.m, .tup [.int v, C, .str b], .lst (cs.map .int)] s = some (.ok (stD f r), s') ∧ Val v b f r ∧ r.length ≤ cs.length ∧ Good k s' := by
  obtain ⟨M, hM⟩ : ∃ M, M = D.tup [.int v, C, .str b] := ⟨_, rfl⟩
  obtain ⟨x, s1, d1, lo1, hi1, g1⟩ := draw_ok (n := 2) (k := k + 1 + 2 * cs.length) (by decide) (by decide) (g.mono (by omega))
  obtain ⟨y, s2, d2, lo2, hi2, g2⟩ := draw_ok (n := (cs.length : Int) + 1) (k := k + 2 * cs.length) (by omega) (by omega) (g1.mono (by omega))
  obtain ⟨j, rfl⟩ : ∃ j : Nat, y = (j : Int) := ⟨y.toNat, by omega⟩
  obtain ⟨f, hf⟩ : ∃ f, f = decide (x = 0) := ⟨_, rfl⟩
  obtain ⟨r, left, t, x8, x9, s3, e3, F3, g3⟩ := free_loop (v := v) (C := C) (b := .str b) (f := f) hc (intsD (j : Int)) k [] cs .no .no .no s2 (by rw [intsD_length]; omega) ⟨List.Perm.refl _, fun p hp => (by cases hp), fun _ p hp => (by cases hp), (show ((0 : Nat) : Int) ≤ v by omega)⟩ (g2.mono (by rw [intsD_length]; omega))
  have ndk : (keysOf r).Nodup := (List.nodup_append.mp (F3.pm.nodup_iff.mpr nd)).1
  have kin : ∀ c ∈ keysOf r, c ∈ cs := fun c h => F3.pm.mem_iff.mp (List.mem_append_left _ h)
  have lr : r.length ≤ cs.length := by have := F3.pm.length_eq; rw [List.length_append, List.length_map] at this; omega
  have fo := filled_ok (v := v) (C := C) hb F3.ok (by omega) s3
  obtain ⟨i1, i2, i3, i4, i5, i6⟩ := fill_is hb r.length r [] (List.length_filter_le _ _) ndk F3.ok F3.lo
  obtain ⟨q, hq⟩ : ∃ q, q = (fillL v b r.length r []).1 := ⟨_, rfl⟩
  rw [← hq] at fo i1 i2 i3 i4 i5 i6
  rw [← hM] at fo e3 ⊢
  obtain ⟨S0, hS0⟩ : ∃ S : List Sl, S = [.dat .m, .dat M, .dat (.lst (cs.map .int)), .no, .no, .no, .no, .no, .no, .no] := ⟨_, rfl⟩
  obtain ⟨S3, hS3⟩ : ∃ S : List Sl, S = [.dat .m, .dat M, .dat (.lst (cs.map .int)), t, .dat (.bl f), .dat (.lst (rowD r)), .own (left.map .int), .dat (.int (nL r)), x8, x9] := ⟨_, rfl⟩
  refine ⟨f, q, s3, runB_ret (r := S3) rfl ?_, ⟨i2, fun p hp => hk _ (kin _ (by rw [← i1]; exact key_mem hp)), by rw [i1]; exact ndk, fun z p hp m => F3.pd z p (i3 p hp m) m, i5, i6⟩, ?_, g3⟩
  · refine (congrArg (fun x => fb__law_free ⟨x, s⟩) (show _ = S0 by rw [hS0]; rfl)).trans ?_
    unfold fb__law_free
    have c1 : f2 pEq (fCallN 2 m__law_draw (fCons (fName 0) (fCons (rt (.int 2)) (rt [])))) (rt (.int 0)) ⟨S0, s⟩ = some (.ok (.bl f), ⟨S0, s1⟩) := by
      rw [hf]
      exact (f2_ok (d := .int x) (d' := .int 0) (g2 := ⟨S0, s1⟩) (call_ok (ds := [.m, .int 2]) (g1 := ⟨S0, s⟩) (cons_ok (name_ok (by rw [hS0]; rfl)) (cons_ok rfl rfl)) rfl d1) rfl).trans rfl
    have c2 : fPar4 4 5 6 7 (f2 pEq (fCallN 2 m__law_draw (fCons (fName 0) (fCons (rt (.int 2)) (rt [])))) (rt (.int 0))) (fLst (rt [])) (bd (fPeek 2) rt) 0 ⟨S0, s⟩ = some (.nx, ⟨qS M cs f [] cs .no .no .no, s1⟩) := by
      unfold fPar4
      rw [sb_ok c1, sb_ok (show fLst (rt []) ⟨S0, s1⟩ = some (.ok [], ⟨S0, s1⟩) from rfl), sb_ok (show bd (fPeek 2) rt ⟨S0, s1⟩ = some (.ok (cs.map .int), ⟨S0, s1⟩) by rw [hS0]; rfl)]
      rw [hS0]; rfl
    have c3 : fCons (fCallN 2 m__law_draw (fCons (fName 0) (fCons (f2 pAdd (fLen (fPeek 2)) (rt (.int 1))) (rt [])))) (rt []) ⟨qS M cs f [] cs .no .no .no, s1⟩ = some (.ok [.int (j : Int)], ⟨qS M cs f [] cs .no .no .no, s2⟩) := by
      refine cons_ok (call_ok (ds := [.m, .int ((cs.length : Int) + 1)]) (g1 := ⟨qS M cs f [] cs .no .no .no, s1⟩) (cons_ok (name_ok rfl) (cons_ok ((f2_ok (d := .int (cs.length : Int)) (d' := .int 1) (g2 := ⟨qS M cs f [] cs .no .no .no, s1⟩) ((len_ok (peek_l (ds := cs.map .int) rfl)).trans (by rw [List.length_map])) rfl).trans rfl) rfl)) rfl d2) rfl
    refine (seq_nx c2).trans ((seq_nx ((forR_ok c3 (by omega)).trans e3)).trans (ret_ok ?_))
    refine tup_ok (ds := [.bl f, .tup (rowD q)]) (cons_ok (name_ok rfl) (cons_ok (g1 := ⟨S3, s3⟩) (tupOf_ok ?_) rfl)) (by show 2 ≤ 100000; decide)
    refine (bd_ok (g1 := ⟨S3, s3⟩) (a := .lst (rowD q)) ?_).trans rfl
    refine ix_ok (i := 0) (g1 := ⟨S3, s3⟩) (call_ok (ds := [M, .lst (rowD r)]) (g1 := ⟨S3, s3⟩) (cons_ok (g1 := ⟨qS M cs f r left t x8 x9, s3⟩) (name_ok rfl) (cons_ok (g1 := ⟨S3, s3⟩) (by rw [hS3]; rfl) rfl)) rfl fo) rfl rfl rfl
  · have : q.length = r.length := by have := congrArg List.length i1; rw [List.length_map, List.length_map] at this; exact this
    omega
end S
namespace S
open PyProof.Rows PySem.Spec PySem L2 DE
/-! ### the program on rows -/
theorem is_key_ok (i : Int) (s : DS) : m_is_key [.int i] s = some (.ok (.bl (decide (0 ≤ i) && decide (i ≤ 87))), s) := by
  refine runB_ret (r := [.dat (.int i)]) rfl (ret_ok ?_)
  exact call_ok (ds := [.int i, .int 0, .int 87]) (g1 := ⟨[.dat (.int i)], s⟩) (cons_ok (name_ok rfl) (cons_ok rfl (cons_ok rfl rfl))) rfl (is_whole_ok i 0 87 s)
def MRK : List Str := ["sounds", "kept", "waits"]
theorem is_pair_ok (p : Pr) (s : DS) : m_is_pair [prD p] s = some (.ok (.bl ((decide (0 ≤ p.1) && decide (p.1 ≤ 87)) && MRK.contains p.2)), s) := by
  obtain ⟨i, w⟩ := p
  refine runB_ret (r := [.dat (prD (i, w))]) rfl ?_
  unfold fb_is_pair
  refine (seq_nx (g1 := ⟨[.dat (prD (i, w))], s⟩) (by kernel_rfl)).trans (ret_ok ?_)
  have e1 : fCallN 1 m_is_key (fCons (fIxD (fName 0) (rt (.int 0))) (rt [])) ⟨[.dat (prD (i, w))], s⟩ = some (.ok (.bl (decide (0 ≤ i) && decide (i ≤ 87))), ⟨[.dat (prD (i, w))], s⟩) :=
    call_ok (ds := [.int i]) (g1 := ⟨[.dat (prD (i, w))], s⟩) (cons_ok (ix_ok (name_ok rfl) rfl rfl rfl) rfl) rfl (is_key_ok i s)
  have e2 : fCallN 2 m_is_word (fCons (fIxD (fName 0) (rt (.int 1))) (fCons (rt c_MARKS) (rt []))) ⟨[.dat (prD (i, w))], s⟩ = some (.ok (.bl (MRK.contains w)), ⟨[.dat (prD (i, w))], s⟩) :=
    call_ok (ds := [.str w, .tup (MRK.map .str)]) (g1 := ⟨[.dat (prD (i, w))], s⟩) (cons_ok (ix_ok (name_ok rfl) rfl rfl rfl) (cons_ok rfl rfl)) rfl (is_word_ok (.str w) MRK s rfl)
  cases h : (decide (0 ≤ i) && decide (i ≤ 87)) with
  | true => rw [h] at e1; refine (andV_t e1).trans (e2.trans ?_); simp [h]
  | false => rw [h] at e1; refine (andV_f e1).trans ?_; simp [h]
theorem pair_val {p : Pr} (hk : 0 ≤ p.1 ∧ p.1 ≤ 87) (hm : p.2 ∈ MKS) (s : DS) : m_is_pair [prD p] s = some (.ok (.bl true), s) := by
  refine (is_pair_ok p s).trans ?_
  rw [decide_eq_true hk.1, decide_eq_true hk.2]
  have : MRK.contains p.2 = true := by unfold MKS at hm; unfold MRK; simpa using hm
  rw [this]; rfl
theorem loud_keys_ok {a : D} {r : List Pr} (h : aSeq a = some (rowD r)) (hl : r.length ≤ 1000) (s : DS) : m_loud_keys [a] s = some (.ok (.lst ((keysOf (r.filter loudP)).map .int)), s) := by
  refine runB_ret (r := [.dat a, .no, .no]) rfl (ret_ok (let_ok ?_))
  have c := compL_on (vs := [1, 2]) (t := gT 2 (gsCons (gN 1) (gsCons (gN 2) gsNil))) (c := fT (f2 pNe (fName 2) (rt (.str "waits")))) (e := fName 1) (E := prD) (F := fun p : Pr => D.int p.1) (P := loudP) (S := [.dat a, .no, .no]) (s := s) r fun p _ =>
    ⟨⟨[.dat a, .dat (.int p.1), .dat (.str p.2)], s⟩, ⟨[.dat a, .dat (.int p.1), .dat (.str p.2)], s⟩, rfl, ne_str (name_ok rfl) rfl, fun _ => ⟨⟨[.dat a, .dat (.int p.1), .dat (.str p.2)], s⟩, name_ok rfl, rfl, rfl⟩, fun _ => ⟨rfl, rfl⟩⟩
  rw [show (r.filter loudP).map (fun p : Pr => D.int p.1) = (keysOf (r.filter loudP)).map D.int by simp] at c
  exact comp_ok (vs := [1, 2]) (fi := fName 0) (g := ⟨[.dat a, .no, .no], s⟩) (g1 := ⟨[.dat a, .no, .no], s⟩) (name_ok rfl) h (by rw [row_len]; omega) c
def nextB (v : Int) (f : Bool) (pre : List Pr) (p : Pr) : Bool := !(keysOf pre).contains p.1 && (!(decide (p.2 = "kept") && !f) && (decide (p.2 = "waits") || decide (nL pre < v)))
theorem next_ok {v : Int} {f : Bool} {pre : List Pr} {p : Pr} (hl : pre.length ≤ 1000) (hk : 0 ≤ p.1 ∧ p.1 ≤ 87) (hm : p.2 ∈ MKS) (s : DS) : m_can_be_next [.int v, .bl f, .tup (rowD pre), prD p] s = some (.ok (.bl (nextB v f pre p)), s) := by
  obtain ⟨S0, hS0⟩ : ∃ S : List Sl, S = [.dat (.int v), .dat (.bl f), .dat (.tup (rowD pre)), .dat (prD p), .no, .no, .no] := ⟨_, rfl⟩
  obtain ⟨S, hS⟩ : ∃ S : List Sl, S = [.dat (.int v), .dat (.bl f), .dat (.tup (rowD pre)), .dat (prD p), .dat (.int p.1), .dat (.str p.2), .no] := ⟨_, rfl⟩
  refine runB_ret (r := S) rfl ?_
  refine (congrArg (fun x => fb_can_be_next ⟨x, s⟩) (show _ = S0 by rw [hS0]; rfl)).trans ?_
  unfold fb_can_be_next
  have t0 : fNot (fT (fCallN 1 m_is_pair (fCons (fName 3) (rt [])))) ⟨S0, s⟩ = some (.ok false, ⟨S0, s⟩) := not_ok (t_ok (call_ok (ds := [prD p]) (g1 := ⟨S0, s⟩) (cons_ok (name_ok (by rw [hS0]; rfl)) rfl) rfl (pair_val hk hm s)))
  have a1 : fAsg (fName 3) (gT 2 (gsCons (gN 4) (gsCons (gN 5) gsNil))) ⟨S0, s⟩ = some (.nx, ⟨S, s⟩) := asg_ok (d := prD p) (name_ok (by rw [hS0]; rfl)) (by rw [hS0, hS]; rfl)
  have c := compL_on (vs := [6]) (t := gN 6) (c := rt true) (e := fIxD (fName 6) (rt (.int 0))) (E := prD) (F := fun p : Pr => D.int p.1) (P := fun _ => true) (S := S) (s := s) pre fun q _ =>
    ⟨⟨S.set 6 (.dat (prD q)), s⟩, ⟨S.set 6 (.dat (prD q)), s⟩, rfl, rfl, fun _ => ⟨⟨S.set 6 (.dat (prD q)), s⟩, pr0 (by rw [hS]; rfl), by rw [hS]; rfl, rfl⟩, fun z => by cases z⟩
  rw [List.filter_eq_self.mpr fun _ _ => rfl] at c
  rw [show pre.map (fun p : Pr => D.int p.1) = (keysOf pre).map D.int by simp] at c
  have k := comp_ok (vs := [6]) (fi := fName 2) (t := gN 6) (g := ⟨S, s⟩) (g1 := ⟨S, s⟩) (ds := rowD pre) (name_ok (d := .tup (rowD pre)) (by rw [hS]; rfl)) rfl (by rw [row_len]; omega) (by show compL _ _ _ _ _ ⟨wipeR S [6], s⟩ = _; rw [show wipeR S [6] = S by rw [hS]; rfl]; exact c)
  have t1 : fT (f2 (pIn false) (fName 4) (fLet (fComp [6] (fName 2) (gN 6) ((rt true)) (fIxD (fName 6) (rt (.int 0)))))) ⟨S, s⟩ = some (.ok ((keysOf pre).contains p.1), ⟨S, s⟩) := in_ints (neg := false) (xs := keysOf pre) (name_ok (d := .int p.1) (by rw [hS]; rfl)) (let_ok k) rfl
  have t2 : fT (f2 pEq (fName 5) (rt (.str "kept"))) ⟨S, s⟩ = some (.ok (decide (p.2 = "kept")), ⟨S, s⟩) := eq_str (name_ok (by rw [hS]; rfl)) rfl
  have t3 : fNot (fT (fName 1)) ⟨S, s⟩ = some (.ok (!f), ⟨S, s⟩) := not_ok (t_ok (name_ok (by rw [hS]; rfl)))
  have v1 : f2 pEq (fName 5) (rt (.str "waits")) ⟨S, s⟩ = some (.ok (.bl (decide (p.2 = "waits"))), ⟨S, s⟩) := (f2_ok (d := .str p.2) (d' := .str "waits") (g2 := ⟨S, s⟩) (name_ok (by rw [hS]; rfl)) rfl).trans rfl
  have v2 : f2 pLt (fLen (fPk (fCallN 1 m_loud_keys (fCons (fName 2) (rt []))))) (fName 0) ⟨S, s⟩ = some (.ok (.bl (decide (nL pre < v))), ⟨S, s⟩) := by
    have c : fCallN 1 m_loud_keys (fCons (fName 2) (rt [])) ⟨S, s⟩ = some (.ok (.lst ((keysOf (pre.filter loudP)).map .int)), ⟨S, s⟩) := call_ok (ds := [.tup (rowD pre)]) (g1 := ⟨S, s⟩) (cons_ok (name_ok (by rw [hS]; rfl)) rfl) rfl (loud_keys_ok rfl hl s)
    have q : fPk (fCallN 1 m_loud_keys (fCons (fName 2) (rt []))) ⟨S, s⟩ = some (.ok ((keysOf (pre.filter loudP)).map .int), ⟨S, s⟩) := by unfold fPk; rw [bd_ok c]; rfl
    have l : fLen (fPk (fCallN 1 m_loud_keys (fCons (fName 2) (rt [])))) ⟨S, s⟩ = some (.ok (.int (nL pre)), ⟨S, s⟩) := (len_ok q).trans (by rw [List.length_map, List.length_map])
    exact (f2_ok l (name_ok (d := .int v) (by rw [hS]; rfl))).trans rfl
  refine (seq_nx ((if_f t0).trans rfl)).trans ((seq_nx a1).trans ?_)
  unfold nextB
  cases h1 : (keysOf pre).contains p.1 with
  | true => rw [h1] at t1; exact seq_ret ((if_t t1).trans rfl)
  | false =>
    rw [h1] at t1
    refine (seq_nx ((if_f t1).trans rfl)).trans ?_
    cases h2 : (decide (p.2 = "kept") && !f) with
    | true =>
      rw [Bool.and_eq_true] at h2
      rw [h2.1] at t2
      rw [h2.2] at t3
      exact seq_ret ((if_t ((and_t t2).trans t3)).trans rfl)
    | false =>
      have tt : fAnd (fT (f2 pEq (fName 5) (rt (.str "kept")))) (fNot (fT (fName 1))) ⟨S, s⟩ = some (.ok false, ⟨S, s⟩) := by
        cases h3 : decide (p.2 = "kept") with
        | false => rw [h3] at t2; exact and_f t2
        | true => rw [h3] at t2 h2; rw [Bool.true_and] at h2; rw [h2] at t3; exact (and_t t2).trans t3
      refine (seq_nx ((if_f tt).trans rfl)).trans (ret_ok ?_)
      unfold fOrV
      rw [bd_ok v1]
      cases h4 : decide (p.2 = "waits") with
      | true => rfl
      | false =>
        refine (bd_ok (a := false) rfl).trans ?_
        refine v2.trans ?_
        rfl
theorem next_no {v : Int} {f : Bool} {pre : List Pr} {d : D} (s : DS) (h : m_is_pair [d] s = some (.ok (.bl false), s)) : m_can_be_next [.int v, .bl f, .tup (rowD pre), d] s = some (.ok (.bl false), s) := by
  refine runB_ret (r := [.dat (.int v), .dat (.bl f), .dat (.tup (rowD pre)), .dat d, .no, .no, .no]) rfl ?_
  unfold fb_can_be_next
  exact seq_ret ((if_t (not_ok (t_ok (call_ok (ds := [d]) (g1 := ⟨[.dat (.int v), .dat (.bl f), .dat (.tup (rowD pre)), .dat d, .no, .no, .no], s⟩) (cons_ok (name_ok rfl) rfl) rfl h)))).trans rfl)
/-! ### the row's first fault -/
abbrev rB : Ms := fIf (fNot (fT (fCallN 4 m_can_be_next (fCons (fName 0) (fCons (fName 1) (fCons (fSl (fName 2) (rt none) (fPart (fName 3))) (fCons (fIxD (fName 2) (fName 3)) (rt [])))))))) (fRet (fTup (fCons (rt (.str "row")) (fCons (fName 3) (rt []))))) (sOut .nx)
def AtR (v : Int) (f : Bool) (cs : List D) (s : DS) (g : Sg) : Prop := ∃ x, g = ⟨[.dat (.int v), .dat (.bl f), .dat (.tup cs), x], s⟩
theorem row_turn {v : Int} {f : Bool} {cs : List D} {s : DS} {i : Nat} {d : D} {b : Bool} {g : Sg} (hd : cs[i]? = some d) (h : m_can_be_next [.int v, .bl f, .tup (cs.take i), d] s = some (.ok (.bl b), s)) (q : AtR v f cs s g) :
    gN 3 (.int (i : Int)) g = some ⟨[.dat (.int v), .dat (.bl f), .dat (.tup cs), .dat (.int (i : Int))], s⟩ ∧ rB ⟨[.dat (.int v), .dat (.bl f), .dat (.tup cs), .dat (.int (i : Int))], s⟩ = (if b = true then some (.nx, ⟨[.dat (.int v), .dat (.bl f), .dat (.tup cs), .dat (.int (i : Int))], s⟩) else some (.ret (.tup [.str "row", .int (i : Int)]), ⟨[.dat (.int v), .dat (.bl f), .dat (.tup cs), .dat (.int (i : Int))], s⟩)) := by
  obtain ⟨x, rfl⟩ := q
  refine ⟨rfl, ?_⟩
  have hi : i < cs.length := by
    rcases Nat.lt_or_ge i cs.length with h | h
    · exact h
    · rw [List.getElem?_eq_none h] at hd; cases hd
  obtain ⟨g, hg⟩ : ∃ g : Sg, g = ⟨[.dat (.int v), .dat (.bl f), .dat (.tup cs), .dat (.int (i : Int))], s⟩ := ⟨_, rfl⟩
  have sl : fSl (fName 2) (rt none) (fPart (fName 3)) g = some (.ok (.tup (cs.take i)), g) := by
    rw [hg]
    refine (sl_t (cs := cs) (lo := none) (hi := some (i : Int)) (name_ok rfl) rfl (part_ok (name_ok rfl))).trans ?_
    rw [cut_take cs i (by omega)]
  have ix : fIxD (fName 2) (fName 3) g = some (.ok d, g) := by
    rw [hg]
    exact ix_ok (i := (i : Int)) (cs := cs) (name_ok rfl) (name_ok rfl) rfl ((atI_nat cs i hi).trans hd)
  have e : fNot (fT (fCallN 4 m_can_be_next (fCons (fName 0) (fCons (fName 1) (fCons (fSl (fName 2) (rt none) (fPart (fName 3))) (fCons (fIxD (fName 2) (fName 3)) (rt []))))))) g = some (.ok (!b), g) := by
    refine not_ok (t_ok ?_)
    have := call_ok (n := 4) (gm := m_can_be_next) (ds := [.int v, .bl f, .tup (cs.take i), d]) (g := g) (g1 := g) (cons_ok (e := fName 0) (name_ok (by rw [hg]; rfl)) (cons_ok (e := fName 1) (name_ok (by rw [hg]; rfl)) (cons_ok sl (cons_ok ix (fs := rt []) rfl)))) rfl (by rw [hg]; exact h)
    exact this.trans (by rw [hg])
  rw [hg] at e
  cases b with
  | true => exact (if_f e).trans rfl
  | false => exact (if_t e).trans rfl
theorem row_pre {v : Int} {f : Bool} {cs : List D} (s : DS) (hl : cs.length ≤ 1000) : fb_row_fault ⟨[.dat (.int v), .dat (.bl f), .dat (.tup cs), .no], s⟩ = fSeq (loop (gN 3) rB (intsD (cs.length : Int))) (fRet (rt .non)) ⟨[.dat (.int v), .dat (.bl f), .dat (.tup cs), .no], s⟩ := by
  unfold fb_row_fault
  rw [seq_nx (g1 := ⟨[.dat (.int v), .dat (.bl f), .dat (.tup cs), .no], s⟩) (by kernel_rfl)]
  unfold fSeq
  rw [forR_ok (n := (cs.length : Int)) (g1 := ⟨[.dat (.int v), .dat (.bl f), .dat (.tup cs), .no], s⟩) (cons_ok (len_ok (peek_t rfl)) rfl) (by omega)]
theorem row_none {v : Int} {f : Bool} {cs : List D} (s : DS) (hl : cs.length ≤ 1000) (h : ∀ i d, cs[i]? = some d → m_can_be_next [.int v, .bl f, .tup (cs.take i), d] s = some (.ok (.bl true), s)) : m_row_fault [.int v, .bl f, .tup cs] s = some (.ok .non, s) := by
  obtain ⟨g', e, x, rfl⟩ := loop_all (t := gN 3) (b := rB) (AtR v f cs s) (ds := intsD (cs.length : Int)) (g := ⟨[.dat (.int v), .dat (.bl f), .dat (.tup cs), .no], s⟩) (fun d hd g q => by
    unfold intsD at hd
    obtain ⟨i, hi, rfl⟩ := List.mem_map.mp hd
    rw [List.mem_range, Int.toNat_natCast] at hi
    obtain ⟨a, b⟩ := row_turn (List.getElem?_eq_getElem hi) (h i _ (List.getElem?_eq_getElem hi)) q
    exact ⟨_, _, a, b, _, rfl⟩) ⟨_, rfl⟩
  refine runB_ret (r := [.dat (.int v), .dat (.bl f), .dat (.tup cs), x]) rfl ?_
  refine (row_pre s hl).trans ?_
  rw [seq_nx e]; rfl
theorem row_at {v : Int} {f : Bool} {cs : List D} (s : DS) (hl : cs.length ≤ 1000) {j : Nat} {dj : D} (hj : cs[j]? = some dj) (h : ∀ i d, i < j → cs[i]? = some d → m_can_be_next [.int v, .bl f, .tup (cs.take i), d] s = some (.ok (.bl true), s)) (hf : m_can_be_next [.int v, .bl f, .tup (cs.take j), dj] s = some (.ok (.bl false), s)) :
    m_row_fault [.int v, .bl f, .tup cs] s = some (.ok (.tup [.str "row", .int (j : Int)]), s) := by
  have lj : j < cs.length := by
    rcases Nat.lt_or_ge j cs.length with h | h
    · exact h
    · rw [List.getElem?_eq_none h] at hj; cases hj
  obtain ⟨g', e, x, rfl⟩ := loop_then (t := gN 3) (b := rB) (AtR v f cs s) (d := .int (j : Int)) (r := .tup [.str "row", .int (j : Int)]) (es := (List.range (cs.length - j - 1)).map fun i => D.int ((j + 1 + i : Nat) : Int)) (ds := (List.range j).map fun (i : Nat) => D.int (i : Int)) (g := ⟨[.dat (.int v), .dat (.bl f), .dat (.tup cs), .no], s⟩) (fun d hd g q => by
    obtain ⟨i, hi, rfl⟩ := List.mem_map.mp hd
    rw [List.mem_range] at hi
    have li : i < cs.length := by omega
    obtain ⟨a, b⟩ := row_turn (List.getElem?_eq_getElem li) (h i _ hi (List.getElem?_eq_getElem li)) q
    exact ⟨_, _, a, b, _, rfl⟩) (fun g q => by
    obtain ⟨a, b⟩ := row_turn hj hf q
    exact ⟨_, _, a, b, _, rfl⟩) ⟨_, rfl⟩
  rw [← intsD_split lj] at e
  refine runB_ret (r := [.dat (.int v), .dat (.bl f), .dat (.tup cs), x]) rfl ?_
  refine (row_pre s hl).trans ?_
  exact seq_ret e
end S
namespace S
open PyProof.Rows PySem.Spec PySem L2 DE
/-! ### the program on states -/
structure Pre (v : Int) (f : Bool) (r : List Pr) : Prop where
  ok : okR r
  key : ∀ p ∈ r, 0 ≤ p.1 ∧ p.1 ≤ 87
  nd : (keysOf r).Nodup
  pd : f = false → ∀ p ∈ r, p.2 ≠ "kept"
  lo : nL r ≤ v
theorem Val.pre {v : Int} {b : Str} {f : Bool} {r : List Pr} (V : Val v b f r) : Pre v f r := ⟨V.ok, fun p hp => (V.key p hp).1, V.nd, V.pd, V.lo⟩
theorem nL_sub {r q : List Pr} (h : q.Sublist r) : nL q ≤ nL r := Int.ofNat_le.mpr (h.filter _).length_le
theorem Pre.sub {v : Int} {f : Bool} {r q : List Pr} (P : Pre v f r) (h : q.Sublist r) : Pre v f q := ⟨fun p hp => P.ok p (h.mem hp), fun p hp => P.key p (h.mem hp), nd_sub h P.nd, fun hf p hp => P.pd hf p (h.mem hp), Int.le_trans (nL_sub h) P.lo⟩
theorem next_last {v : Int} {f : Bool} {r : List Pr} {p : Pr} (P : Pre v f (r ++ [p])) : nextB v f r p = true := by
  have hp : p ∈ r ++ [p] := by simp
  unfold nextB
  have k : (keysOf r).contains p.1 = false := by
    rw [Bool.eq_false_iff]
    intro h
    have h : p.1 ∈ keysOf r := by simpa using h
    have nd := P.nd
    rw [show keysOf (r ++ [p]) = keysOf r ++ [p.1] by simp, List.nodup_append] at nd
    exact nd.2.2 _ h _ (by simp) rfl
  rw [k]
  have m : (decide (p.2 = "kept") && !f) = false := by
    cases f with
    | true => simp
    | false =>
      have := P.pd rfl p hp
      rw [decide_eq_false this]; rfl
  rw [m]
  by_cases w : p.2 = "waits"
  · rw [decide_eq_true w]; rfl
  · have n := P.lo
    rw [nL_app, if_pos (by unfold loudP; rw [decide_eq_false w]; rfl)] at n
    rw [decide_eq_true (show nL r < v by omega)]
    simp
theorem pre_next {v : Int} {f : Bool} {pre : List Pr} (P : Pre v f pre) (hl : pre.length ≤ 900) (rest : List D) (s : DS) {i : Nat} {d : D} (hi : i < pre.length) (hd : (rowD pre ++ rest)[i]? = some d) :
    m_can_be_next [.int v, .bl f, .tup ((rowD pre ++ rest).take i), d] s = some (.ok (.bl true), s) := by
  have li : i < (rowD pre).length := by rw [row_len]; exact hi
  rw [List.getElem?_append_left li, List.getElem?_map, List.getElem?_eq_getElem hi] at hd
  cases hd
  rw [List.take_append_of_le_length (by omega), ← List.map_take]
  have sub : (pre.take i ++ [pre[i]]).Sublist pre := by
    rw [List.take_append_getElem]; exact List.take_sublist _ _
  have Q := P.sub sub
  have mem : pre[i] ∈ pre := List.getElem_mem hi
  have e := next_ok (v := v) (f := f) (pre := pre.take i) (p := pre[i]) (by rw [List.length_take]; omega) (P.key _ mem) (P.ok _ mem) s
  rw [next_last Q] at e
  exact e
theorem row_good {v : Int} {f : Bool} {r : List Pr} (P : Pre v f r) (hl : r.length ≤ 900) (s : DS) : m_row_fault [.int v, .bl f, .tup (rowD r)] s = some (.ok .non, s) :=
  row_none s (by rw [row_len]; omega) fun i d hd => by
    have hi : i < r.length := by
      rcases Nat.lt_or_ge i r.length with h | h
      · exact h
      · rw [List.getElem?_eq_none (by rw [row_len]; exact h)] at hd; cases hd
    have := pre_next P hl [] s hi (by rw [List.append_nil]; exact hd)
    rw [List.append_nil] at this
    exact this
theorem row_bad {v : Int} {f : Bool} {pre : List Pr} (P : Pre v f pre) (hl : pre.length ≤ 900) {d : D} {rest : List D} (hr : rest.length ≤ 50) (s : DS) (h : m_can_be_next [.int v, .bl f, .tup (rowD pre), d] s = some (.ok (.bl false), s)) :
    m_row_fault [.int v, .bl f, .tup (rowD pre ++ d :: rest)] s = some (.ok (.tup [.str "row", .int (pre.length : Int)]), s) :=
  row_at s (by rw [List.length_append, row_len, List.length_cons]; omega) (j := pre.length) (dj := d) (by rw [List.getElem?_append_right (by rw [row_len]; exact Nat.le_refl _), row_len, Nat.sub_self]; rfl) (fun i e hi he => pre_next P hl (d :: rest) s hi he) (by
    rw [show (rowD pre ++ d :: rest).take pre.length = rowD pre by rw [List.take_append_of_le_length (by rw [row_len]; exact Nat.le_refl _)]; exact List.take_of_length_le (by rw [row_len]; exact Nat.le_refl _)]
    exact h)
abbrev MD (v : Int) (C : D) (b : Str) : D := .tup [.int v, C, .str b]
def vainB (v : Int) (b : Str) (r : List Pr) : Bool := !decide (b = "none") && (decide (nL r < v) && decide (nL r < (r.length : Int)))
theorem vain_ok {v : Int} {C : D} {b : Str} {r : List Pr} (hl : r.length ≤ 1000) (s : DS) : m_waits_in_vain [MD v C b, .tup (rowD r)] s = some (.ok (.bl (vainB v b r)), s) := by
  obtain ⟨M, hM⟩ : ∃ M, M = MD v C b := ⟨_, rfl⟩
  obtain ⟨S, hS⟩ : ∃ S : List Sl, S = [.dat M, .dat (.tup (rowD r)), .dat (.int (nL r)), .dat (.int v), .dat C, .dat (.str b)] := ⟨_, rfl⟩
  rw [← hM]
  refine runB_ret (r := S) rfl ?_
  unfold fb_waits_in_vain
  refine (seq_nx (g1 := ⟨[.dat M, .dat (.tup (rowD r)), .no, .dat (.int v), .dat C, .dat (.str b)], s⟩) (asg_ok (d := M) (name_ok rfl) (by rw [hM]; rfl))).trans ?_
  have c : fCallN 1 m_loud_keys (fCons (fName 1) (rt [])) ⟨[.dat M, .dat (.tup (rowD r)), .no, .dat (.int v), .dat C, .dat (.str b)], s⟩ = some (.ok (.lst ((keysOf (r.filter loudP)).map .int)), ⟨[.dat M, .dat (.tup (rowD r)), .no, .dat (.int v), .dat C, .dat (.str b)], s⟩) := call_ok (ds := [.tup (rowD r)]) (g1 := ⟨[.dat M, .dat (.tup (rowD r)), .no, .dat (.int v), .dat C, .dat (.str b)], s⟩) (cons_ok (name_ok rfl) rfl) rfl (loud_keys_ok rfl hl s)
  have q : fPk (fCallN 1 m_loud_keys (fCons (fName 1) (rt []))) ⟨[.dat M, .dat (.tup (rowD r)), .no, .dat (.int v), .dat C, .dat (.str b)], s⟩ = some (.ok ((keysOf (r.filter loudP)).map .int), ⟨[.dat M, .dat (.tup (rowD r)), .no, .dat (.int v), .dat C, .dat (.str b)], s⟩) := by unfold fPk; rw [bd_ok c]; rfl
  have l : fLen (fPk (fCallN 1 m_loud_keys (fCons (fName 1) (rt [])))) ⟨[.dat M, .dat (.tup (rowD r)), .no, .dat (.int v), .dat C, .dat (.str b)], s⟩ = some (.ok (.int (nL r)), ⟨[.dat M, .dat (.tup (rowD r)), .no, .dat (.int v), .dat C, .dat (.str b)], s⟩) := (len_ok q).trans (by rw [List.length_map, List.length_map])
  refine (seq_nx (g1 := ⟨S, s⟩) ((set_ok l).trans (by rw [hS]; rfl))).trans (ret_ok ?_)
  have v1 : f2 pNe (fName 5) (rt (.str "none")) ⟨S, s⟩ = some (.ok (.bl (!decide (b = "none"))), ⟨S, s⟩) := (f2_ok (d := .str b) (d' := .str "none") (g2 := ⟨S, s⟩) (name_ok (by rw [hS]; rfl)) rfl).trans rfl
  have v2 : f2 pLt (fName 2) (fName 3) ⟨S, s⟩ = some (.ok (.bl (decide (nL r < v))), ⟨S, s⟩) := (f2_ok (d := .int (nL r)) (d' := .int v) (g2 := ⟨S, s⟩) (name_ok (by rw [hS]; rfl)) (name_ok (by rw [hS]; rfl))).trans rfl
  have v3 : f2 pLt (fName 2) (fLen (fPeek 1)) ⟨S, s⟩ = some (.ok (.bl (decide (nL r < (r.length : Int)))), ⟨S, s⟩) := (f2_ok (d := .int (nL r)) (d' := .int (r.length : Int)) (g2 := ⟨S, s⟩) (name_ok (by rw [hS]; rfl)) ((len_ok (peek_t (ds := rowD r) (by rw [hS]; rfl))).trans (by rw [row_len]))).trans rfl
  unfold vainB
  cases h1 : (!decide (b = "none")) with
  | false => rw [h1] at v1; exact andV_f v1
  | true =>
    rw [h1] at v1
    refine (andV_t v1).trans ?_
    cases h2 : decide (nL r < v) with
    | false => rw [h2] at v2; exact andV_f v2
    | true => rw [h2] at v2; exact (andV_t v2).trans (v3.trans rfl)
theorem vain_val {v : Int} {b : Str} {r : List Pr} (w : waitsB v b r) : vainB v b r = false := by
  unfold vainB
  rcases w with w | w | w
  · rw [decide_eq_true w]; rfl
  · rw [decide_eq_false (show ¬ nL r < v by omega)]; simp
  · have := counts r
    rw [w, List.length_nil, Nat.add_zero] at this
    rw [decide_eq_false (p := nL r < (r.length : Int)) (by show ¬ ((r.filter loudP).length : Int) < _; omega)]; simp
section
variable {v : Int} {C : D} {b : Str} {f : Bool} {s : DS}
/-- the row is at fault -/
theorem sf_row {R : D} {xs : List D} (h : m_row_fault [.int v, .bl f, R] s = some (.ok (.tup xs), s)) : m_state_fault [MD v C b, .tup [.bl f, R]] s = some (.ok (.tup xs), s) := by
  obtain ⟨M, hM⟩ : ∃ M, M = MD v C b := ⟨_, rfl⟩
  rw [← hM]
  refine runB_ret (r := [.dat M, .dat (.tup [.bl f, R]), .dat (.tup xs), .dat (.bl f), .dat R]) rfl ?_
  unfold fb_state_fault
  refine (seq_nx (g1 := ⟨[.dat M, .dat (.tup [.bl f, R]), .no, .no, .no], s⟩) (by kernel_rfl)).trans ((seq_nx (g1 := ⟨[.dat M, .dat (.tup [.bl f, R]), .no, .dat (.bl f), .dat R], s⟩) (by kernel_rfl)).trans ((seq_nx (g1 := ⟨[.dat M, .dat (.tup [.bl f, R]), .no, .dat (.bl f), .dat R], s⟩) (by kernel_rfl)).trans ?_))
  refine (seq_nx (set_ok (g1 := ⟨[.dat M, .dat (.tup [.bl f, R]), .no, .dat (.bl f), .dat R], s⟩) (call_ok (ds := [.int v, .bl f, R]) (g1 := ⟨[.dat M, .dat (.tup [.bl f, R]), .no, .dat (.bl f), .dat R], s⟩) (cons_ok (ix_ok (i := 0) (name_ok (d := M) rfl) rfl (by rw [hM]; rfl) rfl) (cons_ok (name_ok rfl) (cons_ok (name_ok rfl) rfl))) rfl h))).trans ?_
  exact (seq_nx (g1 := ⟨[.dat M, .dat (.tup [.bl f, R]), .dat (.tup xs), .dat (.bl f), .dat R], s⟩) ((if_f (and_f (g1 := ⟨[.dat M, .dat (.tup [.bl f, R]), .dat (.tup xs), .dat (.bl f), .dat R], s⟩) (by kernel_rfl))).trans rfl)).trans (ret_ok (name_ok rfl))
theorem sf_vain {r : List Pr} (hl : r.length ≤ 1000) (h : m_row_fault [.int v, .bl f, .tup (rowD r)] s = some (.ok .non, s)) : m_state_fault [MD v C b, stD f r] s = some (.ok (if vainB v b r = true then .tup [.str "waits"] else .non), s) := by
  obtain ⟨M, hM⟩ : ∃ M, M = MD v C b := ⟨_, rfl⟩
  have vo := vain_ok (v := v) (C := C) (b := b) hl s
  rw [← hM] at vo ⊢
  refine runB_ret (r := [.dat M, .dat (stD f r), .dat .non, .dat (.bl f), .dat (.tup (rowD r))]) rfl ?_
  unfold fb_state_fault
  refine (seq_nx (g1 := ⟨[.dat M, .dat (stD f r), .no, .no, .no], s⟩) (by kernel_rfl)).trans ((seq_nx (g1 := ⟨[.dat M, .dat (stD f r), .no, .dat (.bl f), .dat (.tup (rowD r))], s⟩) (by kernel_rfl)).trans ((seq_nx (g1 := ⟨[.dat M, .dat (stD f r), .no, .dat (.bl f), .dat (.tup (rowD r))], s⟩) (by kernel_rfl)).trans ?_))
  refine (seq_nx (set_ok (g1 := ⟨[.dat M, .dat (stD f r), .no, .dat (.bl f), .dat (.tup (rowD r))], s⟩) (call_ok (ds := [.int v, .bl f, .tup (rowD r)]) (g1 := ⟨[.dat M, .dat (stD f r), .no, .dat (.bl f), .dat (.tup (rowD r))], s⟩) (cons_ok (ix_ok (i := 0) (name_ok (d := M) rfl) rfl (by rw [hM]; rfl) rfl) (cons_ok (name_ok rfl) (cons_ok (name_ok rfl) rfl))) rfl h))).trans ?_
  have t : fAnd (fT (f2 pIs (fName 2) (rt .non))) (fT (fCallN 2 m_waits_in_vain (fCons (fName 0) (fCons (fName 4) (rt []))))) ⟨[.dat M, .dat (stD f r), .dat .non, .dat (.bl f), .dat (.tup (rowD r))], s⟩ = some (.ok (vainB v b r), ⟨[.dat M, .dat (stD f r), .dat .non, .dat (.bl f), .dat (.tup (rowD r))], s⟩) :=
    (and_t (g1 := ⟨[.dat M, .dat (stD f r), .dat .non, .dat (.bl f), .dat (.tup (rowD r))], s⟩) (by kernel_rfl)).trans (t_ok (call_ok (ds := [M, .tup (rowD r)]) (g1 := ⟨[.dat M, .dat (stD f r), .dat .non, .dat (.bl f), .dat (.tup (rowD r))], s⟩) (cons_ok (name_ok rfl) (cons_ok (name_ok rfl) rfl)) rfl vo))
  cases hv : vainB v b r with
  | true => rw [hv] at t; exact seq_ret ((if_t t).trans rfl)
  | false => rw [hv] at t; exact (seq_nx ((if_f t).trans rfl)).trans (ret_ok (name_ok rfl))
theorem sf_good {r : List Pr} (V : Val v b f r) (hl : r.length ≤ 900) : m_state_fault [MD v C b, stD f r] s = some (.ok .non, s) := by
  have := sf_vain (C := C) (b := b) (by omega) (row_good V.pre hl s)
  rw [vain_val V.wt] at this
  exact this
end
/-! ### need_state, is_state, sound -/
section
variable {M t : D} {s : DS} {xs : List D}
theorem ns_call (hM : m_machine_fault [M] s = some (.ok .non, s)) {S : List Sl} (h0 : S[0]? = some (.dat M)) (h1 : S[1]? = some (.dat t)) {r : D} (h : m_state_fault [M, t] s = some (.ok r, s)) :
    fCallN 2 m_state_fault (fCons (fCallN 1 m_need_machine (fCons (fName 0) (rt []))) (fCons (fName 1) (rt []))) ⟨S, s⟩ = some (.ok r, ⟨S, s⟩) :=
  call_ok (ds := [M, t]) (g1 := ⟨S, s⟩) (cons_ok (g1 := ⟨S, s⟩) (call_ok (ds := [M]) (g1 := ⟨S, s⟩) (cons_ok (name_ok h0) rfl) rfl (need_ok s hM)) (cons_ok (name_ok h1) rfl)) rfl h
theorem ns_ok (hM : m_machine_fault [M] s = some (.ok .non, s)) (h : m_state_fault [M, t] s = some (.ok .non, s)) : m_need_state [M, t] s = some (.ok t, s) := by
  refine runB_ret (r := [.dat M, .dat t, .dat .non]) rfl ?_
  unfold fb_need_state
  refine (seq_nx (set_ok (g1 := ⟨[.dat M, .dat t, .no], s⟩) (ns_call hM rfl rfl h))).trans ?_
  kernel_rfl
theorem ns_no (hM : m_machine_fault [M] s = some (.ok .non, s)) (h : m_state_fault [M, t] s = some (.ok (.tup xs), s)) : m_need_state [M, t] s = some (.error ⟨"BadState", .tup xs⟩, s) := by
  refine runB_exc (r := [.dat M, .dat t, .dat (.tup xs)]) rfl ?_
  unfold fb_need_state
  refine (seq_nx (set_ok (g1 := ⟨[.dat M, .dat t, .no], s⟩) (ns_call hM rfl rfl h))).trans ?_
  kernel_rfl
theorem is_ok (hM : m_machine_fault [M] s = some (.ok .non, s)) (h : m_state_fault [M, t] s = some (.ok .non, s)) : m_is_state [M, t] s = some (.ok (.bl true), s) := by
  refine runB_ret (r := [.dat M, .dat t]) rfl (ret_ok ?_)
  exact (f2_ok (d := .non) (d' := .non) (g2 := ⟨[.dat M, .dat t], s⟩) (ns_call hM rfl rfl h) rfl).trans rfl
theorem is_no (hM : m_machine_fault [M] s = some (.ok .non, s)) (h : m_state_fault [M, t] s = some (.ok (.tup xs), s)) : m_is_state [M, t] s = some (.ok (.bl false), s) := by
  refine runB_ret (r := [.dat M, .dat t]) rfl (ret_ok ?_)
  exact (f2_ok (d := .tup xs) (d' := .non) (g2 := ⟨[.dat M, .dat t], s⟩) (ns_call hM rfl rfl h) rfl).trans rfl
abbrev sndD (r : List Pr) : D := .tup ((sortI (keysOf (r.filter loudP))).map .int)
end
end S
namespace DE
open PyProof.Rows PySem.Spec PySem L2
/-! ### programs over data, evaluated by simp -/
section
variable {α β : Type}
def bdO (r : Res α) (k : α → Mo β) : Res β := match r with
  | none => none
  | some (.error x, g) => some (.error x, g)
  | some (.ok a, g) => k a g
@[simp] theorem bd_v (f : Mo α) (k : α → Mo β) (g : Sg) : bd f k g = bdO (f g) k := by unfold bd bdO; rfl
@[simp] theorem bdO_k (a : α) (g : Sg) (k : α → Mo β) : bdO (some (.ok a, g)) k = k a g := rfl
@[simp] theorem bdO_e (x : Exn) (g : Sg) (k : α → Mo β) : bdO (some (.error x, g)) k = some (.error x, g) := rfl
@[simp] theorem rt_v (a : α) (g : Sg) : rt a g = some (.ok a, g) := rfl
@[simp] theorem stop_v (g : Sg) : (stop : Mo α) g = none := rfl
@[simp] theorem ofO_k (a : α) : ofO (some a) = rt a := rfl
def sbO (r : Res α) (k : α → Ms) : Option (Out × Sg) := match r with
  | none => none
  | some (.error x, g) => some (.exc x, g)
  | some (.ok a, g) => k a g
@[simp] theorem sb_v (f : Mo α) (k : α → Ms) (g : Sg) : sb f k g = sbO (f g) k := by unfold sb sbO; cases f g with
  | none => rfl
  | some p => obtain ⟨r, g'⟩ := p; cases r <;> rfl
@[simp] theorem sbO_k (a : α) (g : Sg) (k : α → Ms) : sbO (some (.ok a, g)) k = k a g := rfl
@[simp] theorem sbO_e (x : Exn) (g : Sg) (k : α → Ms) : sbO (some (.error x, g)) k = some (.exc x, g) := rfl
@[simp] theorem ite_ap (c : Prop) [Decidable c] (f h : Sg → α) (g : Sg) : (if c then f else h) g = if c then f g else h g := by split <;> rfl
end
@[simp] theorem sOut_v (o : Out) (g : Sg) : sOut o g = some (o, g) := rfl
@[simp] theorem sStop_v (g : Sg) : sStop g = none := rfl
def seqO (r : Option (Out × Sg)) (k : Ms) : Option (Out × Sg) := match r with
  | some (.nx, g) => k g
  | o => o
@[simp] theorem seq_v (f k : Ms) (g : Sg) : fSeq f k g = seqO (f g) k := rfl
@[simp] theorem seqO_nx (g : Sg) (k : Ms) : seqO (some (.nx, g)) k = k g := rfl
@[simp] theorem seqO_ret (d : D) (g : Sg) (k : Ms) : seqO (some (.ret d, g)) k = some (.ret d, g) := rfl
@[simp] theorem seqO_exc (d : Exn) (g : Sg) (k : Ms) : seqO (some (.exc d, g)) k = some (.exc d, g) := rfl
@[simp] theorem seqO_ite (c : Prop) [Decidable c] (a b : Option (Out × Sg)) (k : Ms) : seqO (if c then a else b) k = if c then seqO a k else seqO b k := by split <;> rfl
def ifO (r : Res Bool) (t u : Ms) : Option (Out × Sg) := match r with
  | none => none
  | some (.error x, g) => some (.exc x, g)
  | some (.ok true, g) => t g
  | some (.ok false, g) => u g
@[simp] theorem if_v (c : Mo Bool) (t u : Ms) (g : Sg) : fIf c t u g = ifO (c g) t u := by
  unfold fIf; rw [sb_v]; unfold sbO ifO
  cases c g with
  | none => rfl
  | some p => obtain ⟨r, g'⟩ := p; cases r with
    | error x => rfl
    | ok b => cases b <;> rfl
@[simp] theorem ifO_t (g : Sg) (t u : Ms) : ifO (some (.ok true, g)) t u = t g := rfl
@[simp] theorem ifO_f (g : Sg) (t u : Ms) : ifO (some (.ok false, g)) t u = u g := rfl
@[simp] theorem ifO_e (x : Exn) (g : Sg) (t u : Ms) : ifO (some (.error x, g)) t u = some (.exc x, g) := rfl
theorem ifO_b (b : Bool) (g : Sg) (t u : Ms) : ifO (some (.ok b, g)) t u = if b = true then t g else u g := by cases b <;> rfl
@[simp] theorem ret_v (e : Mo D) (g : Sg) : fRet e g = sbO (e g) fun d => sOut (.ret d) := by unfold fRet; rw [sb_v]
@[simp] theorem exp_v (e : Mo D) (g : Sg) : fExp e g = sbO (e g) fun _ => sOut .nx := by unfold fExp; rw [sb_v]
@[simp] theorem set_v (i : Nat) (e : Mo D) (g : Sg) : fSet i e g = sbO (e g) fun d g => some (.nx, ⟨g.r.set i (.dat d), g.s⟩) := by unfold fSet; rw [sb_v]
@[simp] theorem setOwn_v (i : Nat) (e : Mo (List D)) (g : Sg) : fSetO i e g = sbO (e g) fun d g => some (.nx, ⟨g.r.set i (.own d), g.s⟩) := by unfold fSetO; rw [sb_v]
def nameO (i : Nat) (x : Option Sl) (g : Sg) : Res D := match x with
  | some (.dat d) => some (.ok d, g)
  | some (.own xs) => some (.ok (.lst xs), ⟨g.r.set i (.dat (.lst xs)), g.s⟩)
  | _ => none
@[simp] theorem name_v (i : Nat) (r : List Sl) (s : DS) : fName i ⟨r, s⟩ = nameO i r[i]? ⟨r, s⟩ := rfl
@[simp] theorem nameO_d (i : Nat) (d : D) (g : Sg) : nameO i (some (.dat d)) g = some (.ok d, g) := rfl
@[simp] theorem nameO_o (i : Nat) (xs : List D) (r : List Sl) (s : DS) : nameO i (some (.own xs)) ⟨r, s⟩ = some (.ok (.lst xs), ⟨r.set i (.dat (.lst xs)), s⟩) := rfl
def peekO (x : Option Sl) (g : Sg) : Res (List D) := match x with
  | some (.dat (.lst xs)) => some (.ok xs, g)
  | some (.dat (.tup xs)) => some (.ok xs, g)
  | some (.own xs) => some (.ok xs, g)
  | _ => none
@[simp] theorem peek_v (i : Nat) (r : List Sl) (s : DS) : fPeek i ⟨r, s⟩ = peekO r[i]? ⟨r, s⟩ := rfl
@[simp] theorem peekO_l (xs : List D) (g : Sg) : peekO (some (.dat (.lst xs))) g = some (.ok xs, g) := rfl
@[simp] theorem peekO_t (xs : List D) (g : Sg) : peekO (some (.dat (.tup xs))) g = some (.ok xs, g) := rfl
@[simp] theorem peekO_o (xs : List D) (g : Sg) : peekO (some (.own xs)) g = some (.ok xs, g) := rfl
@[simp] theorem cons_v (f : Mo D) (fs : Mo (List D)) (g : Sg) : fCons f fs g = bdO (f g) fun d => bd fs fun ds => rt (d :: ds) := by unfold fCons; rw [bd_v]
@[simp] theorem star_v (f : Mo D) (fs : Mo (List D)) (g : Sg) : fStar f fs g = bdO (f g) fun d => match aSeq d with
  | some xs => bd fs fun ys => rt (xs ++ ys)
  | none => stop := by unfold fStar; rw [bd_v] <;> rfl
@[simp] theorem aSeq_l (xs : List D) : aSeq (.lst xs) = some xs := rfl
@[simp] theorem aSeq_t (xs : List D) : aSeq (.tup xs) = some xs := rfl
@[simp] theorem tup_v (f : Mo (List D)) (g : Sg) : fTup f g = bdO (f g) fun ds => if ds.length ≤ 100000 then rt (.tup ds) else stop := by unfold fTup; rw [bd_v]
@[simp] theorem lst_v (f : Mo (List D)) (g : Sg) : fLst f g = bdO (f g) fun ds => if ds.length ≤ 100000 then rt ds else stop := by unfold fLst; rw [bd_v]
@[simp] theorem let_v (f : Mo (List D)) (g : Sg) : fLet f g = bdO (f g) fun ds => rt (.lst ds) := by unfold fLet; rw [bd_v]
@[simp] theorem tupOf_v (f : Mo (List D)) (g : Sg) : fTupOf f g = bdO (f g) fun ds => rt (.tup ds) := by unfold fTupOf; rw [bd_v]
@[simp] theorem len_v (f : Mo (List D)) (g : Sg) : fLen f g = bdO (f g) fun ds => rt (.int ds.length) := by unfold fLen; rw [bd_v]
@[simp] theorem aLst_l (xs : List D) : aLst (.lst xs) = rt xs := rfl
@[simp] theorem aLst_t (xs : List D) : aLst (.tup xs) = rt xs := rfl
@[simp] theorem pk_v (f : Mo D) (g : Sg) : fPk f g = bdO (f g) aLst := by unfold fPk; rw [bd_v]
def catD : D → D → Mo (List D)
  | .lst xs, .lst ys => if xs.length + ys.length ≤ 100000 then rt (xs ++ ys) else stop
  | _, _ => stop
@[simp] theorem cat_v (f h : Mo D) (g : Sg) : fCat f h g = bdO (f g) fun d => bd h fun e => catD d e := by
  unfold fCat; rw [bd_v] <;> congr 1
@[simp] theorem catD_l (xs ys : List D) : catD (.lst xs) (.lst ys) = if xs.length + ys.length ≤ 100000 then rt (xs ++ ys) else stop := rfl
def callO (n : Nat) (gm : Fd) (r : Res (List D)) : Res D := match r with
  | none => none
  | some (.error x, g) => some (.error x, g)
  | some (.ok ds, g) => if ds.length = n then (gm ds g.s).map fun p => (p.1, ⟨g.r, p.2⟩) else none
@[simp] theorem call_v (n : Nat) (gm : Fd) (fa : Mo (List D)) (g : Sg) : fCallN n gm fa g = callO n gm (fa g) := by
  unfold fCallN; rw [bd_v]; unfold bdO callO
  cases fa g with
  | none => rfl
  | some p =>
    obtain ⟨r, g'⟩ := p
    cases r with
    | error x => rfl
    | ok ds =>
      dsimp only
      split
      · unfold lift; cases gm ds g'.s <;> rfl
      · rfl
@[simp] theorem callO_k (n : Nat) (gm : Fd) (ds : List D) (r : List Sl) (s : DS) : callO n gm (some (.ok ds, ⟨r, s⟩)) = if ds.length = n then (gm ds s).map fun p => (p.1, ⟨r, p.2⟩) else none := rfl
@[simp] theorem callO_e (n : Nat) (gm : Fd) (x : Exn) (g : Sg) : callO n gm (some (.error x, g)) = some (.error x, g) := rfl
@[simp] theorem ixD_v (f h : Mo D) (g : Sg) : fIxD f h g = bdO (f g) fun d => bd h fun e => match aSeq d with
  | some ds => pIx ds e
  | none => stop := by unfold fIxD; rw [bd_v] <;> rfl
@[simp] theorem pIx_v (ds : List D) (i : Int) (g : Sg) : pIx ds (.int i) g = (match atI ds i with | some d => some (.ok d, g) | none => none) := by
  unfold pIx; dsimp only; cases atI ds i <;> rfl
@[simp] theorem at0 (d : D) (ds : List D) : atI (d :: ds) 0 = some d := (atI_nat (d :: ds) 0 (by simp)).trans rfl
@[simp] theorem at1 (d e : D) (ds : List D) : atI (d :: e :: ds) 1 = some e := (atI_nat (d :: e :: ds) 1 (by simp)).trans rfl
@[simp] theorem at2 (d e f : D) (ds : List D) : atI (d :: e :: f :: ds) 2 = some f := (atI_nat (d :: e :: f :: ds) 2 (by simp)).trans rfl
@[simp] theorem fT_v (f : Mo D) (g : Sg) : fT f g = bdO (f g) aB := by unfold fT; rw [bd_v]
@[simp] theorem aB_v (b : Bool) : aB (.bl b) = rt b := rfl
@[simp] theorem not_v (f : Mo Bool) (g : Sg) : fNot f g = bdO (f g) fun b => rt (!b) := by unfold fNot; rw [bd_v]
@[simp] theorem and_v (f h : Mo Bool) (g : Sg) : fAnd f h g = bdO (f g) fun b => if b = true then h else rt false := by unfold fAnd; rw [bd_v]
@[simp] theorem or_v (f h : Mo Bool) (g : Sg) : fOr f h g = bdO (f g) fun b => if b = true then rt true else h := by unfold fOr; rw [bd_v]
@[simp] theorem notV_v (f : Mo D) (g : Sg) : fNotV f g = bdO (f g) fun d => bd (aB d) fun b => rt (.bl (!b)) := by unfold fNotV; rw [bd_v]
@[simp] theorem andV_v (f h : Mo D) (g : Sg) : fAndV f h g = bdO (f g) fun d => bd (aB d) fun b => if b = true then h else rt (.bl false) := by unfold fAndV; rw [bd_v]
@[simp] theorem orV_v (f h : Mo D) (g : Sg) : fOrV f h g = bdO (f g) fun d => bd (aB d) fun b => if b = true then rt (.bl true) else h := by unfold fOrV; rw [bd_v]
@[simp] theorem ifE_v {α : Type} (c : Mo Bool) (f h : Mo α) (g : Sg) : fIfE c f h g = bdO (c g) fun b => if b = true then f else h := by unfold fIfE; rw [bd_v]
@[simp] theorem f2_v (p : D → D → Mo D) (f h : Mo D) (g : Sg) : f2 p f h g = bdO (f g) fun d => bd h fun e => p d e := by unfold f2; rw [bd_v]
@[simp] theorem pEq_s (a b : Str) : pEq (.str a) (.str b) = rt (.bl (decide (a = b))) := rfl
@[simp] theorem pEq_i (a b : Int) : pEq (.int a) (.int b) = rt (.bl (decide (a = b))) := rfl
@[simp] theorem pNe_s (a b : Str) : pNe (.str a) (.str b) = rt (.bl (!decide (a = b))) := rfl
@[simp] theorem pNe_i (a b : Int) : pNe (.int a) (.int b) = rt (.bl (!decide (a = b))) := rfl
@[simp] theorem pI_v (f : Int → Int → D) (a b : Int) : pI f (.int a) (.int b) = rt (f a b) := rfl
@[simp] theorem pMin2_v (a b : Int) : pMin2 (.int a) (.int b) = rt (.int (if b < a then b else a)) := rfl
@[simp] theorem pMax2_v (a b : Int) : pMax2 (.int a) (.int b) = rt (.int (if b > a then b else a)) := rfl
@[simp] theorem pAdd_i (a b : Int) : pAdd (.int a) (.int b) = rt (.int (a + b)) := rfl
@[simp] theorem pAdd_t (a b : List D) : pAdd (.tup a) (.tup b) = if a.length + b.length ≤ 100000 then rt (.tup (a ++ b)) else stop := rfl
@[simp] theorem isNon_n : isNon .non = true := rfl
@[simp] theorem isNon_i (i : Int) : isNon (.int i) = false := rfl
@[simp] theorem isNon_s (i : Str) : isNon (.str i) = false := rfl
@[simp] theorem isNon_t (i : List D) : isNon (.tup i) = false := rfl
@[simp] theorem isNon_l (i : List D) : isNon (.lst i) = false := rfl
@[simp] theorem isNon_b (i : Bool) : isNon (.bl i) = false := rfl
@[simp] theorem pIs_n (d : D) : pIs d .non = rt (.bl (isNon d)) := rfl
@[simp] theorem pNis_n (d : D) : pNis d .non = rt (.bl (!isNon d)) := rfl
@[simp] theorem neg_v (f : Mo D) (g : Sg) : fNeg f g = bdO (f g) fun d => match d with
  | .int i => rt (.int (-i))
  | _ => stop := by unfold fNeg; rw [bd_v] <;> rfl
@[simp] theorem part_v (f : Mo D) (g : Sg) : fPart f g = bdO (f g) fun d => match d with
  | .int i => rt (some i)
  | _ => stop := by unfold fPart; rw [bd_v] <;> rfl
@[simp] theorem sl_v (f : Mo D) (l u : Mo (Option Int)) (g : Sg) : fSl f l u g = bdO (f g) fun d => bd l fun lo => bd u fun hi => match d with
  | .tup ds => rt (.tup (cutD ds lo hi))
  | .lst ds => rt (.lst (cutD ds lo hi))
  | _ => stop := by unfold fSl; rw [bd_v] <;> congr 1
@[simp] theorem gN_v (i : Nat) (d : D) (r : List Sl) (s : DS) : gN i d ⟨r, s⟩ = some ⟨r.set i (.dat d), s⟩ := rfl
@[simp] theorem gsNil_v (g : Sg) : gsNil [] g = some g := rfl
@[simp] theorem gsCons_v (t : Mt) (u : Mts) (d : D) (ds : List D) (g : Sg) : gsCons t u (d :: ds) g = (t d g).bind (u ds) := rfl
@[simp] theorem gT_v (n : Nat) (u : Mts) (ds : List D) (g : Sg) : gT n u (.tup ds) g = if ds.length = n then u ds g else none := rfl
@[simp] theorem asg_v (f : Mo D) (t : Mt) (g : Sg) : fAsg f t g = sbO (f g) fun d g => (t d g).map fun g' => (.nx, g') := by unfold fAsg; rw [sb_v]
def appO (i : Nat) (x : Option Sl) (r : List Sl) (s : DS) (f : Mo D) : Res D := match x with
  | some (.own _) => bdO (f ⟨r, s⟩) (fun d g1 => match g1.r[i]? with
    | some (.own xs) => if xs.length < 100000 then some (.ok .non, ⟨g1.r.set i (.own (xs ++ [d])), g1.s⟩) else none
    | _ => none)
  | _ => none
@[simp] theorem app_v (i : Nat) (f : Mo D) (r : List Sl) (s : DS) : fApp i f ⟨r, s⟩ = appO i r[i]? r s f := by
  unfold fApp appO; dsimp only
  cases r[i]? with
  | none => rfl
  | some y => cases y <;> first | rfl | exact bd_v _ _ _
@[simp] theorem appO_o (i : Nat) (xs : List D) (r : List Sl) (s : DS) (f : Mo D) : appO i (some (.own xs)) r s f = bdO (f ⟨r, s⟩) (fun d g1 => match g1.r[i]? with
    | some (.own xs) => if xs.length < 100000 then some (.ok .non, ⟨g1.r.set i (.own (xs ++ [d])), g1.s⟩) else none
    | _ => none) := rfl
def remO (i : Nat) (x : Option Sl) (r : List Sl) (s : DS) (f : Mo D) : Res D := match x with
  | some (.own _) => bdO (f ⟨r, s⟩) (fun d g1 => match d, g1.r[i]? with
    | .int k, some (.own xs) => match intsOf xs with
      | some ns => if k ∈ ns then some (.ok .non, ⟨g1.r.set i (.own ((ns.erase k).map .int)), g1.s⟩) else none
      | none => none
    | _, _ => none)
  | _ => none
@[simp] theorem rem_v (i : Nat) (f : Mo D) (r : List Sl) (s : DS) : fRem i f ⟨r, s⟩ = remO i r[i]? r s f := by
  unfold fRem remO; dsimp only
  cases r[i]? with
  | none => rfl
  | some y => cases y <;> first | rfl | exact bd_v _ _ _
@[simp] theorem remO_o (i : Nat) (xs : List D) (r : List Sl) (s : DS) (f : Mo D) : remO i (some (.own xs)) r s f = bdO (f ⟨r, s⟩) (fun d g1 => match d, g1.r[i]? with
    | .int k, some (.own xs) => match intsOf xs with
      | some ns => if k ∈ ns then some (.ok .non, ⟨g1.r.set i (.own ((ns.erase k).map .int)), g1.s⟩) else none
      | none => none
    | _, _ => none) := rfl
@[simp] theorem for_v (f : Mo D) (t : Mt) (b : Ms) (g : Sg) : fFor f t b g = sbO (f g) fun d => match aSeq d with
  | some ds => loop t b ds
  | none => sStop := by unfold fFor; rw [sb_v] <;> rfl
@[simp] theorem forR_v (f : Mo (List D)) (t : Mt) (b : Ms) (g : Sg) : fForR f t b g = sbO (f g) fun ds => match ds with
  | [.int n] => if n ≤ 1000000 ∧ -1000000 ≤ n then loop t b (intsD n) else sStop
  | _ => sStop := by unfold fForR; rw [sb_v] <;> rfl
@[simp] theorem loop_nil (t : Mt) (b : Ms) (g : Sg) : loop t b [] g = some (.nx, g) := rfl
@[simp] theorem comp_v (vs : List Nat) (fi : Mo D) (t : Mt) (c : Mo Bool) (e : Mo D) (g : Sg) : fComp vs fi t c e g = bdO (fi g) fun d => match aSeq d with
  | some ds => compF vs t c e ds
  | none => stop := by unfold fComp; rw [bd_v] <;> rfl
@[simp] theorem compF_v (vs : List Nat) (t : Mt) (c : Mo Bool) (e : Mo D) (ds : List D) (r : List Sl) (s : DS) : compF vs t c e ds ⟨r, s⟩ = if ds.length ≤ 100000 then (compL vs t c e ds ⟨wipeR r vs, s⟩).map fun p => (.ok p.1, p.2) else none := rfl
@[simp] theorem wipeR_nil (r : List Sl) : wipeR r [] = r := rfl
@[simp] theorem wipeR_cons (r : List Sl) (v : Nat) (vs : List Nat) : wipeR r (v :: vs) = (wipeR r vs).set v .no := rfl
@[simp] theorem parDD_v (i j : Nat) (f h : Mo D) (g : Sg) : fParDD i j f h g = sbO (f g) fun d => sb h fun e g => some (.nx, ⟨(g.r.set i (.dat d)).set j (.dat e), g.s⟩) := by unfold fParDD; rw [sb_v]
@[simp] theorem fMin_v (f : Mo D) (g : Sg) : fMin f g = bdO (f g) fun d => match d with
  | .lst xs => match intsOf xs with
    | some ys => if ys = [] then stop else rt (.int (minL ys))
    | none => stop
  | _ => stop := by
  unfold fMin; rw [bd_v]; congr 1; funext d
  cases d <;> first | rfl | skip
  dsimp only
  rename_i xs
  cases intsOf xs with
  | none => rfl
  | some ys => cases ys <;> rfl
@[simp] theorem fMax_v (f : Mo D) (g : Sg) : fMax f g = bdO (f g) fun d => match d with
  | .lst xs => match intsOf xs with
    | some ys => if ys = [] then stop else rt (.int (maxL ys))
    | none => stop
  | _ => stop := by
  unfold fMax; rw [bd_v]; congr 1; funext d
  cases d <;> first | rfl | skip
  dsimp only
  rename_i xs
  cases intsOf xs with
  | none => rfl
  | some ys => cases ys <;> rfl
@[simp] theorem intsOf_m (xs : List Int) : intsOf (xs.map D.int) = some xs := intsOf_map xs
def runO (r : Option (Out × Sg)) : Option (Except Exn D × DS) := match r with
  | some (.ret d, g') => some (.ok d, g'.s)
  | some (.nx, g') => some (.ok .non, g'.s)
  | some (.exc x, g') => some (.error x, g'.s)
  | _ => none
theorem runB_v (f : Ms) (N n : Nat) (ds : List D) (s : DS) (h : ds.length = n) : runB f N n ds s = runO (f ⟨ds.map .dat ++ List.replicate (N - n) .no, s⟩) := by
  unfold runB; rw [if_pos h]; rfl
theorem run_v {f : Ms} {N n : Nat} {ds : List D} {s : DS} {x : Option (Except Exn D × DS)} (h : ds.length = n) (e : runO (f ⟨ds.map .dat ++ List.replicate (N - n) .no, s⟩) = x) : runB f N n ds s = x := (runB_v f N n ds s h).trans e
@[simp] theorem runO_ret (d : D) (g : Sg) : runO (some (.ret d, g)) = some (.ok d, g.s) := rfl
@[simp] theorem runO_nx (g : Sg) : runO (some (.nx, g)) = some (.ok .non, g.s) := rfl
@[simp] theorem runO_exc (d : Exn) (g : Sg) : runO (some (.exc d, g)) = some (.error d, g.s) := rfl
@[simp] theorem runO_ite (c : Prop) [Decidable c] (a b : Option (Out × Sg)) : runO (if c then a else b) = if c then runO a else runO b := by split <;> rfl
@[simp] theorem trB_l (xs : List D) : trB (.lst xs) = some (!xs.isEmpty) := rfl
@[simp] theorem trB_t (xs : List D) : trB (.tup xs) = some (!xs.isEmpty) := rfl
@[simp] theorem trB_b (b : Bool) : trB (.bl b) = some b := rfl
@[simp] theorem trB_n : trB .non = some false := rfl
@[simp] theorem fTr_v (f : Mo D) (g : Sg) : fTr f g = bdO (f g) fun d => ofO (trB d) := by unfold fTr; rw [bd_v]
@[simp] theorem fOrT_v (f h : Mo D) (g : Sg) : fOrT f h g = bdO (f g) fun d => bd (ofO (trB d)) fun b => if b = true then rt d else h := by unfold fOrT; rw [bd_v]
def lenSO (x : Option Sl) (g : Sg) : Res D := match x with
  | some (.dat (.scr ns)) => some (.ok (.int ns.length), g)
  | _ => none
@[simp] theorem lenS_v (i : Nat) (r : List Sl) (s : DS) : fLenS i ⟨r, s⟩ = lenSO r[i]? ⟨r, s⟩ := rfl
@[simp] theorem lenSO_v (ns : List Int) (g : Sg) : lenSO (some (.dat (.scr ns))) g = some (.ok (.int ns.length), g) := rfl
@[simp] theorem compR_v (vs : List Nat) (fi : Mo (List D)) (t : Mt) (c : Mo Bool) (e : Mo D) (g : Sg) : fCompR vs fi t c e g = bdO (fi g) fun ds => match ds with
  | [.int n] => if n ≤ 100000 ∧ -100000 ≤ n then compF vs t c e (intsD n) else stop
  | _ => stop := by unfold fCompR; rw [bd_v] <;> rfl
theorem pMul_l {a b : Int} (h : a.natAbs < 2 ^ 60) : pMul (.int a) (.int b) = rt (.int (a * b)) := by
  unfold pMul pIc; dsimp only; rw [if_pos (by simp [h])]
theorem intsD_nat (n : Nat) : intsD (n : Int) = (List.range n).map (fun (i : Nat) => D.int (i : Int)) := by unfold intsD; rw [Int.toNat_natCast]
/-- a comprehension over encoded things -/
theorem comp_gen {α : Type} {E F : α → D} {P : α → Bool} {j : Nat} {S : List Sl} {s : DS} {c : Mo Bool} {e : Mo D} (l : List α) (hb : ∀ x : α, (S.set j (.dat (E x))).set j .no = S)
    (hc : ∀ x ∈ l, c ⟨S.set j (.dat (E x)), s⟩ = some (.ok (P x), ⟨S.set j (.dat (E x)), s⟩)) (he : ∀ x ∈ l, P x = true → e ⟨S.set j (.dat (E x)), s⟩ = some (.ok (F x), ⟨S.set j (.dat (E x)), s⟩)) : compL [j] (gN j) c e (l.map E) ⟨S, s⟩ = some ((l.filter P).map F, ⟨S, s⟩) :=
  compL_on l fun x hx => ⟨_, _, rfl, hc x hx, fun hp => ⟨_, he x hx hp, hb x, rfl⟩, fun _ => ⟨hb x, rfl⟩⟩
theorem comp_two {i j : Nat} {F : Pr → D} {P : Pr → Bool} {S : List Sl} {s : DS} {c : Mo Bool} {e : Mo D} (l : List Pr) (hb : ∀ x : Pr, (((S.set i (.dat (.int x.1))).set j (.dat (.str x.2))).set j .no).set i .no = S)
    (hc : ∀ x ∈ l, c ⟨(S.set i (.dat (.int x.1))).set j (.dat (.str x.2)), s⟩ = some (.ok (P x), ⟨(S.set i (.dat (.int x.1))).set j (.dat (.str x.2)), s⟩)) (he : ∀ x ∈ l, P x = true → e ⟨(S.set i (.dat (.int x.1))).set j (.dat (.str x.2)), s⟩ = some (.ok (F x), ⟨(S.set i (.dat (.int x.1))).set j (.dat (.str x.2)), s⟩)) : compL [i, j] (gT 2 (gsCons (gN i) (gsCons (gN j) gsNil))) c e (rowD l) ⟨S, s⟩ = some ((l.filter P).map F, ⟨S, s⟩) :=
  compL_on l fun x hx => ⟨_, _, rfl, hc x hx, fun hp => ⟨_, he x hx hp, hb x, rfl⟩, fun _ => ⟨hb x, rfl⟩⟩
end DE
namespace S
open PyProof.Rows PySem.Spec PySem L2 DE
@[simp] theorem sorted_v (f : Mo D) (g : Sg) : fSorted f g = bdO (f g) fun d => match d with
  | .lst xs => match intsOf xs with
    | some ys => rt ((sortI ys).map .int)
    | none => stop
  | _ => stop := by unfold fSorted; rw [bd_v] <;> rfl
@[simp] theorem prD_v (k : Int) (w : Str) : D.tup [.int k, .str w] = prD (k, w) := rfl
@[simp] theorem aSeq_p (p : Pr) : aSeq (prD p) = some [.int p.1, .str p.2] := rfl
theorem sound_of_ok {f : D} {r : List Pr} (hl : r.length ≤ 1000) (s : DS) : m_sound_of [.tup [f, .tup (rowD r)]] s = some (.ok (sndD r), s) := by
  refine run_v rfl ?_
  simp [-List.map_map, fb_sound_of, loud_keys_ok (a := .tup (rowD r)) (r := r) rfl hl]
abbrev dropL (r : List Pr) (k : Int) : List Pr := r.filter fun p => !decide (p.1 = k)
theorem without_ok {r : List Pr} (hl : r.length ≤ 1000) (k : Int) (s : DS) : m_without [.tup (rowD r), .int k] s = some (.ok (.tup (rowD (dropL r k))), s) := by
  refine run_v rfl ?_
  have hl' : r.length ≤ 100000 := by omega
  have c := comp_gen (E := prD) (F := prD) (P := fun p : Pr => !decide (p.1 = k)) (j := 2) (S := [.dat (.tup (rowD r)), .dat (.int k), .no]) (s := s) (c := fT (f2 pNe (fIxD (fName 2) (rt (.int 0))) (fName 1))) (e := fName 2) r (fun _ => rfl) (fun p _ => by simp) (fun p _ _ => by simp)
  simp [-List.map_map, fb_without, c, hl']
def markQ (ks : List Int) (mark : Str) (p : Pr) : Pr := if ks.contains p.1 = true then (p.1, mark) else p
abbrev markM (r : List Pr) (ks : List Int) (mark : Str) : List Pr := r.map (markQ ks mark)
@[simp] theorem pIn_ints (neg : Bool) (x : Int) (xs : List Int) (g : Sg) : pIn neg (.int x) (.lst (xs.map .int)) g = some (.ok (.bl (if neg then !xs.contains x else xs.contains x)), g) := by
  unfold pIn
  simp only [aSeq, flat1, flat_ints, inV_ints]
  cases neg <;> rfl
theorem pmarked_ok {r : List Pr} (hl : r.length ≤ 1000) (ks : List Int) (mark : Str) (s : DS) : m_marked [.tup (rowD r), .lst (ks.map .int), .str mark] s = some (.ok (.tup (rowD (markM r ks mark))), s) := by
  refine run_v rfl ?_
  have hl' : r.length ≤ 100000 := by omega
  have c := comp_gen (E := prD) (F := fun p => prD (markQ ks mark p)) (P := fun _ => true) (j := 3) (S := [.dat (.tup (rowD r)), .dat (.lst (ks.map .int)), .dat (.str mark), .no]) (s := s) (c := rt true) (e := fIfE (fT (f2 (pIn false) (fIxD (fName 3) (rt (.int 0))) (fName 1))) (fTup (fCons (fIxD (fName 3) (rt (.int 0))) (fCons (fName 2) (rt [])))) (fName 3)) r (fun _ => rfl) (fun p _ => by simp) (fun p _ _ => by
    unfold markQ
    by_cases h : ks.contains p.1 = true
    · simp at h; simp [h]
    · simp at h; simp [h])
  rw [List.filter_eq_self.mpr fun _ _ => rfl] at c
  simp [-List.map_map, fb_marked, c, hl']
  simp
end S
namespace S
open PyProof.Rows PySem.Spec PySem L2 DE
/-! ### who is chosen, by the program -/
def optD : Option Int → D
  | none => .non
  | some k => .int k
@[simp] theorem optD_n : optD none = .non := rfl
@[simp] theorem optD_s (k : Int) : optD (some k) = .int k := rfl
theorem at_last (ks : List Int) (h : ks ≠ []) : atI (ks.map D.int) (-1) = some (optD (ks.drop (ks.length - 1)).head?) := by
  have hl : 0 < ks.length := List.length_pos_iff.mpr h
  unfold atI ixN
  rw [if_neg (by decide), if_pos (by simp; omega)]
  rw [show ((-1 : Int) + ((ks.map D.int).length : Int)).toNat = ks.length - 1 by simp; omega]
  rw [List.head?_drop, Option.bind_some, List.getElem?_map, List.getElem?_eq_getElem (by omega)]; rfl
theorem at_first (ks : List Int) (h : ks ≠ []) : atI (ks.map D.int) 0 = some (optD (ks.take 1).head?) := by
  cases ks with
  | nil => exact absurd rfl h
  | cons k ks => exact at0 _ _
theorem chosen_ok (w : Str) {ks : List Int} (h : ks ≠ []) (s : DS) : m_chosen [.lst (ks.map .int), .str w] s = some (.ok (optD (endL w ks).head?), s) := by
  refine run_v rfl ?_
  have hl := at_last ks h
  have hf := at_first ks h
  unfold endL
  by_cases c1 : w = "eldest"
  · subst c1; simp [fb_chosen, hf]
  by_cases c2 : w = "latest"
  · subst c2; simp [fb_chosen, hl, show ¬ ("latest" : Str) = "eldest" by decide]
  by_cases c3 : w = "lowest"
  · subst c3; simp [fb_chosen, h, show ¬ ("lowest" : Str) = "eldest" by decide, show ¬ ("lowest" : Str) = "latest" by decide]
  by_cases c4 : w = "highest"
  · subst c4; simp [fb_chosen, h, show ¬ ("highest" : Str) = "eldest" by decide, show ¬ ("highest" : Str) = "latest" by decide, show ¬ ("highest" : Str) = "lowest" by decide]
  simp [fb_chosen, c1, c2, c3, c4]
def outerL (w : Str) (ring : List Pr) : List Int := (if w = "nothigh" then [] else [minL (keysOf ring)]) ++ (if w = "notlow" then [] else [maxL (keysOf ring)])
theorem outer_ok (w : Str) {ring : List Pr} (h : ring ≠ []) (hl : ring.length ≤ 1000) (s : DS) : m_outer_keys [.str w, .lst (rowD ring)] s = some (.ok (.lst ((outerL w ring).map .int)), s) := by
  refine run_v rfl ?_
  have hl' : ring.length ≤ 100000 := by omega
  have c := comp_gen (E := prD) (F := fun p => D.int p.1) (P := fun _ => true) (j := 2) (S := [.dat (.str w), .dat (.lst (rowD ring)), .no, .no, .no]) (s := s) (c := rt true) (e := fIxD (fName 2) (rt (.int 0))) ring (fun _ => rfl) (fun p _ => by simp) (fun p _ _ => by simp)
  rw [List.filter_eq_self.mpr fun _ _ => rfl, show ring.map (fun p => D.int p.1) = (keysOf ring).map D.int by simp] at c
  obtain ⟨ks, hks⟩ : ∃ ks, ks = keysOf ring := ⟨_, rfl⟩
  have hne : ks ≠ [] := by rw [hks]; simpa using h
  unfold outerL
  rw [← hks] at c ⊢
  by_cases c1 : w = "nothigh"
  · subst c1
    simp [fb_outer_keys, c, hl', hne, show ¬ ("nothigh" : Str) = "notlow" by decide]
  by_cases c2 : w = "notlow"
  · subst c2
    simp [fb_outer_keys, c, hl', hne, show ¬ ("notlow" : Str) = "nothigh" by decide]
  simp [fb_outer_keys, c, hl', c1, c2, hne]
theorem outer_spared {w : Str} (hw : w ∈ FIL) (h1 : w ≠ "kept") (h2 : ¬ (w = "below" ∨ w = "under")) (h3 : ¬ (w = "above" ∨ w = "over")) (ring : List Pr) : outerL w ring = sparedL w ring := by
  unfold FIL at hw
  simp only [List.mem_cons, List.not_mem_nil, or_false] at hw
  rcases hw with rfl | rfl | rfl | rfl | rfl | rfl | rfl | rfl
  · exact absurd rfl h1
  · rfl
  · rfl
  · rfl
  · exact absurd (.inl rfl) h2
  · exact absurd (.inl rfl) h3
  · exact absurd (.inr rfl) h2
  · exact absurd (.inr rfl) h3
@[simp] theorem pIn_2 (w a b : Str) (g : Sg) : pIn false (.str w) (.tup [.str a, .str b]) g = some (.ok (.bl (decide (w = a ∨ w = b))), g) := by
  have : pIn false (.str w) (.tup ([a, b].map D.str)) g = some (.ok (.bl (([a, b] : List Str).contains w)), g) := by
    unfold pIn
    simp only [aSeq, flat1, flat_strs, inV_strs]; rfl
  rw [contains2] at this
  exact this
theorem left_by_ok {w : Str} (hw : w ∈ FIL) {ring cand : List Pr} (hr : ring ≠ []) (h1 : ring.length ≤ 1000) (h2 : cand.length ≤ 1000) (key : Int) (s : DS) : m_left_by [.str w, .lst (rowD cand), .lst (rowD ring), .int key] s = some (.ok (.lst (rowD (leftL w ring cand key))), s) := by
  refine run_v rfl ?_
  have hl' : cand.length ≤ 100000 := by omega
  have ho := outer_ok w hr h1 s
  have cg := fun (P : Pr → Bool) (x : Sl) (c : Mo Bool) (hc : ∀ p : Pr, c ⟨[.dat (.str w), .dat (.lst (rowD cand)), .dat (.lst (rowD ring)), .dat (.int key), .dat (prD p), x], s⟩ = some (.ok (P p), ⟨[.dat (.str w), .dat (.lst (rowD cand)), .dat (.lst (rowD ring)), .dat (.int key), .dat (prD p), x], s⟩)) =>
    comp_gen (E := prD) (F := prD) (P := P) (j := 4) (S := [.dat (.str w), .dat (.lst (rowD cand)), .dat (.lst (rowD ring)), .dat (.int key), .no, x]) (s := s) (c := c) (e := fName 4) cand (fun _ => rfl) (fun p _ => hc p) (fun p _ _ => by simp)
  have k1 := cg (fun p => decide (p.2 = "kept")) .no (fT (f2 pEq (fIxD (fName 4) (rt (.int 1))) (rt (.str "kept")))) (fun p => by simp)
  have k2 := cg (fun p => decide (p.1 < key)) .no (fT (f2 pLt (fIxD (fName 4) (rt (.int 0))) (fName 3))) (fun p => by simp)
  have k3 := cg (fun p => decide (key < p.1)) .no (fT (f2 pGt (fIxD (fName 4) (rt (.int 0))) (fName 3))) (fun p => by simp)
  have k4 := cg (fun p => !(outerL w ring).contains p.1) (.dat (.lst ((outerL w ring).map .int))) (fT (f2 (pIn true) (fIxD (fName 4) (rt (.int 0))) (fName 5))) (fun p => by simp)
  unfold leftL
  by_cases c1 : w = "kept"
  · subst c1
    have n1 : ¬ (("kept" : Str) = "below" ∨ ("kept" : Str) = "under") := by decide
    have n2 : ¬ (("kept" : Str) = "above" ∨ ("kept" : Str) = "over") := by decide
    rw [if_neg n1, if_neg n2]
    simp [-List.map_map, fb_left_by, k1, hl', sparedL]
  by_cases c2 : w = "below" ∨ w = "under"
  · simp [-List.map_map, fb_left_by, k2, hl', c1, c2]
  by_cases c3 : w = "above" ∨ w = "over"
  · simp [-List.map_map, fb_left_by, k3, hl', c1, c2, c3]
  have e := outer_spared hw c1 c2 c3 ring
  rw [if_neg c2, if_neg c3, ← e]
  simp [-List.map_map, fb_left_by, k4, hl', c1, c2, c3, ho]
end S
namespace S
open PyProof.Rows PySem.Spec PySem L2 DE
/-! ### the victim, by the program -/
abbrev vB : Ms := (fSeq (fSet 5 (fCallN 4 m_left_by (fCons (fName 4) (fCons (fName 3) (fCons (fName 1) (fCons (fName 2) (rt [])))))))
  (fSeq (fIf (fAnd (fNot (fTr (fName 5))) (fT (f2 (pIn false) (fName 4) (fTup (fCons (rt (.str "under")) (fCons (rt (.str "over")) (rt []))))))) (fRet (rt .non)) (sOut .nx))
  (fSet 3 (fOrT (fName 5) (fName 3)))))
abbrev vS (C : D) (ring : List Pr) (key : Int) (cur : List Pr) (x4 x5 : Sl) : List Sl := [.dat C, .dat (.lst (rowD ring)), .dat (.int key), .dat (.lst (rowD cur)), x4, x5, .no]
theorem vic_turn {C : D} {ring cur : List Pr} {key : Int} {w : Str} {x5 : Sl} {s : DS} (hw : w ∈ FIL) (hr : ring ≠ []) (h1 : ring.length ≤ 1000) (h2 : cur.length ≤ 1000) :
    vB ⟨vS C ring key cur (.dat (.str w)) x5, s⟩ = if (leftL w ring cur key).isEmpty = true ∧ (w = "under" ∨ w = "over") then some (.ret .non, ⟨vS C ring key cur (.dat (.str w)) (.dat (.lst (rowD (leftL w ring cur key)))), s⟩)
      else some (.nx, ⟨vS C ring key (if (leftL w ring cur key).isEmpty = true then cur else leftL w ring cur key) (.dat (.str w)) (.dat (.lst (rowD (leftL w ring cur key)))), s⟩) := by
  have lb := left_by_ok hw (cand := cur) hr h1 h2 key s
  obtain ⟨L, hL⟩ : ∃ L, L = leftL w ring cur key := ⟨_, rfl⟩
  rw [← hL] at lb ⊢
  by_cases c1 : L = []
  · subst c1
    by_cases c2 : w = "under" ∨ w = "over"
    · rw [if_pos ⟨rfl, c2⟩]
      rcases c2 with rfl | rfl
      · simp [lb]
      · simp [lb]
    · have c3 : ¬ w = "under" := fun z => c2 (.inl z)
      have c4 : ¬ w = "over" := fun z => c2 (.inr z)
      simp [lb, c3, c4]
  · have c3 : L.isEmpty = false := by cases L with
      | nil => exact absurd rfl c1
      | cons a l => rfl
    simp [lb, c1, c3]
theorem vic_loop {C : D} {ring : List Pr} {key : Int} {s : DS} (hr : ring ≠ []) (h1 : ring.length ≤ 1000) : ∀ (ws : List Str) (cur : List Pr) (x4 x5 : Sl), (∀ x ∈ ws, x ∈ FIL) → cur.length ≤ 1000 →
    ∃ (S' : List Sl) (y4 y5 : Sl), loop (gN 4) vB (ws.map .str) ⟨vS C ring key cur x4 x5, s⟩ = match narrowL ring key ws cur with
      | none => some (.ret .non, ⟨S', s⟩)
      | some cur' => some (.nx, ⟨vS C ring key cur' y4 y5, s⟩)
  | [], cur, x4, x5, _, _ => ⟨[], x4, x5, rfl⟩
  | w :: ws, cur, x4, x5, hw, h2 => by
    have t := vic_turn (C := C) (x5 := x5) (s := s) (key := key) (hw w List.mem_cons_self) hr h1 h2
    unfold narrowL
    by_cases c : (leftL w ring cur key).isEmpty = true ∧ (w = "under" ∨ w = "over")
    · rw [if_pos c] at t ⊢
      exact ⟨_, x4, x5, loop_ret (g1 := ⟨vS C ring key cur (.dat (.str w)) x5, s⟩) rfl t⟩
    · rw [if_neg c] at t ⊢
      obtain ⟨S', y4, y5, e⟩ := vic_loop hr h1 ws (if (leftL w ring cur key).isEmpty = true then cur else leftL w ring cur key) (.dat (.str w)) (.dat (.lst (rowD (leftL w ring cur key)))) (fun x hx => hw x (List.mem_cons_of_mem _ hx)) (by
        split
        · exact h2
        · exact Nat.le_trans (leftL_len _ _ _ _) h2)
      exact ⟨S', y4, y5, (loop_cons (g1 := ⟨vS C ring key cur (.dat (.str w)) x5, s⟩) rfl t).trans e⟩
def vicL (ws : List Str) (e : Str) (ring : List Pr) (key : Int) : Option Int := match narrowL ring key ws ring with
  | none => none
  | some cur => (endL e (keysOf cur)).head?
theorem cut_butlast (ws : List Str) (e : Str) : cutD (csOf ws e) none (some (-1)) = ws.map .str := by
  have l := cs_len ws e
  have : HT.sIx (csOf ws e).length (csOf ws e).length (some (-1)) = ws.length := by
    show (if (-1 : Int) < 0 then ((-1 : Int) + ((csOf ws e).length : Int)).toNat else min (-1 : Int).toNat (csOf ws e).length) = _
    rw [if_pos (by decide), l]; omega
  unfold DE.cutD
  rw [this]
  show ((csOf ws e).drop 0).take (ws.length - 0) = _
  simp
theorem cs_last (ws : List Str) (e : Str) : atI (csOf ws e) (-1) = some (.str e) := by
  unfold atI ixN
  rw [if_neg (by decide), if_pos (by rw [cs_len]; omega), cs_len, Option.bind_some]
  rw [show ((-1 : Int) + ((ws.length + 1 : Nat) : Int)).toNat = ws.length by omega]
  simp
theorem among_ok {ws : List Str} {e : Str} {ring : List Pr} (hw : ∀ x ∈ ws, x ∈ FIL) (hr : ring ≠ []) (h1 : ring.length ≤ 1000) (key : Int) (s : DS) : m_victim_among [.tup (csOf ws e), .lst (rowD ring), .int key] s = some (.ok (optD (vicL ws e ring key)), s) := by
  refine run_v rfl ?_
  obtain ⟨S', y4, y5, el⟩ := vic_loop (C := .tup (csOf ws e)) (key := key) (s := s) hr h1 ws ring .no .no hw h1
  have cb := cut_butlast ws e
  have cl := cs_last ws e
  obtain ⟨cs, hcs⟩ : ∃ cs, cs = csOf ws e := ⟨_, rfl⟩
  rw [← hcs] at el cb cl ⊢
  unfold vicL
  cases hn : narrowL ring key ws ring with
  | none =>
    rw [hn] at el
    simp [fb_victim_among, cb, el]
  | some cur =>
    rw [hn] at el
    obtain ⟨a1, a2, a3⟩ := narrow_ne ws ring hr hn
    have hl' : cur.length ≤ 100000 := by omega
    have ch := chosen_ok e (ks := keysOf cur) (by simpa using a1) s
    have c := comp_gen (E := prD) (F := fun p => D.int p.1) (P := fun _ => true) (j := 6) (S := vS (.tup cs) ring key cur y4 y5) (s := s) (c := rt true) (e := fIxD (fName 6) (rt (.int 0))) cur (fun _ => rfl) (fun p _ => by simp) (fun p _ _ => by simp)
    rw [List.filter_eq_self.mpr fun _ _ => rfl, show cur.map (fun p => D.int p.1) = (keysOf cur).map D.int by simp] at c
    simp [fb_victim_among, -List.map_map, cb, el, cl, c, ch, hl']
end S
namespace S
open PyProof.Rows PySem.Spec PySem L2 DE
/-! ### a key goes down, by the program -/
theorem shaped_rowT {r : List Pr} (h : okR r) : SeqAt.shaped (.tuple (r.map prP)) = true := by
  unfold SeqAt.shaped
  have := dep_row r
  rw [Bool.and_eq_true, decide_eq_true_eq]
  refine ⟨by simp only [PyData.canLay0]; exact lay_row h, ?_⟩
  simp only [PyData.depth]; omega
theorem pInT_row {r : List Pr} (h : okR r) (p : Pr) (hp : p.2 ∈ MKS) (g : Sg) : pInT false (prD p) (.tup (rowD r)) g = some (.ok (.bl (r.contains p)), g) := by
  have e1 : pyd (.tup (rowD r)) = some (.tuple (r.map prP)) := by unfold pyd; rw [pyd_row]; rfl
  unfold pInT
  rw [pyd_pr, e1]
  dsimp only
  rw [if_pos (by rw [shaped_pr hp, shaped_rowT h]; rfl), any_pr]; rfl
def pdownL (v : Int) (ws : List Str) (e : Str) (r : List Pr) (key : Int) : List Pr :=
  if r.contains (pr key "kept") = true then dropL r key ++ [pr key "sounds"]
  else if nL r < v then r ++ [pr key "sounds"]
  else match vicL ws e (r.filter loudP) key with
    | none => r ++ [pr key "waits"]
    | some k => (if r.contains (pr k "kept") = true then dropL r k else markM r [k] "waits") ++ [pr key "sounds"]
def pdownD (v : Int) (ws : List Str) (e : Str) (r : List Pr) (key : Int) : List (Str × Int) :=
  if r.contains (pr key "kept") = true then [("again", key)]
  else if nL r < v then [("begin", key)]
  else match vicL ws e (r.filter loudP) key with
    | none => [("refuse", key)]
    | some k => [("cut", k), ("begin", key)]
theorem go_down_ok {v : Int} {ws : List Str} {e : Str} {b : D} {r : List Pr} (hl : r.length ≤ 900) (ok : okR r) (hv : 1 ≤ v) (hw : ∀ x ∈ ws, x ∈ FIL) (key : Int) (s : DS) :
    m_go_down [.tup [.int v, .tup (csOf ws e), b], .tup (rowD r), .int key] s = some (.ok (.tup [.tup (rowD (pdownL v ws e r key)), .tup (ddD (pdownD v ws e r key))]), s) := by
  refine run_v rfl ?_
  have hl' : r.length ≤ 100000 := by omega
  have hl2 : r.length + 1 ≤ 100000 := by omega
  have i1 := fun g => pInT_row ok (pr key "kept") (show ("kept" : Str) ∈ MKS by decide) g
  obtain ⟨cs, hcs⟩ : ∃ cs, cs = csOf ws e := ⟨_, rfl⟩
  have wo := without_ok (r := r) (by omega) key s
  have hd : (dropL r key).length + 1 ≤ 100000 := by have := List.length_filter_le (fun p : Pr => !decide (p.1 = key)) r; show (List.filter _ r).length + 1 ≤ _; omega
  have c := fun S4 S5 : Sl => comp_gen (E := prD) (F := prD) (P := loudP) (j := 6) (S := [.dat (.tup [.int v, .tup cs, b]), .dat (.tup (rowD r)), .dat (.int key), .dat (.int v), S4, S5, .no, .no, .no, .no]) (s := s) (c := fT (f2 pNe (fIxD (fName 6) (rt (.int 1))) (rt (.str "waits")))) (e := fName 6) r (fun _ => rfl) (fun p _ => by simp [loudP]) (fun p _ _ => by simp)
  unfold pdownL pdownD
  by_cases c1 : r.contains (pr key "kept") = true
  · rw [if_pos c1, if_pos c1]
    rw [c1] at i1
    simp [-List.map_map, fb_go_down, i1, wo, hd, ddD]
  rw [if_neg c1, if_neg c1]
  rw [Bool.eq_false_iff.mpr c1] at i1
  by_cases c2 : nL r < v
  · rw [if_pos c2, if_pos c2]
    rw [← hcs]
    simp [-List.map_map, fb_go_down, i1, c, c2, hl', hl2, ddD]
  rw [if_neg c2, if_neg c2]
  have hr : r.filter loudP ≠ [] := by
    intro z
    exact c2 (by show (((r.filter loudP).length : Nat) : Int) < v; rw [z]; show (0 : Int) < v; omega)
  have am := among_ok (e := e) hw hr (Nat.le_trans (List.length_filter_le _ _) (by omega)) key s
  rw [← hcs] at am ⊢
  cases hvic : vicL ws e (r.filter loudP) key with
  | none =>
    rw [hvic] at am
    simp [-List.map_map, fb_go_down, i1, c, c2, hl', hl2, ddD, am]
  | some k =>
    rw [hvic] at am
    have i2 := fun g => pInT_row ok (pr k "kept") (show ("kept" : Str) ∈ MKS by decide) g
    have wo2 := without_ok (r := r) (by omega) k s
    have hd2 : (dropL r k).length + 1 ≤ 100000 := by have := List.length_filter_le (fun p : Pr => !decide (p.1 = k)) r; show (List.filter _ r).length + 1 ≤ _; omega
    have mk := pmarked_ok (r := r) (by omega) [k] "waits" s
    dsimp only
    by_cases c3 : r.contains (pr k "kept") = true
    · rw [if_pos c3]
      rw [c3] at i2
      simp [-List.map_map, fb_go_down, i1, i2, c, c2, hl', hl2, ddD, am, wo2, hd2]
    · rw [if_neg c3]
      rw [Bool.eq_false_iff.mpr c3] at i2
      have mk' : m_marked [.tup (rowD r), .lst [.int k], .str "waits"] s = some (.ok (.tup (rowD (markM r [k] "waits"))), s) := mk
      simp [-List.map_map, fb_go_down, i1, i2, c, c2, hl', hl2, ddD, am, mk']
end S
namespace S
open PyProof.Rows PySem.Spec PySem L2 DE
/-! ### who comes back, by the program -/
theorem choO_is (w : Str) {ks : List Int} (h : ks ≠ []) : choO w ks = (endL w ks).head? := by
  unfold choO endL
  by_cases c1 : w = "eldest"
  · rw [if_pos c1, if_pos c1]; cases ks <;> rfl
  rw [if_neg c1, if_neg c1]
  by_cases c2 : w = "latest"
  · rw [if_pos c2, if_pos c2, List.head?_drop, List.getLast?_eq_getElem?]
  rw [if_neg c2, if_neg c2]
  by_cases c3 : w = "lowest"
  · rw [if_pos c3, if_pos c3]; rfl
  rw [if_neg c3, if_neg c3]
  by_cases c4 : w = "highest"
  · rw [if_pos c4, if_pos c4]; rfl
  rw [if_neg c4, if_neg c4]; rfl
def pbackL (b : Str) : Nat → List Int → List Int → List Int
  | 0, _, f => f
  | n + 1, w, f => pbackL b n (w.erase ((endL b w).headD 0)) (f ++ [(endL b w).headD 0])
theorem pback_acc (b : Str) : ∀ (n : Nat) (w f : List Int), pbackL b n w f = f ++ pbackL b n w []
  | 0, w, f => by simp [pbackL]
  | n + 1, w, f => by
    unfold pbackL
    rw [pback_acc b n _ (f ++ _), pback_acc b n _ ([] ++ _)]
    simp
theorem pback_len (b : Str) : ∀ (n : Nat) (w f : List Int), (pbackL b n w f).length = f.length + n
  | 0, w, f => rfl
  | n + 1, w, f => by unfold pbackL; rw [pback_len b n]; simp; omega
def choOw (i : Nat) (x y : Option Sl) (g : Sg) : Res D := match x, y with
  | some (.own xs), some (.dat (.str w)) => match intsOf xs with
    | some ks => if ks = [] then none else some (.ok (choD (choO w ks)), g)
    | none => none
  | _, _ => none
@[simp] theorem cho_v (i j : Nat) (r : List Sl) (s : DS) : fCho i j ⟨r, s⟩ = choOw i r[i]? r[j]? ⟨r, s⟩ := by
  unfold fCho choOw
  dsimp only
  split
  · rename_i xs w e1 e2
    try rw [e1, e2]
    try dsimp only
    cases intsOf xs with
    | none => rfl
    | some ks => cases ks <;> rfl
  · rename_i h
    cases e1 : r[i]? with
    | none => rfl
    | some x =>
      cases x with
      | own xs =>
        cases e2 : r[j]? with
        | none => rfl
        | some y =>
          cases y with
          | dat d =>
            cases d with
            | str w => exact absurd e2 (h xs w e1)
            | _ => rfl
          | _ => rfl
      | _ => rfl
@[simp] theorem choOw_v (i : Nat) (ks : List Int) (w : Str) (g : Sg) : choOw i (some (.own (ks.map .int))) (some (.dat (.str w))) g = if ks = [] then none else some (.ok (choD (choO w ks)), g) := by
  unfold choOw
  simp only [intsOf_m]
abbrev cB : Ms := (fSeq (fSet 6 (fCho 8 5))
  (fSeq (fExp (fRem 8 (fName 6)))
  (fExp (fApp 11 (fName 6)))))
abbrev cbS (M R dn v C : D) (b : Str) (x4 x6 : Sl) (w : List Int) (fr mn : D) (f : List Int) : List Sl := [.dat M, .dat R, .dat dn, .dat v, x4, .dat (.str b), x6, .no, .own (w.map .int), .dat fr, .dat mn, .own (f.map .int)]
theorem back_head {b : Str} (hb : b ∈ RET_) (hn : b ≠ "none") {w : List Int} (hw : w ≠ []) : (endL b w).head? = some ((endL b w).headD 0) ∧ (endL b w).headD 0 ∈ w := by
  have e := end_ne hb hn hw
  refine ⟨by rw [e]; rfl, end_mem hw (w := b) (by rw [e]; exact List.mem_cons_self)⟩
theorem cback_turn {M R dn v C : D} {b : Str} (hb : b ∈ RET_) (hn : b ≠ "none") {x4 x6 : Sl} {w : List Int} {fr mn : D} {f : List Int} {s : DS} (hw : w ≠ []) (hf : f.length ≤ 1000) :
    cB ⟨cbS M R dn v C b x4 x6 w fr mn f, s⟩ = some (.nx, ⟨cbS M R dn v C b x4 (.dat (.int ((endL b w).headD 0))) (w.erase ((endL b w).headD 0)) fr mn (f ++ [(endL b w).headD 0]), s⟩) := by
  obtain ⟨h1, h2⟩ := back_head hb hn hw
  have h3 : choO b w = some ((endL b w).headD 0) := (choO_is b hw).trans h1
  obtain ⟨k, hk⟩ : ∃ k, k = (endL b w).headD 0 := ⟨_, rfl⟩
  rw [← hk] at h2 h3 ⊢
  have hf' : f.length < 100000 := by omega
  simp [hw, h3, h2, hf', choD]
theorem cback_loop {M R dn v C : D} {b : Str} (hb : b ∈ RET_) (hn : b ≠ "none") {fr mn : D} {s : DS} : ∀ (is : List D) (x4 x6 : Sl) (w f : List Int), is.length ≤ w.length → f.length + is.length ≤ 1000 →
    ∃ y4 y6 w', loop (gN 4) cB is ⟨cbS M R dn v C b x4 x6 w fr mn f, s⟩ = some (.nx, ⟨cbS M R dn v C b y4 y6 w' fr mn (pbackL b is.length w f), s⟩)
  | [], x4, x6, w, f, _, _ => ⟨x4, x6, w, rfl⟩
  | d :: is, x4, x6, w, f, hw, hf => by
    simp only [List.length_cons] at hw hf
    have hne : w ≠ [] := by rintro rfl; simp at hw
    have t := cback_turn (M := M) (R := R) (dn := dn) (v := v) (C := C) hb hn (x4 := .dat d) (x6 := x6) (fr := fr) (mn := mn) (f := f) (s := s) hne (by omega)
    obtain ⟨_, h2⟩ := back_head hb hn hne
    obtain ⟨y4, y6, w', e⟩ := cback_loop hb hn is (.dat d) (.dat (.int ((endL b w).headD 0))) (w.erase ((endL b w).headD 0)) (f ++ [(endL b w).headD 0]) (by rw [List.length_erase_of_mem h2]; omega) (by simp; omega)
    exact ⟨y4, y6, w', (loop_cons (g1 := ⟨cbS M R dn v C b (.dat d) x6 w fr mn f, s⟩) rfl t).trans e⟩
def manyB (v : Int) (r : List Pr) : Nat := min (v - nL r).toNat (r.filter waitP).length
theorem come_none {v : D} {C : D} {r : List Pr} {dn : D} (s : DS) : m_come_back [.tup [v, C, .str "none"], .tup (rowD r), dn] s = some (.ok (.tup [.tup (rowD r), dn]), s) := by
  refine run_v rfl ?_
  simp [fb_come_back]
theorem come_ok {v : Int} {C : D} {b : Str} (hb : b ∈ RET_) (hn : b ≠ "none") {r : List Pr} (hl : r.length ≤ 900) (hv : nL r ≤ v) (hv2 : v ≤ 1000) {dn : List (Str × Int)} (hd : dn.length ≤ 1000) (s : DS) :
    m_come_back [.tup [.int v, C, .str b], .tup (rowD r), .tup (ddD dn)] s = some (.ok (.tup [.tup (rowD (markM r (pbackL b (manyB v r) (keysOf (r.filter waitP)) []) "sounds")), .tup (ddD (dn ++ (pbackL b (manyB v r) (keysOf (r.filter waitP)) []).map fun x => (("back" : Str), x)))]), s) := by
  refine run_v rfl ?_
  have hl' : r.length ≤ 100000 := by omega
  have cn := counts r
  obtain ⟨W, hW⟩ : ∃ W, W = keysOf (r.filter waitP) := ⟨_, rfl⟩
  have hWl : W.length = (r.filter waitP).length := by rw [hW]; exact List.length_map _
  obtain ⟨n, hn'⟩ : ∃ n, n = manyB v r := ⟨_, rfl⟩
  have hnW : n ≤ W.length := by rw [hn', hWl]; exact Nat.min_le_right _ _
  rw [← hW, ← hn']
  have hnum : (if (W.length : Int) < v - ((r.length : Int) - (W.length : Int)) then (W.length : Int) else v - ((r.length : Int) - (W.length : Int))) = (n : Int) := by
    rw [hn', hWl]
    unfold manyB
    have : nL r = ((r.filter loudP).length : Int) := rfl
    split <;> omega
  have c := comp_two (i := 6) (j := 7) (F := fun p => D.int p.1) (P := waitP) (S := [.dat (.tup [.int v, C, .str b]), .dat (.tup (rowD r)), .dat (.tup (ddD dn)), .dat (.int v), .dat C, .dat (.str b), .no, .no, .no, .no, .no, .no]) (s := s) (c := fT (f2 pEq (fName 7) (rt (.str "waits")))) (e := fName 6) r (fun _ => rfl) (fun p _ => by simp [waitP]) (fun p _ _ => by simp)
  rw [show (r.filter waitP).map (fun p => D.int p.1) = W.map D.int by rw [hW]; simp] at c
  obtain ⟨y4, y6, w', el⟩ := cback_loop (M := .tup [.int v, C, .str b]) (R := .tup (rowD r)) (dn := .tup (ddD dn)) (v := .int v) (C := C) (s := s) (fr := .int (v - ((r.length : Int) - (W.length : Int)))) (mn := .int (n : Int)) hb hn (intsD (n : Int)) (.dat C) .no W [] (by rw [intsD_length]; exact hnW) (by rw [intsD_length]; simp; omega)
  rw [intsD_length] at el
  obtain ⟨bk, hbk⟩ : ∃ bk, bk = pbackL b n W [] := ⟨_, rfl⟩
  have hbl : bk.length ≤ 100000 := by rw [hbk, pback_len]; simp; omega
  have hbl2 : dn.length + bk.length ≤ 100000 := by rw [hbk, pback_len]; simp; omega
  rw [← hbk] at el ⊢
  have mk := pmarked_ok (r := r) (by omega) bk "sounds" s
  have c2 := comp_gen (E := D.int) (F := fun x => D.tup [.str "back", .int x]) (P := fun _ => true) (j := 6) (S := cbS (.tup [.int v, C, .str b]) (.tup (rowD r)) (.tup (ddD dn)) (.int v) C b y4 .no w' (.int (v - ((r.length : Int) - (W.length : Int)))) (.int (n : Int)) [] |>.set 11 (.dat (.lst (bk.map .int)))) (s := s) (c := rt true) (e := fTup (fCons (rt (.str "back")) (fCons (fName 6) (rt [])))) bk (fun _ => rfl) (fun p _ => by simp) (fun p _ _ => by simp [-prD_v])
  rw [List.filter_eq_self.mpr fun _ _ => rfl] at c2
  have hn2 : (n : Int) ≤ 1000000 ∧ (-1000000 : Int) ≤ (n : Int) := by omega
  simp only [cbS, List.map_nil] at el
  simp only [cbS, List.map_nil, List.set_cons_succ, List.set_cons_zero] at c2
  simp [-List.map_map, fb_come_back, hn, c, hl', hnum, el, hn2, mk, c2, hbl, hbl2]
  rw [List.map_map]; rfl
end S
namespace S
open PyProof.Rows PySem.Spec PySem L2 DE
/-! ### the step, by the program -/
def pbk (v : Int) (b : Str) (r : List Pr) : List Int := if b = "none" then [] else pbackL b (manyB v r) (keysOf (r.filter waitP)) []
abbrev prow (v : Int) (b : Str) (r : List Pr) : List Pr := markM r (pbk v b r) "sounds"
abbrev bkD (ks : List Int) : List (Str × Int) := ks.map fun x => (("back" : Str), x)
theorem markM_nil (r : List Pr) (m : Str) : markM r [] m = r := by
  unfold markM markQ; simp
theorem come_any {v : Int} {C : D} {b : Str} (hb : b ∈ RET_) {r : List Pr} (hl : r.length ≤ 900) (hv : nL r ≤ v) (hv2 : v ≤ 1000) {dn : List (Str × Int)} (hd : dn.length ≤ 1000) (s : DS) :
    m_come_back [.tup [.int v, C, .str b], .tup (rowD r), .tup (ddD dn)] s = some (.ok (.tup [.tup (rowD (prow v b r)), .tup (ddD (dn ++ bkD (pbk v b r)))]), s) := by
  unfold prow pbk
  by_cases hn : b = "none"
  · subst hn
    rw [if_pos rfl, markM_nil, come_none]
    simp
  · rw [if_neg hn]
    exact come_ok hb hn hl hv hv2 hd s
def pupL (v : Int) (b : Str) (f : Bool) (r : List Pr) (k : Int) : List Pr :=
  if r.contains (pr k "waits") = true then prow v b (dropL r k) else if f = true then markM r [k] "kept" else prow v b (dropL r k)
def pupD (v : Int) (b : Str) (f : Bool) (r : List Pr) (k : Int) : List (Str × Int) :=
  if r.contains (pr k "waits") = true then ("leave", k) :: bkD (pbk v b (dropL r k)) else if f = true then [("keep", k)] else ("end", k) :: bkD (pbk v b (dropL r k))
theorem go_up_ok {v : Int} {C : D} {b : Str} (hb : b ∈ RET_) {f : Bool} {r : List Pr} (hl : r.length ≤ 900) (ok : okR r) (hv : nL r ≤ v) (hv2 : v ≤ 1000) (k : Int) (s : DS) :
    m_go_up [.tup [.int v, C, .str b], stD f r, .int k] s = some (.ok (.tup [.tup (rowD (pupL v b f r k)), .tup (ddD (pupD v b f r k))]), s) := by
  refine run_v rfl ?_
  have i1 := fun g => pInT_row ok (pr k "waits") (show ("waits" : Str) ∈ MKS by decide) g
  have wo := without_ok (r := r) (by omega) k s
  have hd : (dropL r k).length ≤ 900 := Nat.le_trans (List.length_filter_le _ _) hl
  have hn : nL (dropL r k) ≤ v := Int.le_trans (nL_sub List.filter_sublist) hv
  have mk : m_marked [.tup (rowD r), .lst [.int k], .str "kept"] s = _ := pmarked_ok (r := r) (by omega) [k] "kept" s
  unfold pupL pupD
  by_cases c1 : r.contains (pr k "waits") = true
  · rw [if_pos c1, if_pos c1]
    rw [c1] at i1
    have cb : m_come_back [.tup [.int v, C, .str b], .tup (rowD (dropL r k)), .tup [.tup [.str "leave", .int k]]] s = _ := come_any (C := C) hb hd hn hv2 (dn := [("leave", k)]) (by simp) s
    simp [-List.map_map, fb_go_up, i1, wo, cb]
  rw [if_neg c1, if_neg c1]
  rw [Bool.eq_false_iff.mpr c1] at i1
  cases f with
  | true => simp [-List.map_map, fb_go_up, i1, mk]
  | false =>
    have cb : m_come_back [.tup [.int v, C, .str b], .tup (rowD (dropL r k)), .tup [.tup [.str "end", .int k]]] s = _ := come_any (C := C) hb hd hn hv2 (dn := [("end", k)]) (by simp) s
    simp [-List.map_map, fb_go_up, i1, wo, cb]
end S
namespace S
open PyProof.Rows PySem.Spec PySem L2 DE
abbrev unkept (r : List Pr) : List Pr := r.filter fun p => !decide (p.2 = "kept")
abbrev endsD (ks : List Int) : List (Str × Int) := ks.map fun x => (("end" : Str), x)
theorem lift_ok {v : Int} {C : D} {b : Str} (hb : b ∈ RET_) {r : List Pr} (hl : r.length ≤ 900) (hv : nL r ≤ v) (hv2 : v ≤ 1000) (s : DS) :
    m_lift [.tup [.int v, C, .str b], .tup (rowD r)] s = some (.ok (.tup [.tup (rowD (prow v b (unkept r))), .tup (ddD (endsD (keysOf (r.filter keptP)) ++ bkD (pbk v b (unkept r))))]), s) := by
  refine run_v rfl ?_
  have hl' : r.length ≤ 100000 := by omega
  have hd : (unkept r).length ≤ 900 := Nat.le_trans (List.length_filter_le _ _) hl
  have hn : nL (unkept r) ≤ v := Int.le_trans (nL_sub List.filter_sublist) hv
  have hk : (endsD (keysOf (r.filter keptP))).length ≤ 1000 := by
    rw [List.length_map, List.length_map]; have := List.length_filter_le keptP r; omega
  have cb := come_any (C := C) hb hd hn hv2 hk s
  have c1 := comp_gen (E := prD) (F := prD) (P := fun p : Pr => !decide (p.2 = "kept")) (j := 2) (S := [.dat (.tup [.int v, C, .str b]), .dat (.tup (rowD r)), .no, .no, .no, .no, .no]) (s := s) (c := fT (f2 pNe (fIxD (fName 2) (rt (.int 1))) (rt (.str "kept")))) (e := fName 2) r (fun _ => rfl) (fun p _ => by simp) (fun p _ _ => by simp)
  have c2 := comp_two (i := 4) (j := 5) (F := fun p => D.tup [.str "end", .int p.1]) (P := keptP) (S := [.dat (.tup [.int v, C, .str b]), .dat (.tup (rowD r)), .no, .dat (.tup (rowD (unkept r))), .no, .no, .no]) (s := s) (c := fT (f2 pEq (fName 5) (rt (.str "kept")))) (e := fTup (fCons (rt (.str "end")) (fCons (fName 4) (rt [])))) r (fun _ => rfl) (fun p _ => by simp [keptP]) (fun p _ _ => by simp)
  rw [show (r.filter keptP).map (fun p => D.tup [.str "end", .int p.1]) = ddD (endsD (keysOf (r.filter keptP))) by unfold ddD endsD keysOf; rw [List.map_map, List.map_map]; rfl] at c2
  simp [-List.map_map, fb_lift, c1, c2, hl', cb]
def pstepL (v : Int) (ws : List Str) (e b : Str) : Bool × List Pr → Ev → Bool × List Pr
  | (_, r), .press => (true, r)
  | (f, r), .down k => (f, pdownL v ws e r k)
  | (f, r), .up k => (f, pupL v b f r k)
  | (_, r), .lift => (false, prow v b (unkept r))
def pdeedsL (v : Int) (ws : List Str) (e b : Str) : Bool × List Pr → Ev → List (Str × Int)
  | _, .press => []
  | (_, r), .down k => pdownD v ws e r k
  | (f, r), .up k => pupD v b f r k
  | (_, r), .lift => endsD (keysOf (r.filter keptP)) ++ bkD (pbk v b (unkept r))
theorem perform_ok {v : Int} {ws : List Str} {e b : Str} (hb : b ∈ RET_) {f : Bool} {r : List Pr} (hl : r.length ≤ 900) (ok : okR r) (hv0 : 1 ≤ v) (hv : nL r ≤ v) (hv2 : v ≤ 1000) (hw : ∀ x ∈ ws, x ∈ FIL) (ev : Ev) (s : DS) :
    m_perform [.tup [.int v, .tup (csOf ws e), .str b], stD f r, evD ev] s = some (.ok (.tup [stD (pstepL v ws e b (f, r) ev).1 (pstepL v ws e b (f, r) ev).2, .tup (ddD (pdeedsL v ws e b (f, r) ev))]), s) := by
  refine run_v rfl ?_
  have gd := fun k => go_down_ok (b := .str b) (e := e) hl ok hv0 hw k s
  have gu := fun k => go_up_ok (C := .tup (csOf ws e)) hb (f := f) hl ok hv hv2 k s
  have li := lift_ok (C := .tup (csOf ws e)) hb hl hv hv2 s
  obtain ⟨cs, hcs⟩ : ∃ cs, cs = csOf ws e := ⟨_, rfl⟩
  rw [← hcs] at gd gu li ⊢
  unfold pstepL pdeedsL
  cases ev with
  | press => simp [-List.map_map, fb_perform, evD]
  | lift => simp [-List.map_map, fb_perform, evD, li, show ¬ ("lift" : Str) = "press" by decide]
  | down k => simp [-List.map_map, fb_perform, evD, gd, show ¬ ("down" : Str) = "press" by decide, show ¬ ("down" : Str) = "lift" by decide]
  | up k => simp [-List.map_map, fb_perform, evD, gu, show ¬ ("up" : Str) = "press" by decide, show ¬ ("up" : Str) = "lift" by decide, show ¬ ("up" : Str) = "down" by decide]
end S
namespace S
open PyProof.Rows PySem.Spec PySem L2 DE
/-! ### the program's step is the law's -/
theorem fill_stop {v : Int} {b : Str} : ∀ (n : Nat) {r : List Pr} (f : List Int), ¬ goesB v b r → fillL v b n r f = (r, f)
  | 0, _, _, _ => rfl
  | n + 1, r, f, h => by
    unfold fillL
    rw [if_neg h]
    exact fill_stop n f h
theorem pbk_stop {v : Int} {b : Str} {r : List Pr} (h : ¬ goesB v b r) : pbk v b r = [] := by
  unfold pbk
  by_cases hb : b = "none"
  · rw [if_pos hb]
  rw [if_neg hb]
  have : manyB v r = 0 := by
    unfold manyB
    by_cases hw : r.filter waitP = []
    · rw [hw]; exact Nat.min_zero _
    · have : ¬ nL r < v := fun z => h ⟨hb, hw, z⟩
      omega
  rw [this]; rfl
theorem prow_stop {v : Int} {b : Str} {r : List Pr} (h : ¬ goesB v b r) : prow v b r = r := by
  unfold prow
  rw [pbk_stop h, markM_nil]
theorem wait_mark {r : List Pr} (nd : (keysOf r).Nodup) (k : Int) : keysOf ((markL r k "sounds").filter waitP) = (keysOf (r.filter waitP)).erase k := by
  have ndw : (keysOf (r.filter waitP)).Nodup := nd_sub List.filter_sublist nd
  rw [ndw.erase_eq_filter]
  clear ndw nd
  induction r with
  | nil => rfl
  | cons p r ih =>
    unfold markL keysOf at ih ⊢
    rw [List.map_cons]
    by_cases hk : p.1 = k
    · have e1 : markP k "sounds" p = pr p.1 "sounds" := if_pos hk
      rw [e1, List.filter_cons_of_neg (show ¬ waitP (pr p.1 "sounds") = true by show ¬ decide (("sounds" : Str) = "waits") = true; decide), ih]
      by_cases hw : waitP p = true
      · rw [List.filter_cons_of_pos hw, List.map_cons, List.filter_cons_of_neg (by simp [hk])]
      · rw [List.filter_cons_of_neg hw]
    · have e1 : markP k "sounds" p = p := if_neg hk
      rw [e1]
      by_cases hw : waitP p = true
      · rw [List.filter_cons_of_pos hw, List.filter_cons_of_pos hw, List.map_cons, List.map_cons, List.filter_cons_of_pos (by simp [hk]), ih]
      · rw [List.filter_cons_of_neg hw, List.filter_cons_of_neg hw, ih]
theorem markM_mark (r : List Pr) (k : Int) (ks : List Int) : markM (markL r k "sounds") ks "sounds" = markM r (k :: ks) "sounds" := by
  unfold markM markL
  rw [List.map_map]
  congr 1
  funext p
  show markQ ks "sounds" (markP k "sounds" p) = markQ (k :: ks) "sounds" p
  unfold markP markQ
  by_cases h : p.1 = k
  · rw [if_pos h]
    have c : (k :: ks).contains p.1 = true := by rw [h]; simp
    rw [if_pos c]
    split <;> rfl
  · rw [if_neg h]
    have : (k :: ks).contains p.1 = ks.contains p.1 := by simp [h]
    rw [this]
theorem fill_eq {v : Int} {b : Str} (hb : b ∈ RET_) : ∀ (n : Nat) (r : List Pr) (f : List Int), (r.filter waitP).length ≤ n → (keysOf r).Nodup → nL r ≤ v → fillL v b n r f = (prow v b r, f ++ pbk v b r)
  | 0, r, f, h, nd, hv => by
    have hw : r.filter waitP = [] := List.length_eq_zero_iff.mp (Nat.le_zero.mp h)
    have hn : ¬ goesB v b r := fun z => z.2.1 hw
    rw [prow_stop hn, pbk_stop hn]
    simp [fillL]
  | n + 1, r, f, h, nd, hv => by
    by_cases g : goesB v b r
    · have g' := g
      obtain ⟨g1, g2, g3⟩ := g'
      obtain ⟨k, hk⟩ : ∃ k, k = backL b r := ⟨_, rfl⟩
      have mem : pr k "waits" ∈ r := hk ▸ back_mem hb g
      have ws := wait_sounds nd mem
      have c1 := counts r
      have c2 := counts (markL r k "sounds")
      have el : (markL r k "sounds").length = r.length := List.length_map _
      have enL : nL (markL r k "sounds") = nL r + 1 := by show (((markL r k "sounds").filter loudP).length : Int) = ((r.filter loudP).length : Int) + 1; omega
      have ih := fill_eq (v := v) hb n (markL r k "sounds") (f ++ [k]) (by omega) (by rw [keys_mark]; exact nd) (by have g3' : nL r < v := g3; omega)
      unfold fillL
      rw [if_pos g, ← hk, ih]
      have e1 : pbk v b r = k :: pbk v b (markL r k "sounds") := by
        unfold pbk
        rw [if_neg g1, if_neg g1, wait_mark nd]
        have em : manyB v r = manyB v (markL r k "sounds") + 1 := by
          unfold manyB
          have : 0 < (r.filter waitP).length := List.length_pos_iff.mpr g2
          have g3' : nL r < v := g3
          omega
        rw [em]
        show pbackL b (manyB v (markL r k "sounds")) ((keysOf (r.filter waitP)).erase ((endL b (keysOf (r.filter waitP))).headD 0)) ([] ++ [(endL b (keysOf (r.filter waitP))).headD 0]) = _
        have ek : (endL b (keysOf (r.filter waitP))).headD 0 = k := hk.symm
        rw [ek, pback_acc]
        simp
      rw [e1]
      refine Prod.ext ?_ (by simp)
      show markM (markL r k "sounds") (pbk v b (markL r k "sounds")) "sounds" = markM r (pbk v b r) "sounds"
      rw [e1, markM_mark]
    · unfold fillL
      rw [if_neg g, fill_stop n f g, prow_stop g, pbk_stop g]
      simp
theorem drop_less (r : List Pr) (k : Int) : lessL r [k] = dropL r k := by
  unfold lessL dropL
  congr 1; funext p
  simp
theorem unkept_less {r : List Pr} (nd : (keysOf r).Nodup) : lessL r (keysOf (r.filter keptP)) = unkept r := by
  unfold lessL unkept
  refine List.filter_congr (fun p hp => ?_)
  by_cases h : p.2 = "kept"
  · have : p.1 ∈ keysOf (r.filter keptP) := key_mem (List.mem_filter.mpr ⟨hp, by unfold keptP; simp [h]⟩)
    have h2 : (keysOf (r.filter keptP)).contains p.1 = true := by rw [List.contains_iff_mem]; exact this
    rw [h2]; simp [h]
  · have : ¬ p.1 ∈ keysOf (r.filter keptP) := fun z => by
      obtain ⟨q, hq, e⟩ := mem_key z
      obtain ⟨q1, q2⟩ := List.mem_filter.mp hq
      have := nd_uniq nd q1 hp e
      rw [this] at q2
      unfold keptP at q2
      exact h (of_decide_eq_true q2)
    have h2 : (keysOf (r.filter keptP)).contains p.1 = false := by rw [Bool.eq_false_iff]; intro z; rw [List.contains_iff_mem] at z; exact this z
    rw [h2]; simp [h]
theorem vic_taken {v : Int} {ws : List Str} {e : Str} {r : List Pr} {key : Int} (h : ¬ nL r < v) : vicL ws e (r.filter loudP) key = (takenL v ws e r key).head? := by
  unfold vicL takenL
  rw [if_neg h]
  cases narrowL (r.filter loudP) key ws (r.filter loudP) with
  | none => rfl
  | some cur => rfl
theorem cut_rest {r : List Pr} (nd : (keysOf r).Nodup) (k : Int) : (if r.contains (pr k "kept") = true then dropL r k else markM r [k] "waits") = markL (r.filter fun p => !decide (p = pr k "kept")) k "waits" := by
  by_cases c : r.contains (pr k "kept") = true
  · rw [if_pos c]
    have mem : pr k "kept" ∈ r := by simpa using c
    have e1 : (r.filter fun p => !decide (p = pr k "kept")) = dropL r k := by
      unfold dropL
      refine List.filter_congr (fun p hp => ?_)
      by_cases h : p.1 = k
      · have := nd_uniq nd hp mem h
        rw [decide_eq_true this, decide_eq_true h]
      · have : ¬ p = pr k "kept" := fun z => h (by rw [z])
        rw [decide_eq_false this, decide_eq_false h]
    rw [e1]
    unfold markL
    conv => lhs; rw [← List.map_id (dropL r k)]
    refine List.map_congr_left fun p hp => ?_; have := (List.mem_filter.mp hp).2
    unfold markP
    rw [if_neg (by simpa using this)]; rfl
  · rw [if_neg c]
    have e1 : (r.filter fun p => !decide (p = pr k "kept")) = r := by
      refine List.filter_eq_self.mpr fun p hp => ?_; have : ¬ p = pr k "kept" := fun z => c (by rw [← z]; simpa using hp)
      simp [this]
    rw [e1]
    unfold markM markL
    congr 1; funext p
    unfold markQ markP
    simp
theorem down_eq {v : Int} {ws : List Str} {e : Str} {r : List Pr} (nd : (keysOf r).Nodup) (key : Int) : pdownL v ws e r key = downL v ws e r key ∧ pdownD v ws e r key = downD v ws e r key := by
  unfold pdownL pdownD downL downD
  by_cases c1 : r.contains (pr key "kept") = true
  · rw [if_pos c1, if_pos c1, if_pos c1, if_pos c1]; exact ⟨rfl, rfl⟩
  rw [if_neg c1, if_neg c1, if_neg c1, if_neg c1]
  by_cases c2 : nL r < v
  · rw [if_pos c2, if_pos c2, if_pos c2, if_pos c2]; exact ⟨rfl, rfl⟩
  rw [if_neg c2, if_neg c2, if_neg c2, if_neg c2, vic_taken c2]
  cases takenL v ws e r key with
  | nil => exact ⟨rfl, rfl⟩
  | cons k T =>
    dsimp only [List.head?_cons]
    rw [cut_rest nd k]
    exact ⟨rfl, rfl⟩
theorem step_eq {v : Int} {ws : List Str} {e b : Str} (hb : b ∈ RET_) {f : Bool} {r : List Pr} (nd : (keysOf r).Nodup) (hv : nL r ≤ v) (wt : waitsB v b r) (ev : Ev) : pstepL v ws e b (f, r) ev = stepL v ws e b (f, r) ev ∧ pdeedsL v ws e b (f, r) ev = deedsL v ws e b (f, r) ev := by
  have back : ∀ gone, (prow v b (lessL r gone) = backR v b r gone ∧ pbk v b (lessL r gone) = backB v b r gone) := fun gone => by
    have h := fill_eq hb (lessL r gone).length (lessL r gone) [] (List.length_filter_le _ _) (nd_sub List.filter_sublist nd) (Int.le_trans (nL_sub List.filter_sublist) hv)
    unfold backR backB
    rw [h]
    exact ⟨rfl, by simp⟩
  cases ev with
  | press => exact ⟨rfl, rfl⟩
  | down k =>
    obtain ⟨h1, h2⟩ := down_eq (v := v) (ws := ws) (e := e) nd k
    exact ⟨by show (f, _) = (f, _); rw [h1], h2⟩
  | lift =>
    obtain ⟨h1, h2⟩ := back (keysOf (r.filter keptP))
    rw [unkept_less nd] at h1 h2
    refine ⟨?_, ?_⟩
    · show (false, prow v b (unkept r)) = (false, _); rw [h1]
    · show endsD _ ++ bkD (pbk v b (unkept r)) = endB _ _; rw [h2]
  | up k =>
    obtain ⟨h1, h2⟩ := back [k]
    rw [drop_less] at h1 h2
    show (f, pupL v b f r k) = (if r.contains (pr k "waits") = true then (f, r.filter fun p => !decide (p.1 = k)) else if f = true then (f, markL r k "kept") else (false, backR v b r [k])) ∧ pupD v b f r k = (if r.contains (pr k "waits") = true then [((("leave" : Str)), k)] else if f = true then [((("keep" : Str)), k)] else endB [k] (backB v b r [k]))
    unfold pupL pupD
    by_cases c1 : r.contains (pr k "waits") = true
    · rw [if_pos c1, if_pos c1, if_pos c1, if_pos c1]
      have mem : pr k "waits" ∈ r := by simpa using c1
      have hg : ¬ goesB v b (dropL r k) := by
        rintro ⟨g1, g2, g3⟩
        rcases wt with w | w | w
        · exact g1 w
        · have e1 : (dropL r k).filter loudP = r.filter loudP := by
            unfold dropL
            rw [List.filter_filter]
            refine List.filter_congr (fun p hp => ?_)
            by_cases h : p.1 = k
            · have := nd_uniq nd hp mem h
              rw [this]; rfl
            · simp [h]
          rw [e1] at g3
          exact absurd g3 (by show ¬ nL r < v; omega)
        · have : pr k "waits" ∈ r.filter waitP := List.mem_filter.mpr ⟨mem, rfl⟩
          rw [w] at this; cases this
      rw [prow_stop hg, pbk_stop hg]
      exact ⟨rfl, rfl⟩
    rw [if_neg c1, if_neg c1, if_neg c1, if_neg c1]
    cases f with
    | true =>
      rw [if_pos rfl, if_pos rfl, if_pos rfl, if_pos rfl]
      refine ⟨?_, rfl⟩
      show (true, markM r [k] "kept") = (true, markL r k "kept")
      have : markM r [k] "kept" = markL r k "kept" := by
        unfold markM markL; congr 1; funext p; unfold markQ markP; simp
      rw [this]
    | false =>
      rw [if_neg Bool.false_ne_true, if_neg Bool.false_ne_true, if_neg Bool.false_ne_true, if_neg Bool.false_ne_true, h1, h2]
      exact ⟨rfl, rfl⟩
end S
namespace S
open PyProof.Rows PySem.Spec PySem L2 DE
/-! ### states are shown -/
def shortW (w : Str) : Bool := (w.cps.toList.all fun c => decide (c < 16 ^ 8)) && decide (w.cps.size ≤ 8)
theorem short_key : ∀ i : Int, 0 ≤ i → i ≤ 87 → (PyData.shown (.int i)).length ≤ 8 ∧ i.natAbs.log2 < 1920 := by
  intro i h1 h2
  obtain ⟨n, rfl⟩ : ∃ n : Nat, i = (n : Int) := ⟨i.toNat, by omega⟩
  have hn : n < 88 := by omega
  have all : ∀ k : Fin 88, (PyData.shown (.int ((k.1 : Nat) : Int))).length ≤ 8 ∧ ((k.1 : Nat) : Int).natAbs.log2 < 1920 := by decide +kernel
  exact all ⟨n, hn⟩
theorem mks_short : ∀ w ∈ MKS, shortW w = true := by decide
theorem row_facts : ∀ r : List Pr, okR r → (∀ p ∈ r, 0 ≤ p.1 ∧ p.1 ≤ 87) → PyData.showableAll (r.map prP) = true ∧ PyData.depthAll (r.map prP) ≤ 1 ∧ PyData.hasDictAll (r.map prP) = false ∧ PyData.leavesShortAll 8 (r.map prP) = true ∧ PyData.bulkAll (r.map prP) ≤ 20 * r.length
  | [], _, _ => by simp [PyData.showableAll, PyData.depthAll, PyData.hasDictAll, PyData.leavesShortAll, PyData.bulkAll]
  | p :: r, ok, hk => by
    obtain ⟨h1, h2, h3, h4, h5⟩ := row_facts r ok.tail fun q hq => hk q (List.mem_cons_of_mem _ hq)
    have hw := mks_short p.2 (ok p List.mem_cons_self)
    unfold shortW at hw
    rw [Bool.and_eq_true, decide_eq_true_eq] at hw
    obtain ⟨i1, i2⟩ := short_key p.1 (hk p List.mem_cons_self).1 (hk p List.mem_cons_self).2
    refine ⟨?_, ?_, ?_, ?_, ?_⟩
    · simp only [List.map_cons, prP, PyData.showableAll, PyData.showable, h1, Bool.and_true, Bool.and_eq_true, decide_eq_true_eq]; exact i2
    · simp only [List.map_cons, prP, PyData.depthAll, PyData.depth]; omega
    · simp only [List.map_cons, prP, PyData.hasDictAll, PyData.hasDict, h3]; rfl
    · simp only [List.map_cons, prP, PyData.leavesShortAll, PyData.leavesShort, h4, Bool.and_true, Bool.and_eq_true, decide_eq_true_eq]; exact ⟨i1, hw.1⟩
    · simp only [List.map_cons, prP, PyData.bulkAll, PyData.bulk, List.length_cons]; have := hw.2; omega
abbrev PS (f : Bool) (r : List Pr) : PyData := .tuple [.bool f, .tuple (r.map prP)]
theorem pyd_S (f : Bool) (r : List Pr) : pyd (stD f r) = some (PS f r) := by
  unfold pyd pydA pydA
  rw [show pyd (.tup (rowD r)) = some (.tuple (r.map prP)) by unfold pyd; rw [pyd_row]; rfl]; rfl
theorem pyd_SL (f : Bool) (r : List Pr) : pyd (.lst [stD f r]) = some (.list [PS f r]) := by
  have q := pyd_S f r
  unfold pyd pydA pydA
  rw [q]; rfl
theorem show_S {f : Bool} {r : List Pr} (ok : okR r) (hk : ∀ p ∈ r, 0 ≤ p.1 ∧ p.1 ≤ 87) (hl : r.length ≤ 50) : showB (.list [PS f r]) = true := by
  obtain ⟨f1, f2, f3, f4, f5⟩ := row_facts r ok hk
  have lv : (PyData.list [PS f r]).leavesShort 8 = true := by
    simp only [PyData.leavesShort, PyData.leavesShortAll, f4, Bool.and_true, Bool.true_and]
  have sz := PyData.shown_le_bulk 8 (by decide) _ lv
  have bk : (PyData.list [PS f r]).bulk ≤ 1100 := by
    simp only [PyData.bulk, PyData.bulkAll]; omega
  unfold showB
  simp only [Bool.and_eq_true, decide_eq_true_eq, Bool.not_eq_true']
  refine ⟨?_, ?_, by omega, ?_⟩
  · simp only [PyData.showable, PyData.showableAll, f1, Bool.and_true]
  · simp only [PyData.depth, PyData.depthAll]; omega
  · simp only [PyData.hasDict, PyData.hasDictAll, f3]; rfl
theorem ints_facts : ∀ xs : List Int, (∀ x ∈ xs, 0 ≤ x ∧ x ≤ 87) → PyData.showableAll (xs.map PyData.int) = true ∧ PyData.depthAll (xs.map PyData.int) = 0 ∧ PyData.hasDictAll (xs.map PyData.int) = false ∧ PyData.leavesShortAll 8 (xs.map PyData.int) = true ∧ PyData.bulkAll (xs.map PyData.int) ≤ 2 * xs.length
  | [], _ => by simp [PyData.showableAll, PyData.depthAll, PyData.hasDictAll, PyData.leavesShortAll, PyData.bulkAll]
  | x :: xs, hk => by
    obtain ⟨h1, h2, h3, h4, h5⟩ := ints_facts xs fun q hq => hk q (List.mem_cons_of_mem _ hq)
    obtain ⟨i1, i2⟩ := short_key x (hk x List.mem_cons_self).1 (hk x List.mem_cons_self).2
    refine ⟨?_, ?_, ?_, ?_, ?_⟩
    · simp only [List.map_cons, PyData.showableAll, PyData.showable, h1, Bool.and_true, decide_eq_true_eq]; exact i2
    · simp only [List.map_cons, PyData.depthAll, PyData.depth, h2]; rfl
    · simp only [List.map_cons, PyData.hasDictAll, PyData.hasDict, h3]; rfl
    · simp only [List.map_cons, PyData.leavesShortAll, PyData.leavesShort, h4, Bool.and_true, decide_eq_true_eq]; exact i1
    · simp only [List.map_cons, PyData.bulkAll, PyData.bulk, List.length_cons]; omega
theorem sortI_perm : ∀ xs : List Int, (sortI xs).Perm xs
  | [] => .refl _
  | x :: xs => (insI_perm x _).trans (.cons x (sortI_perm xs))
theorem pyd_snd (r : List Pr) : pyd (sndD r) = some (.tuple ((sortI (keysOf (r.filter loudP))).map .int)) := by
  unfold pyd; rw [pyd_ints]; rfl
theorem show_snd {r : List Pr} (hk : ∀ p ∈ r, 0 ≤ p.1 ∧ p.1 ≤ 87) (hl : r.length ≤ 50) : showB (.tuple ((sortI (keysOf (r.filter loudP))).map .int)) = true := by
  have pm := sortI_perm (keysOf (r.filter loudP))
  obtain ⟨xs, hxs⟩ : ∃ xs, xs = sortI (keysOf (r.filter loudP)) := ⟨_, rfl⟩
  rw [← hxs] at pm ⊢
  have len : xs.length ≤ 50 := by
    rw [pm.length_eq, List.length_map]
    exact Nat.le_trans (List.length_filter_le _ _) hl
  obtain ⟨f1, f2, f3, f4, f5⟩ := ints_facts xs fun x hx => by
    obtain ⟨p, hp, rfl⟩ := mem_key (pm.mem_iff.mp hx)
    exact hk p (List.mem_filter.mp hp).1
  have lv : (PyData.tuple (xs.map .int)).leavesShort 8 = true := by
    simp only [PyData.leavesShort, f4]
  have sz := PyData.shown_le_bulk 8 (by decide) _ lv
  have bk : (PyData.tuple (xs.map .int)).bulk ≤ 100 := by
    simp only [PyData.bulk]; omega
  unfold showB
  simp only [Bool.and_eq_true, decide_eq_true_eq, Bool.not_eq_true']
  refine ⟨?_, ?_, by omega, ?_⟩
  · simp only [PyData.showable, f1]
  · simp only [PyData.depth, f2]; decide
  · simp only [PyData.hasDict, f3]
end S
namespace S
open PyProof.Rows PySem.Spec PySem L2 DE
/-! ### events, and which of them can follow -/
@[simp] theorem isi_v (T : String) (f : Mo D) (g : Sg) : fIsi T f g = bdO (f g) fun d => if isExc d = true then stop else match kitB (tyD d) T with
  | some b => rt (.bl b)
  | none => stop := by unfold fIsi; rw [bd_v] <;> rfl
@[simp] theorem kb1 : kitB "tuple" "tuple" = some true := kb_tuple_tuple
@[simp] theorem isExc_t (xs : List D) : isExc (.tup xs) = false := rfl
@[simp] theorem isExc_l (xs : List D) : isExc (.lst xs) = false := rfl
@[simp] theorem isExc_i (i : Int) : isExc (.int i) = false := rfl
@[simp] theorem isExc_s (i : Str) : isExc (.str i) = false := rfl
@[simp] theorem isExc_b (i : Bool) : isExc (.bl i) = false := rfl
@[simp] theorem isExc_n : isExc .non = false := rfl
@[simp] theorem tyD_t (xs : List D) : tyD (.tup xs) = "tuple" := rfl
@[simp] theorem pEq_b (a b : Bool) (g : Sg) : pEq (.bl a) (.bl b) g = some (.ok (.bl (a == b)), g) := by cases a <;> cases b <;> kernel_rfl
def evKey : Ev → Prop
  | .press => True
  | .lift => True
  | .up k => 0 ≤ k ∧ k ≤ 87
  | .down k => 0 ≤ k ∧ k ≤ 87
theorem is_event_ok {ev : Ev} (h : evKey ev) (s : DS) : m_is_event [evD ev] s = some (.ok (.bl true), s) := by
  have w1 : ∀ x : Str, m_is_word [.str x, c_KEY_WORDS] s = some (.ok (.bl (inW (.str x) ["down", "up"])), s) := fun x => is_word_ok (.str x) ["down", "up"] s rfl
  have w2 : ∀ x : Str, m_is_word [.str x, c_PEDAL_WORDS] s = some (.ok (.bl (inW (.str x) ["press", "lift"])), s) := fun x => is_word_ok (.str x) ["press", "lift"] s rfl
  refine run_v rfl ?_
  cases ev with
  | press => simp [fb_is_event, evD, w2, show inW (.str "press") ["press", "lift"] = true from rfl]
  | lift => simp [fb_is_event, evD, w2, show inW (.str "lift") ["press", "lift"] = true from rfl]
  | up k =>
    have hk := is_key_ok k s
    rw [decide_eq_true h.1, decide_eq_true h.2] at hk
    simp [fb_is_event, evD, -prD_v, w1, hk, show inW (.str "up") ["down", "up"] = true from rfl]
  | down k =>
    have hk := is_key_ok k s
    rw [decide_eq_true h.1, decide_eq_true h.2] at hk
    simp [fb_is_event, evD, -prD_v, w1, hk, show inW (.str "down") ["down", "up"] = true from rfl]
def downK (r : List Pr) : List Int := keysOf (r.filter fun p => !decide (p.2 = "kept"))
theorem down_keys_ok {r : List Pr} (hl : r.length ≤ 1000) (s : DS) : m_down_keys [.tup (rowD r)] s = some (.ok (.lst ((downK r).map .int)), s) := by
  refine run_v rfl ?_
  have hl' : r.length ≤ 100000 := by omega
  have c := comp_two (i := 1) (j := 2) (F := fun p => D.int p.1) (P := fun p => !decide (p.2 = "kept")) (S := [.dat (.tup (rowD r)), .no, .no]) (s := s) (c := fT (f2 pNe (fName 2) (rt (.str "kept")))) (e := fName 1) r (fun _ => rfl) (fun p _ => by simp) (fun p _ _ => by simp)
  rw [show (r.filter fun p : Pr => !decide (p.2 = "kept")).map (fun p : Pr => D.int p.1) = (downK r).map D.int by unfold downK; simp] at c
  simp [-List.map_map, fb_down_keys, c, hl']
def followB (f : Bool) (r : List Pr) : Ev → Bool
  | .press => !f
  | .lift => f
  | .up k => (downK r).contains k
  | .down k => !(downK r).contains k
theorem can_follow_ok {ev : Ev} (h : evKey ev) {f : Bool} {r : List Pr} (hl : r.length ≤ 1000) (s : DS) : m_can_follow [stD f r, evD ev] s = some (.ok (.bl (followB f r ev)), s) := by
  have ie := is_event_ok h s
  have dk := down_keys_ok hl s
  refine run_v rfl ?_
  cases ev with
  | press => unfold evD at ie; simp [fb_can_follow, evD, ie, followB]
  | lift => unfold evD at ie; simp [fb_can_follow, evD, ie, followB, show ¬ ("lift" : Str) = "press" by decide]
  | up k => unfold evD at ie; simp [fb_can_follow, evD, ie, dk, followB, show ¬ ("up" : Str) = "press" by decide, show ¬ ("up" : Str) = "lift" by decide]
  | down k => unfold evD at ie; simp [fb_can_follow, evD, ie, dk, followB, show ¬ ("down" : Str) = "press" by decide, show ¬ ("down" : Str) = "lift" by decide, show ¬ ("down" : Str) = "up" by decide]
structure Mach (v : Int) (ws : List Str) (e b : Str) : Prop where
  lo : 1 ≤ v
  hi : v ≤ 8
  cr : Crit ws e
  ret : RET_.contains b = true
theorem Mach.fault {v : Int} {ws : List Str} {e b : Str} (h : Mach v ws e b) (s : DS) : m_machine_fault [MD v (.tup (csOf ws e)) b] s = some (.ok .non, s) := by
  rw [mach s ⟨h.lo, h.hi⟩ (crit_good h.cr s) (.inl rfl) rfl, show inW (.str b) RET_ = true from h.ret]; rfl
theorem Mach.rb {v : Int} {ws : List Str} {e b : Str} (h : Mach v ws e b) : b ∈ RET_ := by simpa using h.ret
theorem Mach.fil {v : Int} {ws : List Str} {e b : Str} (h : Mach v ws e b) : ∀ x ∈ ws, x ∈ FIL := fun x hx => by simpa using h.cr.fil x hx
theorem Mach.len {v : Int} {ws : List Str} {e b : Str} (h : Mach v ws e b) : ws.length ≤ 1000 := by have := h.cr.len; omega
section
variable {v : Int} {ws : List Str} {e b : Str} {f : Bool} {r : List Pr} {ev : Ev}
theorem sound_good (M : Mach v ws e b) (V : Val v b f r) (hl : r.length ≤ 900) (s : DS) : m_sound [MD v (.tup (csOf ws e)) b, stD f r] s = some (.ok (sndD r), s) := by
  have ns := ns_ok (M.fault s) (sf_good (C := .tup (csOf ws e)) (s := s) V hl)
  have so := sound_of_ok (f := .bl f) (r := r) (by omega) s
  obtain ⟨M0, hM0⟩ : ∃ M, M = MD v (.tup (csOf ws e)) b := ⟨_, rfl⟩
  rw [← hM0] at ns ⊢
  refine run_v rfl ?_
  simp [-List.map_map, fb_sound, ns, so]
theorem need_event_ok (M : Mach v ws e b) (V : Val v b f r) (hl : r.length ≤ 900) (h : evKey ev) (hf : followB f r ev = true) (s : DS) : m_need_event [MD v (.tup (csOf ws e)) b, stD f r, evD ev] s = some (.ok .non, s) := by
  have ns := ns_ok (M.fault s) (sf_good (C := .tup (csOf ws e)) (s := s) V hl)
  have cf := can_follow_ok h (f := f) (r := r) (by omega) s
  rw [hf] at cf
  obtain ⟨M0, hM0⟩ : ∃ M, M = MD v (.tup (csOf ws e)) b := ⟨_, rfl⟩
  rw [← hM0] at ns ⊢
  refine run_v rfl ?_
  simp [fb_need_event, ns, cf]
theorem perf_good (M : Mach v ws e b) (V : Val v b f r) (hl : r.length ≤ 900) (ev : Ev) (s : DS) : m_perform [MD v (.tup (csOf ws e)) b, stD f r, evD ev] s = some (.ok (.tup [stD (stepL v ws e b (f, r) ev).1 (stepL v ws e b (f, r) ev).2, .tup (ddD (deedsL v ws e b (f, r) ev))]), s) := by
  have pf := perform_ok (e := e) M.rb (f := f) hl V.ok M.lo V.lo (by have := M.hi; omega) M.fil ev s
  obtain ⟨h1, h2⟩ := step_eq (ws := ws) (e := e) M.rb (f := f) V.nd V.lo V.wt ev
  rw [h1, h2] at pf
  exact pf
theorem step_good (M : Mach v ws e b) (V : Val v b f r) (hl : r.length ≤ 900) (h : evKey ev) (hf : followB f r ev = true) (s : DS) : m_step [MD v (.tup (csOf ws e)) b, stD f r, evD ev] s = some (.ok (stD (stepL v ws e b (f, r) ev).1 (stepL v ws e b (f, r) ev).2), s) := by
  have ne := need_event_ok M V hl h hf s
  have pf := perf_good M V hl ev s
  obtain ⟨M0, hM0⟩ : ∃ M, M = MD v (.tup (csOf ws e)) b := ⟨_, rfl⟩
  rw [← hM0] at ne pf ⊢
  refine run_v rfl ?_
  simp [fb_step, ne, pf]
theorem deeds_good (M : Mach v ws e b) (V : Val v b f r) (hl : r.length ≤ 900) (h : evKey ev) (hf : followB f r ev = true) (s : DS) : m_deeds [MD v (.tup (csOf ws e)) b, stD f r, evD ev] s = some (.ok (.tup (ddD (deedsL v ws e b (f, r) ev))), s) := by
  have ne := need_event_ok M V hl h hf s
  have pf := perf_good M V hl ev s
  obtain ⟨M0, hM0⟩ : ∃ M, M = MD v (.tup (csOf ws e)) b := ⟨_, rfl⟩
  rw [← hM0] at ne pf ⊢
  refine run_v rfl ?_
  simp [fb_deeds, ne, pf]
end
end S
namespace S
open PyProof.Rows PySem.Spec PySem L2 DE
/-! ### which keys are down behind a step -/
theorem downK_map {F : Pr → Pr} : ∀ {r : List Pr}, (∀ p ∈ r, (F p).1 = p.1 ∧ ((F p).2 = "kept" ↔ p.2 = "kept")) → downK (r.map F) = downK r
  | [], _ => rfl
  | p :: r, h => by
    have ih := downK_map (r := r) fun q hq => h q (List.mem_cons_of_mem _ hq)
    obtain ⟨h1, h2⟩ := h p List.mem_cons_self
    unfold downK keysOf at ih ⊢
    rw [List.map_cons]
    by_cases c : p.2 = "kept"
    · rw [List.filter_cons_of_neg (by simp [h2.mpr c]), List.filter_cons_of_neg (by simp [c])]; exact ih
    · have c' : ¬ (F p).2 = "kept" := fun z => c (h2.mp z)
      rw [List.filter_cons_of_pos (by simp [c']), List.filter_cons_of_pos (by simp [c]), List.map_cons, List.map_cons, h1, ih]
theorem downK_filter {P : Pr → Bool} {r : List Pr} (h : ∀ p ∈ r, p.2 ≠ "kept" → P p = true) : downK (r.filter P) = downK r := by
  unfold downK
  rw [List.filter_filter]
  congr 1
  refine List.filter_congr (fun p hp => ?_)
  by_cases c : p.2 = "kept"
  · simp [c]
  · rw [h p hp c]; simp
theorem downK_drop (r : List Pr) (k : Int) : downK (dropL r k) = (downK r).filter fun x => !decide (x = k) := by
  unfold downK dropL keysOf
  rw [List.filter_filter, List.filter_map, List.filter_filter]
  congr 1
  refine List.filter_congr (fun p hp => ?_)
  exact Bool.and_comm _ _
theorem downK_app (r q : List Pr) : downK (r ++ q) = downK r ++ downK q := by
  unfold downK
  rw [List.filter_append]
  exact List.map_append
theorem downK_mark {r : List Pr} {k : Int} {m : Str} (hm : m ≠ "kept") (h : ∀ p ∈ r, p.1 = k → p.2 ≠ "kept") : downK (markL r k m) = downK r := by
  refine downK_map fun p hp => ?_
  unfold markP
  by_cases c : p.1 = k
  · rw [if_pos c]; exact ⟨rfl, fun z => absurd z hm, fun z => absurd z (h p hp c)⟩
  · rw [if_neg c]; exact ⟨rfl, Iff.rfl⟩
theorem downK_markM {r : List Pr} {ks : List Int} {m : Str} (hm : m ≠ "kept") (h : ∀ p ∈ r, p.1 ∈ ks → p.2 ≠ "kept") : downK (markM r ks m) = downK r := by
  refine downK_map fun p hp => ?_
  unfold markQ
  by_cases c : ks.contains p.1 = true
  · rw [if_pos c]; exact ⟨rfl, fun z => absurd z hm, fun z => absurd z (h p hp (by simpa using c))⟩
  · rw [if_neg c]; exact ⟨rfl, Iff.rfl⟩
theorem pback_sub (b : Str) : ∀ (n : Nat) (w f : List Int), n ≤ w.length → b ∈ RET_ → b ≠ "none" → ∀ x ∈ pbackL b n w f, x ∈ w ∨ x ∈ f
  | 0, w, f, _, _, _, x, h => .inr h
  | n + 1, w, f, hn, hb, hb2, x, h => by
    unfold pbackL at h
    have hw : w ≠ [] := by rintro rfl; simp at hn
    obtain ⟨_, h2⟩ := back_head hb hb2 hw
    rcases pback_sub b n _ _ (by rw [List.length_erase_of_mem h2]; omega) hb hb2 x h with h | h
    · exact .inl (List.mem_of_mem_erase h)
    · rcases (List.mem_append.mp h) with h | h
      · exact .inr h
      · rw [List.mem_singleton.mp h]; exact .inl h2
theorem pbk_wait {v : Int} {b : Str} (hb : b ∈ RET_) {r : List Pr} {x : Int} (h : x ∈ pbk v b r) : x ∈ keysOf (r.filter waitP) := by
  unfold pbk at h
  split at h
  · cases h
  · rename_i hn
    rcases pback_sub b _ _ _ (by unfold manyB; rw [List.length_map]; exact Nat.min_le_right _ _) hb hn x h with h | h
    · exact h
    · cases h
theorem downK_prow {v : Int} {b : Str} (hb : b ∈ RET_) {r : List Pr} (nd : (keysOf r).Nodup) : downK (prow v b r) = downK r := by
  refine downK_markM (by decide) fun p hp hk => ?_
  obtain ⟨q, hq, e⟩ := mem_key (pbk_wait hb hk)
  obtain ⟨h1, h2⟩ := List.mem_filter.mp hq
  have := nd_uniq nd h1 hp e
  subst this
  intro z
  unfold waitP at h2
  rw [z] at h2
  exact absurd h2 (by decide)
def pedL (f : Bool) : Ev → Bool
  | .press => true
  | .lift => false
  | _ => f
theorem not_down {r : List Pr} (nd : (keysOf r).Nodup) {k : Int} (h : pr k "kept" ∈ r) : k ∉ downK r := fun z => by
  obtain ⟨q, hq, e⟩ := mem_key z
  obtain ⟨h1, h2⟩ := List.mem_filter.mp hq
  have := nd_uniq nd h1 h e
  rw [this] at h2
  exact absurd h2 (by simp)
theorem downK_cut {r : List Pr} (k : Int) : downK (markL (r.filter fun p => !decide (p = pr k "kept")) k "waits") = downK r := by
  rw [downK_mark (by decide) fun p hp hk z => ?_]
  · refine downK_filter fun p hp hk => ?_
    have : ¬ p = pr k "kept" := fun z => hk (by rw [z])
    simp [this]
  · have h2 := (List.mem_filter.mp hp).2
    have : p = pr k "kept" := Prod.ext hk z
    rw [this] at h2
    simp at h2
theorem held_eq {v : Int} {ws : List Str} {e b : Str} (hb : b ∈ RET_) {f : Bool} {r : List Pr} (nd : (keysOf r).Nodup) (hv : nL r ≤ v) (wt : waitsB v b r) (pd : f = false → ∀ p ∈ r, p.2 ≠ "kept") (ev : Ev) :
    downK (stepL v ws e b (f, r) ev).2 = heldL (downK r) ev ∧ (stepL v ws e b (f, r) ev).1 = pedL f ev := by
  rw [← (step_eq (ws := ws) (e := e) hb (f := f) nd hv wt ev).1]
  cases ev with
  | press => exact ⟨rfl, rfl⟩
  | lift =>
    refine ⟨?_, rfl⟩
    show downK (prow v b (unkept r)) = downK r
    rw [downK_prow hb (nd_sub List.filter_sublist nd)]
    exact downK_filter fun p hp hk => by simp [hk]
  | up k =>
    refine ⟨?_, rfl⟩
    show downK (pupL v b f r k) = (downK r).filter fun x => !decide (x = k)
    have h1 : downK (prow v b (dropL r k)) = (downK r).filter fun x => !decide (x = k) := by
      rw [downK_prow hb (nd_sub List.filter_sublist nd), downK_drop]
    unfold pupL
    split
    · exact h1
    split
    · unfold downK keysOf markM
      rw [List.filter_map, List.filter_map, List.map_map, List.filter_filter]
      have e1 : (r.filter ((fun p : Pr => !decide (p.2 = "kept")) ∘ markQ [k] "kept")) = r.filter fun p : Pr => (!decide (p.1 = k)) && !decide (p.2 = "kept") := by
        refine List.filter_congr (fun p hp => ?_)
        show (!decide ((markQ [k] "kept" p).2 = "kept")) = _
        unfold markQ
        by_cases c : p.1 = k
        · rw [if_pos (by simp [c])]; simp [c]
        · rw [if_neg (by simp [c])]; simp [c]
      rw [e1]
      have e2 : (r.filter fun p : Pr => ((fun x : Int => !decide (x = k)) ∘ fun x : Pr => x.1) p && !decide (p.2 = "kept")) = r.filter fun p : Pr => (!decide (p.1 = k)) && !decide (p.2 = "kept") := rfl
      rw [e2]
      refine List.map_congr_left fun p hp => ?_; show (markQ [k] "kept" p).1 = p.1
      unfold markQ
      split <;> rfl
    · exact h1
  | down k =>
    refine ⟨?_, rfl⟩
    show downK (pdownL v ws e r k) = downK r ++ [k]
    unfold pdownL
    split
    · rename_i c
      have mem : pr k "kept" ∈ r := by simpa using c
      rw [downK_app, downK_drop]
      have : (downK r).filter (fun x => !decide (x = k)) = downK r := List.filter_eq_self.mpr fun x hx => by
        have : ¬ x = k := fun z => not_down nd mem (z ▸ hx)
        simp [this]
      rw [this]; rfl
    split
    · rw [downK_app]; rfl
    · split
      · rw [downK_app]; rfl
      · rename_i j hj
        rw [downK_app, cut_rest nd j, downK_cut]; rfl
theorem held_down (r : List Pr) : Held r (downK r) := fun p hp hk => key_mem (List.mem_filter.mpr ⟨hp, by simp [hk]⟩)
theorem step_inv {v : Int} {ws : List Str} {e b : Str} {f : Bool} {r : List Pr} {ev : Ev} (M : Mach v ws e b) (V : Val v b f r) (h : evKey ev) (hf : followB f r ev = true) :
    Val v b (stepL v ws e b (f, r) ev).1 (stepL v ws e b (f, r) ev).2 ∧ downK (stepL v ws e b (f, r) ev).2 = heldL (downK r) ev ∧ (stepL v ws e b (f, r) ev).1 = pedL f ev ∧ (stepL v ws e b (f, r) ev).2.length ≤ r.length + 1 := by
  have eo : evOk (downK r) ev := by
    cases ev with
    | down k =>
      refine ⟨⟨h, trivial⟩, fun z => ?_⟩
      unfold followB at hf
      simp [z] at hf
    | _ => trivial
  obtain ⟨a, _, c⟩ := step_val (ws := ws) (e := e) M.rb M.lo V (held_down r) eo
  obtain ⟨d1, d2⟩ := held_eq (ws := ws) (e := e) M.rb V.nd V.lo V.wt V.pd ev
  exact ⟨a, d1, d2, c⟩
end S
namespace S
open PyProof.Rows PySem.Spec PySem L2 DE
/-! ### drawn plays -/
def folF (p : Bool) (hs : List Int) : Ev → Prop
  | .press => p = false
  | .lift => p = true
  | .up k => k ∈ hs
  | .down k => k ∉ hs
def evsF : Bool → List Int → List Ev → Prop
  | _, _, [] => True
  | p, hs, e :: es => (evKey e ∧ folF p hs e) ∧ evsF (pedL p e) (heldL hs e) es
def pedS (p : Bool) (es : List Ev) : Bool := es.foldl pedL p
def heldS (hs : List Int) (es : List Ev) : List Int := es.foldl heldL hs
theorem evsF_snoc : ∀ {es : List Ev} {p : Bool} {hs : List Int} {e : Ev}, evsF p hs es → evKey e → folF (pedS p es) (heldS hs es) e → evsF p hs (es ++ [e])
  | [], p, hs, e, _, h1, h2 => ⟨⟨h1, h2⟩, trivial⟩
  | a :: es, p, hs, e, h, h1, h2 => ⟨h.1, evsF_snoc (es := es) h.2 h1 h2⟩
theorem pedS_snoc (p : Bool) (es : List Ev) (e : Ev) : pedS p (es ++ [e]) = pedL (pedS p es) e := by unfold pedS; rw [List.foldl_append]; rfl
theorem heldS_snoc (hs : List Int) (es : List Ev) (e : Ev) : heldS hs (es ++ [e]) = heldL (heldS hs es) e := by unfold heldS; rw [List.foldl_append]; rfl
theorem fol_is {f : Bool} {r : List Pr} {ev : Ev} (h : folF f (downK r) ev) : followB f r ev = true := by
  cases ev with
  | press => unfold folF at h; subst h; rfl
  | lift => exact h
  | up k => have h : k ∈ downK r := h; unfold followB; simpa using h
  | down k => have h : k ∉ downK r := h; unfold followB; simpa using h
abbrev qS2 (cs : List Int) (n : Int) (fo : Bool) (x4 : Sl) (pr : Bool) (evs : List Ev) (t x8 : Sl) : List Sl := [.dat .m, .dat (.lst (cs.map .int)), .dat (.int n), .dat (.bl fo), x4, .dat (.bl pr), .own (evs.map evD), t, x8, .no]
theorem pIn_n (neg : Bool) (x : Int) (xs : List Int) (g : Sg) : pIn neg (.int x) (.lst (xs.map .int)) g = some (.ok (.bl (if neg then !xs.contains x else xs.contains x)), g) := pIn_ints neg x xs g
theorem playF_turn {cs : List Int} (hc : ∀ c ∈ cs, 0 ≤ c ∧ c ≤ 87) (h1 : 1 ≤ cs.length) (h2 : cs.length ≤ 100) {n : Int} {fo : Bool} {x4 : Sl} {hs : List Int} (hx : DownIs x4 hs) {p : Bool} {evs : List Ev} {t x8 : Sl} {k : Nat} {s : DS} (hl : hs.length ≤ 1000) (he : evs.length ≤ 1000) (g : Good (k + 2) s) :
    ∃ x4' x8' ev s', pB ⟨qS2 cs n fo x4 p evs t x8, s⟩ = some (.nx, ⟨qS2 cs n fo x4' (pedL p ev) (evs ++ [ev]) t x8', s'⟩) ∧ evKey ev ∧ folF p hs ev ∧ (fo = false → ev ≠ .press ∧ ev ≠ .lift) ∧ DownIs x4' (heldL hs ev) ∧ (heldL hs ev).length ≤ hs.length + 1 ∧ Good k s' := by
  have he' : evs.length < 100000 := by omega
  have hl' : hs.length ≤ 100000 := by omega
  have hl2 : hs.length + 1 ≤ 100000 := by omega
  -- a key is drawn
  have key : ∀ s1, Good (k + 1) s1 → ∃ c s2, c ∈ cs ∧ m__law_of [.m, .lst (cs.map .int)] s1 = some (.ok (.int c), s2) ∧ Good k s2 := fun s1 g1 => by
    obtain ⟨d, s2, d2, m2, g2⟩ := of_ok (xs := cs.map D.int) (k := k) (by rw [List.length_map]; exact h1) (by rw [List.length_map]; omega) g1
    obtain ⟨c, mc, rfl⟩ := List.mem_map.mp m2
    exact ⟨c, s2, mc, d2, g2⟩
  have rest : ∀ s1, Good (k + 1) s1 → ∃ x4' x8' ev s', (fSeq (fSet 8 (fCallN 2 m__law_of (fCons (fName 0) (fCons (fName 1) (rt [])))))
      (fIf (fT (f2 (pIn false) (fName 8) (fName 4))) (fSeq (fSetO 4 (fComp [9] (fName 4) (gN 9) (fT (f2 pNe (fName 9) (fName 8))) (fName 9)))
      (fExp (fApp 6 (fTup (fCons (rt (.str "up")) (fCons (fName 8) (rt []))))))) (fSeq (fSet 4 (fLet (fCat (fName 4) (fLet (fLst (fCons (fName 8) (rt [])))))))
      (fExp (fApp 6 (fTup (fCons (rt (.str "down")) (fCons (fName 8) (rt []))))))))) ⟨qS2 cs n fo x4 p evs t x8, s1⟩ = some (.nx, ⟨qS2 cs n fo x4' (pedL p ev) (evs ++ [ev]) t x8', s'⟩) ∧ evKey ev ∧ folF p hs ev ∧ (ev ≠ .press ∧ ev ≠ .lift) ∧ DownIs x4' (heldL hs ev) ∧ (heldL hs ev).length ≤ hs.length + 1 ∧ Good k s' := fun s1 g1 => by
    obtain ⟨c, s2, mc, d2, g2⟩ := key s1 g1
    have cc := comp_gen (E := D.int) (F := D.int) (P := fun x => !decide (x = c)) (j := 9) (S := [.dat .m, .dat (.lst (cs.map .int)), .dat (.int n), .dat (.bl fo), .dat (.lst (hs.map .int)), .dat (.bl p), .own (evs.map evD), t, .dat (.int c), .no]) (s := s2) (c := fT (f2 pNe (fName 9) (fName 8))) (e := fName 9) hs (fun _ => rfl) (fun p _ => by simp) (fun p _ _ => by simp)
    by_cases hm : hs.contains c = true
    · refine ⟨.own ((hs.filter fun x => !decide (x = c)).map .int), .dat (.int c), .up c, s2, ?_, hc c mc, (by show c ∈ hs; simpa using hm), ⟨by simp, by simp⟩, ⟨.inr rfl⟩, Nat.le_succ_of_le (List.length_filter_le _ _), g2⟩
      have hm' : c ∈ hs := by simpa using hm
      rcases hx.is with rfl | rfl
      · simp [-List.map_map, d2, hm', hl', cc, he', pedL, evD]
      · simp [-List.map_map, d2, hm', hl', cc, he', pedL, evD]
    · refine ⟨.dat (.lst ((hs ++ [c]).map .int)), .dat (.int c), .down c, s2, ?_, hc c mc, (by show c ∉ hs; simpa using hm), ⟨by simp, by simp⟩, ⟨.inl rfl⟩, by show (hs ++ [c]).length ≤ _; simp, g2⟩
      have hm' : ¬ c ∈ hs := by simpa using hm
      rcases hx.is with rfl | rfl
      · simp [-List.map_map, d2, hm', hl2, he', pedL, evD]
      · simp [-List.map_map, d2, hm', hl2, he', pedL, evD]
  cases fo with
  | false =>
    obtain ⟨x4', x8', ev, s', e, a1, a2, a3, a4, a5, a6⟩ := rest s (g.mono (by omega))
    refine ⟨x4', x8', ev, s', ?_, a1, a2, fun _ => a3, a4, a5, a6⟩
    simp only [if_v, and_v, fT_v, name_v, List.getElem?_cons_succ, List.getElem?_cons_zero, nameO_d, bdO_k, aB_v, rt_v, Bool.false_eq_true, if_false, ifO_f]
    exact e
  | true =>
    obtain ⟨r, s1, d1, lo, hi, g1⟩ := draw_ok (n := 5) (k := k + 1) (by decide) (by decide) g
    by_cases z : r = 0
    · subst z
      refine ⟨x4, x8, if p = true then .lift else .press, s1, ?_, by split <;> trivial, ?_, fun z => (by cases z), by split <;> exact hx, by split <;> exact Nat.le_succ _, g1.mono (by omega)⟩
      · cases p <;> simp [-List.map_map, d1, he', pedL, evD]
      · cases p <;> rfl
    · obtain ⟨x4', x8', ev, s', e, a1, a2, a3, a4, a5, a6⟩ := rest s1 g1
      refine ⟨x4', x8', ev, s', ?_, a1, a2, fun _ => a3, a4, a5, a6⟩
      have t1 : fAnd (fT (fName 3)) (fT (f2 pEq (fCallN 2 m__law_draw (fCons (fName 0) (fCons (rt (.int 5)) (rt [])))) (rt (.int 0)))) ⟨qS2 cs n true x4 p evs t x8, s⟩ = some (.ok false, ⟨qS2 cs n true x4 p evs t x8, s1⟩) := by
        simp [d1, z]
      exact (if_f t1).trans e
theorem playF_loop {cs : List Int} (hc : ∀ c ∈ cs, 0 ≤ c ∧ c ≤ 87) (h1 : 1 ≤ cs.length) (h2 : cs.length ≤ 100) {n : Int} {fo : Bool} : ∀ (is : List D) (k : Nat) (x4 : Sl) (hs : List Int) (p : Bool) (evs : List Ev) (t x8 : Sl) (s : DS), DownIs x4 hs → hs.length + is.length ≤ 1000 → evs.length + is.length ≤ 1000 →
    evsF false [] evs → heldS [] evs = hs → pedS false evs = p → (fo = false → ∀ ev ∈ evs, ev ≠ .press ∧ ev ≠ .lift) → Good (k + 2 * is.length) s →
    ∃ S' evs' s', loop (gN 7) pB is ⟨qS2 cs n fo x4 p evs t x8, s⟩ = some (.nx, ⟨S', s'⟩) ∧ S'[6]? = some (.own (evs'.map evD)) ∧ evsF false [] evs' ∧ (fo = false → ∀ ev ∈ evs', ev ≠ .press ∧ ev ≠ .lift) ∧ evs'.length = evs.length + is.length ∧ Good k s'
  | [], k, x4, hs, p, evs, t, x8, s, _, _, _, ok, _, _, nf, g => ⟨_, evs, s, rfl, rfl, ok, nf, rfl, g⟩
  | d :: is, k, x4, hs, p, evs, t, x8, s, hx, hl, he, ok, fo1, fo2, nf, g => by
    simp only [List.length_cons] at hl he
    obtain ⟨x4', x8', ev, s', e1, b1, b2, b3, hx', l', g'⟩ := playF_turn (k := k + 2 * is.length) (n := n) (fo := fo) hc h1 h2 hx (p := p) (evs := evs) (t := .dat d) (x8 := x8) (by omega) (by omega) (g.mono (by simp; omega))
    obtain ⟨S', evs', s2, e2, e3, e4, e5, e6, e7⟩ := playF_loop hc h1 h2 is k x4' (heldL hs ev) (pedL p ev) (evs ++ [ev]) (.dat d) x8' s' hx' (by omega) (by simp; omega) (evsF_snoc ok b1 (by rw [fo1, fo2]; exact b2)) (by rw [heldS_snoc, fo1]) (by rw [pedS_snoc, fo2]) (fun z e h => by
      rcases (List.mem_append.mp h) with h | h
      · exact nf z e h
      · rw [List.mem_singleton.mp h]; exact b3 z) g'
    exact ⟨S', evs', s2, (loop_cons (g1 := ⟨qS2 cs n fo x4 p evs (.dat d) x8, s⟩) rfl e1).trans e2, e3, e4, e5, by rw [e6]; simp; omega, e7⟩
theorem playF_ok {cs : List Int} (hc : ∀ c ∈ cs, 0 ≤ c ∧ c ≤ 87) (h1 : 1 ≤ cs.length) (h2 : cs.length ≤ 100) {n : Nat} (hn : n ≤ 400) (fo : Bool) {k : Nat} {s : DS} (g : Good (k + 2 * n) s) :
    ∃ evs s', m__law_play [.m, .lst (cs.map .int), .int (n : Int), .bl fo] s = some (.ok (.tup (evs.map evD)), s') ∧ evsF false [] evs ∧ (fo = false → ∀ ev ∈ evs, ev ≠ .press ∧ ev ≠ .lift) ∧ evs.length = n ∧ Good k s' := by
  obtain ⟨S', evs, s', e1, e2, e3, e4, e5, e6⟩ := playF_loop (n := (n : Int)) (fo := fo) hc h1 h2 (intsD (n : Int)) k (.dat (.lst [])) [] false [] .no .no s ⟨.inl rfl⟩ (by rw [intsD_length]; simp; omega) (by rw [intsD_length]; simp; omega) trivial rfl rfl (fun _ e h => by cases h) (by rw [intsD_length]; exact g)
  refine ⟨evs, s', runB_ret (r := S') rfl ?_, e3, e4, by rw [e5, intsD_length]; simp, e6⟩
  unfold fb__law_play
  refine (seq_nx (g1 := ⟨qS2 cs (n : Int) fo (.dat (.lst [])) false [] .no .no, s⟩) rfl).trans ((seq_nx ((forR_ok (n := (n : Int)) (g1 := ⟨qS2 cs (n : Int) fo (.dat (.lst [])) false [] .no .no, s⟩) (cons_ok (name_ok rfl) rfl) (by omega)).trans e1)).trans (ret_ok (tupOf_ok (peek_o e2))))
end S
namespace S
open PyProof.Rows PySem.Spec PySem L2 DE
/-! ### states, deeds and sounds are shown -/
@[simp] theorem repr_v (f : Mo D) (g : Sg) : fRepr f g = bdO (f g) aRepr := by unfold fRepr; rw [bd_v]
theorem repr_of {d : D} {p : PyData} (h : pyd d = some p) (s : showB p = true) : aRepr d = rt (.str p.shown) := by
  unfold aRepr; rw [h]; dsimp only; rw [if_pos s]
theorem show_bulk {p : PyData} {n : Nat} (lv : p.leavesShort 8 = true) (bk : p.bulk ≤ 9000) (sw : p.showable = true) (dp : p.depth ≤ 50) (nd : p.hasDict = false) : showB p = true := by
  have sz := PyData.shown_le_bulk 8 (by decide) _ lv
  unfold showB
  simp only [Bool.and_eq_true, decide_eq_true_eq, Bool.not_eq_true']
  exact ⟨sw, dp, by omega, nd⟩
theorem show_st {f : Bool} {r : List Pr} (ok : okR r) (hk : ∀ p ∈ r, 0 ≤ p.1 ∧ p.1 ≤ 87) (hl : r.length ≤ 400) : showB (PS f r) = true := by
  obtain ⟨f1, f2, f3, f4, f5⟩ := row_facts r ok hk
  refine show_bulk (n := 0) ?_ ?_ ?_ ?_ ?_
  · simp only [PyData.leavesShort, PyData.leavesShortAll, f4, Bool.and_true, Bool.true_and]
  · simp only [PyData.bulk, PyData.bulkAll]; omega
  · simp only [PyData.showable, PyData.showableAll, f1, Bool.and_true]
  · simp only [PyData.depth, PyData.depthAll]; omega
  · simp only [PyData.hasDict, PyData.hasDictAll, f3]; rfl
def DWS : List Str := ["again", "begin", "refuse", "cut", "leave", "keep", "end", "back"]
def okD (l : List (Str × Int)) : Prop := ∀ p ∈ l, p.1 ∈ DWS ∧ 0 ≤ p.2 ∧ p.2 ≤ 87
def ddP (p : Str × Int) : PyData := .tuple [.str p.1, .int p.2]
theorem dws_short : ∀ w ∈ DWS, shortW w = true := by decide
theorem dws_ok : ∀ m ∈ DWS, PyData.canLay0 (.str m) = true := by
  unfold DWS
  exact fun m hm => by
    simp only [List.mem_cons, List.not_mem_nil, or_false] at hm; rcases hm with rfl | rfl | rfl | rfl | rfl | rfl | rfl | rfl <;> kernel_rfl
theorem pyd_dd : ∀ l : List (Str × Int), pydA (ddD l) = some (l.map ddP)
  | [] => rfl
  | p :: l => by
    show pydA (D.tup [.str p.1, .int p.2] :: ddD l) = _
    unfold pydA
    rw [show pyd (D.tup [.str p.1, .int p.2]) = some (ddP p) from rfl, pyd_dd l]; rfl
theorem dd_facts : ∀ l : List (Str × Int), okD l → PyData.showableAll (l.map ddP) = true ∧ PyData.depthAll (l.map ddP) ≤ 1 ∧ PyData.hasDictAll (l.map ddP) = false ∧ PyData.leavesShortAll 8 (l.map ddP) = true ∧ PyData.bulkAll (l.map ddP) ≤ 20 * l.length
  | [], _ => by simp [PyData.showableAll, PyData.depthAll, PyData.hasDictAll, PyData.leavesShortAll, PyData.bulkAll]
  | p :: l, ok => by
    obtain ⟨h1, h2, h3, h4, h5⟩ := dd_facts l fun q hq => ok q (List.mem_cons_of_mem _ hq)
    obtain ⟨k1, k2, k3⟩ := ok p List.mem_cons_self
    have hw := dws_short p.1 k1
    unfold shortW at hw
    rw [Bool.and_eq_true, decide_eq_true_eq] at hw
    obtain ⟨i1, i2⟩ := short_key p.2 k2 k3
    refine ⟨?_, ?_, ?_, ?_, ?_⟩
    · simp only [List.map_cons, ddP, PyData.showableAll, PyData.showable, h1, Bool.and_true, Bool.true_and, decide_eq_true_eq]; exact i2
    · simp only [List.map_cons, ddP, PyData.depthAll, PyData.depth]; omega
    · simp only [List.map_cons, ddP, PyData.hasDictAll, PyData.hasDict, h3]; rfl
    · simp only [List.map_cons, ddP, PyData.leavesShortAll, PyData.leavesShort, h4, Bool.and_true, Bool.and_eq_true, decide_eq_true_eq]; exact ⟨hw.1, i1⟩
    · simp only [List.map_cons, ddP, PyData.bulkAll, PyData.bulk, List.length_cons]; have := hw.2; omega
theorem pyd_D (l : List (Str × Int)) : pyd (.tup (ddD l)) = some (.tuple (l.map ddP)) := by
  unfold pyd; rw [pyd_dd]; rfl
theorem show_dd {l : List (Str × Int)} (ok : okD l) (hl : l.length ≤ 400) : showB (.tuple (l.map ddP)) = true := by
  obtain ⟨f1, f2, f3, f4, f5⟩ := dd_facts l ok
  refine show_bulk (n := 0) ?_ ?_ ?_ ?_ ?_
  · simp only [PyData.leavesShort, f4]
  · simp only [PyData.bulk]; omega
  · simp only [PyData.showable, f1]
  · simp only [PyData.depth]; omega
  · simp only [PyData.hasDict, f3]
theorem backB_is {v : Int} {b : Str} (hb : b ∈ RET_) {r : List Pr} (nd : (keysOf r).Nodup) (hv : nL r ≤ v) (gone : List Int) : backB v b r gone = pbk v b (lessL r gone) := by
  have h := fill_eq hb (lessL r gone).length (lessL r gone) [] (List.length_filter_le _ _) (nd_sub List.filter_sublist nd) (Int.le_trans (nL_sub List.filter_sublist) hv)
  unfold backB
  rw [h]; rfl
theorem pbk_len {v : Int} {b : Str} {r : List Pr} : (pbk v b r).length ≤ r.length := by
  unfold pbk
  split
  · exact Nat.zero_le _
  · rw [pback_len]
    have h1 : manyB v r ≤ (r.filter waitP).length := Nat.min_le_right _ _
    have h2 := List.length_filter_le waitP r
    simp; omega
theorem deeds_ok {v : Int} {ws : List Str} {e b : Str} {f : Bool} {r : List Pr} {ev : Ev} (M : Mach v ws e b) (V : Val v b f r) (h : evKey ev) : okD (deedsL v ws e b (f, r) ev) ∧ (deedsL v ws e b (f, r) ev).length ≤ 2 * r.length + 2 := by
  have kr : ∀ k ∈ keysOf r, 0 ≤ k ∧ k ≤ 87 := fun k hk => by
    obtain ⟨p, hp, rfl⟩ := mem_key hk
    exact (V.key p hp).1
  have back : ∀ gone, (∀ k ∈ gone, 0 ≤ k ∧ k ≤ 87) → gone.length ≤ r.length + 1 → okD (endB gone (backB v b r gone)) ∧ (endB gone (backB v b r gone)).length ≤ 2 * r.length + 2 := fun gone hg hl => by
    rw [backB_is M.rb V.nd V.lo]
    refine ⟨fun p hp => ?_, ?_⟩
    · rcases (List.mem_append.mp hp) with hp | hp
      · obtain ⟨x, hx, rfl⟩ := List.mem_map.mp hp
        exact ⟨(by decide : ("end" : Str) ∈ DWS), hg x hx⟩
      · obtain ⟨x, hx, rfl⟩ := List.mem_map.mp hp
        refine ⟨(by decide : ("back" : Str) ∈ DWS), kr x ?_⟩
        obtain ⟨q, hq, rfl⟩ := mem_key (pbk_wait M.rb hx)
        exact key_mem (List.mem_filter.mp (List.mem_filter.mp hq).1).1
    · rw [List.length_append, List.length_map, List.length_map]
      have := pbk_len (v := v) (b := b) (r := lessL r gone)
      have := List.length_filter_le (fun p : Pr => !gone.contains p.1) r
      have e : (lessL r gone).length ≤ r.length := this
      omega
  cases ev with
  | press => exact ⟨fun p hp => (by cases hp), Nat.zero_le _⟩
  | down k =>
    have hk : 0 ≤ k ∧ k ≤ 87 := h
    show okD (downD v ws e r k) ∧ (downD v ws e r k).length ≤ _
    unfold downD
    split
    · exact ⟨fun p hp => by rw [List.mem_singleton.mp hp]; exact ⟨(by decide : ("again" : Str) ∈ DWS), hk⟩, by simp⟩
    split
    · exact ⟨fun p hp => by rw [List.mem_singleton.mp hp]; exact ⟨(by decide : ("begin" : Str) ∈ DWS), hk⟩, by simp⟩
    split
    · exact ⟨fun p hp => by rw [List.mem_singleton.mp hp]; exact ⟨(by decide : ("refuse" : Str) ∈ DWS), hk⟩, by simp⟩
    · rename_i j T hT
      obtain ⟨p, hp, e1, _⟩ := taken_is M.lo hT
      refine ⟨fun q hq => ?_, by simp⟩; rcases List.mem_cons.mp hq with rfl | hq
      · exact ⟨(by decide : ("cut" : Str) ∈ DWS), kr j (e1 ▸ key_mem hp)⟩
      · rw [List.mem_singleton.mp hq]; exact ⟨(by decide : ("begin" : Str) ∈ DWS), hk⟩
  | lift =>
    refine back (keysOf (r.filter keptP)) (fun k hk => ?_) (by rw [List.length_map]; exact Nat.le_succ_of_le (List.length_filter_le _ _))
    obtain ⟨p, hp, rfl⟩ := mem_key hk
    exact kr _ (key_mem (List.mem_filter.mp hp).1)
  | up k =>
    have hk : 0 ≤ k ∧ k ≤ 87 := h
    show okD (if r.contains (pr k "waits") = true then [(("leave" : Str), k)] else if f = true then [(("keep" : Str), k)] else endB [k] (backB v b r [k])) ∧ (if r.contains (pr k "waits") = true then [(("leave" : Str), k)] else if f = true then [(("keep" : Str), k)] else endB [k] (backB v b r [k])).length ≤ _
    split
    · exact ⟨fun p hp => by rw [List.mem_singleton.mp hp]; exact ⟨(by decide : ("leave" : Str) ∈ DWS), hk⟩, by simp⟩
    split
    · exact ⟨fun p hp => by rw [List.mem_singleton.mp hp]; exact ⟨(by decide : ("keep" : Str) ∈ DWS), hk⟩, by simp⟩
    · exact back [k] (fun x hx => by rw [List.mem_singleton.mp hx]; exact hk) (by simp)
theorem repr_st {f : Bool} {r : List Pr} (ok : okR r) (hk : ∀ p ∈ r, 0 ≤ p.1 ∧ p.1 ≤ 87) (hl : r.length ≤ 400) : aRepr (stD f r) = rt (.str (PS f r).shown) := repr_of (pyd_S f r) (show_st ok hk hl)
theorem repr_dd {l : List (Str × Int)} (ok : okD l) (hl : l.length ≤ 400) : aRepr (.tup (ddD l)) = rt (.str (PyData.tuple (l.map ddP)).shown) := repr_of (pyd_D l) (show_dd ok hl)
theorem show_sn {r : List Pr} (hk : ∀ p ∈ r, 0 ≤ p.1 ∧ p.1 ≤ 87) (hl : r.length ≤ 400) : showB (.tuple ((sortI (keysOf (r.filter loudP))).map .int)) = true := by
  have pm := sortI_perm (keysOf (r.filter loudP))
  obtain ⟨xs, hxs⟩ : ∃ xs, xs = sortI (keysOf (r.filter loudP)) := ⟨_, rfl⟩
  rw [← hxs] at pm ⊢
  have len : xs.length ≤ 400 := by
    rw [pm.length_eq, List.length_map]
    exact Nat.le_trans (List.length_filter_le _ _) hl
  obtain ⟨f1, f2, f3, f4, f5⟩ := ints_facts xs fun x hx => by
    obtain ⟨p, hp, rfl⟩ := mem_key (pm.mem_iff.mp hx)
    exact hk p (List.mem_filter.mp hp).1
  refine show_bulk (n := 0) ?_ ?_ ?_ ?_ ?_
  · simp only [PyData.leavesShort, f4]
  · simp only [PyData.bulk]; omega
  · simp only [PyData.showable, f1]
  · simp only [PyData.depth, f2]; decide
  · simp only [PyData.hasDict, f3]
theorem repr_sn {r : List Pr} (hk : ∀ p ∈ r, 0 ≤ p.1 ∧ p.1 ≤ 87) (hl : r.length ≤ 400) : aRepr (sndD r) = rt (.str (PyData.tuple ((sortI (keysOf (r.filter loudP))).map .int)).shown) := repr_of (pyd_snd r) (show_sn hk hl)
end S
namespace S
open PyProof.Rows PySem.Spec PySem L2 DE
/-! ### states by their form: their steps told -/
theorem comp_frz {α : Type} {E F : α → D} {j : Nat} {S0 S1 : List Sl} {s : DS} {e : Mo D} (x : α) (l : List α) (hb : ∀ x : α, (S1.set j (.dat (E x))).set j .no = S1)
    (h0 : e ⟨S0.set j (.dat (E x)), s⟩ = some (.ok (F x), ⟨S1.set j (.dat (E x)), s⟩)) (he : ∀ y ∈ l, e ⟨S1.set j (.dat (E y)), s⟩ = some (.ok (F y), ⟨S1.set j (.dat (E y)), s⟩)) : compL [j] (gN j) (rt true) e ((x :: l).map E) ⟨S0, s⟩ = some ((x :: l).map F, ⟨S1, s⟩) := by
  have c := comp_gen (E := E) (F := F) (P := fun _ => true) (j := j) (S := S1) (s := s) (c := rt true) (e := e) l hb (fun _ _ => rfl) (fun y hy _ => he y hy)
  rw [List.filter_eq_self.mpr fun _ _ => rfl] at c
  rw [List.map_cons]
  unfold compL
  rw [show gN j (E x) ⟨S0, s⟩ = some ⟨S0.set j (.dat (E x)), s⟩ from rfl]
  dsimp only
  rw [show rt true ⟨S0.set j (.dat (E x)), s⟩ = some (.ok true, ⟨S0.set j (.dat (E x)), s⟩) from rfl]
  dsimp only
  rw [h0]
  dsimp only
  rw [show wipeR (S1.set j (.dat (E x))) [j] = S1 from hb x, c]; rfl
theorem law_step {v : Int} {ws : List Str} {e b : Str} {f : Bool} {r : List Pr} (M : Mach v ws e b) (V : Val v b f r) (hl : r.length ≤ 900) (ev : Ev) (s : DS) : m__law_stepped [MD v (.tup (csOf ws e)) b, stD f r, evD ev] s = some (.ok (.tup [stD (stepL v ws e b (f, r) ev).1 (stepL v ws e b (f, r) ev).2, .tup (ddD (deedsL v ws e b (f, r) ev))]), s) :=
  step_ok (e := e) M.rb hl V.ok M.lo M.fil M.len ev s
abbrev frB : Ms := (fSeq (fAsg (fCallN 3 m__law_stepped (fCons (fName 1) (fCons (fName 3) (fCons (fName 8) (rt []))))) (gT 2 (gsCons (gN 9) (gsCons (gN 10) gsNil))))
  (fIf (fOr (fT (f2 pNe (fRepr (fCallN 3 m_step (fCons (fName 1) (fCons (fName 3) (fCons (fName 8) (rt [])))))) (fRepr (fName 9)))) (fT (f2 pNe (fRepr (fCallN 3 m_deeds (fCons (fName 1) (fCons (fName 3) (fCons (fName 8) (rt [])))))) (fRepr (fName 10))))) (fRet (rt (.bl false))) (sOut .nx)))
abbrev frS (M cs st : D) (x5 x7 x8 x9 x10 : Sl) : List Sl := [.dat .m, .dat M, .dat cs, .dat st, .no, x5, .no, x7, x8, x9, x10]
theorem fr_turn {v : Int} {ws : List Str} {e b : Str} {f : Bool} {r : List Pr} {ev : Ev} (M : Mach v ws e b) (V : Val v b f r) (hl : r.length ≤ 100) (h : evKey ev) (hf : followB f r ev = true) (cs : D) (x5 x7 x9 x10 : Sl) (s : DS) :
    frB ⟨frS (MD v (.tup (csOf ws e)) b) cs (stD f r) x5 x7 (.dat (evD ev)) x9 x10, s⟩ = some (.nx, ⟨frS (MD v (.tup (csOf ws e)) b) cs (stD f r) x5 x7 (.dat (evD ev)) (.dat (stD (stepL v ws e b (f, r) ev).1 (stepL v ws e b (f, r) ev).2)) (.dat (.tup (ddD (deedsL v ws e b (f, r) ev)))), s⟩) := by
  have sg := step_good M V (by omega) h hf s
  have dg := deeds_good M V (by omega) h hf s
  have lg := law_step M V (by omega) ev s
  obtain ⟨V', _, _, l'⟩ := step_inv M V h hf
  have rs := repr_st (f := (stepL v ws e b (f, r) ev).1) V'.ok (fun p hp => (V'.key p hp).1) (by omega)
  obtain ⟨d1, d2⟩ := deeds_ok (f := f) M V h
  have rd := repr_dd d1 (by omega)
  obtain ⟨M0, hM0⟩ : ∃ M, M = MD v (.tup (csOf ws e)) b := ⟨_, rfl⟩
  obtain ⟨D1, hD1⟩ : ∃ D, D = stD (stepL v ws e b (f, r) ev).1 (stepL v ws e b (f, r) ev).2 := ⟨_, rfl⟩
  obtain ⟨D2, hD2⟩ : ∃ D2, D2 = D.tup (ddD (deedsL v ws e b (f, r) ev)) := ⟨_, rfl⟩
  rw [← hM0] at sg dg lg ⊢
  rw [← hD1] at sg lg rs ⊢
  rw [← hD2] at dg lg rd ⊢
  simp [sg, dg, lg, rs, rd]
def evFor (r : List Pr) (k : Int) : Ev := if (downK r).contains k = true then .up k else .down k
theorem evFor_ok (f : Bool) (r : List Pr) {k : Int} (h : 0 ≤ k ∧ k ≤ 87) : evKey (evFor r k) ∧ followB f r (evFor r k) = true := by
  unfold evFor
  by_cases c : (downK r).contains k = true
  · rw [if_pos c]; exact ⟨h, c⟩
  · rw [if_neg c]; exact ⟨h, by show (!(downK r).contains k) = true; rw [Bool.eq_false_iff.mpr c]; rfl⟩
theorem free_right_ok {v : Int} {ws : List Str} {e b : Str} (M : Mach v ws e b) {cs : List Int} (hk : ∀ c ∈ cs, 0 ≤ c ∧ c ≤ 87) (hne : cs ≠ []) (nd : cs.Nodup) (hc : cs.length ≤ 90) {k : Nat} {s : DS} (g : Good (k + 2 + 2 * cs.length) s) :
    ∃ s', m__law_free_right [.m, MD v (.tup (csOf ws e)) b, .lst (cs.map .int)] s = some (.ok (.bl true), s') ∧ Good k s' := by
  obtain ⟨f, r, s1, e1, V, lr, g1⟩ := free_ok (C := .tup (csOf ws e)) M.rb M.lo (fun c hc => ⟨hk c hc, trivial⟩) nd (by omega) g
  refine ⟨s1, run_v rfl ?_, g1⟩
  have tn := fun (ev : Ev) (h : evKey ev) (hf : followB f r ev = true) (x5 x7 x9 x10 : Sl) => fr_turn M V (by omega) h hf (.lst (cs.map .int)) x5 x7 x9 x10 s1
  obtain ⟨M0, hM0⟩ : ∃ M, M = MD v (.tup (csOf ws e)) b := ⟨_, rfl⟩
  replace e1 : m__law_free [.m, M0, .lst (cs.map .int)] s = some (.ok (stD f r), s1) := by rw [hM0]; exact e1
  rw [← hM0] at tn ⊢
  have hl' : r.length ≤ 100000 := by omega
  have hcl : cs.length ≤ 100000 := by omega
  have hcl2 : cs.length + 1 ≤ 100000 := by omega
  have c5 := comp_gen (E := prD) (F := fun p => D.int p.1) (P := fun p : Pr => !decide (p.2 = "kept")) (j := 4) (S := frS M0 (.lst (cs.map .int)) (stD f r) .no .no .no .no .no) (s := s1) (c := fT (f2 pNe (fIxD (fName 4) (rt (.int 1))) (rt (.str "kept")))) (e := fIxD (fName 4) (rt (.int 0))) r (fun _ => rfl) (fun p _ => by simp) (fun p _ _ => by simp)
  rw [show (r.filter fun p : Pr => !decide (p.2 = "kept")).map (fun p : Pr => D.int p.1) = (downK r).map D.int by unfold downK; simp] at c5
  obtain ⟨c, cs', hcs⟩ : ∃ c cs', cs = c :: cs' := by cases cs with
    | nil => exact absurd rfl hne
    | cons c cs => exact ⟨c, cs, rfl⟩
  have ee : ∀ (S : List Sl) (x : Int), S[6]? = some (.dat (.int x)) → S[5]? = some (.dat (.lst ((downK r).map .int))) → (fIfE (fT (f2 (pIn false) (fName 6) (fName 5))) (fTup (fCons (rt (.str "up")) (fCons (fName 6) (rt [])))) (fTup (fCons (rt (.str "down")) (fCons (fName 6) (rt []))))) ⟨S, s1⟩ = some (.ok (evD (evFor r x)), ⟨S, s1⟩) := fun S x h6 h5 => by
    unfold evFor
    by_cases hx : x ∈ downK r
    · have hx' : (downK r).contains x = true := by simpa using hx
      simp [h6, h5, hx, evD]
    · simp [h6, h5, hx, evD]
  have c7 := comp_frz (E := D.int) (F := fun x => evD (evFor r x)) (j := 6) (S0 := frS M0 (.lst (cs.map .int)) (stD f r) (.own ((downK r).map .int)) .no .no .no .no) (S1 := frS M0 (.lst (cs.map .int)) (stD f r) (.dat (.lst ((downK r).map .int))) .no .no .no .no) (s := s1) (e := (fIfE (fT (f2 (pIn false) (fName 6) (fName 5))) (fTup (fCons (rt (.str "up")) (fCons (fName 6) (rt [])))) (fTup (fCons (rt (.str "down")) (fCons (fName 6) (rt [])))))) c cs' (fun _ => rfl) (by
      unfold evFor
      by_cases hx : c ∈ downK r
      · simp [hx, evD]
      · simp [hx, evD]) (fun y _ => ee _ y rfl rfl)
  rw [← hcs] at c7
  obtain ⟨es, hes⟩ : ∃ es : List Ev, es = cs.map (evFor r) ++ [if f = true then .lift else .press] := ⟨_, rfl⟩
  have les : cs.map (fun x => evD (evFor r x)) ++ [if f = true then D.tup [.str "lift"] else .tup [.str "press"]] = es.map evD := by
    rw [hes, List.map_append, List.map_map]
    cases f <;> rfl
  have okes : ∀ ev ∈ es, evKey ev ∧ followB f r ev = true := fun ev h => by
    rw [hes] at h
    rcases (List.mem_append.mp h) with h | h
    · obtain ⟨x, hx, rfl⟩ := List.mem_map.mp h
      exact evFor_ok f r (hk x hx)
    · rw [List.mem_singleton.mp h]
      cases f <;> exact ⟨trivial, rfl⟩
  obtain ⟨g', el, x8, x9, x10, rfl⟩ := loop_all (t := gN 8) (b := frB) (fun g => ∃ x8 x9 x10, g = (⟨frS M0 (.lst (cs.map .int)) (stD f r) (.dat (.lst ((downK r).map .int))) (.dat (.lst (cs.map fun x => evD (evFor r x)))) x8 x9 x10, s1⟩ : Sg)) (ds := es.map evD) (g := ⟨frS M0 (.lst (cs.map .int)) (stD f r) (.dat (.lst ((downK r).map .int))) (.dat (.lst (cs.map fun x => evD (evFor r x)))) .no .no .no, s1⟩) (fun d hd g h => by
    obtain ⟨x8, x9, x10, rfl⟩ := h
    obtain ⟨ev, hev, rfl⟩ := List.mem_map.mp hd
    exact ⟨_, _, rfl, tn ev (okes ev hev).1 (okes ev hev).2 _ _ x9 x10, _, _, _, rfl⟩) ⟨_, _, _, rfl⟩
  rw [← les] at el
  cases f with
  | true =>
    simp only [if_true] at el
    simp [-List.map_map, fb__law_free_right, e1, c5, hl', c7, hcl, hcl2, el]
  | false =>
    simp only [Bool.false_eq_true, if_false] at el
    simp [-List.map_map, fb__law_free_right, e1, c5, hl', c7, hcl, hcl2, el]
end S
namespace S
open PyProof.Rows PySem.Spec PySem L2 DE
/-! ### loops over displayed lists; drawn machines; keys in a row -/
def lpO (r : Option (Out × Sg)) (t : Mt) (b : Ms) (ds : List D) : Option (Out × Sg) := match r with
  | some (.nx, g2) => loop t b ds g2
  | some (.ct, g2) => loop t b ds g2
  | some (.brk, g2) => some (.nx, g2)
  | o => o
def lqO (r : Option Sg) (t : Mt) (b : Ms) (ds : List D) : Option (Out × Sg) := match r with
  | none => none
  | some g1 => lpO (b g1) t b ds
theorem loop_v (t : Mt) (b : Ms) (d : D) (ds : List D) (g : Sg) : loop t b (d :: ds) g = lqO (t d g) t b ds := by
  unfold loop lqO lpO; rfl
@[simp] theorem lqO_s (g : Sg) (t : Mt) (b : Ms) (ds : List D) : lqO (some g) t b ds = lpO (b g) t b ds := rfl
@[simp] theorem lpO_nx (g : Sg) (t : Mt) (b : Ms) (ds : List D) : lpO (some (.nx, g)) t b ds = loop t b ds g := rfl
@[simp] theorem lpO_ret (d : D) (g : Sg) (t : Mt) (b : Ms) (ds : List D) : lpO (some (.ret d, g)) t b ds = some (.ret d, g) := rfl
theorem intsD2 : intsD 2 = [.int 0, .int 1] := rfl
theorem intsD3 : intsD 3 = [.int 0, .int 1, .int 2] := rfl
theorem intsD4 : intsD 4 = [.int 0, .int 1, .int 2, .int 3] := rfl
/-- a machine is drawn -/
theorem mach_draw {A B : Int} (hA : 1 ≤ A) (hA2 : A ≤ 8) (hB : 1 ≤ B) (hB2 : B ≤ 6) {k : Nat} {s : DS} (g : Good (k + 9) s) : ∃ v ws e b s', m__law_machine [.m, .int A, .int B] s = some (.ok (MD v (.tup (csOf ws e)) b), s') ∧ Mach v ws e b ∧ v ≤ A ∧ Good k s' := by
  obtain ⟨v, ws, e, b, s1, e1, v1, v2, C, hb, g1⟩ := machine_ok (A := A) (B := B) hA (by omega) hB hB2 (k := k) (g.mono (by omega))
  exact ⟨v, ws, e, b, s1, e1, ⟨v1, by omega, C, hb⟩, v2, g1⟩
/-- keys at equal distances -/
def keyR (a d : Int) (n : Nat) : List Int := (List.range n).map fun (i : Nat) => a + d * (i : Int)
theorem keyR_len (a d : Int) (n : Nat) : (keyR a d n).length = n := by unfold keyR; simp
theorem keyR_mem {a d : Int} {n : Nat} {c : Int} (h : c ∈ keyR a d n) : ∃ i : Nat, i < n ∧ c = a + d * (i : Int) := by
  obtain ⟨i, hi, rfl⟩ := List.mem_map.mp h; exact ⟨i, by simpa using hi, rfl⟩
theorem keyR_nd {a d : Int} (hd : 1 ≤ d) (n : Nat) : (keyR a d n).Nodup := by
  unfold keyR
  refine keyR_nd.map_inj (fun x _ y _ e => ?_) List.nodup_range
  have e : a + d * (x : Int) = a + d * (y : Int) := e
  have h2 : d * ((x : Int) - (y : Int)) = 0 := by rw [Int.mul_sub]; omega
  rcases Int.mul_eq_zero.mp h2 with h | h
  · omega
  · omega
where
  map_inj {α β : Type} {f : α → β} {l : List α} (hf : ∀ x ∈ l, ∀ y ∈ l, f x = f y → x = y) (nd : l.Nodup) : (l.map f).Nodup := by
    induction l with
    | nil => exact List.nodup_nil
    | cons x l ih =>
      obtain ⟨h1, h2⟩ := List.nodup_cons.mp nd
      rw [List.map_cons, List.nodup_cons]; refine ⟨fun z => ?_, ih (fun a ha b hb => hf a (List.mem_cons_of_mem _ ha) b (List.mem_cons_of_mem _ hb)) h2⟩
      obtain ⟨y, hy, e⟩ := List.mem_map.mp z
      have := hf y (List.mem_cons_of_mem _ hy) x List.mem_cons_self e
      exact h1 (this ▸ hy)
end S
namespace S
open PyProof.Rows PySem.Spec PySem L2 DE
/-! ### try, handlers, what is told, by simp -/
def tryO (r : Option (Out × Sg)) (l : List HSem) : Option (Out × Sg) := match r with
  | some (.exc x, g1) => hdl x l g1
  | o => o
@[simp] theorem try_v (fb : Ms) (l : List HSem) (g : Sg) : fTry fb l g = tryO (fb g) l := rfl
@[simp] theorem tryO_nx (g : Sg) (l : List HSem) : tryO (some (.nx, g)) l = some (.nx, g) := rfl
@[simp] theorem tryO_ret (d : D) (g : Sg) (l : List HSem) : tryO (some (.ret d, g)) l = some (.ret d, g) := rfl
@[simp] theorem tryO_none (l : List HSem) : tryO none l = none := rfl
def hdO (b : Option Bool) (x : Exn) (h : HSem) (r : List HSem) (g : Sg) : Option (Out × Sg) := match b with
  | none => none
  | some false => hdl x r g
  | some true => hsuite x h g
@[simp] theorem tryO_exc (x : Exn) (g : Sg) (l : List HSem) : tryO (some (.exc x, g)) l = hdl x l g := rfl
@[simp] theorem hdl_nil (x : Exn) (g : Sg) : hdl x [] g = some (.exc x, g) := rfl
@[simp] theorem hdl_cons (x : Exn) (h : HSem) (r : List HSem) (g : Sg) : hdl x (h :: r) g = hdO (h.t.lookup x.c) x h r g := by
  unfold hdO; rw [hdl]
  cases h.t.lookup x.c with
  | none => rfl
  | some b => cases b <;> rfl
@[simp] theorem hdO_n (x : Exn) (h : HSem) (r : List HSem) (g : Sg) : hdO none x h r g = none := rfl
@[simp] theorem hdO_f (x : Exn) (h : HSem) (r : List HSem) (g : Sg) : hdO (some false) x h r g = hdl x r g := rfl
@[simp] theorem hdO_t (x : Exn) (h : HSem) (r : List HSem) (g : Sg) : hdO (some true) x h r g = hsuite x h g := rfl
def hsN (r : Option (Out × Sg)) : Option (Out × Sg) := match r with
  | some (.exc _, _) => none
  | o => o
def hsS (i : Nat) (r : Option (Out × Sg)) : Option (Out × Sg) := match r with
  | some (.exc _, _) => none
  | some (o, g2) => some (o, ⟨g2.r.set i .no, g2.s⟩)
  | none => none
@[simp] theorem hsuite_n (x : Exn) (t : List (Str × Bool)) (f : Ms) (g : Sg) : hsuite x ⟨t, none, f⟩ g = hsN (f g) := rfl
@[simp] theorem hsuite_s (x : Exn) (t : List (Str × Bool)) (i : Nat) (f : Ms) (g : Sg) : hsuite x ⟨t, some i, f⟩ g = hsS i (f ⟨g.r.set i (.dat (.exc x.c x.v)), g.s⟩) := rfl
@[simp] theorem hsN_nx (g : Sg) : hsN (some (.nx, g)) = some (.nx, g) := rfl
@[simp] theorem hsN_ret (d : D) (g : Sg) : hsN (some (.ret d, g)) = some (.ret d, g) := rfl
@[simp] theorem hsN_e (x : Exn) (g : Sg) : hsN (some (.exc x, g)) = none := rfl
@[simp] theorem hsN_n : hsN none = none := rfl
@[simp] theorem hsS_nx (i : Nat) (g : Sg) : hsS i (some (.nx, g)) = some (.nx, ⟨g.r.set i .no, g.s⟩) := rfl
@[simp] theorem hsS_ret (i : Nat) (d : D) (g : Sg) : hsS i (some (.ret d, g)) = some (.ret d, ⟨g.r.set i .no, g.s⟩) := rfl
@[simp] theorem hsS_e (i : Nat) (x : Exn) (g : Sg) : hsS i (some (.exc x, g)) = none := rfl
@[simp] theorem hsS_n (i : Nat) : hsS i none = none := rfl
@[simp] theorem isE_v (tb : List (Str × Bool)) (f : Mo D) (g : Sg) : fIsE tb f g = bdO (f g) (aIsE tb) := by unfold fIsE; rw [bd_v]
@[simp] theorem aIsE_v (tb : List (Str × Bool)) (c : Str) (v : D) : aIsE tb (.exc c v) = ofO ((tb.lookup c).map D.bl) := by unfold aIsE; dsimp only; cases tb.lookup c <;> rfl
@[simp] theorem fld_v (cs : List Str) (f : Mo D) (g : Sg) : fFld cs f g = bdO (f g) (aFld cs) := by unfold fFld; rw [bd_v]
@[simp] theorem aFld_v (cs : List Str) (c : Str) (v : D) : aFld cs (.exc c v) = if cs.contains c = true then rt v else stop := rfl
@[simp] theorem raise_v (c : Str) (f : Mo D) (g : Sg) : fRaise c f g = sbO (f g) fun d g => some (.exc ⟨c, d⟩, g) := by unfold fRaise; rw [sb_v]
@[simp] theorem isNon_e (c : Str) (v : D) : isNon (.exc c v) = false := rfl
@[simp] theorem ofO_n {α : Type} : ofO (none : Option α) = stop := rfl
@[simp] theorem bdO_n {α β : Type} (k : α → Mo β) : bdO none k = none := rfl
@[simp] theorem sbO_n {α : Type} (k : α → Ms) : sbO none k = none := rfl
@[simp] theorem seqO_n (k : Ms) : seqO none k = none := rfl
@[simp] theorem ifO_n (t u : Ms) : ifO none t u = none := rfl
/-- what the act comes to -/
def actO (z : Sl) (r : List Sl) (x : Option (Except Exn D × DS)) : Res D := match x with
  | some (y, s') => some (y, ⟨z :: r, s'⟩)
  | none => none
@[simp] theorem actO_n (z : Sl) (r : List Sl) : actO z r none = none := rfl
@[simp] theorem actO_s (z : Sl) (r : List Sl) (y : Except Exn D) (s' : DS) : actO z r (some (y, s')) = some (y, ⟨z :: r, s'⟩) := rfl
def outS (r : Option (Out × Sg)) : Option (Out × DS) := r.map fun p => (p.1, p.2.s)
@[simp] theorem outS_n : outS none = none := rfl
@[simp] theorem outS_s (o : Out) (g : Sg) : outS (some (o, g)) = some (o, g.s) := rfl
/-- a def that calls what it got: it gives what it gives, wherever that stands -/
theorem gives_of {fb : Mo D → Ms} {N : Nat} (hN : 1 ≤ N) (h : ∀ (x : Option (Except Exn D × DS)), ∃ res : Option (Out × DS), ∀ (z : Sl) (act : Mo D) (s : DS), (∀ r, act ⟨z :: r, s⟩ = actO z r x) → outS (fb act ⟨z :: List.replicate (N - 1) .no, s⟩) = res) : GivesTh fb N (takeM fb N) := by
  intro f c q G1 th s r s' hm
  obtain ⟨res, hr⟩ := h (th s)
  have e1 := hr .no (fActU th) s (fun r => by unfold fActU actO; cases th s <;> rfl)
  have e2 := hr (.fn f c q G1) (fAct 0 f c q G1 th) s (fun r => by unfold fAct actO; refine (if_pos rfl).trans ?_; cases th s <;> rfl)
  have rep : (Sl.no :: List.replicate (N - 1) Sl.no) = List.replicate N .no := by
    obtain ⟨n, rfl⟩ : ∃ n, N = n + 1 := ⟨N - 1, by omega⟩
    rfl
  rw [rep] at e1
  rw [← e1] at e2
  unfold takeM at hm
  generalize fb (fActU th) ⟨List.replicate N .no, s⟩ = A at hm e2
  generalize hB : fb (fAct 0 f c q G1 th) ⟨.fn f c q G1 :: List.replicate (N - 1) .no, s⟩ = B at e2
  cases A with
  | none => cases hm
  | some p =>
    obtain ⟨o, g⟩ := p
    cases B with
    | none => cases e2
    | some p2 =>
      obtain ⟨o2, g2⟩ := p2
      simp only [outS, Option.map_some, Option.some.injEq, Prod.mk.injEq] at e2
      obtain ⟨rfl, es⟩ := e2
      cases o2 with
      | ret d => cases hm; exact ⟨g2, es, .inl rfl⟩
      | nx => cases hm; exact ⟨g2, es, .inr ⟨rfl, rfl⟩⟩
      | exc x => cases hm; exact ⟨g2, es, .inl rfl⟩
      | brk => cases hm
      | ct => cases hm
/-- what a def makes of a function -/
theorem take_of {fb : Mo D → Ms} {N : Nat} {th : Th} {s s' : DS} {x : Except Exn D × DS} {d : D} (hx : th s = some x) (h : outS (fb (fActU th) ⟨List.replicate N .no, s⟩) = some (.ret d, s')) : takeM fb N th s = some (.ok d, s') := by
  unfold takeM
  generalize fb (fActU th) ⟨List.replicate N .no, s⟩ = A at h
  cases A with
  | none => cases h
  | some p =>
    obtain ⟨o, g⟩ := p
    simp only [outS, Option.map_some, Option.some.injEq, Prod.mk.injEq] at h
    obtain ⟨rfl, rfl⟩ := h
    rfl
@[simp] theorem fActU_v (th : Th) (g : Sg) : fActU th g = (match th g.s with
    | some (x, s') => some (x, ⟨g.r, s'⟩)
    | none => none) := rfl
/-- x(lambda: e) -/
theorem lam_v {js : List Nat} {mT : Th → Th} {f : Mo D} {r : List Sl} {s s' : DS} {y : Except Exn D} (h : mT (thunk js f r) s = some (y, s')) : fLam js mT f ⟨r, s⟩ = some (y, ⟨relS js r, s'⟩) := by
  unfold fLam; dsimp only; rw [h]
theorem thunk_v {js : List Nat} {f : Mo D} {r : List Sl} {s : DS} {y : Except Exn D} {g : Sg} (h : f ⟨pickS js 0 (relS js r), s⟩ = some (y, g)) : thunk js f r s = some (y, g.s) := by
  unfold thunk; rw [h]
/-! ### the victim -/
theorem cut_key_ok {v : Int} {ws : List Str} {e b : Str} {r : List Pr} {f : Bool} (k : Int) (s : DS) : m_cut_key [.tup (ddD (deedsL v ws e b (f, r) (.down k)))] s = some (.ok (if r.contains (pr k "kept") = true then .non else if nL r < v then .non else optD (takenL v ws e r k).head?), s) := by
  refine run_v rfl ?_
  show runO (fb_cut_key ⟨[.dat (.tup (ddD (downD v ws e r k))), .no, .no], s⟩) = _
  unfold downD
  by_cases c1 : r.contains (pr k "kept") = true
  · rw [if_pos c1, if_pos c1]
    simp [fb_cut_key, ddD, loop_v, show ¬ ("again" : Str) = "cut" by decide]
  by_cases c2 : nL r < v
  · rw [if_neg c1, if_pos c2, if_neg c1, if_pos c2]
    simp [fb_cut_key, ddD, loop_v, show ¬ ("begin" : Str) = "cut" by decide]
  rw [if_neg c1, if_neg c2, if_neg c1, if_neg c2]
  cases takenL v ws e r k with
  | nil => simp [fb_cut_key, ddD, loop_v, show ¬ ("refuse" : Str) = "cut" by decide]
  | cons x xs => simp [fb_cut_key, ddD, loop_v]
theorem in_keys (neg : Bool) (k : Int) (r : List Pr) (g : Sg) : pIn neg (.int k) (.lst ((keysOf r).map .int)) g = some (.ok (.bl (if neg then !(keysOf r).contains k else (keysOf r).contains k)), g) := pIn_ints neg k (keysOf r) g
section
variable {v : Int} {ws : List Str} {e b : Str} {f : Bool} {r : List Pr}
theorem keys_comp {S : List Sl} {s : DS} {j : Nat} (hb : ∀ p : Pr, (S.set j (.dat (prD p))).set j .no = S) (hj : ∀ p : Pr, (S.set j (.dat (prD p)))[j]? = some (.dat (prD p))) : compL [j] (gN j) (rt true) (fIxD (fName j) (rt (.int 0))) (rowD r) ⟨S, s⟩ = some ((keysOf r).map .int, ⟨S, s⟩) := by
  have c := comp_gen (E := prD) (F := fun p => D.int p.1) (P := fun _ => true) (j := j) (S := S) (s := s) (c := rt true) (e := fIxD (fName j) (rt (.int 0))) r hb (fun p _ => rfl) (fun p _ _ => by simp [hj])
  rw [List.filter_eq_self.mpr fun _ _ => rfl] at c
  rw [c]; simp
theorem victim_ok (M : Mach v ws e b) (V : Val v b f r) (hl : r.length ≤ 900) {k : Int} (hk : 0 ≤ k ∧ k ≤ 87) (hn : k ∉ keysOf r) (s : DS) : m_victim [MD v (.tup (csOf ws e)) b, stD f r, .int k] s = some (.ok (optD (takenL v ws e r k).head?), s) := by
  have ns := ns_ok (M.fault s) (sf_good (C := .tup (csOf ws e)) (s := s) V hl)
  have pf := perf_good (f := f) M V hl (.down k) s
  unfold evD at pf
  have ck := cut_key_ok (v := v) (ws := ws) (e := e) (b := b) (r := r) (f := f) k s
  have ik := is_key_ok k s
  have c1 : ¬ r.contains (pr k "kept") = true := fun z => by
    exact hn (key_mem (by simpa using z))
  rw [if_neg c1] at ck
  have kt : (if nL r < v then D.non else optD (takenL v ws e r k).head?) = optD (takenL v ws e r k).head? := by
    by_cases c2 : nL r < v
    · rw [if_pos c2]
      have : takenL v ws e r k = [] := by unfold takenL; exact if_pos c2
      rw [this]; rfl
    · rw [if_neg c2]
  rw [kt] at ck
  obtain ⟨M0, hM0⟩ : ∃ M, M = MD v (.tup (csOf ws e)) b := ⟨_, rfl⟩
  obtain ⟨D0, hD0⟩ : ∃ M, M = D.tup (ddD (deedsL v ws e b (f, r) (.down k))) := ⟨_, rfl⟩
  rw [← hM0] at ns pf ⊢
  rw [← hD0] at ck pf
  obtain ⟨h0, h87⟩ := hk
  have hl' : r.length ≤ 100000 := by omega
  have kc := keys_comp (r := r) (S := [.dat M0, .dat (stD f r), .dat (.int k), .dat (.bl f), .dat (.tup (rowD r)), .no]) (s := s) (j := 5) (fun _ => rfl) (fun _ => rfl)
  refine run_v rfl ?_
  simp [-List.map_map, fb_victim, ns, ik, h0, h87, kc, hl', in_keys, hn, evD, pf, ck]
theorem victim_no (M : Mach v ws e b) (V : Val v b f r) (hl : r.length ≤ 900) {k : Int} (hk : 0 ≤ k ∧ k ≤ 87) (hn : k ∈ keysOf r) (s : DS) : m_victim [MD v (.tup (csOf ws e)) b, stD f r, .int k] s = some (.error ⟨"BadKey", .int k⟩, s) := by
  have ns := ns_ok (M.fault s) (sf_good (C := .tup (csOf ws e)) (s := s) V hl)
  have ik := is_key_ok k s
  obtain ⟨M0, hM0⟩ : ∃ M, M = MD v (.tup (csOf ws e)) b := ⟨_, rfl⟩
  rw [← hM0] at ns ⊢
  obtain ⟨h0, h87⟩ := hk
  have hl' : r.length ≤ 100000 := by omega
  have kc := keys_comp (r := r) (S := [.dat M0, .dat (stD f r), .dat (.int k), .dat (.bl f), .dat (.tup (rowD r)), .no]) (s := s) (j := 5) (fun _ => rfl) (fun _ => rfl)
  refine run_v rfl ?_
  simp [-List.map_map, fb_victim, ns, ik, h0, h87, kc, hl', in_keys, hn]
theorem victim_odd (M : Mach v ws e b) (V : Val v b f r) (hl : r.length ≤ 900) {d : D} (s : DS) (hd : m_is_key [d] s = some (.ok (.bl false), s)) : m_victim [MD v (.tup (csOf ws e)) b, stD f r, d] s = some (.error ⟨"BadKey", d⟩, s) := by
  have ns := ns_ok (M.fault s) (sf_good (C := .tup (csOf ws e)) (s := s) V hl)
  obtain ⟨M0, hM0⟩ : ∃ M, M = MD v (.tup (csOf ws e)) b := ⟨_, rfl⟩
  rw [← hM0] at ns ⊢
  refine run_v rfl ?_
  simp [-List.map_map, fb_victim, ns, hd]
end
end S
namespace S
open PyProof.Rows PySem.Spec PySem L2 DE
/-! ### plain data: shown, compared with itself -/
def Pl : Nat → D → Prop
  | _, .non => True
  | _, .bl _ => True
  | _, .int i => i.natAbs < 10 ^ 12
  | _, .str s => PyData.canLay0 (.str s) = true
  | n + 1, .lst xs => ∀ x ∈ xs, Pl n x
  | n + 1, .tup xs => ∀ x ∈ xs, Pl n x
  | _, _ => False
def bk : Nat → D → Nat
  | _, .str s => s.cps.size
  | n + 1, .lst xs => (xs.map fun x => bk n x + 1).sum
  | n + 1, .tup xs => (xs.map fun x => bk n x + 1).sum
  | _, _ => 0
structure PlOf (n : Nat) (b : Nat) (p : PyData) : Prop where
  lay : p.canLay0 = true
  lv : p.leavesShort 13 = true
  sw : p.showable = true
  dp : p.depth ≤ n
  nd : p.hasDict = false
  bk : p.bulk = b
structure PlOfA (n : Nat) (b : Nat) (ps : List PyData) : Prop where
  lay : PyData.canLayAll0 ps = true
  lv : PyData.leavesShortAll 13 ps = true
  sw : PyData.showableAll ps = true
  dp : PyData.depthAll ps ≤ n
  nd : PyData.hasDictAll ps = false
  bk : PyData.bulkAll ps = b
theorem log_small {i : Int} (h : i.natAbs < 10 ^ 12) : i.natAbs.log2 < 1920 := by
  by_cases z : i.natAbs = 0
  · rw [z]; decide
  · exact Nat.lt_of_lt_of_le ((Nat.log2_lt z).mpr (show i.natAbs < 2 ^ 40 from Nat.lt_of_lt_of_le h (by decide))) (by decide)
theorem plA {n : Nat} (ih : ∀ d, Pl n d → ∃ p, pyd d = some p ∧ PlOf n (bk n d) p) : ∀ xs : List D, (∀ x ∈ xs, Pl n x) → ∃ ps, pydA xs = some ps ∧ PlOfA n (xs.map fun x => bk n x + 1).sum ps
  | [], _ => ⟨[], rfl, rfl, rfl, rfl, Nat.zero_le _, rfl, rfl⟩
  | x :: xs, h => by
    obtain ⟨p, hp, q⟩ := ih x (h x List.mem_cons_self)
    obtain ⟨ps, hps, qs⟩ := plA ih xs fun y hy => h y (List.mem_cons_of_mem _ hy)
    refine ⟨p :: ps, by unfold pydA; rw [hp, hps], ?_, ?_, ?_, ?_, ?_, ?_⟩
    · simp only [PyData.canLayAll0, q.lay, qs.lay]; rfl
    · simp only [PyData.leavesShortAll, q.lv, qs.lv]; rfl
    · simp only [PyData.showableAll, q.sw, qs.sw]; rfl
    · simp only [PyData.depthAll]; have := q.dp; have := qs.dp; omega
    · simp only [PyData.hasDictAll, q.nd, qs.nd]; rfl
    · simp only [PyData.bulkAll, q.bk, qs.bk, List.map_cons, List.sum_cons]
theorem pl_pyd : ∀ (n : Nat) (d : D), Pl n d → ∃ p, pyd d = some p ∧ PlOf n (bk n d) p
  | n, .non, _ => ⟨.none, by unfold pyd; rfl, by cases n <;> exact ⟨rfl, rfl, rfl, Nat.zero_le _, rfl, rfl⟩⟩
  | n, .bl b, _ => ⟨.bool b, by unfold pyd; rfl, by cases n <;> exact ⟨rfl, rfl, rfl, Nat.zero_le _, rfl, rfl⟩⟩
  | n, .int i, h => by
    have h : i.natAbs < 10 ^ 12 := by cases n <;> exact h
    refine ⟨.int i, by unfold pyd; rfl, ?_⟩
    have hb : bk n (.int i) = 0 := by cases n <;> rfl
    rw [hb]
    exact ⟨rfl, by simp only [PyData.leavesShort, decide_eq_true_eq]; exact PyData.shown_int_le h, by simp only [PyData.showable, decide_eq_true_eq]; exact log_small h, Nat.zero_le _, rfl, rfl⟩
  | n, .str s, h => by
    have h : PyData.canLay0 (.str s) = true := by cases n <;> exact h
    have hb : bk n (.str s) = s.cps.size := by cases n <;> rfl
    refine ⟨.str s, by unfold pyd; rfl, ?_⟩
    rw [hb]
    exact ⟨h, PyData.leavesShort_of_canLay0 13 _ h rfl, rfl, Nat.zero_le _, rfl, rfl⟩
  | n + 1, .lst xs, h => by
    obtain ⟨ps, hps, q⟩ := plA (pl_pyd n) xs h
    refine ⟨.list ps, by unfold pyd; rw [hps]; rfl, ?_⟩
    exact ⟨by simp only [PyData.canLay0, q.lay], by simp only [PyData.leavesShort, q.lv], by simp only [PyData.showable, q.sw], by simp only [PyData.depth]; have := q.dp; omega, by simp only [PyData.hasDict, q.nd], by simp only [PyData.bulk, q.bk]; rfl⟩
  | n + 1, .tup xs, h => by
    obtain ⟨ps, hps, q⟩ := plA (pl_pyd n) xs h
    refine ⟨.tuple ps, by unfold pyd; rw [hps]; rfl, ?_⟩
    exact ⟨by simp only [PyData.canLay0, q.lay], by simp only [PyData.leavesShort, q.lv], by simp only [PyData.showable, q.sw], by simp only [PyData.depth]; have := q.dp; omega, by simp only [PyData.hasDict, q.nd], by simp only [PyData.bulk, q.bk]; rfl⟩
  | 0, .lst _, h => h.elim
  | 0, .tup _, h => h.elim
  | n, .dic _, h => by cases n <;> exact h.elim
  | n, .m, h => by cases n <;> exact h.elim
  | n, .exc _ _, h => by cases n <;> exact h.elim
  | n, .scr _, h => by cases n <;> exact h.elim
theorem repr_pl {n : Nat} {d : D} (h : Pl n d) (hn : n ≤ 50) (hb : bk n d ≤ 1000000) : ∃ w, aRepr d = rt (.str w) := by
  obtain ⟨p, hp, q⟩ := pl_pyd n d h
  refine ⟨p.shown, repr_of hp ?_⟩
  have sz := PyData.shown_le_bulk 13 (by decide) _ q.lv
  rw [q.bk] at sz
  unfold showB
  simp only [Bool.and_eq_true, decide_eq_true_eq, Bool.not_eq_true']
  exact ⟨q.sw, Nat.le_trans q.dp hn, by omega, q.nd⟩
theorem shaped_pl {n : Nat} {d : D} (h : Pl n d) (hn : n ≤ 50) : ∃ p, pyd d = some p ∧ SeqAt.shaped p = true := by
  obtain ⟨p, hp, q⟩ := pl_pyd n d h
  refine ⟨p, hp, ?_⟩
  unfold SeqAt.shaped
  rw [Bool.and_eq_true, decide_eq_true_eq]
  exact ⟨q.lay, by have := q.dp; omega⟩
theorem eq_self {n : Nat} {d : D} (h : Pl n d) (hn : n ≤ 50) : pEqD d d = rt (.bl true) ∧ pNeD d d = rt (.bl false) := by
  obtain ⟨p, hp, q⟩ := shaped_pl h hn
  have e := SeqAt.eqv_refl p (SeqAt.canLay_of_shaped q)
  unfold pEqD pNeD
  rw [hp]
  dsimp only
  rw [if_pos (by rw [q]; rfl), if_pos (by rw [q]; rfl), e]
  exact ⟨rfl, rfl⟩
@[simp] theorem pl_int (n : Nat) (i : Int) : Pl n (.int i) ↔ i.natAbs < 10 ^ 12 := by cases n <;> rfl
@[simp] theorem pl_bl (n : Nat) (i : Bool) : Pl n (.bl i) := by cases n <;> trivial
@[simp] theorem pl_non (n : Nat) : Pl n .non := by cases n <;> trivial
@[simp] theorem pl_str (n : Nat) (s : Str) : Pl n (.str s) ↔ PyData.canLay0 (.str s) = true := by cases n <;> rfl
@[simp] theorem pl_lst (n : Nat) (xs : List D) : Pl (n + 1) (.lst xs) ↔ ∀ x ∈ xs, Pl n x := .rfl
@[simp] theorem pl_tup (n : Nat) (xs : List D) : Pl (n + 1) (.tup xs) ↔ ∀ x ∈ xs, Pl n x := .rfl
@[simp] theorem bk_int (n : Nat) (i : Int) : bk n (.int i) = 0 := by cases n <;> rfl
@[simp] theorem bk_bl (n : Nat) (i : Bool) : bk n (.bl i) = 0 := by cases n <;> rfl
@[simp] theorem bk_non (n : Nat) : bk n .non = 0 := by cases n <;> rfl
@[simp] theorem bk_str (n : Nat) (s : Str) : bk n (.str s) = s.cps.size := by cases n <;> rfl
@[simp] theorem bk_lst (n : Nat) (xs : List D) : bk (n + 1) (.lst xs) = (xs.map fun x => bk n x + 1).sum := rfl
@[simp] theorem bk_tup (n : Nat) (xs : List D) : bk (n + 1) (.tup xs) = (xs.map fun x => bk n x + 1).sum := rfl
theorem sum_le {α : Type} (f : α → Nat) (c : Nat) : ∀ l : List α, (∀ x ∈ l, f x ≤ c) → (l.map f).sum ≤ c * l.length
  | [], _ => by simp
  | x :: l, h => by
    have := sum_le f c l fun y hy => h y (List.mem_cons_of_mem _ hy)
    have := h x List.mem_cons_self
    simp only [List.map_cons, List.sum_cons, List.length_cons, Nat.mul_succ]; omega
theorem pl_ints {n : Nat} {xs : List Int} (h : ∀ x ∈ xs, x.natAbs < 10 ^ 12) : ∀ d ∈ xs.map D.int, Pl n d := fun d hd => by
  obtain ⟨x, hx, rfl⟩ := List.mem_map.mp hd
  exact (pl_int n x).mpr (h x hx)
theorem bk_ints (n : Nat) (xs : List Int) : ((xs.map D.int).map fun x => bk n x + 1).sum = xs.length := by
  induction xs with
  | nil => rfl
  | cons x xs ih => simp only [List.map_cons, List.sum_cons, ih, bk_int, List.length_cons]; omega
theorem mks_lay {w : Str} (h : w ∈ MKS) : PyData.canLay0 (.str w) = true ∧ w.cps.size ≤ 8 := by
  have a : ∀ w ∈ MKS, (PyData.canLay0 (.str w) && decide (w.cps.size ≤ 8)) = true := by
    unfold MKS; intro m hm
    simp only [List.mem_cons, List.not_mem_nil, or_false] at hm; rcases hm with rfl | rfl | rfl <;> kernel_rfl
  simpa using a w h
theorem pl_row {r : List Pr} (ok : okR r) (hk : ∀ p ∈ r, p.1.natAbs < 10 ^ 12) (n : Nat) : ∀ d ∈ rowD r, Pl (n + 1) d := fun d hd => by
  obtain ⟨p, hp, rfl⟩ := List.mem_map.mp hd
  unfold DE.prD
  simp only [pl_tup, List.mem_cons, List.not_mem_nil, or_false, forall_eq_or_imp, forall_eq, pl_int, pl_str]
  exact ⟨hk p hp, (mks_lay (ok p hp)).1⟩
theorem bk_row {r : List Pr} (ok : okR r) (n : Nat) : ((rowD r).map fun x => bk (n + 1) x + 1).sum ≤ 12 * r.length := by
  have := sum_le (fun x => bk (n + 1) x + 1) 12 (rowD r) (fun d hd => by
    obtain ⟨p, hp, rfl⟩ := List.mem_map.mp hd
    have := (mks_lay (ok p hp)).2
    show bk (n + 1) (.tup [.int p.1, .str p.2]) + 1 ≤ 12
    rw [bk_tup]; simp only [List.map_cons, List.map_nil, List.sum_cons, List.sum_nil, bk_int, bk_str]; omega)
  rwa [row_len] at this
theorem pl_st {f : Bool} {r : List Pr} (ok : okR r) (hk : ∀ p ∈ r, p.1.natAbs < 10 ^ 12) (n : Nat) : Pl (n + 3) (stD f r) ∧ bk (n + 3) (stD f r) ≤ 12 * r.length + 2 := by
  have := bk_row ok n
  refine ⟨?_, ?_⟩
  · simp only [pl_tup, List.mem_cons, List.not_mem_nil, or_false, forall_eq_or_imp, forall_eq, pl_bl, true_and]
    exact pl_row ok hk n
  · simp at this ⊢; omega
theorem cut_to {α : Type} (xs : List α) (n : Nat) : DE.cutD xs none (some (n : Int)) = xs.take n := by
  unfold DE.cutD
  have h0 : HT.sIx xs.length 0 none = 0 := rfl
  have h1 : HT.sIx xs.length xs.length (some (n : Int)) = min n xs.length := by
    show (if (n : Int) < 0 then ((n : Int) + (xs.length : Int)).toNat else min (n : Int).toNat xs.length) = _; rw [if_neg (by omega), Int.toNat_natCast]
  rw [h0, h1, Nat.sub_zero, List.drop_zero]
  by_cases c : n ≤ xs.length
  · rw [Nat.min_eq_left c]
  · rw [Nat.min_eq_right (by omega : xs.length ≤ n), List.take_of_length_le (Nat.le_refl _), List.take_of_length_le (by omega)]
theorem cut_from {α : Type} (xs : List α) (n : Nat) : DE.cutD xs (some (n : Int)) none = xs.drop n := by
  unfold DE.cutD
  have h0 : HT.sIx xs.length 0 (some (n : Int)) = min n xs.length := by
    show (if (n : Int) < 0 then ((n : Int) + (xs.length : Int)).toNat else min (n : Int).toNat xs.length) = _; rw [if_neg (by omega), Int.toNat_natCast]
  have h1 : HT.sIx xs.length xs.length none = xs.length := rfl
  rw [h0, h1]
  by_cases c : n ≤ xs.length
  · rw [Nat.min_eq_left c, List.take_of_length_le (by simp)]
  · rw [Nat.min_eq_right (by omega), List.drop_eq_nil_of_le (Nat.le_refl _), List.drop_eq_nil_of_le (by omega)]; simp
theorem at_headN (ks : List Int) : atI (ks.map D.int ++ [.non]) 0 = some (optD ks.head?) := by
  cases ks with
  | nil => exact at0 _ _
  | cons k ks => exact at0 _ _
theorem end_len (w : Str) (hs : List Int) : (endL w hs).length ≤ 1 := by
  unfold endL
  split
  · rw [List.length_take]; omega
  split
  · rw [List.length_drop]; omega
  split
  · exact Nat.le_refl _
  split
  · exact Nat.le_refl _
  · exact Nat.zero_le _
theorem taken_len (v : Int) (ws : List Str) (e : Str) (r : List Pr) (k : Int) : (takenL v ws e r k).length ≤ 1 := by
  unfold takenL
  split
  · exact Nat.zero_le _
  · split
    · exact Nat.zero_le _
    · exact end_len _ _
theorem taken_key {v : Int} {ws : List Str} {e : Str} {r : List Pr} {k x : Int} (hv : 1 ≤ v) (h : (takenL v ws e r k).head? = some x) : x ∈ keysOf r := by
  cases c : takenL v ws e r k with
  | nil => rw [c] at h; cases h
  | cons y T =>
    rw [c] at h; cases h
    obtain ⟨p, hp, h1, _⟩ := taken_is hv c
    rw [← h1]; exact key_mem hp
theorem Val.small {v : Int} {b : Str} {f : Bool} {r : List Pr} (V : Val v b f r) : ∀ p ∈ r, p.1.natAbs < 10 ^ 12 := fun p hp => by
  have := (V.key p hp).1; omega
end S
namespace S
open PyProof.Rows PySem.Spec PySem L2 DE
/-! ### what is a play, by the program -/
def enD : Nat → List D → List D
  | _, [] => []
  | i, x :: xs => .tup [.int (i : Int), x] :: enD (i + 1) xs
theorem enD_len : ∀ (i : Nat) (xs : List D), (enD i xs).length = xs.length
  | _, [] => rfl
  | i, x :: xs => congrArg Nat.succ (enD_len (i + 1) xs)
theorem enD_get : ∀ (i : Nat) (xs : List D) (j : Nat), (enD i xs)[j]? = (xs[j]?).map fun x => D.tup [.int ((i + j : Nat) : Int), x]
  | _, [], j => by simp [enD]
  | i, x :: xs, 0 => by simp [enD]
  | i, x :: xs, j + 1 => by
    simp only [enD, List.getElem?_cons_succ]
    rw [enD_get (i + 1) xs j, show i + 1 + j = i + (j + 1) by omega]
theorem pairsD_en (xs : List D) : pairsD xs = enD 0 xs := by
  refine List.ext_getElem? fun j => ?_; rw [enD_get]
  unfold pairsD
  rw [List.getElem?_map]
  by_cases h : j < xs.length
  · rw [List.getElem?_range h, List.getElem?_eq_getElem h]
    simp [List.getD_eq_getElem?_getD, h]
  · rw [List.getElem?_eq_none (by simpa using h), List.getElem?_eq_none (by omega)]; rfl
theorem enD_app : ∀ (i : Nat) (xs ys : List D), enD i (xs ++ ys) = enD i xs ++ enD (i + xs.length) ys
  | _, [], _ => rfl
  | i, x :: xs, ys => by
    simp only [List.cons_append, enD, enD_app (i + 1) xs ys, List.length_cons]
    rw [show i + 1 + xs.length = i + (xs.length + 1) by omega]
@[simp] theorem forEn_v (f : Mo (List D)) (t : Mt) (b : Ms) (g : Sg) : fForEn f t b g = sbO (f g) fun ds => match ds with
  | [.tup xs] => loop t b (enD 0 xs)
  | [.lst xs] => loop t b (enD 0 xs)
  | _ => sStop := by
  have e : pairsD = enD 0 := funext pairsD_en
  unfold fForEn; rw [sb_v, e] <;> rfl
/-! ### the machine with a voice for each key -/
abbrev vE : Int := 88
theorem enough_is : c_ENOUGH = MD 88 (.tup (csOf [] "refuse")) "none" := rfl
theorem step_invG {v : Int} {ws : List Str} {e b : Str} {f : Bool} {r : List Pr} {ev : Ev} (hb : b ∈ RET_) (hv : 1 ≤ v) (V : Val v b f r) (h : evKey ev) (hf : followB f r ev = true) :
    Val v b (stepL v ws e b (f, r) ev).1 (stepL v ws e b (f, r) ev).2 ∧ downK (stepL v ws e b (f, r) ev).2 = heldL (downK r) ev ∧ (stepL v ws e b (f, r) ev).1 = pedL f ev ∧ (stepL v ws e b (f, r) ev).2.length ≤ r.length + 1 := by
  have eo : evOk (downK r) ev := by
    cases ev with
    | down k =>
      refine ⟨⟨h, trivial⟩, fun z => ?_⟩
      unfold followB at hf
      simp [z] at hf
    | _ => trivial
  obtain ⟨a, _, c⟩ := step_val (ws := ws) (e := e) hb hv V (held_down r) eo
  obtain ⟨d1, d2⟩ := held_eq (ws := ws) (e := e) hb V.nd V.lo V.wt V.pd ev
  exact ⟨a, d1, d2, c⟩
theorem none_ret : ("none" : Str) ∈ RET_ := by decide
theorem perf_enough {f : Bool} {r : List Pr} {ev : Ev} (V : Val 88 "none" f r) (hl : r.length ≤ 900) (s : DS) : m_perform [c_ENOUGH, stD f r, evD ev] s = some (.ok (.tup [stD (stepL 88 [] "refuse" "none" (f, r) ev).1 (stepL 88 [] "refuse" "none" (f, r) ev).2, .tup (ddD (deedsL 88 [] "refuse" "none" (f, r) ev))]), s) := by
  have pf := perform_ok (v := 88) (ws := []) (e := "refuse") none_ret (f := f) hl V.ok (by decide) V.lo (by decide) (fun x h => by cases h) ev s
  obtain ⟨h1, h2⟩ := step_eq (v := 88) (ws := []) (e := "refuse") none_ret (f := f) V.nd V.lo V.wt ev
  rw [h1, h2] at pf
  exact pf
/-- an item that cannot stand behind these -/
def BadAt (p : Bool) (hs : List Int) (d : D) : Prop := ∀ (r : List Pr) (s : DS), r.length ≤ 900 → downK r = hs → m_can_follow [stD p r, d] s = some (.ok (.bl false), s)
theorem bad_kind {d : D} (h : ∀ s, m_is_event [d] s = some (.ok (.bl false), s)) (p : Bool) (hs : List Int) : BadAt p hs d := fun r s _ _ => by
  have := h s
  refine run_v rfl ?_
  simp [fb_can_follow, this]
theorem fol_not {p : Bool} {r : List Pr} {ev : Ev} (h : ¬ folF p (downK r) ev) : followB p r ev = false := by
  cases ev with
  | press => unfold folF at h; cases p <;> first | rfl | exact absurd rfl h
  | lift => unfold folF at h; cases p <;> first | rfl | exact absurd rfl h
  | up k => unfold folF at h; unfold followB; simpa using h
  | down k => unfold folF at h; unfold followB; simpa using h
theorem bad_follow {ev : Ev} (h : evKey ev) {p : Bool} {hs : List Int} (hf : ¬ folF p hs ev) : BadAt p hs (evD ev) := fun r s hl hd => by
  have := can_follow_ok h (f := p) (r := r) (by omega) s
  subst hd
  rw [fol_not hf] at this; exact this
abbrev PB : Ms := (fSeq (fIf (fNot (fT (fCallN 2 m_can_follow (fCons (fName 1) (fCons (fName 3) (rt [])))))) (fRet (fTup (fCons (fName 2) (rt [])))) (sOut .nx))
  (fAsg (fCallN 3 m_perform (fCons (rt c_ENOUGH) (fCons (fName 1) (fCons (fName 3) (rt []))))) (gT 2 (gsCons (gN 1) (gsCons (gN 4) gsNil)))))
theorem pf_loop {th : D} {s : DS} {rest : List D} : ∀ (evs : List Ev) (i : Nat) (p : Bool) (r : List Pr) (x2 x3 x4 : Sl), Val 88 "none" p r → evsF p (downK r) evs → r.length + evs.length ≤ 900 →
    ∃ r' y2 y3 y4, Val 88 "none" (pedS p evs) r' ∧ downK r' = heldS (downK r) evs ∧ r'.length ≤ r.length + evs.length ∧
      loop (gT 2 (gsCons (gN 2) (gsCons (gN 3) gsNil))) PB (enD i (evs.map evD ++ rest)) ⟨[.dat th, .dat (stD p r), x2, x3, x4], s⟩ = loop (gT 2 (gsCons (gN 2) (gsCons (gN 3) gsNil))) PB (enD (i + evs.length) rest) ⟨[.dat th, .dat (stD (pedS p evs) r'), y2, y3, y4], s⟩
  | [], i, p, r, x2, x3, x4, V, _, _ => ⟨r, x2, x3, x4, V, rfl, Nat.le_refl _, rfl⟩
  | ev :: evs, i, p, r, x2, x3, x4, V, ok, hl => by
    simp only [List.length_cons] at hl
    have hf := fol_is ok.1.2
    have cf := can_follow_ok ok.1.1 (f := p) (r := r) (by omega) s
    rw [hf] at cf
    have pe := perf_enough (ev := ev) V (by omega) s
    obtain ⟨V', h1, h2, l'⟩ := step_invG (ws := []) (e := "refuse") none_ret (by decide) V ok.1.1 hf
    obtain ⟨r', y2, y3, y4, V2, d2, l2, e2⟩ := pf_loop (th := th) (s := s) (rest := rest) evs (i + 1) (pedL p ev) (stepL 88 [] "refuse" "none" (p, r) ev).2 (.dat (.int (i : Int))) (.dat (evD ev)) (.dat (.tup (ddD (deedsL 88 [] "refuse" "none" (p, r) ev)))) (by rw [← h2]; exact V') (by rw [h1]; exact ok.2) (by omega)
    refine ⟨r', y2, y3, y4, V2, by rw [d2, h1]; rfl, by simp only [List.length_cons]; omega, ?_⟩
    rw [List.map_cons, List.cons_append]
    show loop _ PB (D.tup [.int (i : Int), evD ev] :: enD (i + 1) (evs.map evD ++ rest)) _ = _
    rw [loop_v, List.length_cons, show i + (evs.length + 1) = i + 1 + evs.length by omega]
    refine Eq.trans ?_ e2
    rw [h2] at pe
    simp [-List.map_map, cf, pe]
theorem val0 (p : Bool) : Val 88 "none" p [] := val_nil (by decide) _ _
theorem pf_pre {ds : List D} (hl : ds.length ≤ 300) (s : DS) : fb_play_fault ⟨[.dat (.tup ds), .no, .no, .no, .no], s⟩ = seqO (loop (gT 2 (gsCons (gN 2) (gsCons (gN 3) gsNil))) PB (enD 0 ds) ⟨[.dat (.tup ds), .dat (stD false []), .no, .no, .no], s⟩) (fRet (rt .non)) := by
  have h2 : ¬ (300 : Int) < (ds.length : Int) := by omega
  have st0 : c_START = stD false [] := rfl
  have me : c_MOST_EVENTS = .int 300 := rfl
  simp [-List.map_map, fb_play_fault, h2, st0, me]
theorem fault_none {evs : List Ev} (ok : evsF false [] evs) (hl : evs.length ≤ 300) (s : DS) : m_play_fault [.tup (evs.map evD)] s = some (.ok .non, s) := by
  obtain ⟨r', y2, y3, y4, _, _, _, e⟩ := pf_loop (th := .tup (evs.map evD)) (s := s) (rest := []) evs 0 false [] .no .no .no (val0 _) ok (by simp; omega)
  rw [List.append_nil] at e
  refine run_v rfl ?_
  show runO (fb_play_fault ⟨[.dat (.tup (evs.map evD)), .no, .no, .no, .no], s⟩) = _
  rw [pf_pre (by simpa using hl), e]
  rfl
theorem fault_at {evs : List Ev} (ok : evsF false [] evs) {d : D} {rest : List D} (hb : BadAt (pedS false evs) (heldS [] evs) d) (hl : evs.length + 1 + rest.length ≤ 300) (s : DS) : m_play_fault [.tup (evs.map evD ++ d :: rest)] s = some (.ok (.tup [.int (evs.length : Int)]), s) := by
  obtain ⟨r', y2, y3, y4, _, d2, l2, e⟩ := pf_loop (th := .tup (evs.map evD ++ d :: rest)) (s := s) (rest := d :: rest) evs 0 false [] .no .no .no (val0 _) ok (by simp; omega)
  have cf := hb r' s (by simp at l2; omega) d2
  refine run_v rfl ?_
  show runO (fb_play_fault ⟨[.dat (.tup (evs.map evD ++ d :: rest)), .no, .no, .no, .no], s⟩) = _
  rw [pf_pre (by simp; omega), e]
  show runO (seqO (loop _ PB (D.tup [.int ((0 + evs.length : Nat) : Int), d] :: enD (0 + evs.length + 1) rest) _) _) = _
  rw [loop_v, Nat.zero_add]
  simp [-List.map_map, cf]
theorem fault_long {ds : List D} (hl : 300 < ds.length) (s : DS) : m_play_fault [.tup ds] s = some (.ok (.tup []), s) := by
  refine run_v rfl ?_
  have h2 : (300 : Int) < (ds.length : Int) := by omega
  have me : c_MOST_EVENTS = .int 300 := rfl
  simp [fb_play_fault, h2, me]
section
variable {t : D} {s : DS}
theorem np_ok (h : m_play_fault [t] s = some (.ok .non, s)) : m_need_play [t] s = some (.ok t, s) := by
  refine run_v rfl ?_
  simp [fb_need_play, h]
theorem np_no {xs : List D} (h : m_play_fault [t] s = some (.ok (.tup xs), s)) : m_need_play [t] s = some (.error ⟨"BadPlay", .tup xs⟩, s) := by
  refine run_v rfl ?_
  simp [fb_need_play, h]
theorem ip_ok (h : m_play_fault [t] s = some (.ok .non, s)) : m_is_play [t] s = some (.ok (.bl true), s) := by
  refine run_v rfl ?_
  simp [fb_is_play, h]
theorem ip_no {xs : List D} (h : m_play_fault [t] s = some (.ok (.tup xs), s)) : m_is_play [t] s = some (.ok (.bl false), s) := by
  refine run_v rfl ?_
  simp [fb_is_play, h]
end
end S
namespace S
open PyProof.Rows PySem.Spec PySem L2 DE
/-! ### the first event that cannot follow, by the law -/
def folB (p : Bool) (hs : List Int) : Ev → Bool
  | .press => !p
  | .lift => p
  | .up k => hs.contains k
  | .down k => !hs.contains k
theorem folB_iff {p : Bool} {hs : List Int} {ev : Ev} : folB p hs ev = true ↔ folF p hs ev := by
  cases ev <;> simp [folB, folF]
def badIx : Bool → List Int → Nat → List Ev → Option Nat
  | _, _, _, [] => none
  | p, hs, i, e :: es => if folB p hs e = true then badIx (pedL p e) (heldL hs e) (i + 1) es else some i
@[simp] theorem repL_v (f h : Mo D) (g : Sg) : fRepL f h g = bdO (f g) fun d => bd h fun e => pRepL d e := by unfold fRepL; rw [bd_v]
@[simp] theorem pRepL_v (xs : List D) (k : Int) : pRepL (.lst xs) (.int k) = if 0 ≤ k ∧ k ≤ 1000 ∧ xs.length ≤ 100 then rt (List.replicate k.toNat xs).flatten else stop := rfl
@[simp] theorem int_v (f : Mo D) (g : Sg) : fInt f g = bdO (f g) fun d => match d with
  | .int i => rt (.int i)
  | .bl b => rt (.int (if b then 1 else 0))
  | _ => stop := by unfold fInt; rw [bd_v] <;> rfl
theorem ev_press (ev : Ev) (g : Sg) : pEq (evD ev) (.tup [.str "press"]) g = some (.ok (.bl (match ev with | .press => true | _ => false)), g) := by
  cases ev <;> kernel_rfl
theorem ev_lift (ev : Ev) (g : Sg) : pEq (evD ev) (.tup [.str "lift"]) g = some (.ok (.bl (match ev with | .lift => true | _ => false)), g) := by
  cases ev <;> kernel_rfl
abbrev FB1 : Ms := (fIf (fOr (fT (f2 pEq (fName 4) (fTup (fCons (rt (.str "press")) (rt []))))) (fT (f2 pEq (fName 4) (fTup (fCons (rt (.str "lift")) (rt [])))))) (fSeq (fIf (fT (f2 pEq (fName 2) (f2 pEq (fName 4) (fTup (fCons (rt (.str "press")) (rt [])))))) (fRet (fLet (fLst (fCons (fName 3) (rt []))))) (sOut .nx))
  (fSet 2 (fNotV (fName 2)))) (fIf (fT (f2 pEq (f2 (pIn false) (fIxD (fName 4) (rt (.int 1))) (fName 1)) (f2 pEq (fIxD (fName 4) (rt (.int 0))) (rt (.str "down"))))) (fRet (fLet (fLst (fCons (fName 3) (rt []))))) (fSet 1 (fLet (fCat (fLet (fComp [5] (fName 1) (gN 5) (fT (f2 pNe (fName 5) (fIxD (fName 4) (rt (.int 1))))) (fName 5))) (fLet (fRepL (fLet (fLst (fCons (fIxD (fName 4) (rt (.int 1))) (rt [])))) (fInt (f2 pEq (fIxD (fName 4) (rt (.int 0))) (rt (.str "down")))))))))))
abbrev fiS (pl : D) (hs : List Int) (p : Bool) (x3 x4 : Sl) : List Sl := [.dat pl, .dat (.lst (hs.map .int)), .dat (.bl p), x3, x4, .no]
theorem filt_not {hs : List Int} {k : Int} (h : k ∉ hs) : hs.filter (fun x => !decide (x = k)) = hs := List.filter_eq_self.mpr fun x hx => by
  have : x ≠ k := fun z => h (z ▸ hx)
  simp [this]
theorem first_turn {pl : D} {hs : List Int} (hl : hs.length ≤ 1000) {p : Bool} (ev : Ev) (i : Nat) (s : DS) :
    FB1 ⟨fiS pl hs p (.dat (.int (i : Int))) (.dat (evD ev)), s⟩ = if folB p hs ev = true then some (.nx, ⟨fiS pl (heldL hs ev) (pedL p ev) (.dat (.int (i : Int))) (.dat (evD ev)), s⟩) else some (.ret (.lst [.int (i : Int)]), ⟨fiS pl hs p (.dat (.int (i : Int))) (.dat (evD ev)), s⟩) := by
  have e1 := ev_press ev
  have e2 := ev_lift ev
  have hl' : hs.length ≤ 100000 := by omega
  cases ev with
  | press => cases p <;> simp [-List.map_map, e1, e2, folB, pedL, heldL]
  | lift => cases p <;> simp [-List.map_map, e1, e2, folB, pedL, heldL]
  | up k =>
    have cc := comp_gen (E := D.int) (F := D.int) (P := fun x => !decide (x = k)) (j := 5) (S := fiS pl hs p (.dat (.int (i : Int))) (.dat (evD (.up k)))) (s := s) (c := fT (f2 pNe (fName 5) (fIxD (fName 4) (rt (.int 1))))) (e := fName 5) hs (fun _ => rfl) (fun x _ => by simp [evD]) (fun x _ _ => by simp)
    unfold evD at e1 e2 cc
    by_cases h : k ∈ hs
    · have lf : (hs.filter fun x => !decide (x = k)).length ≤ 100000 := Nat.le_trans (List.length_filter_le _ _) hl'
      simp [-List.map_map, e1, e2, evD, h, cc, hl', lf, folB, heldL, pedL, show ¬ ("up" : Str) = "down" by decide]
    · simp [-List.map_map, e1, e2, evD, h, cc, hl', folB, heldL, pedL, show ¬ ("up" : Str) = "down" by decide]
  | down k =>
    have cc := comp_gen (E := D.int) (F := D.int) (P := fun x => !decide (x = k)) (j := 5) (S := fiS pl hs p (.dat (.int (i : Int))) (.dat (evD (.down k)))) (s := s) (c := fT (f2 pNe (fName 5) (fIxD (fName 4) (rt (.int 1))))) (e := fName 5) hs (fun _ => rfl) (fun x _ => by simp [evD]) (fun x _ _ => by simp)
    unfold evD at e1 e2 cc
    by_cases h : k ∈ hs
    · simp [-List.map_map, e1, e2, evD, h, cc, hl', folB, heldL, pedL]
    · rw [filt_not h] at cc
      have l9 : hs.length ≤ 99999 := by omega
      simp [-List.map_map, e1, e2, evD, h, cc, hl', l9, folB, heldL, pedL]
theorem first_loop {pl : D} {s : DS} : ∀ (evs : List Ev) (hs : List Int) (p : Bool) (i : Nat) (x3 x4 : Sl), hs.length + evs.length ≤ 1000 →
    ∃ S', loop (gT 2 (gsCons (gN 3) (gsCons (gN 4) gsNil))) FB1 (enD i (evs.map evD)) ⟨fiS pl hs p x3 x4, s⟩ = some (match badIx p hs i evs with | none => .nx | some j => .ret (.lst [.int (j : Int)]), ⟨S', s⟩)
  | [], hs, p, i, x3, x4, _ => ⟨_, rfl⟩
  | ev :: evs, hs, p, i, x3, x4, hl => by
    simp only [List.length_cons] at hl
    have ft := first_turn (pl := pl) (hs := hs) (by omega) (p := p) ev i s
    show ∃ S', loop _ FB1 (D.tup [.int (i : Int), evD ev] :: enD (i + 1) (evs.map evD)) _ = _
    unfold badIx
    by_cases h : folB p hs ev = true
    · rw [if_pos h] at ft ⊢
      have lh : (heldL hs ev).length ≤ hs.length + 1 := by
        cases ev with
        | press => exact Nat.le_succ _
        | lift => exact Nat.le_succ _
        | up k => exact Nat.le_succ_of_le (List.length_filter_le _ _)
        | down k => show (hs ++ [k]).length ≤ _; simp
      obtain ⟨S', e2⟩ := first_loop (pl := pl) (s := s) evs (heldL hs ev) (pedL p ev) (i + 1) (.dat (.int (i : Int))) (.dat (evD ev)) (by omega)
      refine ⟨S', Eq.trans ?_ e2⟩
      rw [loop_v]
      show lpO (FB1 ⟨fiS pl hs p (.dat (.int (i : Int))) (.dat (evD ev)), s⟩) _ _ _ = _
      rw [ft]; rfl
    · rw [if_neg h] at ft ⊢
      refine ⟨fiS pl hs p (.dat (.int (i : Int))) (.dat (evD ev)), ?_⟩
      rw [loop_v]
      show lpO (FB1 ⟨fiS pl hs p (.dat (.int (i : Int))) (.dat (evD ev)), s⟩) _ _ _ = _
      rw [ft]; rfl
theorem first_ok {evs : List Ev} (hl : evs.length ≤ 1000) (s : DS) : m__law_first [.tup (evs.map evD)] s = some (.ok (.lst (match badIx false [] 0 evs with | none => [] | some j => [.int (j : Int)])), s) := by
  obtain ⟨S', e⟩ := first_loop (pl := .tup (evs.map evD)) (s := s) evs [] false 0 .no .no (by simp; omega)
  have fe : fb__law_first = fSeq (fParDD 1 2 (fLet (fLst (rt []))) (rt (.bl false))) (fSeq (fForEn (fCons (fName 0) (rt [])) (gT 2 (gsCons (gN 3) (gsCons (gN 4) gsNil))) FB1) (fRet (fLet (fLst (rt []))))) := rfl
  refine run_v rfl ?_
  generalize hF : FB1 = F at e fe
  replace e : loop _ F (enD 0 (evs.map evD)) ⟨[.dat (.tup (evs.map evD)), .dat (.lst []), .dat (.bl false), .no, .no, .no], s⟩ = _ := e
  rw [fe]
  cases hb : badIx false [] 0 evs with
  | none => rw [hb] at e; dsimp only at e; simp [-List.map_map, e]
  | some j => rw [hb] at e; dsimp only at e; simp [-List.map_map, e]
/-- parted at the first that cannot follow -/
theorem bad_none : ∀ {evs : List Ev} {p : Bool} {hs : List Int} {i : Nat}, badIx p hs i evs = none → (∀ ev ∈ evs, evKey ev) → evsF p hs evs
  | [], _, _, _, _, _ => trivial
  | e :: es, p, hs, i, h, k => by
    unfold badIx at h
    split at h
    · rename_i c
      exact ⟨⟨k e List.mem_cons_self, folB_iff.mp c⟩, bad_none h fun x hx => k x (List.mem_cons_of_mem _ hx)⟩
    · cases h
theorem bad_some : ∀ {evs : List Ev} {p : Bool} {hs : List Int} {i j : Nat}, badIx p hs i evs = some j → (∀ ev ∈ evs, evKey ev) → ∃ pre ev rest, evs = pre ++ ev :: rest ∧ evsF p hs pre ∧ ¬ folF (pedS p pre) (heldS hs pre) ev ∧ j = i + pre.length
  | [], _, _, _, _, h, _ => by cases h
  | e :: es, p, hs, i, j, h, k => by
    unfold badIx at h
    split at h
    · rename_i c
      obtain ⟨pre, ev, rest, h1, h2, h3, h4⟩ := bad_some h fun x hx => k x (List.mem_cons_of_mem _ hx)
      exact ⟨e :: pre, ev, rest, by rw [h1]; rfl, ⟨⟨k e List.mem_cons_self, folB_iff.mp c⟩, h2⟩, h3, by rw [h4, List.length_cons]; omega⟩
    · rename_i c
      cases h
      exact ⟨[], e, es, rfl, trivial, fun z => c (folB_iff.mpr z), rfl⟩
theorem evsF_app : ∀ {es fs : List Ev} {p : Bool} {hs : List Int}, evsF p hs (es ++ fs) → evsF p hs es ∧ evsF (pedS p es) (heldS hs es) fs
  | [], fs, p, hs, h => ⟨trivial, h⟩
  | e :: es, fs, p, hs, h => by
    obtain ⟨a, b⟩ := evsF_app (es := es) h.2
    exact ⟨⟨h.1, a⟩, b⟩
theorem evsF_keys : ∀ {es : List Ev} {p : Bool} {hs : List Int}, evsF p hs es → ∀ e ∈ es, evKey e
  | [], _, _, _, e, he => by cases he
  | a :: es, p, hs, h, e, he => by
    rcases List.mem_cons.mp he with rfl | he
    · exact h.1.1
    · exact evsF_keys h.2 e he
end S
namespace K10
open PyProof.Rows PySem.Spec PySem L2 DE S
def top (i : Nat) : Stmt := PySem.Challenge.pw_stolenvoices_k10_plays_refused.main.body.getD i (.Pass ⟨0, 0, 0, 0⟩)
structure Ty (mg : Str → Option Value) : Prop where
  z_int : mg "int" = none
structure Tx (P : Program) (w : World) (K : PySem.W.Frag) (mg : Str → Option Value) (base : Heap) (Γ : Gam) : Prop where
  z_bool : mg "bool" = none
  z_enumerate : mg "enumerate" = none
  z_int : mg "int" = none
  z_isinstance : mg "isinstance" = none
  z_len : mg "len" = none
  z_list : mg "list" = none
  z_max : mg "max" = none
  z_min : mg "min" = none
  z_range : mg "range" = none
  z_repr : mg "repr" = none
  z_str : mg "str" = none
  z_tuple : mg "tuple" = none
  c_MOST_KEY : Cst K mg "MOST_KEY" c_MOST_KEY
  c_START : Cst K mg "START" c_START
  c_KEY_WORDS : Cst K mg "KEY_WORDS" c_KEY_WORDS
  c_PEDAL_WORDS : Cst K mg "PEDAL_WORDS" c_PEDAL_WORDS
  c_MOST_EVENTS : Cst K mg "MOST_EVENTS" c_MOST_EVENTS
  c_ENOUGH : Cst K mg "ENOUGH" c_ENOUGH
  x_BadPlay : ErrX P w K mg base Γ "BadPlay"
  h_BadEvent : HdX K mg Γ "BadEvent" tb_BadEvent
  h_BadMachine : HdX K mg Γ "BadMachine" tb_BadMachine
  h_BadPlay : HdX K mg Γ "BadPlay" tb_BadPlay
  h_VoiceError : HdX K mg Γ "VoiceError" tb_VoiceError
  fo_place : FldOk Γ "place" cs_place
  k : ErrK K Γ
section
variable {P : Program} {w : World} {K : PySem.W.Frag} {mg : Str → Option Value} {base : Heap} {Γ : Gam}
/-! ### is_whole -/
abbrev s_is_whole : Stmt := top 7
theorem sc_is_whole : FnScope ["thing", "least", "most"] ["thing", "least", "most"] (defScope s_is_whole) := ⟨rfl, rfl, rfl, by decide +kernel, rfl, by decide +kernel, by decide +kernel⟩
theorem kf_is_whole {f : Addr} {fd : FuncData} (T : Tx P w K mg base Γ) (F : Fun K "is_whole" "is_whole" s_is_whole f fd) (hm : mg "is_whole" = some (.ref f))  : Kf P w K mg base 1 "is_whole" (dsp K Γ 3 m_is_whole) :=
  kf_of (ps := ["thing", "least", "most"]) (N := ["thing", "least", "most"]) F hm sc_is_whole (F.binds (ps := ["thing", "least", "most"]) fun _ _ _ _ _ _ us hl => match us, hl with | [_, _, _], _ => rfl) (fun cdv A outer s H E C =>
  b_cons (s_if (t_w (w_or (t_val (d_isi (T := "bool") (dv_ 0) (pe_bltn (by rfl) T.z_bool (by decide +kernel) rfl) (by rfl) T.z_isinstance (by decide +kernel))) (w_or1 (t_not (t_val (d_isi (T := "int") (dv_ 0) (pe_bltn (by rfl) T.z_int (by decide +kernel) rfl) (by rfl) T.z_isinstance (by decide +kernel)))))))
  (b_one (s_ret d_bl))
  b_nil)
  (b_one (s_ret (d_chain o_le o_le (dv_ 1) (dv_ 0) (dv_ 2)))))

/-! ### is_word -/
abbrev s_is_word : Stmt := top 8
theorem sc_is_word : FnScope ["thing", "words"] ["thing", "words"] (defScope s_is_word) := ⟨rfl, rfl, rfl, by decide +kernel, rfl, by decide +kernel, by decide +kernel⟩
theorem kf_is_word {f : Addr} {fd : FuncData} (T : Tx P w K mg base Γ) (F : Fun K "is_word" "is_word" s_is_word f fd) (hm : mg "is_word" = some (.ref f))  : Kf P w K mg base 1 "is_word" (dsp K Γ 2 m_is_word) :=
  kf_of (ps := ["thing", "words"]) (N := ["thing", "words"]) F hm sc_is_word (F.binds (ps := ["thing", "words"]) fun _ _ _ _ _ _ us hl => match us, hl with | [_, _], _ => rfl) (fun cdv A outer s H E C =>
  b_one (s_ret (d_and (d_isi (T := "str") (dv_ 0) (pe_bltn (by rfl) T.z_str (by decide +kernel) rfl) (by rfl) T.z_isinstance (by decide +kernel)) (d_one (d_cmp o_in (dv_ 0) (dv_ 1) (by rfl))))))

/-! ### is_key -/
abbrev s_is_key : Stmt := top 9
theorem sc_is_key : FnScope ["thing"] ["thing"] (defScope s_is_key) := ⟨rfl, rfl, rfl, by decide +kernel, rfl, by decide +kernel, by decide +kernel⟩
theorem kf_is_key {f : Addr} {fd : FuncData} (T : Tx P w K mg base Γ) (F : Fun K "is_key" "is_key" s_is_key f fd) (hm : mg "is_key" = some (.ref f)) (K_is_whole : Kf P w K mg base 1 "is_whole" (dsp K Γ 3 m_is_whole)) : Kf P w K mg base 2 "is_key" (dsp K Γ 1 m_is_key) :=
  kf_of (ps := ["thing"]) (N := ["thing"]) F hm sc_is_key (F.binds (ps := ["thing"]) fun _ _ _ _ _ _ us hl => match us, hl with | [_], _ => rfl) (fun cdv A outer s H E C =>
  b_one (s_ret (d_callK K_is_whole (by decide) C (by rfl) (da_cons (dv_ 0) (da_cons d_int (da_cons (d_gl T.c_MOST_KEY (by rfl)) da_nil))))))

/-! ### down_keys -/
abbrev s_down_keys : Stmt := top 12
theorem sc_down_keys : FnScope ["row", "key", "mark"] ["row"] (defScope s_down_keys) := ⟨rfl, rfl, rfl, by decide +kernel, rfl, by decide +kernel, by decide +kernel⟩
theorem kf_down_keys {f : Addr} {fd : FuncData} (T : Tx P w K mg base Γ) (F : Fun K "down_keys" "down_keys" s_down_keys f fd) (hm : mg "down_keys" = some (.ref f))  : Kf P w K mg base 1 "down_keys" (dsp K Γ 1 m_down_keys) :=
  kf_of (ps := ["row"]) (N := ["row", "key", "mark"]) F hm sc_down_keys (F.binds (ps := ["row"]) fun _ _ _ _ _ _ us hl => match us, hl with | [_], _ => rfl) (fun cdv A outer s H E C =>
  b_one (s_ret (d_let (d_comp (own := [("key", 1), ("mark", 2)]) (js := ([1] ++ ([2] ++ []))) (gt := (gTup K 2 (gCons (gName 1) (gCons (gName 2) gNil)))) C.calm sc_down_keys.nd (dv_ 0) (blk_ok (by decide +kernel)) (by decide) ⟨fun _ _ _ _ _ => g_tup (by rfl) (gs_cons (g_name 1 sc_down_keys.nd) (gs_cons (g_name 2 sc_down_keys.nd) gs_nil)), fun _ _ _ _ _ => pts_1 (t_cmp (o_ne C.room.units) (dv_ 2) d_str (nomark _)), fun _ _ _ _ _ => dv_ 1⟩))))

/-! ### is_event -/
abbrev s_is_event : Stmt := top 16
theorem sc_is_event : FnScope ["thing"] ["thing"] (defScope s_is_event) := ⟨rfl, rfl, rfl, by decide +kernel, rfl, by decide +kernel, by decide +kernel⟩
theorem kf_is_event {f : Addr} {fd : FuncData} (T : Tx P w K mg base Γ) (F : Fun K "is_event" "is_event" s_is_event f fd) (hm : mg "is_event" = some (.ref f)) (K_is_word : Kf P w K mg base 1 "is_word" (dsp K Γ 2 m_is_word)) (K_is_key : Kf P w K mg base 2 "is_key" (dsp K Γ 1 m_is_key)) : Kf P w K mg base 3 "is_event" (dsp K Γ 1 m_is_event) :=
  kf_of (ps := ["thing"]) (N := ["thing"]) F hm sc_is_event (F.binds (ps := ["thing"]) fun _ _ _ _ _ _ us hl => match us, hl with | [_], _ => rfl) (fun cdv A outer s H E C =>
  b_cons (s_if (t_not (t_val (d_isi (T := "tuple") (dv_ 0) (pe_bltn (by rfl) T.z_tuple (by decide +kernel) rfl) (by rfl) T.z_isinstance (by decide +kernel))))
  (b_one (s_ret d_bl))
  b_nil)
  (b_cons (s_if (t_cmp (o_eq C.room.units) (d_len (dp_ 0) (by rfl) T.z_len PySem.boot_len) d_int (nomark _))
  (b_one (s_ret (d_callK K_is_word (by decide) C (by rfl) (da_cons (d_ix (dv_ 0) d_int (fun _ _ => rfl)) (da_cons (d_gl T.c_PEDAL_WORDS (by rfl)) da_nil)))))
  b_nil)
  (b_one (s_ret (d_and (d_cmp (o_eq C.room.units) (d_len (dp_ 0) (by rfl) T.z_len PySem.boot_len) d_int (nomark _)) (d_and (d_callK K_is_word (by decide) C (by rfl) (da_cons (d_ix (dv_ 0) d_int (fun _ _ => rfl)) (da_cons (d_gl T.c_KEY_WORDS (by rfl)) da_nil))) (d_one (d_callK K_is_key (by decide) C (by rfl) (da_cons (d_ix (dv_ 0) d_int (fun _ _ => rfl)) da_nil)))))))))

/-! ### can_follow -/
abbrev s_can_follow : Stmt := top 17
theorem sc_can_follow : FnScope ["state", "thing", "word", "pedal", "row"] ["state", "thing"] (defScope s_can_follow) := ⟨rfl, rfl, rfl, by decide +kernel, rfl, by decide +kernel, by decide +kernel⟩
theorem kf_can_follow {f : Addr} {fd : FuncData} (T : Tx P w K mg base Γ) (F : Fun K "can_follow" "can_follow" s_can_follow f fd) (hm : mg "can_follow" = some (.ref f)) (K_down_keys : Kf P w K mg base 1 "down_keys" (dsp K Γ 1 m_down_keys)) (K_is_event : Kf P w K mg base 3 "is_event" (dsp K Γ 1 m_is_event)) : Kf P w K mg base 4 "can_follow" (dsp K Γ 2 m_can_follow) :=
  kf_of (ps := ["state", "thing"]) (N := ["state", "thing", "word", "pedal", "row"]) F hm sc_can_follow (F.binds (ps := ["state", "thing"]) fun _ _ _ _ _ _ us hl => match us, hl with | [_, _], _ => rfl) (fun cdv A outer s H E C =>
  b_cons (s_if (t_not (t_val (d_callK K_is_event (by decide) C (by rfl) (da_cons (dv_ 1) da_nil))))
  (b_one (s_ret d_bl))
  b_nil)
  (b_cons (s_asg (dv_ 0) (g_tup C.calm (gs_cons (g_name 3 sc_can_follow.nd) (gs_cons (g_name 4 sc_can_follow.nd) gs_nil))))
  (b_cons (s_set 2 sc_can_follow.nd (d_ix (dv_ 1) d_int (fun _ _ => rfl)))
  (b_cons (s_if (t_cmp (o_eq C.room.units) (dv_ 2) d_str (nomark _))
  (b_one (s_ret (d_not (dv_ 3))))
  b_nil)
  (b_cons (s_if (t_cmp (o_eq C.room.units) (dv_ 2) d_str (nomark _))
  (b_one (s_ret (dv_ 3)))
  b_nil)
  (b_one (s_ret (d_cmp (o_eq C.room.units) (d_cmp o_in (d_ix (dv_ 1) d_int (fun _ _ => rfl)) (d_callK K_down_keys (by decide) C (by rfl) (da_cons (dv_ 4) da_nil)) (by rfl)) (d_cmp (o_eq C.room.units) (dv_ 2) d_str (nomark _)) (nomark _)))))))))

/-! ### without -/
abbrev s_without : Stmt := top 19
theorem sc_without : FnScope ["row", "key", "pair"] ["row", "key"] (defScope s_without) := ⟨rfl, rfl, rfl, by decide +kernel, rfl, by decide +kernel, by decide +kernel⟩
theorem kf_without {f : Addr} {fd : FuncData} (T : Tx P w K mg base Γ) (F : Fun K "without" "without" s_without f fd) (hm : mg "without" = some (.ref f))  : Kf P w K mg base 1 "without" (dsp K Γ 2 m_without) :=
  kf_of (ps := ["row", "key"]) (N := ["row", "key", "pair"]) F hm sc_without (F.binds (ps := ["row", "key"]) fun _ _ _ _ _ _ us hl => match us, hl with | [_, _], _ => rfl) (fun cdv A outer s H E C =>
  b_one (s_ret (d_tuple (d_pk (d_comp (own := [("pair", 2)]) (js := [2]) C.calm sc_without.nd (dv_ 0) (blk_ok (by decide +kernel)) (by decide) ⟨fun _ _ _ _ _ => g_name 2 sc_without.nd, fun _ _ _ _ _ => pts_1 (t_cmp (o_ne C.room.units) (d_ix (dv_ 2) d_int (fun _ _ => rfl)) (dv_ 1) (nomark _)), fun _ _ _ _ _ => dv_ 2⟩)) (by rfl) T.z_tuple (by decide +kernel))))

/-! ### marked -/
abbrev s_marked : Stmt := top 20
theorem sc_marked : FnScope ["row", "keys", "mark", "pair"] ["row", "keys", "mark"] (defScope s_marked) := ⟨rfl, rfl, rfl, by decide +kernel, rfl, by decide +kernel, by decide +kernel⟩
theorem kf_marked {f : Addr} {fd : FuncData} (T : Tx P w K mg base Γ) (F : Fun K "marked" "marked" s_marked f fd) (hm : mg "marked" = some (.ref f))  : Kf P w K mg base 1 "marked" (dsp K Γ 3 m_marked) :=
  kf_of (ps := ["row", "keys", "mark"]) (N := ["row", "keys", "mark", "pair"]) F hm sc_marked (F.binds (ps := ["row", "keys", "mark"]) fun _ _ _ _ _ _ us hl => match us, hl with | [_, _, _], _ => rfl) (fun cdv A outer s H E C =>
  b_one (s_ret (d_tuple (d_pk (d_comp (own := [("pair", 3)]) (js := [3]) C.calm sc_marked.nd (dv_ 0) (blk_ok (by decide +kernel)) (by decide) ⟨fun _ _ _ _ _ => g_name 3 sc_marked.nd, fun _ _ _ _ _ => pts_yes, fun _ _ _ _ _ => d_ifE (t_cmp o_in (d_ix (dv_ 3) d_int (fun _ _ => rfl)) (dv_ 1) (by rfl)) (d_tup (da_cons (d_ix (dv_ 3) d_int (fun _ _ => rfl)) (da_cons (dv_ 2) da_nil))) (dv_ 3)⟩)) (by rfl) T.z_tuple (by decide +kernel))))

/-! ### chosen -/
abbrev s_chosen : Stmt := top 21
theorem sc_chosen : FnScope ["keys", "word"] ["keys", "word"] (defScope s_chosen) := ⟨rfl, rfl, rfl, by decide +kernel, rfl, by decide +kernel, by decide +kernel⟩
theorem kp_chosen {f : Addr} {fd : FuncData} (T : Tx P w K mg base Γ) (F : Fun K "chosen" "chosen" s_chosen f fd) (hm : mg "chosen" = some (.ref f)) : Kf P w K mg base 2 "chosen" spCho :=
  DE.kp_chosen F hm sc_chosen rfl (F.binds (ps := ["keys", "word"]) fun _ _ _ _ _ _ us hl => match us, hl with | [_, _], _ => rfl) (fun cdv A outer s H E C =>
  pss_cons (ps_if (pt_cmpR op_eq (pe_var (i := 1) rfl (.inl rfl)) pe_str (nomark _)) (pss_one (ps_ret (pe_ix ix_list (pe_var (i := 0) rfl (.inl rfl)) pe_int (fun _ _ => rfl)))) pss_nil)
    (pss_cons (ps_if (pt_cmpR op_eq (pe_var (i := 1) rfl (.inl rfl)) pe_str (nomark _)) (pss_one (ps_ret (pe_ix ix_list (pe_var (i := 0) rfl (.inl rfl)) (pe_un un_neg pe_int) (fun _ _ => rfl)))) pss_nil)
    (pss_cons (ps_if (pt_cmpR op_eq (pe_var (i := 1) rfl (.inl rfl)) pe_str (nomark _)) (pss_one (ps_ret (pe_callB (cr_min C.calm) (by rfl) T.z_min (by decide +kernel) (pa_cons (pe_var (i := 0) rfl (.inl rfl)) pa_nil)))) pss_nil)
    (pss_cons (ps_if (pt_cmpR op_eq (pe_var (i := 1) rfl (.inl rfl)) pe_str (nomark _)) (pss_one (ps_ret (pe_callB (cr_max C.calm) (by rfl) T.z_max (by decide +kernel) (pa_cons (pe_var (i := 0) rfl (.inl rfl)) pa_nil)))) pss_nil)
    (pss_one (ps_ret pe_non))))))
theorem kf_chosen {f : Addr} {fd : FuncData} (T : Tx P w K mg base Γ) (F : Fun K "chosen" "chosen" s_chosen f fd) (hm : mg "chosen" = some (.ref f))  : Kf P w K mg base 1 "chosen" (dsp K Γ 2 m_chosen) :=
  kf_of (ps := ["keys", "word"]) (N := ["keys", "word"]) F hm sc_chosen (F.binds (ps := ["keys", "word"]) fun _ _ _ _ _ _ us hl => match us, hl with | [_, _], _ => rfl) (fun cdv A outer s H E C =>
  b_cons (s_if (t_cmp (o_eq C.room.units) (dv_ 1) d_str (nomark _))
  (b_one (s_ret (d_ix (dv_ 0) d_int (fun _ _ => rfl))))
  b_nil)
  (b_cons (s_if (t_cmp (o_eq C.room.units) (dv_ 1) d_str (nomark _))
  (b_one (s_ret (d_ix (dv_ 0) (d_neg d_int) (fun _ _ => rfl))))
  b_nil)
  (b_cons (s_if (t_cmp (o_eq C.room.units) (dv_ 1) d_str (nomark _))
  (b_one (s_ret (d_min C.calm (dv_ 0) (by rfl) T.z_min (by decide +kernel))))
  b_nil)
  (b_cons (s_if (t_cmp (o_eq C.room.units) (dv_ 1) d_str (nomark _))
  (b_one (s_ret (d_max C.calm (dv_ 0) (by rfl) T.z_max (by decide +kernel))))
  b_nil)
  (b_one (s_ret d_non))))))

/-! ### outer_keys -/
abbrev s_outer_keys : Stmt := top 22
theorem sc_outer_keys : FnScope ["word", "loud", "pair", "keys", "outer"] ["word", "loud"] (defScope s_outer_keys) := ⟨rfl, rfl, rfl, by decide +kernel, rfl, by decide +kernel, by decide +kernel⟩
theorem kf_outer_keys {f : Addr} {fd : FuncData} (T : Tx P w K mg base Γ) (F : Fun K "outer_keys" "outer_keys" s_outer_keys f fd) (hm : mg "outer_keys" = some (.ref f))  : Kf P w K mg base 1 "outer_keys" (dsp K Γ 2 m_outer_keys) :=
  kf_of (ps := ["word", "loud"]) (N := ["word", "loud", "pair", "keys", "outer"]) F hm sc_outer_keys (F.binds (ps := ["word", "loud"]) fun _ _ _ _ _ _ us hl => match us, hl with | [_, _], _ => rfl) (fun cdv A outer s H E C =>
  b_cons (s_setC (i := 3) (own := [("pair", 2)]) (js := [2]) C.calm sc_outer_keys.nd rfl rfl (sw_true rfl rfl rfl (by decide +kernel)) (dv_ 1) (blk_ok (by decide +kernel)) (by decide) ⟨fun _ _ _ _ _ => g_name 2 sc_outer_keys.nd, fun _ _ _ _ _ => pts_yes, fun _ _ _ _ _ => d_ix (dv_ 2) d_int (fun _ _ => rfl)⟩)
  (b_cons (s_setO 4 sc_outer_keys.nd (d_lstO da_nil))
  (b_cons (s_if (t_cmp (o_ne C.room.units) (dv_ 0) d_str (nomark _))
  (b_one (s_exp (d_app 4 (d_min C.calm (dv_ 3) (by rfl) T.z_min (by decide +kernel)))))
  b_nil)
  (b_cons (s_if (t_cmp (o_ne C.room.units) (dv_ 0) d_str (nomark _))
  (b_one (s_exp (d_app 4 (d_max C.calm (dv_ 3) (by rfl) T.z_max (by decide +kernel)))))
  b_nil)
  (b_one (s_ret (dv_ 4)))))))

/-! ### left_by -/
abbrev s_left_by : Stmt := top 23
theorem sc_left_by : FnScope ["word", "candidates", "loud", "key", "pair", "outer"] ["word", "candidates", "loud", "key"] (defScope s_left_by) := ⟨rfl, rfl, rfl, by decide +kernel, rfl, by decide +kernel, by decide +kernel⟩
theorem kf_left_by {f : Addr} {fd : FuncData} (T : Tx P w K mg base Γ) (F : Fun K "left_by" "left_by" s_left_by f fd) (hm : mg "left_by" = some (.ref f)) (K_outer_keys : Kf P w K mg base 1 "outer_keys" (dsp K Γ 2 m_outer_keys)) : Kf P w K mg base 2 "left_by" (dsp K Γ 4 m_left_by) :=
  kf_of (ps := ["word", "candidates", "loud", "key"]) (N := ["word", "candidates", "loud", "key", "pair", "outer"]) F hm sc_left_by (F.binds (ps := ["word", "candidates", "loud", "key"]) fun _ _ _ _ _ _ us hl => match us, hl with | [_, _, _, _], _ => rfl) (fun cdv A outer s H E C =>
  b_cons (s_if (t_cmp (o_eq C.room.units) (dv_ 0) d_str (nomark _))
  (b_one (s_ret (d_let (d_comp (own := [("pair", 4)]) (js := [4]) C.calm sc_left_by.nd (dv_ 1) (blk_ok (by decide +kernel)) (by decide) ⟨fun _ _ _ _ _ => g_name 4 sc_left_by.nd, fun _ _ _ _ _ => pts_1 (t_cmp (o_eq C.room.units) (d_ix (dv_ 4) d_int (fun _ _ => rfl)) d_str (nomark _)), fun _ _ _ _ _ => dv_ 4⟩))))
  b_nil)
  (b_cons (s_if (t_cmp o_in (dv_ 0) (d_tup (da_cons d_str (da_cons d_str da_nil))) (by rfl))
  (b_one (s_ret (d_let (d_comp (own := [("pair", 4)]) (js := [4]) C.calm sc_left_by.nd (dv_ 1) (blk_ok (by decide +kernel)) (by decide) ⟨fun _ _ _ _ _ => g_name 4 sc_left_by.nd, fun _ _ _ _ _ => pts_1 (t_cmp o_lt (d_ix (dv_ 4) d_int (fun _ _ => rfl)) (dv_ 3) (nomark _)), fun _ _ _ _ _ => dv_ 4⟩))))
  b_nil)
  (b_cons (s_if (t_cmp o_in (dv_ 0) (d_tup (da_cons d_str (da_cons d_str da_nil))) (by rfl))
  (b_one (s_ret (d_let (d_comp (own := [("pair", 4)]) (js := [4]) C.calm sc_left_by.nd (dv_ 1) (blk_ok (by decide +kernel)) (by decide) ⟨fun _ _ _ _ _ => g_name 4 sc_left_by.nd, fun _ _ _ _ _ => pts_1 (t_cmp o_gt (d_ix (dv_ 4) d_int (fun _ _ => rfl)) (dv_ 3) (nomark _)), fun _ _ _ _ _ => dv_ 4⟩))))
  b_nil)
  (b_cons (s_set 5 sc_left_by.nd (d_callK K_outer_keys (by decide) C (by rfl) (da_cons (dv_ 0) (da_cons (dv_ 2) da_nil))))
  (b_one (s_ret (d_let (d_comp (own := [("pair", 4)]) (js := [4]) C.calm sc_left_by.nd (dv_ 1) (blk_ok (by decide +kernel)) (by decide) ⟨fun _ _ _ _ _ => g_name 4 sc_left_by.nd, fun _ _ _ _ _ => pts_1 (t_cmp o_nin (d_ix (dv_ 4) d_int (fun _ _ => rfl)) (dv_ 5) (by rfl)), fun _ _ _ _ _ => dv_ 4⟩))))))))

/-! ### victim_among -/
abbrev s_victim_among : Stmt := top 24
theorem sc_victim_among : FnScope ["criteria", "loud", "key", "candidates", "word", "left", "pair"] ["criteria", "loud", "key"] (defScope s_victim_among) := ⟨rfl, rfl, rfl, by decide +kernel, rfl, by decide +kernel, by decide +kernel⟩
theorem kf_victim_among {f : Addr} {fd : FuncData} (T : Tx P w K mg base Γ) (F : Fun K "victim_among" "victim_among" s_victim_among f fd) (hm : mg "victim_among" = some (.ref f)) (K_chosen : Kf P w K mg base 1 "chosen" (dsp K Γ 2 m_chosen)) (K_left_by : Kf P w K mg base 2 "left_by" (dsp K Γ 4 m_left_by)) : Kf P w K mg base 3 "victim_among" (dsp K Γ 3 m_victim_among) :=
  kf_of (ps := ["criteria", "loud", "key"]) (N := ["criteria", "loud", "key", "candidates", "word", "left", "pair"]) F hm sc_victim_among (F.binds (ps := ["criteria", "loud", "key"]) fun _ _ _ _ _ _ us hl => match us, hl with | [_, _, _], _ => rfl) (fun cdv A outer s H E C =>
  b_cons (s_set 3 sc_victim_among.nd (dv_ 1))
  (b_cons (s_for C.calm C.pas (d_sl (dv_ 0) do_none (do_some (d_neg d_int))) (g_name 4 sc_victim_among.nd)
  (b_cons (s_set 5 sc_victim_among.nd (d_callK K_left_by (by decide) C (by rfl) (da_cons (dv_ 4) (da_cons (dv_ 3) (da_cons (dv_ 1) (da_cons (dv_ 2) da_nil))))))
  (b_cons (s_if (t_w (w_and (t_not (t_tru (dv_ 5))) (w_and1 (t_cmp o_in (dv_ 4) (d_tup (da_cons d_str (da_cons d_str da_nil))) (by rfl)))))
  (b_one (s_ret d_non))
  b_nil)
  (b_one (s_set 3 sc_victim_among.nd (d_orT (dv_ 5) (d_one (dv_ 3))))))))
  (b_one (s_ret (d_callK K_chosen (by decide) C (by rfl) (da_cons (d_let (d_comp (own := [("pair", 6)]) (js := [6]) C.calm sc_victim_among.nd (dv_ 3) (blk_ok (by decide +kernel)) (by decide) ⟨fun _ _ _ _ _ => g_name 6 sc_victim_among.nd, fun _ _ _ _ _ => pts_yes, fun _ _ _ _ _ => d_ix (dv_ 6) d_int (fun _ _ => rfl)⟩)) (da_cons (d_ix (dv_ 0) (d_neg d_int) (fun _ _ => rfl)) da_nil)))))))

/-! ### go_down -/
abbrev s_go_down : Stmt := top 25
theorem sc_go_down : FnScope ["machine", "row", "key", "voices", "criteria", "_", "pair", "loud", "cut", "rest"] ["machine", "row", "key"] (defScope s_go_down) := ⟨rfl, rfl, rfl, by decide +kernel, rfl, by decide +kernel, by decide +kernel⟩
theorem kf_go_down {f : Addr} {fd : FuncData} (T : Tx P w K mg base Γ) (F : Fun K "go_down" "go_down" s_go_down f fd) (hm : mg "go_down" = some (.ref f)) (K_without : Kf P w K mg base 1 "without" (dsp K Γ 2 m_without)) (K_marked : Kf P w K mg base 1 "marked" (dsp K Γ 3 m_marked)) (K_victim_among : Kf P w K mg base 3 "victim_among" (dsp K Γ 3 m_victim_among)) : Kf P w K mg base 4 "go_down" (dsp K Γ 3 m_go_down) :=
  kf_of (ps := ["machine", "row", "key"]) (N := ["machine", "row", "key", "voices", "criteria", "_", "pair", "loud", "cut", "rest"]) F hm sc_go_down (F.binds (ps := ["machine", "row", "key"]) fun _ _ _ _ _ _ us hl => match us, hl with | [_, _, _], _ => rfl) (fun cdv A outer s H E C =>
  b_cons (s_asg (dv_ 0) (g_tup C.calm (gs_cons (g_name 3 sc_go_down.nd) (gs_cons (g_name 4 sc_go_down.nd) (gs_cons (g_name 5 sc_go_down.nd) gs_nil)))))
  (b_cons (s_if (t_cmp (o_inT C.room) (d_tup (da_cons (dv_ 2) (da_cons d_str da_nil))) (dv_ 1) (by rfl))
  (b_one (s_ret (d_tup (da_cons (d_tup (da_star (d_callK K_without (by decide) C (by rfl) (da_cons (dv_ 1) (da_cons (dv_ 2) da_nil))) (da_cons (d_tup (da_cons (dv_ 2) (da_cons d_str da_nil))) da_nil))) (da_cons (d_tup (da_cons (d_tup (da_cons d_str (da_cons (dv_ 2) da_nil))) da_nil)) da_nil)))))
  b_nil)
  (b_cons (s_setC (i := 7) (own := [("pair", 6)]) (js := [6]) C.calm sc_go_down.nd rfl rfl (sw_true rfl rfl rfl (by decide +kernel)) (dv_ 1) (blk_ok (by decide +kernel)) (by decide) ⟨fun _ _ _ _ _ => g_name 6 sc_go_down.nd, fun _ _ _ _ _ => pts_1 (t_cmp (o_ne C.room.units) (d_ix (dv_ 6) d_int (fun _ _ => rfl)) d_str (nomark _)), fun _ _ _ _ _ => dv_ 6⟩)
  (b_cons (s_if (t_cmp o_lt (d_len (dp_ 7) (by rfl) T.z_len PySem.boot_len) (dv_ 3) (nomark _))
  (b_one (s_ret (d_tup (da_cons (d_tup (da_star (dv_ 1) (da_cons (d_tup (da_cons (dv_ 2) (da_cons d_str da_nil))) da_nil))) (da_cons (d_tup (da_cons (d_tup (da_cons d_str (da_cons (dv_ 2) da_nil))) da_nil)) da_nil)))))
  b_nil)
  (b_cons (s_set 8 sc_go_down.nd (d_callK K_victim_among (by decide) C (by rfl) (da_cons (dv_ 4) (da_cons (dv_ 7) (da_cons (dv_ 2) da_nil)))))
  (b_cons (s_if (t_cmp o_is (dv_ 8) d_non (nomark _))
  (b_one (s_ret (d_tup (da_cons (d_tup (da_star (dv_ 1) (da_cons (d_tup (da_cons (dv_ 2) (da_cons d_str da_nil))) da_nil))) (da_cons (d_tup (da_cons (d_tup (da_cons d_str (da_cons (dv_ 2) da_nil))) da_nil)) da_nil)))))
  b_nil)
  (b_cons (s_set 9 sc_go_down.nd (d_ifE (t_cmp (o_inT C.room) (d_tup (da_cons (dv_ 8) (da_cons d_str da_nil))) (dv_ 1) (by rfl)) (d_callK K_without (by decide) C (by rfl) (da_cons (dv_ 1) (da_cons (dv_ 8) da_nil))) (d_callK K_marked (by decide) C (by rfl) (da_cons (dv_ 1) (da_cons (d_let (d_lstO (da_cons (dv_ 8) da_nil))) (da_cons d_str da_nil))))))
  (b_one (s_ret (d_tup (da_cons (d_tup (da_star (dv_ 9) (da_cons (d_tup (da_cons (dv_ 2) (da_cons d_str da_nil))) da_nil))) (da_cons (d_tup (da_cons (d_tup (da_cons d_str (da_cons (dv_ 8) da_nil))) (da_cons (d_tup (da_cons d_str (da_cons (dv_ 2) da_nil))) da_nil))) da_nil))))))))))))

/-! ### come_back -/
abbrev s_come_back : Stmt := top 26
theorem sc_come_back : FnScope ["machine", "row", "done", "voices", "_", "returning", "key", "mark", "waiting", "free", "many", "back"] ["machine", "row", "done"] (defScope s_come_back) := ⟨rfl, rfl, rfl, by decide +kernel, rfl, by decide +kernel, by decide +kernel⟩
theorem kf_come_back {f : Addr} {fd : FuncData} (T : Tx P w K mg base Γ) (F : Fun K "come_back" "come_back" s_come_back f fd) (hm : mg "come_back" = some (.ref f)) (K_marked : Kf P w K mg base 1 "marked" (dsp K Γ 3 m_marked)) (KP_chosen : Kf P w K mg base 2 "chosen" spCho) : Kf P w K mg base 3 "come_back" (dsp K Γ 3 m_come_back) :=
  kf_of (ps := ["machine", "row", "done"]) (N := ["machine", "row", "done", "voices", "_", "returning", "key", "mark", "waiting", "free", "many", "back"]) F hm sc_come_back (F.binds (ps := ["machine", "row", "done"]) fun _ _ _ _ _ _ us hl => match us, hl with | [_, _, _], _ => rfl) (fun cdv A outer s H E C =>
  b_cons (s_asg (dv_ 0) (g_tup C.calm (gs_cons (g_name 3 sc_come_back.nd) (gs_cons (g_name 4 sc_come_back.nd) (gs_cons (g_name 5 sc_come_back.nd) gs_nil)))))
  (b_cons (s_if (t_cmp (o_eq C.room.units) (dv_ 5) d_str (nomark _))
  (b_one (s_ret (d_tup (da_cons (dv_ 1) (da_cons (dv_ 2) da_nil)))))
  b_nil)
  (b_cons (s_setC (i := 8) (own := [("key", 6), ("mark", 7)]) (js := ([6] ++ ([7] ++ []))) (gt := (gTup K 2 (gCons (gName 6) (gCons (gName 7) gNil)))) C.calm sc_come_back.nd rfl rfl (sw_true rfl rfl rfl (by decide +kernel)) (dv_ 1) (blk_ok (by decide +kernel)) (by decide) ⟨fun _ _ _ _ _ => g_tup (by rfl) (gs_cons (g_name 6 sc_come_back.nd) (gs_cons (g_name 7 sc_come_back.nd) gs_nil)), fun _ _ _ _ _ => pts_1 (t_cmp (o_eq C.room.units) (dv_ 7) d_str (nomark _)), fun _ _ _ _ _ => dv_ 6⟩)
  (b_cons (s_set 9 sc_come_back.nd (d_bin o_sub (dv_ 3) (d_bin o_sub (d_len (dp_ 1) (by rfl) T.z_len PySem.boot_len) (d_len (dp_ 8) (by rfl) T.z_len PySem.boot_len))))
  (b_cons (s_set 10 sc_come_back.nd (d_min2 C.calm (dv_ 9) (d_len (dp_ 8) (by rfl) T.z_len PySem.boot_len) (by rfl) T.z_min (by decide +kernel)))
  (b_cons (s_setO 11 sc_come_back.nd (d_lstO da_nil))
  (b_cons (s_forR C.calm C.pas (da_cons (dv_ 10) da_nil) (g_name 4 sc_come_back.nd)
  (b_cons (s_set 6 sc_come_back.nd (d_cho 8 5 KP_chosen (by decide) C (by rfl)))
  (b_cons (s_exp (d_rem 8 (dv_ 6)))
  (b_one (s_exp (d_app 11 (dv_ 6)))))) (by rfl) T.z_range)
  (b_one (s_ret (d_tup (da_cons (d_callK K_marked (by decide) C (by rfl) (da_cons (dv_ 1) (da_cons (dv_ 11) (da_cons d_str da_nil)))) (da_cons (d_bin o_add (dv_ 2) (d_tuple (d_pk (d_comp (own := [("key", 6)]) (js := [6]) C.calm sc_come_back.nd (dv_ 11) (blk_ok (by decide +kernel)) (by decide) ⟨fun _ _ _ _ _ => g_name 6 sc_come_back.nd, fun _ _ _ _ _ => pts_yes, fun _ _ _ _ _ => d_tup (da_cons d_str (da_cons (dv_ 6) da_nil))⟩)) (by rfl) T.z_tuple (by decide +kernel))) da_nil))))))))))))

/-! ### go_up -/
abbrev s_go_up : Stmt := top 27
theorem sc_go_up : FnScope ["machine", "state", "key", "pedal", "row"] ["machine", "state", "key"] (defScope s_go_up) := ⟨rfl, rfl, rfl, by decide +kernel, rfl, by decide +kernel, by decide +kernel⟩
theorem kf_go_up {f : Addr} {fd : FuncData} (T : Tx P w K mg base Γ) (F : Fun K "go_up" "go_up" s_go_up f fd) (hm : mg "go_up" = some (.ref f)) (K_without : Kf P w K mg base 1 "without" (dsp K Γ 2 m_without)) (K_marked : Kf P w K mg base 1 "marked" (dsp K Γ 3 m_marked)) (K_come_back : Kf P w K mg base 3 "come_back" (dsp K Γ 3 m_come_back)) : Kf P w K mg base 4 "go_up" (dsp K Γ 3 m_go_up) :=
  kf_of (ps := ["machine", "state", "key"]) (N := ["machine", "state", "key", "pedal", "row"]) F hm sc_go_up (F.binds (ps := ["machine", "state", "key"]) fun _ _ _ _ _ _ us hl => match us, hl with | [_, _, _], _ => rfl) (fun cdv A outer s H E C =>
  b_cons (s_asg (dv_ 1) (g_tup C.calm (gs_cons (g_name 3 sc_go_up.nd) (gs_cons (g_name 4 sc_go_up.nd) gs_nil))))
  (b_cons (s_if (t_cmp (o_inT C.room) (d_tup (da_cons (dv_ 2) (da_cons d_str da_nil))) (dv_ 4) (by rfl))
  (b_one (s_ret (d_callK K_come_back (by decide) C (by rfl) (da_cons (dv_ 0) (da_cons (d_callK K_without (by decide) C (by rfl) (da_cons (dv_ 4) (da_cons (dv_ 2) da_nil))) (da_cons (d_tup (da_cons (d_tup (da_cons d_str (da_cons (dv_ 2) da_nil))) da_nil)) da_nil))))))
  b_nil)
  (b_cons (s_if (t_val (dv_ 3))
  (b_one (s_ret (d_tup (da_cons (d_callK K_marked (by decide) C (by rfl) (da_cons (dv_ 4) (da_cons (d_let (d_lstO (da_cons (dv_ 2) da_nil))) (da_cons d_str da_nil)))) (da_cons (d_tup (da_cons (d_tup (da_cons d_str (da_cons (dv_ 2) da_nil))) da_nil)) da_nil)))))
  b_nil)
  (b_one (s_ret (d_callK K_come_back (by decide) C (by rfl) (da_cons (dv_ 0) (da_cons (d_callK K_without (by decide) C (by rfl) (da_cons (dv_ 4) (da_cons (dv_ 2) da_nil))) (da_cons (d_tup (da_cons (d_tup (da_cons d_str (da_cons (dv_ 2) da_nil))) da_nil)) da_nil)))))))))

/-! ### lift -/
abbrev s_lift : Stmt := top 28
theorem sc_lift : FnScope ["machine", "row", "pair", "rest", "key", "mark", "ended"] ["machine", "row"] (defScope s_lift) := ⟨rfl, rfl, rfl, by decide +kernel, rfl, by decide +kernel, by decide +kernel⟩
theorem kf_lift {f : Addr} {fd : FuncData} (T : Tx P w K mg base Γ) (F : Fun K "lift" "lift" s_lift f fd) (hm : mg "lift" = some (.ref f)) (K_come_back : Kf P w K mg base 3 "come_back" (dsp K Γ 3 m_come_back)) : Kf P w K mg base 4 "lift" (dsp K Γ 2 m_lift) :=
  kf_of (ps := ["machine", "row"]) (N := ["machine", "row", "pair", "rest", "key", "mark", "ended"]) F hm sc_lift (F.binds (ps := ["machine", "row"]) fun _ _ _ _ _ _ us hl => match us, hl with | [_, _], _ => rfl) (fun cdv A outer s H E C =>
  b_cons (s_set 3 sc_lift.nd (d_tuple (d_pk (d_comp (own := [("pair", 2)]) (js := [2]) C.calm sc_lift.nd (dv_ 1) (blk_ok (by decide +kernel)) (by decide) ⟨fun _ _ _ _ _ => g_name 2 sc_lift.nd, fun _ _ _ _ _ => pts_1 (t_cmp (o_ne C.room.units) (d_ix (dv_ 2) d_int (fun _ _ => rfl)) d_str (nomark _)), fun _ _ _ _ _ => dv_ 2⟩)) (by rfl) T.z_tuple (by decide +kernel)))
  (b_cons (s_setC (i := 6) (own := [("key", 4), ("mark", 5)]) (js := ([4] ++ ([5] ++ []))) (gt := (gTup K 2 (gCons (gName 4) (gCons (gName 5) gNil)))) C.calm sc_lift.nd rfl rfl (sw_true rfl rfl rfl (by decide +kernel)) (dv_ 1) (blk_ok (by decide +kernel)) (by decide) ⟨fun _ _ _ _ _ => g_tup (by rfl) (gs_cons (g_name 4 sc_lift.nd) (gs_cons (g_name 5 sc_lift.nd) gs_nil)), fun _ _ _ _ _ => pts_1 (t_cmp (o_eq C.room.units) (dv_ 5) d_str (nomark _)), fun _ _ _ _ _ => d_tup (da_cons d_str (da_cons (dv_ 4) da_nil))⟩)
  (b_one (s_ret (d_callK K_come_back (by decide) C (by rfl) (da_cons (dv_ 0) (da_cons (dv_ 3) (da_cons (d_tuple (dp_ 6) (by rfl) T.z_tuple (by decide +kernel)) da_nil))))))))

/-! ### perform -/
abbrev s_perform : Stmt := top 29
theorem sc_perform : FnScope ["machine", "state", "event", "word", "pedal", "row", "after", "done"] ["machine", "state", "event"] (defScope s_perform) := ⟨rfl, rfl, rfl, by decide +kernel, rfl, by decide +kernel, by decide +kernel⟩
theorem kf_perform {f : Addr} {fd : FuncData} (T : Tx P w K mg base Γ) (F : Fun K "perform" "perform" s_perform f fd) (hm : mg "perform" = some (.ref f)) (K_go_down : Kf P w K mg base 4 "go_down" (dsp K Γ 3 m_go_down)) (K_go_up : Kf P w K mg base 4 "go_up" (dsp K Γ 3 m_go_up)) (K_lift : Kf P w K mg base 4 "lift" (dsp K Γ 2 m_lift)) : Kf P w K mg base 5 "perform" (dsp K Γ 3 m_perform) :=
  kf_of (ps := ["machine", "state", "event"]) (N := ["machine", "state", "event", "word", "pedal", "row", "after", "done"]) F hm sc_perform (F.binds (ps := ["machine", "state", "event"]) fun _ _ _ _ _ _ us hl => match us, hl with | [_, _, _], _ => rfl) (fun cdv A outer s H E C =>
  b_cons (s_asg (dv_ 1) (g_tup C.calm (gs_cons (g_name 4 sc_perform.nd) (gs_cons (g_name 5 sc_perform.nd) gs_nil))))
  (b_cons (s_set 3 sc_perform.nd (d_ix (dv_ 2) d_int (fun _ _ => rfl)))
  (b_cons (s_if (t_cmp (o_eq C.room.units) (dv_ 3) d_str (nomark _))
  (b_one (s_ret (d_tup (da_cons (d_tup (da_cons d_bl (da_cons (dv_ 5) da_nil))) (da_cons (d_tup da_nil) da_nil)))))
  b_nil)
  (b_cons (s_if (t_cmp (o_eq C.room.units) (dv_ 3) d_str (nomark _))
  (b_cons (s_asg (d_callK K_lift (by decide) C (by rfl) (da_cons (dv_ 0) (da_cons (dv_ 5) da_nil))) (g_tup C.calm (gs_cons (g_name 6 sc_perform.nd) (gs_cons (g_name 7 sc_perform.nd) gs_nil))))
  (b_one (s_ret (d_tup (da_cons (d_tup (da_cons d_bl (da_cons (dv_ 6) da_nil))) (da_cons (dv_ 7) da_nil))))))
  b_nil)
  (b_cons (s_if (t_cmp (o_eq C.room.units) (dv_ 3) d_str (nomark _))
  (b_one (s_asg (d_callK K_go_down (by decide) C (by rfl) (da_cons (dv_ 0) (da_cons (dv_ 5) (da_cons (d_ix (dv_ 2) d_int (fun _ _ => rfl)) da_nil)))) (g_tup C.calm (gs_cons (g_name 6 sc_perform.nd) (gs_cons (g_name 7 sc_perform.nd) gs_nil)))))
  (b_one (s_asg (d_callK K_go_up (by decide) C (by rfl) (da_cons (dv_ 0) (da_cons (dv_ 1) (da_cons (d_ix (dv_ 2) d_int (fun _ _ => rfl)) da_nil)))) (g_tup C.calm (gs_cons (g_name 6 sc_perform.nd) (gs_cons (g_name 7 sc_perform.nd) gs_nil))))))
  (b_one (s_ret (d_tup (da_cons (d_tup (da_cons (dv_ 4) (da_cons (dv_ 6) da_nil))) (da_cons (dv_ 7) da_nil))))))))))

/-! ### play_fault -/
abbrev s_play_fault : Stmt := top 33
theorem sc_play_fault : FnScope ["thing", "state", "number", "event", "_"] ["thing"] (defScope s_play_fault) := ⟨rfl, rfl, rfl, by decide +kernel, rfl, by decide +kernel, by decide +kernel⟩
theorem kf_play_fault {f : Addr} {fd : FuncData} (T : Tx P w K mg base Γ) (F : Fun K "play_fault" "play_fault" s_play_fault f fd) (hm : mg "play_fault" = some (.ref f)) (K_can_follow : Kf P w K mg base 4 "can_follow" (dsp K Γ 2 m_can_follow)) (K_perform : Kf P w K mg base 5 "perform" (dsp K Γ 3 m_perform)) : Kf P w K mg base 6 "play_fault" (dsp K Γ 1 m_play_fault) :=
  kf_of (ps := ["thing"]) (N := ["thing", "state", "number", "event", "_"]) F hm sc_play_fault (F.binds (ps := ["thing"]) fun _ _ _ _ _ _ us hl => match us, hl with | [_], _ => rfl) (fun cdv A outer s H E C =>
  b_cons (s_if (t_w (w_or (t_not (t_val (d_isi (T := "tuple") (dv_ 0) (pe_bltn (by rfl) T.z_tuple (by decide +kernel) rfl) (by rfl) T.z_isinstance (by decide +kernel)))) (w_or1 (t_cmp o_gt (d_len (dp_ 0) (by rfl) T.z_len PySem.boot_len) (d_gl T.c_MOST_EVENTS (by rfl)) (nomark _)))))
  (b_one (s_ret (d_tup da_nil)))
  b_nil)
  (b_cons (s_set 1 sc_play_fault.nd (d_gl T.c_START (by rfl)))
  (b_cons (s_forEn C.calm C.pas (da_cons (dv_ 0) da_nil) (g_tup C.calm (gs_cons (g_name 2 sc_play_fault.nd) (gs_cons (g_name 3 sc_play_fault.nd) gs_nil)))
  (b_cons (s_if (t_not (t_val (d_callK K_can_follow (by decide) C (by rfl) (da_cons (dv_ 1) (da_cons (dv_ 3) da_nil)))))
  (b_one (s_ret (d_tup (da_cons (dv_ 2) da_nil))))
  b_nil)
  (b_one (s_asg (d_callK K_perform (by decide) C (by rfl) (da_cons (d_gl T.c_ENOUGH (by rfl)) (da_cons (dv_ 1) (da_cons (dv_ 3) da_nil)))) (g_tup C.calm (gs_cons (g_name 1 sc_play_fault.nd) (gs_cons (g_name 4 sc_play_fault.nd) gs_nil)))))) (by rfl) T.z_enumerate)
  (b_one (s_ret d_non)))))

/-! ### need_play -/
abbrev s_need_play : Stmt := top 34
theorem sc_need_play : FnScope ["thing", "place"] ["thing"] (defScope s_need_play) := ⟨rfl, rfl, rfl, by decide +kernel, rfl, by decide +kernel, by decide +kernel⟩
theorem kf_need_play {f : Addr} {fd : FuncData} (T : Tx P w K mg base Γ) (F : Fun K "need_play" "need_play" s_need_play f fd) (hm : mg "need_play" = some (.ref f)) (K_play_fault : Kf P w K mg base 6 "play_fault" (dsp K Γ 1 m_play_fault)) : Kf P w K mg base 7 "need_play" (dsp K Γ 1 m_need_play) :=
  kf_of (ps := ["thing"]) (N := ["thing", "place"]) F hm sc_need_play (F.binds (ps := ["thing"]) fun _ _ _ _ _ _ us hl => match us, hl with | [_], _ => rfl) (fun cdv A outer s H E C =>
  b_cons (s_set 1 sc_need_play.nd (d_callK K_play_fault (by decide) C (by rfl) (da_cons (dv_ 0) da_nil)))
  (b_cons (s_if (t_cmp o_nis (dv_ 1) d_non (nomark _))
  (b_one (s_raise T.x_BadPlay C (by decide) (by rfl) (dv_ 1)))
  b_nil)
  (b_one (s_ret (dv_ 0)))))

/-! ### is_play -/
abbrev s_is_play : Stmt := top 35
theorem sc_is_play : FnScope ["thing"] ["thing"] (defScope s_is_play) := ⟨rfl, rfl, rfl, by decide +kernel, rfl, by decide +kernel, by decide +kernel⟩
theorem kf_is_play {f : Addr} {fd : FuncData} (T : Tx P w K mg base Γ) (F : Fun K "is_play" "is_play" s_is_play f fd) (hm : mg "is_play" = some (.ref f)) (K_play_fault : Kf P w K mg base 6 "play_fault" (dsp K Γ 1 m_play_fault)) : Kf P w K mg base 7 "is_play" (dsp K Γ 1 m_is_play) :=
  kf_of (ps := ["thing"]) (N := ["thing"]) F hm sc_is_play (F.binds (ps := ["thing"]) fun _ _ _ _ _ _ us hl => match us, hl with | [_], _ => rfl) (fun cdv A outer s H E C =>
  b_one (s_ret (d_cmp o_is (d_callK K_play_fault (by decide) C (by rfl) (da_cons (dv_ 0) da_nil)) d_non (nomark _))))

/-! ### _law_draw -/
abbrev s__law_draw : Stmt := top 38
theorem sc__law_draw : FnScope ["m", "limit", "mixed", "cell"] ["m", "limit"] (defScope s__law_draw) := ⟨rfl, rfl, rfl, by decide +kernel, rfl, by decide +kernel, by decide +kernel⟩
theorem kf__law_draw {f : Addr} {fd : FuncData} (T : Tx P w K mg base Γ) (F : Fun K "_law_draw" "_law_draw" s__law_draw f fd) (hm : mg "_law_draw" = some (.ref f))  : Kf P w K mg base 1 "_law_draw" (dsp K Γ 2 m__law_draw) :=
  kf_of (ps := ["m", "limit"]) (N := ["m", "limit", "mixed", "cell"]) F hm sc__law_draw (F.binds (ps := ["m", "limit"]) fun _ _ _ _ _ _ us hl => match us, hl with | [_, _], _ => rfl) (fun cdv A outer s H E C =>
  b_cons (s_while (fun g => g.s.great.length + 1) C.pas (t_w (w_and (t_cmp (o_ne C.room.units) (d_mget .great (hu_of C.room) (dv_ 0)) (d_let (d_lstO da_nil)) (nomark _)) (w_and1 (t_cmp (o_eq C.room.units) (d_ix (d_mget .great (hu_of C.room) (dv_ 0)) d_int (fun _ _ => rfl)) d_int (nomark _)))))
  (b_one (s_mput .great 0 (hu_of C.room) (dv_ 0) (d_sl (d_mget .great (hu_of C.room) (dv_ 0)) (do_some d_int) do_none))))
  (b_cons (s_if (t_cmp (o_ne C.room.units) (d_mget .great (hu_of C.room) (dv_ 0)) (d_let (d_lstO da_nil)) (nomark _))
  (b_cons (s_set 3 sc__law_draw.nd (d_ix (d_mget .great (hu_of C.room) (dv_ 0)) d_int (fun _ _ => rfl)))
  (b_cons (s_mput .great 0 (hu_of C.room) (dv_ 0) (d_let (d_catO (d_let (d_lstO (da_cons (d_bin o_div (dv_ 3) (dv_ 1)) da_nil))) (d_sl (d_mget .great (hu_of C.room) (dv_ 0)) (do_some d_int) do_none))))
  (b_one (s_ret (d_bin o_mod (d_intOf (dv_ 3) (by rfl) T.z_int (by decide +kernel)) (dv_ 1))))))
  b_nil)
  (b_cons (s_mput .turns 0 (hu_of C.room) (dv_ 0) (d_bin o_add (d_mget .turns (hu_of C.room) (dv_ 0)) d_int))
  (b_cons (s_set 2 sc__law_draw.nd (d_bin o_mod (d_intOf (d_bin o_add (d_bin o_add (d_bin o_mul (d_mget .seed (hu_of C.room) (dv_ 0)) d_int) (d_bin o_mul (d_bin o_mul (d_mget .turns (hu_of C.room) (dv_ 0)) (d_mget .turns (hu_of C.room) (dv_ 0))) d_int)) (d_mget .turns (hu_of C.room) (dv_ 0))) (by rfl) T.z_int (by decide +kernel)) d_int))
  (b_cons (s_set 2 sc__law_draw.nd (d_bin o_mod (d_intOf (d_bin o_add (d_bin o_mul (dv_ 2) d_int) d_int) (by rfl) T.z_int (by decide +kernel)) d_int))
  (b_one (s_ret (d_bin o_mod (d_bin o_div (d_bin o_mod (d_intOf (d_bin o_add (d_bin o_mul (dv_ 2) d_int) (d_mget .turns (hu_of C.room) (dv_ 0))) (by rfl) T.z_int (by decide +kernel)) d_int) d_int) (dv_ 1)))))))))

/-! ### _law_of -/
abbrev s__law_of : Stmt := top 39
theorem sc__law_of : FnScope ["m", "some"] ["m", "some"] (defScope s__law_of) := ⟨rfl, rfl, rfl, by decide +kernel, rfl, by decide +kernel, by decide +kernel⟩
theorem kf__law_of {f : Addr} {fd : FuncData} (T : Tx P w K mg base Γ) (F : Fun K "_law_of" "_law_of" s__law_of f fd) (hm : mg "_law_of" = some (.ref f)) (K__law_draw : Kf P w K mg base 1 "_law_draw" (dsp K Γ 2 m__law_draw)) : Kf P w K mg base 2 "_law_of" (dsp K Γ 2 m__law_of) :=
  kf_of (ps := ["m", "some"]) (N := ["m", "some"]) F hm sc__law_of (F.binds (ps := ["m", "some"]) fun _ _ _ _ _ _ us hl => match us, hl with | [_, _], _ => rfl) (fun cdv A outer s H E C =>
  b_one (s_ret (d_ix (dv_ 1) (d_callK K__law_draw (by decide) C (by rfl) (da_cons (dv_ 0) (da_cons (d_len (dp_ 1) (by rfl) T.z_len PySem.boot_len) da_nil))) (fun _ _ => rfl))))

/-! ### _law_play -/
abbrev s__law_play : Stmt := top 40
theorem sc__law_play : FnScope ["m", "choice_so", "many", "foot", "down", "is_pressed", "found", "turn", "key", "one"] ["m", "choice_so", "many", "foot"] (defScope s__law_play) := ⟨rfl, rfl, rfl, by decide +kernel, rfl, by decide +kernel, by decide +kernel⟩
theorem kf__law_play {f : Addr} {fd : FuncData} (T : Tx P w K mg base Γ) (F : Fun K "_law_play" "_law_play" s__law_play f fd) (hm : mg "_law_play" = some (.ref f)) (K__law_draw : Kf P w K mg base 1 "_law_draw" (dsp K Γ 2 m__law_draw)) (K__law_of : Kf P w K mg base 2 "_law_of" (dsp K Γ 2 m__law_of)) : Kf P w K mg base 3 "_law_play" (dsp K Γ 4 m__law_play) :=
  kf_of (ps := ["m", "choice_so", "many", "foot"]) (N := ["m", "choice_so", "many", "foot", "down", "is_pressed", "found", "turn", "key", "one"]) F hm sc__law_play (F.binds (ps := ["m", "choice_so", "many", "foot"]) fun _ _ _ _ _ _ us hl => match us, hl with | [_, _, _, _], _ => rfl) (fun cdv A outer s H E C =>
  b_cons (s_par3 (i := 4) (j := 5) (l := 6) C.calm sc__law_play.nd (d_let (d_lstO da_nil)) d_bl (d_lstO da_nil))
  (b_cons (s_forR C.calm C.pas (da_cons (dv_ 2) da_nil) (g_name 7 sc__law_play.nd)
  (b_one (s_if (t_w (w_and (t_val (dv_ 3)) (w_and1 (t_cmp (o_eq C.room.units) (d_callK K__law_draw (by decide) C (by rfl) (da_cons (dv_ 0) (da_cons d_int da_nil))) d_int (nomark _)))))
  (b_cons (s_exp (d_app 6 (d_ifE (t_val (dv_ 5)) (d_tup (da_cons d_str da_nil)) (d_tup (da_cons d_str da_nil)))))
  (b_one (s_set 5 sc__law_play.nd (d_not (dv_ 5)))))
  (b_cons (s_set 8 sc__law_play.nd (d_callK K__law_of (by decide) C (by rfl) (da_cons (dv_ 0) (da_cons (dv_ 1) da_nil))))
  (b_one (s_if (t_cmp o_in (dv_ 8) (dv_ 4) (by rfl))
  (b_cons (s_setC (i := 4) (own := [("one", 9)]) (js := [9]) C.calm sc__law_play.nd rfl rfl (sw_true rfl rfl rfl (by decide +kernel)) (dv_ 4) (blk_ok (by decide +kernel)) (by decide) ⟨fun _ _ _ _ _ => g_name 9 sc__law_play.nd, fun _ _ _ _ _ => pts_1 (t_cmp (o_ne C.room.units) (dv_ 9) (dv_ 8) (nomark _)), fun _ _ _ _ _ => dv_ 9⟩)
  (b_one (s_exp (d_app 6 (d_tup (da_cons d_str (da_cons (dv_ 8) da_nil)))))))
  (b_cons (s_set 4 sc__law_play.nd (d_let (d_catO (dv_ 4) (d_let (d_lstO (da_cons (dv_ 8) da_nil))))))
  (b_one (s_exp (d_app 6 (d_tup (da_cons d_str (da_cons (dv_ 8) da_nil)))))))))))) (by rfl) T.z_range)
  (b_one (s_ret (d_tuple (dp_ 6) (by rfl) T.z_tuple (by decide +kernel))))))

/-! ### _law_first -/
abbrev s__law_first : Stmt := top 41
theorem sc__law_first : FnScope ["play", "down", "is_pressed", "number", "event", "key"] ["play"] (defScope s__law_first) := ⟨rfl, rfl, rfl, by decide +kernel, rfl, by decide +kernel, by decide +kernel⟩
theorem kf__law_first {f : Addr} {fd : FuncData} (T : Tx P w K mg base Γ) (F : Fun K "_law_first" "_law_first" s__law_first f fd) (hm : mg "_law_first" = some (.ref f))  : Kf P w K mg base 1 "_law_first" (dsp K Γ 1 m__law_first) :=
  kf_of (ps := ["play"]) (N := ["play", "down", "is_pressed", "number", "event", "key"]) F hm sc__law_first (F.binds (ps := ["play"]) fun _ _ _ _ _ _ us hl => match us, hl with | [_], _ => rfl) (fun cdv A outer s H E C =>
  b_cons (s_parDD (i := 1) (j := 2) C.calm sc__law_first.nd (d_let (d_lstO da_nil)) d_bl)
  (b_cons (s_forEn C.calm C.pas (da_cons (dv_ 0) da_nil) (g_tup C.calm (gs_cons (g_name 3 sc__law_first.nd) (gs_cons (g_name 4 sc__law_first.nd) gs_nil)))
  (b_one (s_if (t_w (w_or (t_cmp (o_eq C.room.units) (dv_ 4) (d_tup (da_cons d_str da_nil)) (nomark _)) (w_or1 (t_cmp (o_eq C.room.units) (dv_ 4) (d_tup (da_cons d_str da_nil)) (nomark _)))))
  (b_cons (s_if (t_cmp (o_eq C.room.units) (dv_ 2) (d_cmp (o_eq C.room.units) (dv_ 4) (d_tup (da_cons d_str da_nil)) (nomark _)) (nomark _))
  (b_one (s_ret (d_let (d_lstO (da_cons (dv_ 3) da_nil)))))
  b_nil)
  (b_one (s_set 2 sc__law_first.nd (d_not (dv_ 2)))))
  (b_one (s_if (t_cmp (o_eq C.room.units) (d_cmp o_in (d_ix (dv_ 4) d_int (fun _ _ => rfl)) (dv_ 1) (by rfl)) (d_cmp (o_eq C.room.units) (d_ix (dv_ 4) d_int (fun _ _ => rfl)) d_str (nomark _)) (nomark _))
  (b_one (s_ret (d_let (d_lstO (da_cons (dv_ 3) da_nil)))))
  (b_one (s_set 1 sc__law_first.nd (d_let (d_catO (d_let (d_comp (own := [("key", 5)]) (js := [5]) C.calm sc__law_first.nd (dv_ 1) (blk_ok (by decide +kernel)) (by decide) ⟨fun _ _ _ _ _ => g_name 5 sc__law_first.nd, fun _ _ _ _ _ => pts_1 (t_cmp (o_ne C.room.units) (dv_ 5) (d_ix (dv_ 4) d_int (fun _ _ => rfl)) (nomark _)), fun _ _ _ _ _ => dv_ 5⟩)) (d_let (d_repL (d_let (d_lstO (da_cons (d_ix (dv_ 4) d_int (fun _ _ => rfl)) da_nil))) (d_intOf (d_cmp (o_eq C.room.units) (d_ix (dv_ 4) d_int (fun _ _ => rfl)) d_str (nomark _)) (by rfl) T.z_int (by decide +kernel)))))))))))) (by rfl) T.z_enumerate)
  (b_one (s_ret (d_let (d_lstO da_nil))))))

/-! ### _law_right -/
abbrev s__law_right : Stmt := top 42
theorem sc__law_right : FnScope ["thing", "due", "e", "caught", "found"] ["thing", "due"] (defScope s__law_right) := ⟨rfl, rfl, rfl, by decide +kernel, rfl, by decide +kernel, by decide +kernel⟩
def fb__law_right : Ms := fSeq (fParDD 3 4 (rt .non) (fLet (fLst (rt []))))
  (fSeq (fTry (fSet 4 (fLet (fLst (fCons (fCallN 1 m_need_play (fCons (fName 0) (rt []))) (rt []))))) [⟨tb_VoiceError, some 2, fSet 3 (fName 2)⟩])
  (fSeq (fIf (fT (f2 pEq (fName 1) (fLet (fLst (rt []))))) (fRet (fAndV (f2 pEq (fRepr (fName 4)) (fRepr (fLet (fLst (fCons (fName 0) (rt [])))))) (f2 pIs (fCallN 1 m_is_play (fCons (fName 0) (rt []))) (rt (.bl true))))) (sOut .nx))
  (fSeq (fIf (fOr (fNot (fT (fIsE tb_BadPlay (fName 3)))) (fOr (fT (fIsT [tb_BadEvent, tb_BadMachine] (fName 3))) (fT (f2 pNis (fCallN 1 m_is_play (fCons (fName 0) (rt []))) (rt (.bl false)))))) (fRet (rt (.bl false))) (sOut .nx))
  (fRet (f2 pEq (fFld cs_place (fName 3)) (fIxD (fName 1) (rt (.int 0))))))))
def m__law_right : Fd := runB fb__law_right 5 2
theorem kf__law_right {f : Addr} {fd : FuncData} (T : Tx P w K mg base Γ) (F : Fun K "_law_right" "_law_right" s__law_right f fd) (hm : mg "_law_right" = some (.ref f)) (K_need_play : Kf P w K mg base 7 "need_play" (dsp K Γ 1 m_need_play)) (K_is_play : Kf P w K mg base 7 "is_play" (dsp K Γ 1 m_is_play)) : Kf P w K mg base 8 "_law_right" (dsp K Γ 2 m__law_right) :=
  kf_of (ps := ["thing", "due"]) (N := ["thing", "due", "e", "caught", "found"]) F hm sc__law_right (F.binds (ps := ["thing", "due"]) fun _ _ _ _ _ _ us hl => match us, hl with | [_, _], _ => rfl) (fun cdv A outer s H E C =>
  b_cons (s_parDD (i := 3) (j := 4) C.calm sc__law_right.nd d_non (d_let (d_lstO da_nil)))
  (b_cons (s_try rfl rfl rfl sc__law_right.nd C (fun W' pn xe C => b_one (s_set 4 sc__law_right.nd (d_let (d_lstO (da_cons (d_callK K_need_play (by decide) C (by rfl) (da_cons (dv_ 0) da_nil)) da_nil))))) (.as_ T.h_VoiceError (by rfl) rfl rfl (fun _ _ => b_one (s_set 3 sc__law_right.nd (dv_ 2))) .nil (by decide)))
  (b_cons (s_if (t_cmp (o_eq C.room.units) (dv_ 1) (d_let (d_lstO da_nil)) (nomark _))
  (b_one (s_ret (d_and (d_cmp (o_eq C.room.units) (d_repr C (dv_ 4) (by rfl) T.z_repr (by decide +kernel)) (d_repr C (d_let (d_lstO (da_cons (dv_ 0) da_nil))) (by rfl) T.z_repr (by decide +kernel)) (nomark _)) (d_one (d_cmp o_is (d_callK K_is_play (by decide) C (by rfl) (da_cons (dv_ 0) da_nil)) d_bl (nomark _))))))
  b_nil)
  (b_cons (s_if (t_w (w_or (t_not (t_val (d_isE T.k T.h_BadPlay (by rfl) (dv_ 3) (by rfl) T.z_isinstance (by decide +kernel)))) (w_or (t_val (d_isT T.k (dc_cons T.h_BadEvent (by rfl) (dc_cons T.h_BadMachine (by rfl) dc_nil)) (by decide) (dv_ 3) (by rfl) T.z_isinstance (by decide +kernel))) (w_or1 (t_cmp o_nis (d_callK K_is_play (by decide) C (by rfl) (da_cons (dv_ 0) da_nil)) d_bl (nomark _))))))
  (b_one (s_ret d_bl))
  b_nil)
  (b_one (s_ret (d_cmp (o_eq C.room.units) (d_fld T.k T.fo_place (dv_ 3)) (d_ix (dv_ 1) d_int (fun _ _ => rfl)) (nomark _))))))))

/-! ### _law_begun -/
abbrev s__law_begun : Stmt := top 37
theorem sc__law_begun : FnScope ["script", "seed", "cell"] ["script"] (defScope s__law_begun) := ⟨rfl, rfl, rfl, by decide +kernel, rfl, by decide +kernel, by decide +kernel⟩
theorem kf__law_begun {f : Addr} {fd : FuncData} (T : Ty mg) (F : Fun K "_law_begun" "_law_begun" s__law_begun f fd) (hm : mg "_law_begun" = some (.ref f)) : Kf P w K mg base 1 "_law_begun" (spBeg K) := by
  refine ⟨f, fd, ["script"], fnG_of F sc__law_begun (fun vs H Q E h => ?_) (fun cdv A outer s H vs Q E C h => ⟨tBeg K, ?_, ?_⟩), hm, F.kp, F.binds (ps := ["script"]) fun _ _ _ _ _ _ us hl => match us, hl with | [_], _ => rfl⟩
  · obtain ⟨l, ns, rfl, _⟩ := h; rfl
  · exact pss_cons (ps_set (i := 1) sc__law_begun.nd rfl (.inl rfl) pe_int) (pss_cons (ps_for C.pas C.calm (pi_list (pe_var (i := 0) rfl (.inl rfl))) (pg_name (i := 2) sc__law_begun.nd rfl (.inl rfl)) (pss_one (ps_set (i := 1) sc__law_begun.nd rfl (.inl rfl) (pe_op op_mod (pe_callTy call_int1 (by rfl) T.z_int (by decide +kernel) (pa_cons (pe_op op_add (pe_op op_add (pe_op op_mul (pe_var (i := 1) rfl (.inl rfl)) pe_int) (pe_op op_mod (pe_callTy call_int1 (by rfl) T.z_int (by decide +kernel) (pa_cons (pe_var (i := 2) rfl (.inl rfl)) pa_nil)) pe_int)) pe_int) pa_nil)) pe_int))))
      (pss_one (ps_ret (pe_disp (pps_cons pe_str (pe_lc (own := [("cell", 2)]) (g := gName 2) (te := tVar 2) C.calm sc__law_begun.nd (pi_list (pe_var (i := 0) rfl (.inl rfl))) (blk_ok (by decide +kernel)) (fun _ _ _ _ _ => (g_name (Γ := ⟨0, fun _ => none, []⟩) 2 sc__law_begun.nd).1) (fun _ _ _ _ _ => pts_one (pt_cmpR op_ge (pe_var (i := 2) rfl (.inl rfl)) (pe_op op_pow pe_int pe_int) (nomark _))) (fun _ _ _ _ _ => pe_var (i := 2) rfl (.inl rfl))) (pps_cons pe_str (pe_var (i := 1) rfl (.inl rfl)) (pps_cons pe_str pe_int pps_nil))) rfl rfl (by intro z; cases z) (by decide)))))
  · obtain ⟨l, ns, rfl, hl, hn, q⟩ := h
    exact beg_run rfl rfl hl hn q

/-! ### law -/
abbrev s_law : Stmt := top 43
theorem sc_law : FnScope ["script", "m", "turn", "keys", "play", "at", "some", "odd", "event", "thing", "number", "key", "long"] ["script"] (defScope s_law) := ⟨rfl, rfl, rfl, by decide +kernel, rfl, by decide +kernel, by decide +kernel⟩
def fb_law : Ms := fSeq (fForR (fCons (f2 pAdd (rt (.int 2)) (f2 pMin2 (rt (.int 2)) (fLenS 0))) (rt [])) (gN 2) (fSeq (fSet 3 (fLet (fLst (fCons (fCallN 2 m__law_draw (fCons (fName 1) (fCons (rt (.int 30)) (rt [])))) (fCons (f2 pAdd (rt (.int 30)) (fCallN 2 m__law_draw (fCons (fName 1) (fCons (rt (.int 30)) (rt []))))) (fCons (f2 pAdd (rt (.int 60)) (fCallN 2 m__law_draw (fCons (fName 1) (fCons (rt (.int 28)) (rt []))))) (rt [])))))))
  (fSeq (fSet 4 (fCallN 4 m__law_play (fCons (fName 1) (fCons (fName 3) (fCons (fIxD (fLet (fLst (fCons (fCallN 2 m__law_draw (fCons (fName 1) (fCons (rt (.int 12)) (rt [])))) (fCons (fCallN 2 m__law_draw (fCons (fName 1) (fCons (rt (.int 40)) (rt [])))) (fCons (rt (.int 300)) (rt [])))))) (fCallN 2 m__law_draw (fCons (fName 1) (fCons (rt (.int 3)) (rt []))))) (fCons (f2 pEq (fCallN 2 m__law_draw (fCons (fName 1) (fCons (rt (.int 2)) (rt [])))) (rt (.int 0))) (rt [])))))))
  (fSeq (fIf (fOr (fNot (fT (fCallN 2 m__law_right (fCons (fName 4) (fCons (fLet (fLst (rt []))) (rt [])))))) (fNot (fT (fCallN 2 m__law_right (fCons (fLet (bd (fPeek 4) rt)) (fCons (fLet (fLst (fCons (fTup (rt [])) (rt [])))) (rt []))))))) (fRet (rt (.bl false))) (sOut .nx))
  (fSeq (fSet 5 (fCallN 2 m__law_draw (fCons (fName 1) (fCons (f2 pAdd (fLen (fPeek 4)) (rt (.int 1))) (rt [])))))
  (fSeq (fSet 6 (fLet (fLst (fCons (rt .non) (fCons (rt (.int 5)) (fCons (rt (.str "lift")) (fCons (fTup (rt [])) (fCons (fTup (fCons (rt (.str "down")) (rt []))) (fCons (fTup (fCons (rt (.str "down")) (fCons (rt (.int 88)) (rt [])))) (fCons (fTup (fCons (rt (.str "up")) (fCons (fNeg (rt (.int 1))) (rt [])))) (fCons (fTup (fCons (rt (.str "down")) (fCons (rt (.bl true)) (rt [])))) (fCons (fTup (fCons (rt (.str "press")) (fCons (rt (.int 5)) (rt [])))) (fCons (fLet (fLst (fCons (rt (.str "lift")) (rt [])))) (fCons (rt (.dic [])) (rt [])))))))))))))))
  (fSeq (fSet 6 (fLet (fCat (fName 6) (fLet (fLst (fCons (fTup (fCons (rt (.str "down")) (fCons (fLet (fLst (fCons (rt (.int 5)) (rt [])))) (rt [])))) (fCons (fTup (fCons (rt (.str "up")) (fCons (rt (.dic [])) (rt [])))) (fCons (fTup (fCons (rt (.dic [])) (fCons (rt (.int 5)) (rt [])))) (rt [])))))))))
  (fSeq (fFor (fName 6) (gN 7) (fIf (fNot (fT (fCallN 2 m__law_right (fCons (fSl (f2 pAdd (f2 pAdd (fSl (fName 4) (rt none) (fPart (fName 5))) (fTup (fCons (fName 7) (rt [])))) (fSl (fName 4) (fPart (fName 5)) (rt none))) (rt none) (fPart (rt (.int 300)))) (fCons (fIfE (fT (f2 pLt (fName 5) (rt (.int 300)))) (fLet (fLst (fCons (fTup (fCons (fName 5) (rt []))) (rt [])))) (fLet (fLst (rt [])))) (rt [])))))) (fRet (rt (.bl false))) (sOut .nx)))
  (fSeq (fSet 6 (fLet (fLst (fCons (fTup (fCons (rt (.str "down")) (fCons (fCallN 2 m__law_of (fCons (fName 1) (fCons (fName 3) (rt [])))) (rt [])))) (fCons (fTup (fCons (rt (.str "up")) (fCons (fCallN 2 m__law_of (fCons (fName 1) (fCons (fName 3) (rt [])))) (rt [])))) (fCons (fTup (fCons (rt (.str "press")) (rt []))) (fCons (fTup (fCons (rt (.str "lift")) (rt []))) (fCons (fTup (fCons (rt (.str "up")) (fCons (f2 pSub (rt (.int 87)) (fIxD (fName 3) (rt (.int 0)))) (rt [])))) (rt [])))))))))
  (fSeq (fFor (fName 6) (gN 8) (fSeq (fSet 9 (fSl (f2 pAdd (f2 pAdd (fSl (fName 4) (rt none) (fPart (fName 5))) (fTup (fCons (fName 8) (rt [])))) (fSl (fName 4) (fPart (fName 5)) (rt none))) (rt none) (fPart (rt (.int 300)))))
  (fIf (fNot (fT (fCallN 2 m__law_right (fCons (fName 9) (fCons (fLet (fComp [10] (fCallN 1 m__law_first (fCons (fName 9) (rt []))) (gN 10) ((rt true)) (fTup (fCons (fName 10) (rt []))))) (rt [])))))) (fRet (rt (.bl false))) (sOut .nx))))
  (fSeq (fSet 9 (f2 pAdd (fSl (fName 4) (rt none) (fPart (fName 5))) (fSl (fName 4) (fPart (f2 pAdd (fName 5) (rt (.int 1)))) (rt none))))
  (fSeq (fIf (fNot (fT (fCallN 2 m__law_right (fCons (fName 9) (fCons (fLet (fComp [10] (fCallN 1 m__law_first (fCons (fName 9) (rt []))) (gN 10) ((rt true)) (fTup (fCons (fName 10) (rt []))))) (rt [])))))) (fRet (rt (.bl false))) (sOut .nx))
  (fSeq (fSet 11 (fCallN 2 m__law_of (fCons (fName 1) (fCons (fName 3) (rt [])))))
  (fSeq (fSet 12 (f2 pRepT (fTup (fCons (fTup (fCons (rt (.str "down")) (fCons (fName 11) (rt [])))) (fCons (fTup (fCons (rt (.str "up")) (fCons (fName 11) (rt [])))) (rt [])))) (rt (.int 150))))
  (fSeq (fIf (fOr (fNot (fT (fCallN 2 m__law_right (fCons (fName 12) (fCons (fLet (fLst (rt []))) (rt [])))))) (fNot (fT (fCallN 2 m__law_right (fCons (f2 pAdd (fName 12) (fTup (fCons (fTup (fCons (rt (.str "down")) (fCons (fName 11) (rt [])))) (rt [])))) (fCons (fLet (fLst (fCons (fTup (rt [])) (rt [])))) (rt []))))))) (fRet (rt (.bl false))) (sOut .nx))
  (fIf (fNot (fT (fCallN 2 m__law_right (fCons (f2 pAdd (fName 12) (fTup (fCons (rt .non) (rt [])))) (fCons (fLet (fLst (fCons (fTup (rt [])) (rt [])))) (rt [])))))) (fRet (rt (.bl false))) (sOut .nx)))))))))))))))))
  (fSeq (fFor (fTup (fCons (rt .non) (fCons (rt (.int 5)) (fCons (rt (.str "d5")) (fCons (rt (.dic [])) (fCons (fLet (fLst (rt []))) (fCons (rt (.bl true)) (fCons (f2 pPow (rt (.int 10)) (rt (.int 40))) (rt []))))))))) (gN 7) (fIf (fNot (fT (fCallN 2 m__law_right (fCons (fName 7) (fCons (fLet (fLst (fCons (fTup (rt [])) (rt [])))) (rt [])))))) (fRet (rt (.bl false))) (sOut .nx)))
  (fRet (fAndV (f2 pEq (rt c_MOST_EVENTS) (rt (.int 300))) (fCallN 2 m__law_right (fCons (fTup (rt [])) (fCons (fLet (fLst (rt []))) (rt [])))))))
theorem fn_law {cl : Str → Option (Addr × Str)} {tl : List (Addr × Str)} {f : Addr} {fd : FuncData} (T : ∀ M, Tx P w K mg base ⟨M, cl, tl⟩) (F : Fun K "law" "law" s_law f fd) (K__law_begun : Kf P w K mg base 1 "_law_begun" (spBeg K)) (K__law_draw : ∀ M, Kf P w K mg base 1 "_law_draw" (dsp K ⟨M, cl, tl⟩ 2 m__law_draw)) (K__law_of : ∀ M, Kf P w K mg base 2 "_law_of" (dsp K ⟨M, cl, tl⟩ 2 m__law_of)) (K__law_play : ∀ M, Kf P w K mg base 3 "_law_play" (dsp K ⟨M, cl, tl⟩ 4 m__law_play)) (K__law_first : ∀ M, Kf P w K mg base 1 "_law_first" (dsp K ⟨M, cl, tl⟩ 1 m__law_first)) (K__law_right : ∀ M, Kf P w K mg base 8 "_law_right" (dsp K ⟨M, cl, tl⟩ 2 m__law_right)) : FnG P w K mg base 9 f fd ["script"] (spLaw K tl 13 1 fb_law) :=
  law_fn (N := ["script", "m", "turn", "keys", "play", "at", "some", "odd", "event", "thing", "number", "key", "long"]) (im := 1) F sc_law rfl (by decide) (by decide) (fun cdv A outer s H E C => ps_set (i := 1) sc_law.nd rfl (.inl rfl) (pe_callKs K__law_begun (by decide) C (by rfl) (pa_cons (pe_var (i := 0) rfl (.inl rfl)) pa_nil)))
    (fun M cdv A outer s H E C =>
  b_cons (s_forR C.calm C.pas (da_cons (d_bin o_add d_int (d_min2 C.calm d_int (d_lenS 0 (by rfl) (T M).z_len PySem.boot_len) (by rfl) (T M).z_min (by decide +kernel))) da_nil) (g_name 2 sc_law.nd)
  (b_cons (s_set 3 sc_law.nd (d_let (d_lstO (da_cons (d_callK (K__law_draw M) (by decide) C (by rfl) (da_cons (dv_ 1) (da_cons d_int da_nil))) (da_cons (d_bin o_add d_int (d_callK (K__law_draw M) (by decide) C (by rfl) (da_cons (dv_ 1) (da_cons d_int da_nil)))) (da_cons (d_bin o_add d_int (d_callK (K__law_draw M) (by decide) C (by rfl) (da_cons (dv_ 1) (da_cons d_int da_nil)))) da_nil))))))
  (b_cons (s_set 4 sc_law.nd (d_callK (K__law_play M) (by decide) C (by rfl) (da_cons (dv_ 1) (da_cons (dv_ 3) (da_cons (d_ix (d_let (d_lstO (da_cons (d_callK (K__law_draw M) (by decide) C (by rfl) (da_cons (dv_ 1) (da_cons d_int da_nil))) (da_cons (d_callK (K__law_draw M) (by decide) C (by rfl) (da_cons (dv_ 1) (da_cons d_int da_nil))) (da_cons d_int da_nil))))) (d_callK (K__law_draw M) (by decide) C (by rfl) (da_cons (dv_ 1) (da_cons d_int da_nil))) (fun _ _ => rfl)) (da_cons (d_cmp (o_eq C.room.units) (d_callK (K__law_draw M) (by decide) C (by rfl) (da_cons (dv_ 1) (da_cons d_int da_nil))) d_int (nomark _)) da_nil))))))
  (b_cons (s_if (t_w (w_or (t_not (t_val (d_callK (K__law_right M) (by decide) C (by rfl) (da_cons (dv_ 4) (da_cons (d_let (d_lstO da_nil)) da_nil))))) (w_or1 (t_not (t_val (d_callK (K__law_right M) (by decide) C (by rfl) (da_cons (d_let (d_list (dp_ 4) (by rfl) (T M).z_list (by decide +kernel))) (da_cons (d_let (d_lstO (da_cons (d_tup da_nil) da_nil))) da_nil))))))))
  (b_one (s_ret d_bl))
  b_nil)
  (b_cons (s_set 5 sc_law.nd (d_callK (K__law_draw M) (by decide) C (by rfl) (da_cons (dv_ 1) (da_cons (d_bin o_add (d_len (dp_ 4) (by rfl) (T M).z_len PySem.boot_len) d_int) da_nil))))
  (b_cons (s_set 6 sc_law.nd (d_let (d_lstO (da_cons d_non (da_cons d_int (da_cons d_str (da_cons (d_tup da_nil) (da_cons (d_tup (da_cons d_str da_nil)) (da_cons (d_tup (da_cons d_str (da_cons d_int da_nil))) (da_cons (d_tup (da_cons d_str (da_cons (d_neg d_int) da_nil))) (da_cons (d_tup (da_cons d_str (da_cons d_bl da_nil))) (da_cons (d_tup (da_cons d_str (da_cons d_int da_nil))) (da_cons (d_let (d_lstO (da_cons d_str da_nil))) (da_cons d_dic0 da_nil))))))))))))))
  (b_cons (s_set 6 sc_law.nd (d_let (d_catO (dv_ 6) (d_let (d_lstO (da_cons (d_tup (da_cons d_str (da_cons (d_let (d_lstO (da_cons d_int da_nil))) da_nil))) (da_cons (d_tup (da_cons d_str (da_cons d_dic0 da_nil))) (da_cons (d_tup (da_cons d_dic0 (da_cons d_int da_nil))) da_nil))))))))
  (b_cons (s_for C.calm C.pas (dv_ 6) (g_name 7 sc_law.nd)
  (b_one (s_if (t_not (t_val (d_callK (K__law_right M) (by decide) C (by rfl) (da_cons (d_sl (d_bin o_add (d_bin o_add (d_sl (dv_ 4) do_none (do_some (dv_ 5))) (d_tup (da_cons (dv_ 7) da_nil))) (d_sl (dv_ 4) (do_some (dv_ 5)) do_none)) do_none (do_some d_int)) (da_cons (d_ifE (t_cmp o_lt (dv_ 5) d_int (nomark _)) (d_let (d_lstO (da_cons (d_tup (da_cons (dv_ 5) da_nil)) da_nil))) (d_let (d_lstO da_nil))) da_nil)))))
  (b_one (s_ret d_bl))
  b_nil)))
  (b_cons (s_set 6 sc_law.nd (d_let (d_lstO (da_cons (d_tup (da_cons d_str (da_cons (d_callK (K__law_of M) (by decide) C (by rfl) (da_cons (dv_ 1) (da_cons (dv_ 3) da_nil))) da_nil))) (da_cons (d_tup (da_cons d_str (da_cons (d_callK (K__law_of M) (by decide) C (by rfl) (da_cons (dv_ 1) (da_cons (dv_ 3) da_nil))) da_nil))) (da_cons (d_tup (da_cons d_str da_nil)) (da_cons (d_tup (da_cons d_str da_nil)) (da_cons (d_tup (da_cons d_str (da_cons (d_bin o_sub d_int (d_ix (dv_ 3) d_int (fun _ _ => rfl))) da_nil))) da_nil))))))))
  (b_cons (s_for C.calm C.pas (dv_ 6) (g_name 8 sc_law.nd)
  (b_cons (s_set 9 sc_law.nd (d_sl (d_bin o_add (d_bin o_add (d_sl (dv_ 4) do_none (do_some (dv_ 5))) (d_tup (da_cons (dv_ 8) da_nil))) (d_sl (dv_ 4) (do_some (dv_ 5)) do_none)) do_none (do_some d_int)))
  (b_one (s_if (t_not (t_val (d_callK (K__law_right M) (by decide) C (by rfl) (da_cons (dv_ 9) (da_cons (d_let (d_comp (own := [("number", 10)]) (js := [10]) C.calm sc_law.nd (d_callK (K__law_first M) (by decide) C (by rfl) (da_cons (dv_ 9) da_nil)) (blk_ok (by decide +kernel)) (by decide) ⟨fun _ _ _ _ _ => g_name 10 sc_law.nd, fun _ _ _ _ _ => pts_yes, fun _ _ _ _ _ => d_tup (da_cons (dv_ 10) da_nil)⟩)) da_nil)))))
  (b_one (s_ret d_bl))
  b_nil))))
  (b_cons (s_set 9 sc_law.nd (d_bin o_add (d_sl (dv_ 4) do_none (do_some (dv_ 5))) (d_sl (dv_ 4) (do_some (d_bin o_add (dv_ 5) d_int)) do_none)))
  (b_cons (s_if (t_not (t_val (d_callK (K__law_right M) (by decide) C (by rfl) (da_cons (dv_ 9) (da_cons (d_let (d_comp (own := [("number", 10)]) (js := [10]) C.calm sc_law.nd (d_callK (K__law_first M) (by decide) C (by rfl) (da_cons (dv_ 9) da_nil)) (blk_ok (by decide +kernel)) (by decide) ⟨fun _ _ _ _ _ => g_name 10 sc_law.nd, fun _ _ _ _ _ => pts_yes, fun _ _ _ _ _ => d_tup (da_cons (dv_ 10) da_nil)⟩)) da_nil)))))
  (b_one (s_ret d_bl))
  b_nil)
  (b_cons (s_set 11 sc_law.nd (d_callK (K__law_of M) (by decide) C (by rfl) (da_cons (dv_ 1) (da_cons (dv_ 3) da_nil))))
  (b_cons (s_set 12 sc_law.nd (d_bin o_repT (d_tup (da_cons (d_tup (da_cons d_str (da_cons (dv_ 11) da_nil))) (da_cons (d_tup (da_cons d_str (da_cons (dv_ 11) da_nil))) da_nil))) d_int))
  (b_cons (s_if (t_w (w_or (t_not (t_val (d_callK (K__law_right M) (by decide) C (by rfl) (da_cons (dv_ 12) (da_cons (d_let (d_lstO da_nil)) da_nil))))) (w_or1 (t_not (t_val (d_callK (K__law_right M) (by decide) C (by rfl) (da_cons (d_bin o_add (dv_ 12) (d_tup (da_cons (d_tup (da_cons d_str (da_cons (dv_ 11) da_nil))) da_nil))) (da_cons (d_let (d_lstO (da_cons (d_tup da_nil) da_nil))) da_nil))))))))
  (b_one (s_ret d_bl))
  b_nil)
  (b_one (s_if (t_not (t_val (d_callK (K__law_right M) (by decide) C (by rfl) (da_cons (d_bin o_add (dv_ 12) (d_tup (da_cons d_non da_nil))) (da_cons (d_let (d_lstO (da_cons (d_tup da_nil) da_nil))) da_nil)))))
  (b_one (s_ret d_bl))
  b_nil)))))))))))))))) (by rfl) (T M).z_range)
  (b_cons (s_for C.calm C.pas (d_tup (da_cons d_non (da_cons d_int (da_cons d_str (da_cons d_dic0 (da_cons (d_let (d_lstO da_nil)) (da_cons d_bl (da_cons (d_bin o_pow d_int d_int) da_nil)))))))) (g_name 7 sc_law.nd)
  (b_one (s_if (t_not (t_val (d_callK (K__law_right M) (by decide) C (by rfl) (da_cons (dv_ 7) (da_cons (d_let (d_lstO (da_cons (d_tup da_nil) da_nil))) da_nil)))))
  (b_one (s_ret d_bl))
  b_nil)))
  (b_one (s_ret (d_and (d_cmp (o_eq C.room.units) (d_gl (T M).c_MOST_EVENTS (by rfl)) d_int (nomark _)) (d_one (d_callK (K__law_right M) (by decide) C (by rfl) (da_cons (d_tup da_nil) (da_cons (d_let (d_lstO da_nil)) da_nil)))))))))

end
end K10
namespace K10
open PyProof.Rows PySem.Spec PySem L2 DE S
section
theorem all_mk {P : Program} {w : World} {K : PySem.W.Frag} {h : Heap} {mg : Str → Option Value} {fa : Addr}
    {f__law_begun : Addr} {oc__law_begun kV__law_begun dc__law_begun pm__law_begun cd__law_begun ct__law_begun : Value} {od__law_begun an__law_begun : Option Addr} {sl__law_begun : Array (Option Value)}
    {f_is_whole : Addr} {oc_is_whole kV_is_whole dc_is_whole pm_is_whole cd_is_whole ct_is_whole : Value} {od_is_whole an_is_whole : Option Addr} {sl_is_whole : Array (Option Value)}
    {f_is_word : Addr} {oc_is_word kV_is_word dc_is_word pm_is_word cd_is_word ct_is_word : Value} {od_is_word an_is_word : Option Addr} {sl_is_word : Array (Option Value)}
    {f_is_key : Addr} {oc_is_key kV_is_key dc_is_key pm_is_key cd_is_key ct_is_key : Value} {od_is_key an_is_key : Option Addr} {sl_is_key : Array (Option Value)}
    {f_down_keys : Addr} {oc_down_keys kV_down_keys dc_down_keys pm_down_keys cd_down_keys ct_down_keys : Value} {od_down_keys an_down_keys : Option Addr} {sl_down_keys : Array (Option Value)}
    {f_is_event : Addr} {oc_is_event kV_is_event dc_is_event pm_is_event cd_is_event ct_is_event : Value} {od_is_event an_is_event : Option Addr} {sl_is_event : Array (Option Value)}
    {f_can_follow : Addr} {oc_can_follow kV_can_follow dc_can_follow pm_can_follow cd_can_follow ct_can_follow : Value} {od_can_follow an_can_follow : Option Addr} {sl_can_follow : Array (Option Value)}
    {f_without : Addr} {oc_without kV_without dc_without pm_without cd_without ct_without : Value} {od_without an_without : Option Addr} {sl_without : Array (Option Value)}
    {f_marked : Addr} {oc_marked kV_marked dc_marked pm_marked cd_marked ct_marked : Value} {od_marked an_marked : Option Addr} {sl_marked : Array (Option Value)}
    {f_chosen : Addr} {oc_chosen kV_chosen dc_chosen pm_chosen cd_chosen ct_chosen : Value} {od_chosen an_chosen : Option Addr} {sl_chosen : Array (Option Value)}
    {f_outer_keys : Addr} {oc_outer_keys kV_outer_keys dc_outer_keys pm_outer_keys cd_outer_keys ct_outer_keys : Value} {od_outer_keys an_outer_keys : Option Addr} {sl_outer_keys : Array (Option Value)}
    {f_left_by : Addr} {oc_left_by kV_left_by dc_left_by pm_left_by cd_left_by ct_left_by : Value} {od_left_by an_left_by : Option Addr} {sl_left_by : Array (Option Value)}
    {f_victim_among : Addr} {oc_victim_among kV_victim_among dc_victim_among pm_victim_among cd_victim_among ct_victim_among : Value} {od_victim_among an_victim_among : Option Addr} {sl_victim_among : Array (Option Value)}
    {f_go_down : Addr} {oc_go_down kV_go_down dc_go_down pm_go_down cd_go_down ct_go_down : Value} {od_go_down an_go_down : Option Addr} {sl_go_down : Array (Option Value)}
    {f_come_back : Addr} {oc_come_back kV_come_back dc_come_back pm_come_back cd_come_back ct_come_back : Value} {od_come_back an_come_back : Option Addr} {sl_come_back : Array (Option Value)}
    {f_go_up : Addr} {oc_go_up kV_go_up dc_go_up pm_go_up cd_go_up ct_go_up : Value} {od_go_up an_go_up : Option Addr} {sl_go_up : Array (Option Value)}
    {f_lift : Addr} {oc_lift kV_lift dc_lift pm_lift cd_lift ct_lift : Value} {od_lift an_lift : Option Addr} {sl_lift : Array (Option Value)}
    {f_perform : Addr} {oc_perform kV_perform dc_perform pm_perform cd_perform ct_perform : Value} {od_perform an_perform : Option Addr} {sl_perform : Array (Option Value)}
    {f_play_fault : Addr} {oc_play_fault kV_play_fault dc_play_fault pm_play_fault cd_play_fault ct_play_fault : Value} {od_play_fault an_play_fault : Option Addr} {sl_play_fault : Array (Option Value)}
    {f_need_play : Addr} {oc_need_play kV_need_play dc_need_play pm_need_play cd_need_play ct_need_play : Value} {od_need_play an_need_play : Option Addr} {sl_need_play : Array (Option Value)}
    {f_is_play : Addr} {oc_is_play kV_is_play dc_is_play pm_is_play cd_is_play ct_is_play : Value} {od_is_play an_is_play : Option Addr} {sl_is_play : Array (Option Value)}
    {f__law_draw : Addr} {oc__law_draw kV__law_draw dc__law_draw pm__law_draw cd__law_draw ct__law_draw : Value} {od__law_draw an__law_draw : Option Addr} {sl__law_draw : Array (Option Value)}
    {f__law_of : Addr} {oc__law_of kV__law_of dc__law_of pm__law_of cd__law_of ct__law_of : Value} {od__law_of an__law_of : Option Addr} {sl__law_of : Array (Option Value)}
    {f__law_play : Addr} {oc__law_play kV__law_play dc__law_play pm__law_play cd__law_play ct__law_play : Value} {od__law_play an__law_play : Option Addr} {sl__law_play : Array (Option Value)}
    {f__law_first : Addr} {oc__law_first kV__law_first dc__law_first pm__law_first cd__law_first ct__law_first : Value} {od__law_first an__law_first : Option Addr} {sl__law_first : Array (Option Value)}
    {f__law_right : Addr} {oc__law_right kV__law_right dc__law_right pm__law_right cd__law_right ct__law_right : Value} {od__law_right an__law_right : Option Addr} {sl__law_right : Array (Option Value)}
    {f_law : Addr} {oc_law kV_law dc_law pm_law cd_law ct_law : Value} {od_law an_law : Option Addr} {sl_law : Array (Option Value)}
    {t_MOST_KEY : Tok}
    {r_START : Addr}
    {i_KEY_WORDS : Array Value} {r_KEY_WORDS : Addr} {od_KEY_WORDS : Option Addr} {n_KEY_WORDS : Nat} {sl_KEY_WORDS : Array (Option Value)}
    {i_PEDAL_WORDS : Array Value} {r_PEDAL_WORDS : Addr} {od_PEDAL_WORDS : Option Addr} {n_PEDAL_WORDS : Nat} {sl_PEDAL_WORDS : Array (Option Value)}
    {t_MOST_EVENTS : Tok}
    {r_ENOUGH : Addr}
    {C_BadMachine fI_BadMachine : Addr}
    {C_BadPlay fI_BadPlay : Addr}
    {C_BadEvent fI_BadEvent : Addr}
    {C_VoiceError : Addr}
    (X : K.In h) (G : h.Ns mainGlobals mg) (hfa : mg "law" = some (.ref fa))
    (z_bool : PySem.W.nsIn K mainGlobals "bool" = some none)
    (z_enumerate : PySem.W.nsIn K mainGlobals "enumerate" = some none)
    (z_int : PySem.W.nsIn K mainGlobals "int" = some none)
    (z_isinstance : PySem.W.nsIn K mainGlobals "isinstance" = some none)
    (z_len : PySem.W.nsIn K mainGlobals "len" = some none)
    (z_list : PySem.W.nsIn K mainGlobals "list" = some none)
    (z_max : PySem.W.nsIn K mainGlobals "max" = some none)
    (z_min : PySem.W.nsIn K mainGlobals "min" = some none)
    (z_range : PySem.W.nsIn K mainGlobals "range" = some none)
    (z_repr : PySem.W.nsIn K mainGlobals "repr" = some none)
    (z_str : PySem.W.nsIn K mainGlobals "str" = some none)
    (z_super : PySem.W.nsIn K mainGlobals "super" = some none)
    (z_tuple : PySem.W.nsIn K mainGlobals "tuple" = some none)
    (a__law_begun : PySem.W.nsIn K mainGlobals "_law_begun" = some (some (.ref f__law_begun)))
    (l__law_begun : K.lookup f__law_begun = some ⟨oc__law_begun, od__law_begun, .func (PySem.W.fnOf "_law_begun" "_law_begun" (defArgs s__law_begun) (defBody s__law_begun) (defScope s__law_begun) .none kV__law_begun dc__law_begun pm__law_begun an__law_begun cd__law_begun ct__law_begun), sl__law_begun⟩)
    (c__law_begun : PySem.W.codeIn K cd__law_begun "_law_begun" = true)
    (k__law_begun : PySem.W.keepIn K (.ref f__law_begun) = true)
    (a_is_whole : PySem.W.nsIn K mainGlobals "is_whole" = some (some (.ref f_is_whole)))
    (l_is_whole : K.lookup f_is_whole = some ⟨oc_is_whole, od_is_whole, .func (PySem.W.fnOf "is_whole" "is_whole" (defArgs s_is_whole) (defBody s_is_whole) (defScope s_is_whole) .none kV_is_whole dc_is_whole pm_is_whole an_is_whole cd_is_whole ct_is_whole), sl_is_whole⟩)
    (c_is_whole : PySem.W.codeIn K cd_is_whole "is_whole" = true)
    (k_is_whole : PySem.W.keepIn K (.ref f_is_whole) = true)
    (a_is_word : PySem.W.nsIn K mainGlobals "is_word" = some (some (.ref f_is_word)))
    (l_is_word : K.lookup f_is_word = some ⟨oc_is_word, od_is_word, .func (PySem.W.fnOf "is_word" "is_word" (defArgs s_is_word) (defBody s_is_word) (defScope s_is_word) .none kV_is_word dc_is_word pm_is_word an_is_word cd_is_word ct_is_word), sl_is_word⟩)
    (c_is_word : PySem.W.codeIn K cd_is_word "is_word" = true)
    (k_is_word : PySem.W.keepIn K (.ref f_is_word) = true)
    (a_is_key : PySem.W.nsIn K mainGlobals "is_key" = some (some (.ref f_is_key)))
    (l_is_key : K.lookup f_is_key = some ⟨oc_is_key, od_is_key, .func (PySem.W.fnOf "is_key" "is_key" (defArgs s_is_key) (defBody s_is_key) (defScope s_is_key) .none kV_is_key dc_is_key pm_is_key an_is_key cd_is_key ct_is_key), sl_is_key⟩)
    (c_is_key : PySem.W.codeIn K cd_is_key "is_key" = true)
    (k_is_key : PySem.W.keepIn K (.ref f_is_key) = true)
    (a_down_keys : PySem.W.nsIn K mainGlobals "down_keys" = some (some (.ref f_down_keys)))
    (l_down_keys : K.lookup f_down_keys = some ⟨oc_down_keys, od_down_keys, .func (PySem.W.fnOf "down_keys" "down_keys" (defArgs s_down_keys) (defBody s_down_keys) (defScope s_down_keys) .none kV_down_keys dc_down_keys pm_down_keys an_down_keys cd_down_keys ct_down_keys), sl_down_keys⟩)
    (c_down_keys : PySem.W.codeIn K cd_down_keys "down_keys" = true)
    (k_down_keys : PySem.W.keepIn K (.ref f_down_keys) = true)
    (a_is_event : PySem.W.nsIn K mainGlobals "is_event" = some (some (.ref f_is_event)))
    (l_is_event : K.lookup f_is_event = some ⟨oc_is_event, od_is_event, .func (PySem.W.fnOf "is_event" "is_event" (defArgs s_is_event) (defBody s_is_event) (defScope s_is_event) .none kV_is_event dc_is_event pm_is_event an_is_event cd_is_event ct_is_event), sl_is_event⟩)
    (c_is_event : PySem.W.codeIn K cd_is_event "is_event" = true)
    (k_is_event : PySem.W.keepIn K (.ref f_is_event) = true)
    (a_can_follow : PySem.W.nsIn K mainGlobals "can_follow" = some (some (.ref f_can_follow)))
    (l_can_follow : K.lookup f_can_follow = some ⟨oc_can_follow, od_can_follow, .func (PySem.W.fnOf "can_follow" "can_follow" (defArgs s_can_follow) (defBody s_can_follow) (defScope s_can_follow) .none kV_can_follow dc_can_follow pm_can_follow an_can_follow cd_can_follow ct_can_follow), sl_can_follow⟩)
    (c_can_follow : PySem.W.codeIn K cd_can_follow "can_follow" = true)
    (k_can_follow : PySem.W.keepIn K (.ref f_can_follow) = true)
    (a_without : PySem.W.nsIn K mainGlobals "without" = some (some (.ref f_without)))
    (l_without : K.lookup f_without = some ⟨oc_without, od_without, .func (PySem.W.fnOf "without" "without" (defArgs s_without) (defBody s_without) (defScope s_without) .none kV_without dc_without pm_without an_without cd_without ct_without), sl_without⟩)
    (c_without : PySem.W.codeIn K cd_without "without" = true)
    (k_without : PySem.W.keepIn K (.ref f_without) = true)
    (a_marked : PySem.W.nsIn K mainGlobals "marked" = some (some (.ref f_marked)))
    (l_marked : K.lookup f_marked = some ⟨oc_marked, od_marked, .func (PySem.W.fnOf "marked" "marked" (defArgs s_marked) (defBody s_marked) (defScope s_marked) .none kV_marked dc_marked pm_marked an_marked cd_marked ct_marked), sl_marked⟩)
    (c_marked : PySem.W.codeIn K cd_marked "marked" = true)
    (k_marked : PySem.W.keepIn K (.ref f_marked) = true)
    (a_chosen : PySem.W.nsIn K mainGlobals "chosen" = some (some (.ref f_chosen)))
    (l_chosen : K.lookup f_chosen = some ⟨oc_chosen, od_chosen, .func (PySem.W.fnOf "chosen" "chosen" (defArgs s_chosen) (defBody s_chosen) (defScope s_chosen) .none kV_chosen dc_chosen pm_chosen an_chosen cd_chosen ct_chosen), sl_chosen⟩)
    (c_chosen : PySem.W.codeIn K cd_chosen "chosen" = true)
    (k_chosen : PySem.W.keepIn K (.ref f_chosen) = true)
    (a_outer_keys : PySem.W.nsIn K mainGlobals "outer_keys" = some (some (.ref f_outer_keys)))
    (l_outer_keys : K.lookup f_outer_keys = some ⟨oc_outer_keys, od_outer_keys, .func (PySem.W.fnOf "outer_keys" "outer_keys" (defArgs s_outer_keys) (defBody s_outer_keys) (defScope s_outer_keys) .none kV_outer_keys dc_outer_keys pm_outer_keys an_outer_keys cd_outer_keys ct_outer_keys), sl_outer_keys⟩)
    (c_outer_keys : PySem.W.codeIn K cd_outer_keys "outer_keys" = true)
    (k_outer_keys : PySem.W.keepIn K (.ref f_outer_keys) = true)
    (a_left_by : PySem.W.nsIn K mainGlobals "left_by" = some (some (.ref f_left_by)))
    (l_left_by : K.lookup f_left_by = some ⟨oc_left_by, od_left_by, .func (PySem.W.fnOf "left_by" "left_by" (defArgs s_left_by) (defBody s_left_by) (defScope s_left_by) .none kV_left_by dc_left_by pm_left_by an_left_by cd_left_by ct_left_by), sl_left_by⟩)
    (c_left_by : PySem.W.codeIn K cd_left_by "left_by" = true)
    (k_left_by : PySem.W.keepIn K (.ref f_left_by) = true)
    (a_victim_among : PySem.W.nsIn K mainGlobals "victim_among" = some (some (.ref f_victim_among)))
    (l_victim_among : K.lookup f_victim_among = some ⟨oc_victim_among, od_victim_among, .func (PySem.W.fnOf "victim_among" "victim_among" (defArgs s_victim_among) (defBody s_victim_among) (defScope s_victim_among) .none kV_victim_among dc_victim_among pm_victim_among an_victim_among cd_victim_among ct_victim_among), sl_victim_among⟩)
    (c_victim_among : PySem.W.codeIn K cd_victim_among "victim_among" = true)
    (k_victim_among : PySem.W.keepIn K (.ref f_victim_among) = true)
    (a_go_down : PySem.W.nsIn K mainGlobals "go_down" = some (some (.ref f_go_down)))
    (l_go_down : K.lookup f_go_down = some ⟨oc_go_down, od_go_down, .func (PySem.W.fnOf "go_down" "go_down" (defArgs s_go_down) (defBody s_go_down) (defScope s_go_down) .none kV_go_down dc_go_down pm_go_down an_go_down cd_go_down ct_go_down), sl_go_down⟩)
    (c_go_down : PySem.W.codeIn K cd_go_down "go_down" = true)
    (k_go_down : PySem.W.keepIn K (.ref f_go_down) = true)
    (a_come_back : PySem.W.nsIn K mainGlobals "come_back" = some (some (.ref f_come_back)))
    (l_come_back : K.lookup f_come_back = some ⟨oc_come_back, od_come_back, .func (PySem.W.fnOf "come_back" "come_back" (defArgs s_come_back) (defBody s_come_back) (defScope s_come_back) .none kV_come_back dc_come_back pm_come_back an_come_back cd_come_back ct_come_back), sl_come_back⟩)
    (c_come_back : PySem.W.codeIn K cd_come_back "come_back" = true)
    (k_come_back : PySem.W.keepIn K (.ref f_come_back) = true)
    (a_go_up : PySem.W.nsIn K mainGlobals "go_up" = some (some (.ref f_go_up)))
    (l_go_up : K.lookup f_go_up = some ⟨oc_go_up, od_go_up, .func (PySem.W.fnOf "go_up" "go_up" (defArgs s_go_up) (defBody s_go_up) (defScope s_go_up) .none kV_go_up dc_go_up pm_go_up an_go_up cd_go_up ct_go_up), sl_go_up⟩)
    (c_go_up : PySem.W.codeIn K cd_go_up "go_up" = true)
    (k_go_up : PySem.W.keepIn K (.ref f_go_up) = true)
    (a_lift : PySem.W.nsIn K mainGlobals "lift" = some (some (.ref f_lift)))
    (l_lift : K.lookup f_lift = some ⟨oc_lift, od_lift, .func (PySem.W.fnOf "lift" "lift" (defArgs s_lift) (defBody s_lift) (defScope s_lift) .none kV_lift dc_lift pm_lift an_lift cd_lift ct_lift), sl_lift⟩)
    (c_lift : PySem.W.codeIn K cd_lift "lift" = true)
    (k_lift : PySem.W.keepIn K (.ref f_lift) = true)
    (a_perform : PySem.W.nsIn K mainGlobals "perform" = some (some (.ref f_perform)))
    (l_perform : K.lookup f_perform = some ⟨oc_perform, od_perform, .func (PySem.W.fnOf "perform" "perform" (defArgs s_perform) (defBody s_perform) (defScope s_perform) .none kV_perform dc_perform pm_perform an_perform cd_perform ct_perform), sl_perform⟩)
    (c_perform : PySem.W.codeIn K cd_perform "perform" = true)
    (k_perform : PySem.W.keepIn K (.ref f_perform) = true)
    (a_play_fault : PySem.W.nsIn K mainGlobals "play_fault" = some (some (.ref f_play_fault)))
    (l_play_fault : K.lookup f_play_fault = some ⟨oc_play_fault, od_play_fault, .func (PySem.W.fnOf "play_fault" "play_fault" (defArgs s_play_fault) (defBody s_play_fault) (defScope s_play_fault) .none kV_play_fault dc_play_fault pm_play_fault an_play_fault cd_play_fault ct_play_fault), sl_play_fault⟩)
    (c_play_fault : PySem.W.codeIn K cd_play_fault "play_fault" = true)
    (k_play_fault : PySem.W.keepIn K (.ref f_play_fault) = true)
    (a_need_play : PySem.W.nsIn K mainGlobals "need_play" = some (some (.ref f_need_play)))
    (l_need_play : K.lookup f_need_play = some ⟨oc_need_play, od_need_play, .func (PySem.W.fnOf "need_play" "need_play" (defArgs s_need_play) (defBody s_need_play) (defScope s_need_play) .none kV_need_play dc_need_play pm_need_play an_need_play cd_need_play ct_need_play), sl_need_play⟩)
    (c_need_play : PySem.W.codeIn K cd_need_play "need_play" = true)
    (k_need_play : PySem.W.keepIn K (.ref f_need_play) = true)
    (a_is_play : PySem.W.nsIn K mainGlobals "is_play" = some (some (.ref f_is_play)))
    (l_is_play : K.lookup f_is_play = some ⟨oc_is_play, od_is_play, .func (PySem.W.fnOf "is_play" "is_play" (defArgs s_is_play) (defBody s_is_play) (defScope s_is_play) .none kV_is_play dc_is_play pm_is_play an_is_play cd_is_play ct_is_play), sl_is_play⟩)
    (c_is_play : PySem.W.codeIn K cd_is_play "is_play" = true)
    (k_is_play : PySem.W.keepIn K (.ref f_is_play) = true)
    (a__law_draw : PySem.W.nsIn K mainGlobals "_law_draw" = some (some (.ref f__law_draw)))
    (l__law_draw : K.lookup f__law_draw = some ⟨oc__law_draw, od__law_draw, .func (PySem.W.fnOf "_law_draw" "_law_draw" (defArgs s__law_draw) (defBody s__law_draw) (defScope s__law_draw) .none kV__law_draw dc__law_draw pm__law_draw an__law_draw cd__law_draw ct__law_draw), sl__law_draw⟩)
    (c__law_draw : PySem.W.codeIn K cd__law_draw "_law_draw" = true)
    (k__law_draw : PySem.W.keepIn K (.ref f__law_draw) = true)
    (a__law_of : PySem.W.nsIn K mainGlobals "_law_of" = some (some (.ref f__law_of)))
    (l__law_of : K.lookup f__law_of = some ⟨oc__law_of, od__law_of, .func (PySem.W.fnOf "_law_of" "_law_of" (defArgs s__law_of) (defBody s__law_of) (defScope s__law_of) .none kV__law_of dc__law_of pm__law_of an__law_of cd__law_of ct__law_of), sl__law_of⟩)
    (c__law_of : PySem.W.codeIn K cd__law_of "_law_of" = true)
    (k__law_of : PySem.W.keepIn K (.ref f__law_of) = true)
    (a__law_play : PySem.W.nsIn K mainGlobals "_law_play" = some (some (.ref f__law_play)))
    (l__law_play : K.lookup f__law_play = some ⟨oc__law_play, od__law_play, .func (PySem.W.fnOf "_law_play" "_law_play" (defArgs s__law_play) (defBody s__law_play) (defScope s__law_play) .none kV__law_play dc__law_play pm__law_play an__law_play cd__law_play ct__law_play), sl__law_play⟩)
    (c__law_play : PySem.W.codeIn K cd__law_play "_law_play" = true)
    (k__law_play : PySem.W.keepIn K (.ref f__law_play) = true)
    (a__law_first : PySem.W.nsIn K mainGlobals "_law_first" = some (some (.ref f__law_first)))
    (l__law_first : K.lookup f__law_first = some ⟨oc__law_first, od__law_first, .func (PySem.W.fnOf "_law_first" "_law_first" (defArgs s__law_first) (defBody s__law_first) (defScope s__law_first) .none kV__law_first dc__law_first pm__law_first an__law_first cd__law_first ct__law_first), sl__law_first⟩)
    (c__law_first : PySem.W.codeIn K cd__law_first "_law_first" = true)
    (k__law_first : PySem.W.keepIn K (.ref f__law_first) = true)
    (a__law_right : PySem.W.nsIn K mainGlobals "_law_right" = some (some (.ref f__law_right)))
    (l__law_right : K.lookup f__law_right = some ⟨oc__law_right, od__law_right, .func (PySem.W.fnOf "_law_right" "_law_right" (defArgs s__law_right) (defBody s__law_right) (defScope s__law_right) .none kV__law_right dc__law_right pm__law_right an__law_right cd__law_right ct__law_right), sl__law_right⟩)
    (c__law_right : PySem.W.codeIn K cd__law_right "_law_right" = true)
    (k__law_right : PySem.W.keepIn K (.ref f__law_right) = true)
    (a_law : PySem.W.nsIn K mainGlobals "law" = some (some (.ref f_law)))
    (l_law : K.lookup f_law = some ⟨oc_law, od_law, .func (PySem.W.fnOf "law" "law" (defArgs s_law) (defBody s_law) (defScope s_law) .none kV_law dc_law pm_law an_law cd_law ct_law), sl_law⟩)
    (c_law : PySem.W.codeIn K cd_law "law" = true)
    (k_law : PySem.W.keepIn K (.ref f_law) = true)
    (a_MOST_KEY : PySem.W.nsIn K mainGlobals "MOST_KEY" = some (some (.int 87 t_MOST_KEY)))
    (a_START : PySem.W.nsIn K mainGlobals "START" = some (some (.ref r_START)))
    (q_START : DE.Cv K (.ref r_START) (.ref r_START) c_START)
    (a_KEY_WORDS : PySem.W.nsIn K mainGlobals "KEY_WORDS" = some (some (.ref r_KEY_WORDS)))
    (l_KEY_WORDS : K.lookup r_KEY_WORDS = some ⟨.type "tuple", od_KEY_WORDS, .seq i_KEY_WORDS n_KEY_WORDS, sl_KEY_WORDS⟩)
    (v_KEY_WORDS : strsOf i_KEY_WORDS.toList = some (["down", "up"] : List Str))
    (s_KEY_WORDS : i_KEY_WORDS.size ≤ 1000)
    (a_PEDAL_WORDS : PySem.W.nsIn K mainGlobals "PEDAL_WORDS" = some (some (.ref r_PEDAL_WORDS)))
    (l_PEDAL_WORDS : K.lookup r_PEDAL_WORDS = some ⟨.type "tuple", od_PEDAL_WORDS, .seq i_PEDAL_WORDS n_PEDAL_WORDS, sl_PEDAL_WORDS⟩)
    (v_PEDAL_WORDS : strsOf i_PEDAL_WORDS.toList = some (["press", "lift"] : List Str))
    (s_PEDAL_WORDS : i_PEDAL_WORDS.size ≤ 1000)
    (a_MOST_EVENTS : PySem.W.nsIn K mainGlobals "MOST_EVENTS" = some (some (.int 300 t_MOST_EVENTS)))
    (a_ENOUGH : PySem.W.nsIn K mainGlobals "ENOUGH" = some (some (.ref r_ENOUGH)))
    (q_ENOUGH : DE.Cv K (.ref r_ENOUGH) (.ref r_ENOUGH) c_ENOUGH)
    (a_BadMachine : PySem.W.nsIn K mainGlobals "BadMachine" = some (some (.ref C_BadMachine)))
    (e_BadMachine : ∃ fd, ErrF P K C_BadMachine fI_BadMachine "place" "place" "no machine" "BadMachine.__init__" fd)
    (a_BadPlay : PySem.W.nsIn K mainGlobals "BadPlay" = some (some (.ref C_BadPlay)))
    (e_BadPlay : ∃ fd, ErrF P K C_BadPlay fI_BadPlay "place" "place" "no play" "BadPlay.__init__" fd)
    (a_BadEvent : PySem.W.nsIn K mainGlobals "BadEvent" = some (some (.ref C_BadEvent)))
    (e_BadEvent : ∃ fd, ErrF P K C_BadEvent fI_BadEvent "event" "event" "no event that can follow" "BadEvent.__init__" fd)
    (h_BadEvent_BadMachine : HdF K C_BadMachine (.ref C_BadEvent) false)
    (h_BadEvent_BadPlay : HdF K C_BadPlay (.ref C_BadEvent) false)
    (h_BadEvent_BadEvent : HdF K C_BadEvent (.ref C_BadEvent) true)
    (h_BadMachine_BadMachine : HdF K C_BadMachine (.ref C_BadMachine) true)
    (h_BadMachine_BadPlay : HdF K C_BadPlay (.ref C_BadMachine) false)
    (h_BadMachine_BadEvent : HdF K C_BadEvent (.ref C_BadMachine) false)
    (h_BadPlay_BadMachine : HdF K C_BadMachine (.ref C_BadPlay) false)
    (h_BadPlay_BadPlay : HdF K C_BadPlay (.ref C_BadPlay) true)
    (h_BadPlay_BadEvent : HdF K C_BadEvent (.ref C_BadPlay) false)
    (a_VoiceError : PySem.W.nsIn K mainGlobals "VoiceError" = some (some (.ref C_VoiceError)))
    (h_VoiceError_BadMachine : HdF K C_BadMachine (.ref C_VoiceError) true)
    (h_VoiceError_BadPlay : HdF K C_BadPlay (.ref C_VoiceError) true)
    (h_VoiceError_BadEvent : HdF K C_BadEvent (.ref C_VoiceError) true) :
    ∃ fd : FuncData, (∀ (s : Shared) (u : Value), BindsTo s fd ⟨[u], []⟩ [("script", u)]) ∧ ∀ base : Heap, K.In base → base.Ns mainGlobals mg → FnG P w K mg base 9 fa fd ["script"] (spLaw K [] 13 1 fb_law) := by
  have e := hfa.symm.trans (PySem.W.mg_of X G a_law)
  cases e
  obtain ⟨fd_BadMachine, E_BadMachine⟩ := e_BadMachine
  obtain ⟨fd_BadPlay, E_BadPlay⟩ := e_BadPlay
  obtain ⟨fd_BadEvent, E_BadEvent⟩ := e_BadEvent
  refine ⟨PySem.W.fnOf "law" "law" (defArgs s_law) (defBody s_law) (defScope s_law) .none kV_law dc_law pm_law an_law cd_law ct_law, fun s v => .of_eq rfl, fun base _ _ => ?_⟩
  have T : ∀ M, Tx P w K mg base ⟨M, clL [("BadMachine", (C_BadMachine, "place")), ("BadPlay", (C_BadPlay, "place")), ("BadEvent", (C_BadEvent, "event"))], []⟩ := fun M =>
    { z_bool := PySem.W.mg_none_of X G z_bool,
      z_enumerate := PySem.W.mg_none_of X G z_enumerate,
      z_int := PySem.W.mg_none_of X G z_int,
      z_isinstance := PySem.W.mg_none_of X G z_isinstance,
      z_len := PySem.W.mg_none_of X G z_len,
      z_list := PySem.W.mg_none_of X G z_list,
      z_max := PySem.W.mg_none_of X G z_max,
      z_min := PySem.W.mg_none_of X G z_min,
      z_range := PySem.W.mg_none_of X G z_range,
      z_repr := PySem.W.mg_none_of X G z_repr,
      z_str := PySem.W.mg_none_of X G z_str,
      z_tuple := PySem.W.mg_none_of X G z_tuple,
      c_MOST_KEY := cst_int (PySem.W.mg_of X G a_MOST_KEY),
      c_START := cst_cv (PySem.W.mg_of X G a_START) q_START,
      c_KEY_WORDS := cst_tup (PySem.W.mg_of X G a_KEY_WORDS) l_KEY_WORDS v_KEY_WORDS s_KEY_WORDS,
      c_PEDAL_WORDS := cst_tup (PySem.W.mg_of X G a_PEDAL_WORDS) l_PEDAL_WORDS v_PEDAL_WORDS s_PEDAL_WORDS,
      c_MOST_EVENTS := cst_int (PySem.W.mg_of X G a_MOST_EVENTS),
      c_ENOUGH := cst_cv (PySem.W.mg_of X G a_ENOUGH) q_ENOUGH,
      x_BadPlay := ⟨C_BadPlay, fI_BadPlay, _, _, _, _, _, PySem.W.mg_of X G a_BadPlay, rfl, PySem.W.mg_none_of X G z_super, E_BadPlay.c⟩,
      h_BadEvent := ⟨_, _, .own (PySem.W.mg_of X G a_BadEvent), fun cn C f b h1 h2 => cl_all (l := [("BadMachine", (C_BadMachine, "place")), ("BadPlay", (C_BadPlay, "place")), ("BadEvent", (C_BadEvent, "event"))]) (R := fun cn C f => ∀ b, tb_BadEvent.lookup cn = some b → PySem.W.exmOne K (.ref C) (.ref C_BadEvent) = some b ∧ PySem.W.kitOne K (.ref C) (.ref C_BadEvent) = some b) (fa_cons (hd_el rfl h_BadEvent_BadMachine) (fa_cons (hd_el rfl h_BadEvent_BadPlay) (fa_cons (hd_el rfl h_BadEvent_BadEvent) (fa_nil)))) cn C f h1 b h2⟩,
      h_BadMachine := ⟨_, _, .own (PySem.W.mg_of X G a_BadMachine), fun cn C f b h1 h2 => cl_all (l := [("BadMachine", (C_BadMachine, "place")), ("BadPlay", (C_BadPlay, "place")), ("BadEvent", (C_BadEvent, "event"))]) (R := fun cn C f => ∀ b, tb_BadMachine.lookup cn = some b → PySem.W.exmOne K (.ref C) (.ref C_BadMachine) = some b ∧ PySem.W.kitOne K (.ref C) (.ref C_BadMachine) = some b) (fa_cons (hd_el rfl h_BadMachine_BadMachine) (fa_cons (hd_el rfl h_BadMachine_BadPlay) (fa_cons (hd_el rfl h_BadMachine_BadEvent) (fa_nil)))) cn C f h1 b h2⟩,
      h_BadPlay := ⟨_, _, .own (PySem.W.mg_of X G a_BadPlay), fun cn C f b h1 h2 => cl_all (l := [("BadMachine", (C_BadMachine, "place")), ("BadPlay", (C_BadPlay, "place")), ("BadEvent", (C_BadEvent, "event"))]) (R := fun cn C f => ∀ b, tb_BadPlay.lookup cn = some b → PySem.W.exmOne K (.ref C) (.ref C_BadPlay) = some b ∧ PySem.W.kitOne K (.ref C) (.ref C_BadPlay) = some b) (fa_cons (hd_el rfl h_BadPlay_BadMachine) (fa_cons (hd_el rfl h_BadPlay_BadPlay) (fa_cons (hd_el rfl h_BadPlay_BadEvent) (fa_nil)))) cn C f h1 b h2⟩,
      h_VoiceError := ⟨_, _, .own (PySem.W.mg_of X G a_VoiceError), fun cn C f b h1 h2 => cl_all (l := [("BadMachine", (C_BadMachine, "place")), ("BadPlay", (C_BadPlay, "place")), ("BadEvent", (C_BadEvent, "event"))]) (R := fun cn C f => ∀ b, tb_VoiceError.lookup cn = some b → PySem.W.exmOne K (.ref C) (.ref C_VoiceError) = some b ∧ PySem.W.kitOne K (.ref C) (.ref C_VoiceError) = some b) (fa_cons (hd_el rfl h_VoiceError_BadMachine) (fa_cons (hd_el rfl h_VoiceError_BadPlay) (fa_cons (hd_el rfl h_VoiceError_BadEvent) (fa_nil)))) cn C f h1 b h2⟩,
      fo_place := fun c hc C f h => cl_all (l := [("BadMachine", (C_BadMachine, "place")), ("BadPlay", (C_BadPlay, "place")), ("BadEvent", (C_BadEvent, "event"))]) (R := fun cn _ f => cs_place.contains cn = true → f = "place") (fa_cons (fun _ => rfl) (fa_cons (fun _ => rfl) (fa_cons (fun z => absurd z (show ¬ (cs_place.contains ("BadEvent" : Str) = true) by decide)) (fa_nil)))) c C f h hc,
      k := cl_all (fa_cons (⟨E_BadMachine.x, E_BadMachine.e, E_BadMachine.s, E_BadMachine.c.noF⟩) (fa_cons (⟨E_BadPlay.x, E_BadPlay.e, E_BadPlay.s, E_BadPlay.c.noF⟩) (fa_cons (⟨E_BadEvent.x, E_BadEvent.e, E_BadEvent.s, E_BadEvent.c.noF⟩) (fa_nil)))) }
  have F__law_begun := fun_mk (st := s__law_begun) l__law_begun c__law_begun k__law_begun
  have F_is_whole := fun_mk (st := s_is_whole) l_is_whole c_is_whole k_is_whole
  have F_is_word := fun_mk (st := s_is_word) l_is_word c_is_word k_is_word
  have F_is_key := fun_mk (st := s_is_key) l_is_key c_is_key k_is_key
  have F_down_keys := fun_mk (st := s_down_keys) l_down_keys c_down_keys k_down_keys
  have F_is_event := fun_mk (st := s_is_event) l_is_event c_is_event k_is_event
  have F_can_follow := fun_mk (st := s_can_follow) l_can_follow c_can_follow k_can_follow
  have F_without := fun_mk (st := s_without) l_without c_without k_without
  have F_marked := fun_mk (st := s_marked) l_marked c_marked k_marked
  have F_chosen := fun_mk (st := s_chosen) l_chosen c_chosen k_chosen
  have F_outer_keys := fun_mk (st := s_outer_keys) l_outer_keys c_outer_keys k_outer_keys
  have F_left_by := fun_mk (st := s_left_by) l_left_by c_left_by k_left_by
  have F_victim_among := fun_mk (st := s_victim_among) l_victim_among c_victim_among k_victim_among
  have F_go_down := fun_mk (st := s_go_down) l_go_down c_go_down k_go_down
  have F_come_back := fun_mk (st := s_come_back) l_come_back c_come_back k_come_back
  have F_go_up := fun_mk (st := s_go_up) l_go_up c_go_up k_go_up
  have F_lift := fun_mk (st := s_lift) l_lift c_lift k_lift
  have F_perform := fun_mk (st := s_perform) l_perform c_perform k_perform
  have F_play_fault := fun_mk (st := s_play_fault) l_play_fault c_play_fault k_play_fault
  have F_need_play := fun_mk (st := s_need_play) l_need_play c_need_play k_need_play
  have F_is_play := fun_mk (st := s_is_play) l_is_play c_is_play k_is_play
  have F__law_draw := fun_mk (st := s__law_draw) l__law_draw c__law_draw k__law_draw
  have F__law_of := fun_mk (st := s__law_of) l__law_of c__law_of k__law_of
  have F__law_play := fun_mk (st := s__law_play) l__law_play c__law_play k__law_play
  have F__law_first := fun_mk (st := s__law_first) l__law_first c__law_first k__law_first
  have F__law_right := fun_mk (st := s__law_right) l__law_right c__law_right k__law_right
  have F_law := fun_mk (st := s_law) l_law c_law k_law
  have K__law_begun : Kf P w K mg base 1 "_law_begun" (spBeg K) := kf__law_begun ⟨PySem.W.mg_none_of X G z_int⟩ F__law_begun (PySem.W.mg_of X G a__law_begun)
  have K_is_whole := fun M : Addr => kf_is_whole (T M) F_is_whole (PySem.W.mg_of X G a_is_whole) 
  have K_is_word := fun M : Addr => kf_is_word (T M) F_is_word (PySem.W.mg_of X G a_is_word) 
  have K_down_keys := fun M : Addr => kf_down_keys (T M) F_down_keys (PySem.W.mg_of X G a_down_keys) 
  have K_without := fun M : Addr => kf_without (T M) F_without (PySem.W.mg_of X G a_without) 
  have K_marked := fun M : Addr => kf_marked (T M) F_marked (PySem.W.mg_of X G a_marked) 
  have K_chosen := fun M : Addr => kf_chosen (T M) F_chosen (PySem.W.mg_of X G a_chosen) 
  have K_outer_keys := fun M : Addr => kf_outer_keys (T M) F_outer_keys (PySem.W.mg_of X G a_outer_keys) 
  have K__law_draw := fun M : Addr => kf__law_draw (T M) F__law_draw (PySem.W.mg_of X G a__law_draw) 
  have K__law_first := fun M : Addr => kf__law_first (T M) F__law_first (PySem.W.mg_of X G a__law_first) 
  have K_is_key := fun M : Addr => kf_is_key (T M) F_is_key (PySem.W.mg_of X G a_is_key) (K_is_whole M)
  have K_left_by := fun M : Addr => kf_left_by (T M) F_left_by (PySem.W.mg_of X G a_left_by) (K_outer_keys M)
  have K__law_of := fun M : Addr => kf__law_of (T M) F__law_of (PySem.W.mg_of X G a__law_of) (K__law_draw M)
  have K_is_event := fun M : Addr => kf_is_event (T M) F_is_event (PySem.W.mg_of X G a_is_event) (K_is_word M) (K_is_key M)
  have K_victim_among := fun M : Addr => kf_victim_among (T M) F_victim_among (PySem.W.mg_of X G a_victim_among) (K_chosen M) (K_left_by M)
  have KP_chosen := kp_chosen (T fa) F_chosen (PySem.W.mg_of X G a_chosen)
  have K_come_back := fun M : Addr => kf_come_back (T M) F_come_back (PySem.W.mg_of X G a_come_back) (K_marked M) KP_chosen
  have K__law_play := fun M : Addr => kf__law_play (T M) F__law_play (PySem.W.mg_of X G a__law_play) (K__law_draw M) (K__law_of M)
  have K_can_follow := fun M : Addr => kf_can_follow (T M) F_can_follow (PySem.W.mg_of X G a_can_follow) (K_down_keys M) (K_is_event M)
  have K_go_down := fun M : Addr => kf_go_down (T M) F_go_down (PySem.W.mg_of X G a_go_down) (K_without M) (K_marked M) (K_victim_among M)
  have K_go_up := fun M : Addr => kf_go_up (T M) F_go_up (PySem.W.mg_of X G a_go_up) (K_without M) (K_marked M) (K_come_back M)
  have K_lift := fun M : Addr => kf_lift (T M) F_lift (PySem.W.mg_of X G a_lift) (K_come_back M)
  have K_perform := fun M : Addr => kf_perform (T M) F_perform (PySem.W.mg_of X G a_perform) (K_go_down M) (K_go_up M) (K_lift M)
  have K_play_fault := fun M : Addr => kf_play_fault (T M) F_play_fault (PySem.W.mg_of X G a_play_fault) (K_can_follow M) (K_perform M)
  have K_need_play := fun M : Addr => kf_need_play (T M) F_need_play (PySem.W.mg_of X G a_need_play) (K_play_fault M)
  have K_is_play := fun M : Addr => kf_is_play (T M) F_is_play (PySem.W.mg_of X G a_is_play) (K_play_fault M)
  have K__law_right := fun M : Addr => kf__law_right (T M) F__law_right (PySem.W.mg_of X G a__law_right) (K_need_play M) (K_is_play M)
  exact fn_law T F_law K__law_begun K__law_draw K__law_of K__law_play K__law_first K__law_right
end
end K10
namespace K10
open PyProof.Rows PySem.Spec PySem L2 DE S
/-! ### what is right -/
theorem lk1 : tb_VoiceError.lookup ("BadPlay" : Str) = some true := by decide
theorem lk2 : tb_BadPlay.lookup ("BadPlay" : Str) = some true := by decide
theorem c_place : ("BadPlay" : Str) ∈ cs_place := by decide
@[simp] theorem isT_v (tbs : List (List (Str × Bool))) (f : Mo D) (g : Sg) : fIsT tbs f g = bdO (f g) (aIsT tbs) := by unfold fIsT; rw [bd_v]
theorem anyT2 (v : D) (g : Sg) : aIsT [tb_BadEvent, tb_BadMachine] (.exc "BadPlay" v) g = some (.ok (.bl false), g) := by kernel_rfl
@[simp] theorem pEq_ee (g : Sg) : pEq (.lst []) (.lst []) g = some (.ok (.bl true), g) := by kernel_rfl
theorem pEq_1e (g : Sg) : pEq (.lst [.tup []]) (.lst []) g = some (.ok (.bl false), g) := by kernel_rfl
theorem pEq_1n (n : Int) (g : Sg) : pEq (.lst [.tup [.int n]]) (.lst []) g = some (.ok (.bl false), g) := by kernel_rfl
theorem pEq_t0 (g : Sg) : pEq (.tup []) (.tup []) g = some (.ok (.bl true), g) := by kernel_rfl
theorem pEq_t1 (n : Nat) (h : n ≤ 1000) (g : Sg) : pEq (.tup [.int (n : Int)]) (.tup [.int (n : Int)]) g = some (.ok (.bl true), g) := congrFun (eq_self (n := 1) (d := .tup [.int (n : Int)]) (by simp; omega) (by decide)).1 g
@[simp] theorem pIs_b (a b : Bool) : pIs (.bl a) (.bl b) = rt (.bl (decide (a = b))) := rfl
@[simp] theorem pNis_b (a b : Bool) : pNis (.bl a) (.bl b) = rt (.bl (!decide (a = b))) := rfl
theorem right_ok {t : D} {s : DS} (h : m_play_fault [t] s = some (.ok .non, s)) (hw : ∃ w, aRepr (.lst [t]) = rt (.str w)) : m__law_right [t, .lst []] s = some (.ok (.bl true), s) := by
  have a := np_ok h
  have b := ip_ok h
  obtain ⟨w, hw⟩ := hw
  refine run_v rfl ?_
  simp [fb__law_right, a, b, hw]
theorem right_no0 {t : D} {s : DS} (h : m_play_fault [t] s = some (.ok (.tup []), s)) : m__law_right [t, .lst [.tup []]] s = some (.ok (.bl true), s) := by
  have a := np_no h
  have b := ip_no h
  refine run_v rfl ?_
  simp [fb__law_right, a, b, lk1, lk2, c_place, pEq_1e, pEq_t0, anyT2]
theorem right_no1 {t : D} {s : DS} {n : Nat} (hn : n ≤ 1000) (h : m_play_fault [t] s = some (.ok (.tup [.int (n : Int)]), s)) : m__law_right [t, .lst [.tup [.int (n : Int)]]] s = some (.ok (.bl true), s) := by
  have a := np_no h
  have b := ip_no h
  refine run_v rfl ?_
  simp [fb__law_right, a, b, lk1, lk2, c_place, pEq_1n, pEq_t1 n hn, anyT2]
/-! ### plays are shown -/
theorem ev_pl {ev : Ev} (h : evKey ev) (n : Nat) : Pl (n + 1) (evD ev) ∧ bk (n + 1) (evD ev) ≤ 9 := by
  cases ev with
  | press => exact ⟨by unfold evD; simp; kernel_rfl, by unfold evD; simp; decide⟩
  | lift => exact ⟨by unfold evD; simp; kernel_rfl, by unfold evD; simp; decide⟩
  | up k => unfold evKey at h; exact ⟨by unfold evD; simp; exact ⟨by kernel_rfl, by omega⟩, by unfold evD; simp; decide⟩
  | down k => unfold evKey at h; exact ⟨by unfold evD; simp; exact ⟨by kernel_rfl, by omega⟩, by unfold evD; simp; decide⟩
theorem play_repr {evs : List Ev} (h : ∀ e ∈ evs, evKey e) (hl : evs.length ≤ 1000) : ∃ w, aRepr (.lst [.tup (evs.map evD)]) = rt (.str w) := by
  refine repr_pl (n := 3) ?_ (by decide) ?_
  · simp only [pl_lst, List.mem_singleton, forall_eq, pl_tup]
    intro d hd
    obtain ⟨e, he, rfl⟩ := List.mem_map.mp hd
    exact (ev_pl (h e he) 0).1
  · have := sum_le (fun x => bk 1 x + 1) 10 (evs.map evD) (fun d hd => by
      obtain ⟨e, he, rfl⟩ := List.mem_map.mp hd
      have := (ev_pl (h e he) 0).2
      show bk (0 + 1) (evD e) + 1 ≤ 10
      omega)
    rw [List.length_map] at this
    simp only [bk_lst, bk_tup, List.map_cons, List.map_nil, List.sum_cons, List.sum_nil]
    omega
/-! ### plays with one item more, one less -/
theorem right_evs {evs : List Ev} (k : ∀ e ∈ evs, evKey e) (hl : evs.length ≤ 300) (s : DS) : m__law_right [.tup (evs.map evD), .lst (match badIx false [] 0 evs with | none => [] | some j => [.tup [.int (j : Int)]])] s = some (.ok (.bl true), s) := by
  cases hb : badIx false [] 0 evs with
  | none => exact right_ok (fault_none (bad_none hb k) hl s) (play_repr k (by omega))
  | some j =>
    obtain ⟨pre, ev, rest, h1, h2, h3, h4⟩ := bad_some hb k
    rw [Nat.zero_add] at h4
    have hll : pre.length + 1 + rest.length = evs.length := by rw [h1]; simp; omega
    refine right_no1 (by omega) ?_
    rw [h1, List.map_append, List.map_cons, h4]
    exact fault_at h2 (bad_follow (k ev (by rw [h1]; simp)) h3) (by rw [List.length_map]; omega) s
theorem right_at {evs : List Ev} (ok : evsF false [] evs) (hl : evs.length ≤ 300) {j : Nat} (hj : j ≤ evs.length) {d : D} (hd : ∀ p hs, BadAt p hs d) (s : DS) :
    m__law_right [.tup ((((evs.take j).map evD ++ [d]) ++ (evs.drop j).map evD).take 300), .lst (if (j : Int) < 300 then [.tup [.int (j : Int)]] else [])] s = some (.ok (.bl true), s) := by
  have lj : ((evs.take j).map evD).length = j := by rw [List.length_map, List.length_take]; omega
  by_cases c : j < 300
  · rw [if_pos (by omega)]
    refine right_no1 (by omega) ?_
    have e : (((evs.take j).map evD ++ [d]) ++ (evs.drop j).map evD).take 300 = (evs.take j).map evD ++ d :: ((evs.drop j).map evD).take (299 - j) := by
      rw [List.append_assoc, List.take_append, lj, List.take_of_length_le (by omega)]
      congr 1
      obtain ⟨m, hm⟩ : ∃ m, 300 - j = m + 1 := ⟨299 - j, by omega⟩
      rw [hm, List.singleton_append, List.take_succ_cons, show 299 - j = m by omega]
    have lt : (evs.take j).length = j := by rw [List.length_take]; omega
    rw [e]
    have := fault_at (evs := evs.take j) (d := d) (rest := ((evs.drop j).map evD).take (299 - j)) (evsF_app (es := evs.take j) (fs := evs.drop j) (by rw [List.take_append_drop]; exact ok)).1 (hd _ _) (by rw [lt, List.length_take]; omega) s
    rw [lt] at this
    exact this
  · obtain rfl : j = 300 := by omega
    rw [if_neg (by decide)]
    have e : (((evs.take 300).map evD ++ [d]) ++ (evs.drop 300).map evD).take 300 = evs.map evD := by
      rw [List.append_assoc, List.take_append, lj, List.take_of_length_le (by omega), Nat.sub_self, List.take_zero, List.append_nil, List.take_of_length_le (by omega)]
    rw [e]
    exact right_ok (fault_none ok hl s) (play_repr (evsF_keys ok) (by omega))
/-! ### one turn -/
abbrev OB : Ms := (fIf (fNot (fT (fCallN 2 m__law_right (fCons (fSl (f2 pAdd (f2 pAdd (fSl (fName 4) (rt none) (fPart (fName 5))) (fTup (fCons (fName 7) (rt [])))) (fSl (fName 4) (fPart (fName 5)) (rt none))) (rt none) (fPart (rt (.int 300)))) (fCons (fIfE (fT (f2 pLt (fName 5) (rt (.int 300)))) (fLet (fLst (fCons (fTup (fCons (fName 5) (rt []))) (rt [])))) (fLet (fLst (rt [])))) (rt [])))))) (fRet (rt (.bl false))) (sOut .nx))
abbrev EB : Ms := (fSeq (fSet 9 (fSl (f2 pAdd (f2 pAdd (fSl (fName 4) (rt none) (fPart (fName 5))) (fTup (fCons (fName 8) (rt [])))) (fSl (fName 4) (fPart (fName 5)) (rt none))) (rt none) (fPart (rt (.int 300)))))
  (fIf (fNot (fT (fCallN 2 m__law_right (fCons (fName 9) (fCons (fLet (fComp [10] (fCallN 1 m__law_first (fCons (fName 9) (rt []))) (gN 10) ((rt true)) (fTup (fCons (fName 10) (rt []))))) (rt [])))))) (fRet (rt (.bl false))) (sOut .nx)))
abbrev KB : Ms := (fSeq (fSet 3 (fLet (fLst (fCons (fCallN 2 m__law_draw (fCons (fName 1) (fCons (rt (.int 30)) (rt [])))) (fCons (f2 pAdd (rt (.int 30)) (fCallN 2 m__law_draw (fCons (fName 1) (fCons (rt (.int 30)) (rt []))))) (fCons (f2 pAdd (rt (.int 60)) (fCallN 2 m__law_draw (fCons (fName 1) (fCons (rt (.int 28)) (rt []))))) (rt [])))))))
  (fSeq (fSet 4 (fCallN 4 m__law_play (fCons (fName 1) (fCons (fName 3) (fCons (fIxD (fLet (fLst (fCons (fCallN 2 m__law_draw (fCons (fName 1) (fCons (rt (.int 12)) (rt [])))) (fCons (fCallN 2 m__law_draw (fCons (fName 1) (fCons (rt (.int 40)) (rt [])))) (fCons (rt (.int 300)) (rt [])))))) (fCallN 2 m__law_draw (fCons (fName 1) (fCons (rt (.int 3)) (rt []))))) (fCons (f2 pEq (fCallN 2 m__law_draw (fCons (fName 1) (fCons (rt (.int 2)) (rt [])))) (rt (.int 0))) (rt [])))))))
  (fSeq (fIf (fOr (fNot (fT (fCallN 2 m__law_right (fCons (fName 4) (fCons (fLet (fLst (rt []))) (rt [])))))) (fNot (fT (fCallN 2 m__law_right (fCons (fLet (bd (fPeek 4) rt)) (fCons (fLet (fLst (fCons (fTup (rt [])) (rt [])))) (rt []))))))) (fRet (rt (.bl false))) (sOut .nx))
  (fSeq (fSet 5 (fCallN 2 m__law_draw (fCons (fName 1) (fCons (f2 pAdd (fLen (fPeek 4)) (rt (.int 1))) (rt [])))))
  (fSeq (fSet 6 (fLet (fLst (fCons (rt .non) (fCons (rt (.int 5)) (fCons (rt (.str "lift")) (fCons (fTup (rt [])) (fCons (fTup (fCons (rt (.str "down")) (rt []))) (fCons (fTup (fCons (rt (.str "down")) (fCons (rt (.int 88)) (rt [])))) (fCons (fTup (fCons (rt (.str "up")) (fCons (fNeg (rt (.int 1))) (rt [])))) (fCons (fTup (fCons (rt (.str "down")) (fCons (rt (.bl true)) (rt [])))) (fCons (fTup (fCons (rt (.str "press")) (fCons (rt (.int 5)) (rt [])))) (fCons (fLet (fLst (fCons (rt (.str "lift")) (rt [])))) (fCons (rt (.dic [])) (rt [])))))))))))))))
  (fSeq (fSet 6 (fLet (fCat (fName 6) (fLet (fLst (fCons (fTup (fCons (rt (.str "down")) (fCons (fLet (fLst (fCons (rt (.int 5)) (rt [])))) (rt [])))) (fCons (fTup (fCons (rt (.str "up")) (fCons (rt (.dic [])) (rt [])))) (fCons (fTup (fCons (rt (.dic [])) (fCons (rt (.int 5)) (rt [])))) (rt [])))))))))
  (fSeq (fFor (fName 6) (gN 7) OB)
  (fSeq (fSet 6 (fLet (fLst (fCons (fTup (fCons (rt (.str "down")) (fCons (fCallN 2 m__law_of (fCons (fName 1) (fCons (fName 3) (rt [])))) (rt [])))) (fCons (fTup (fCons (rt (.str "up")) (fCons (fCallN 2 m__law_of (fCons (fName 1) (fCons (fName 3) (rt [])))) (rt [])))) (fCons (fTup (fCons (rt (.str "press")) (rt []))) (fCons (fTup (fCons (rt (.str "lift")) (rt []))) (fCons (fTup (fCons (rt (.str "up")) (fCons (f2 pSub (rt (.int 87)) (fIxD (fName 3) (rt (.int 0)))) (rt [])))) (rt [])))))))))
  (fSeq (fFor (fName 6) (gN 8) EB)
  (fSeq (fSet 9 (f2 pAdd (fSl (fName 4) (rt none) (fPart (fName 5))) (fSl (fName 4) (fPart (f2 pAdd (fName 5) (rt (.int 1)))) (rt none))))
  (fSeq (fIf (fNot (fT (fCallN 2 m__law_right (fCons (fName 9) (fCons (fLet (fComp [10] (fCallN 1 m__law_first (fCons (fName 9) (rt []))) (gN 10) ((rt true)) (fTup (fCons (fName 10) (rt []))))) (rt [])))))) (fRet (rt (.bl false))) (sOut .nx))
  (fSeq (fSet 11 (fCallN 2 m__law_of (fCons (fName 1) (fCons (fName 3) (rt [])))))
  (fSeq (fSet 12 (f2 pRepT (fTup (fCons (fTup (fCons (rt (.str "down")) (fCons (fName 11) (rt [])))) (fCons (fTup (fCons (rt (.str "up")) (fCons (fName 11) (rt [])))) (rt [])))) (rt (.int 150))))
  (fSeq (fIf (fOr (fNot (fT (fCallN 2 m__law_right (fCons (fName 12) (fCons (fLet (fLst (rt []))) (rt [])))))) (fNot (fT (fCallN 2 m__law_right (fCons (f2 pAdd (fName 12) (fTup (fCons (fTup (fCons (rt (.str "down")) (fCons (fName 11) (rt [])))) (rt [])))) (fCons (fLet (fLst (fCons (fTup (rt [])) (rt [])))) (rt []))))))) (fRet (rt (.bl false))) (sOut .nx))
  (fIf (fNot (fT (fCallN 2 m__law_right (fCons (f2 pAdd (fName 12) (fTup (fCons (rt .non) (rt [])))) (fCons (fLet (fLst (fCons (fTup (rt [])) (rt [])))) (rt [])))))) (fRet (rt (.bl false))) (sOut .nx))))))))))))))))
abbrev ZB : Ms := (fIf (fNot (fT (fCallN 2 m__law_right (fCons (fName 7) (fCons (fLet (fLst (fCons (fTup (rt [])) (rt [])))) (rt [])))))) (fRet (rt (.bl false))) (sOut .nx))
abbrev RB : Ms := (fSeq (fFor (fTup (fCons (rt .non) (fCons (rt (.int 5)) (fCons (rt (.str "d5")) (fCons (rt (.dic [])) (fCons (fLet (fLst (rt []))) (fCons (rt (.bl true)) (fCons (f2 pPow (rt (.int 10)) (rt (.int 40))) (rt []))))))))) (gN 7) ZB)
  (fRet (fAndV (f2 pEq (rt c_MOST_EVENTS) (rt (.int 300))) (fCallN 2 m__law_right (fCons (fTup (rt [])) (fCons (fLet (fLst (rt []))) (rt [])))))))
theorem law_eq : fb_law = fSeq (fForR (fCons (f2 pAdd (rt (.int 2)) (f2 pMin2 (rt (.int 2)) (fLenS 0))) (rt [])) (gN 2) KB) RB := rfl
abbrev lS (ns : List Int) (t ke pl at_ so od ev th ky lo : Sl) : List Sl := [.dat (.scr ns), .dat .m, t, ke, pl, at_, so, od, ev, th, .no, ky, lo]
theorem c300 {α : Type} (xs : List α) : DE.cutD xs none (some 300) = xs.take 300 := cut_to xs 300
theorem cutE1 (evs : List Ev) (j : Nat) : DE.cutD (evs.map evD) none (some (j : Int)) = (evs.take j).map evD := by rw [cut_to, List.map_take]
theorem cutE2 (evs : List Ev) (j : Nat) : DE.cutD (evs.map evD) (some (j : Int)) none = (evs.drop j).map evD := by rw [cut_from, List.map_drop]
theorem ob_turn {evs : List Ev} (ok : evsF false [] evs) (hl : evs.length ≤ 300) {j : Nat} (hj : j ≤ evs.length) {d : D} (hd : ∀ p hs, BadAt p hs d) {ns : List Int} (t ke so ev th ky lo : Sl) (s : DS) :
    OB ⟨lS ns t ke (.dat (.tup (evs.map evD))) (.dat (.int (j : Int))) so (.dat d) ev th ky lo, s⟩ = some (.nx, ⟨lS ns t ke (.dat (.tup (evs.map evD))) (.dat (.int (j : Int))) so (.dat d) ev th ky lo, s⟩) := by
  have r := right_at ok hl hj hd s
  have c1 := cutE1 evs j
  have c2 := cutE2 evs j
  have hA : ((evs.take j).map evD).length ≤ 300 := by rw [List.length_map]; exact Nat.le_trans (List.length_take_le _ _) (by omega)
  have hB : ((evs.drop j).map evD).length ≤ 300 := by rw [List.length_map, List.length_drop]; omega
  generalize (evs.take j).map evD = A at *
  generalize (evs.drop j).map evD = B at *
  have h1 : A.length ≤ 99999 := by omega
  have h2 : A.length + 1 + B.length ≤ 100000 := by omega
  by_cases c : (j : Int) < 300
  · rw [if_pos c] at r
    simp only [List.append_assoc, List.singleton_append] at r
    simp [-List.map_map, c1, c2, c300, h1, h2, c, r]
  · rw [if_neg c] at r
    simp only [List.append_assoc, List.singleton_append] at r
    simp [-List.map_map, c1, c2, c300, h1, h2, c, r]
theorem ob_loop {evs : List Ev} (ok : evsF false [] evs) (hl : evs.length ≤ 300) {j : Nat} (hj : j ≤ evs.length) {ns : List Int} (t ke so ev th ky lo : Sl) (s : DS) : ∀ (ds : List D) (od : Sl), (∀ d ∈ ds, ∀ p hs, BadAt p hs d) →
    ∃ od', loop (gN 7) OB ds ⟨lS ns t ke (.dat (.tup (evs.map evD))) (.dat (.int (j : Int))) so od ev th ky lo, s⟩ = some (.nx, ⟨lS ns t ke (.dat (.tup (evs.map evD))) (.dat (.int (j : Int))) so od' ev th ky lo, s⟩)
  | [], od, _ => ⟨od, rfl⟩
  | d :: ds, od, h => by
    have e1 := ob_turn ok hl hj (h d List.mem_cons_self) (ns := ns) t ke so ev th ky lo s
    obtain ⟨od2, e2⟩ := ob_loop ok hl hj (ns := ns) t ke so ev th ky lo s ds (.dat d) fun x hx => h x (List.mem_cons_of_mem _ hx)
    exact ⟨od2, (loop_cons (g1 := ⟨lS ns t ke (.dat (.tup (evs.map evD))) (.dat (.int (j : Int))) so (.dat d) ev th ky lo, s⟩) rfl e1).trans e2⟩
/-- what is due of some events -/
abbrev dueL (evs : List Ev) : List D := match badIx false [] 0 evs with | none => [] | some j => [.tup [.int (j : Int)]]
abbrev RT : Ms := (fIf (fNot (fT (fCallN 2 m__law_right (fCons (fName 9) (fCons (fLet (fComp [10] (fCallN 1 m__law_first (fCons (fName 9) (rt []))) (gN 10) ((rt true)) (fTup (fCons (fName 10) (rt []))))) (rt [])))))) (fRet (rt (.bl false))) (sOut .nx))
theorem rt_ok {ts : List Ev} (k : ∀ e ∈ ts, evKey e) (hl : ts.length ≤ 300) {ns : List Int} (t ke pl at_ so od ev ky lo : Sl) (s : DS) :
    RT ⟨lS ns t ke pl at_ so od ev (.dat (.tup (ts.map evD))) ky lo, s⟩ = some (.nx, ⟨lS ns t ke pl at_ so od ev (.dat (.tup (ts.map evD))) ky lo, s⟩) := by
  have r := right_evs k hl s
  have f := first_ok (evs := ts) (by omega) s
  cases hb : badIx false [] 0 ts with
  | none =>
    rw [hb] at r f; dsimp only at r f
    simp [-List.map_map, f, r, DE.compL]
  | some j =>
    rw [hb] at r f; dsimp only at r f
    simp [-List.map_map, f, r, DE.compL]
theorem eb_turn {evs : List Ev} (ok : evsF false [] evs) (hl : evs.length ≤ 300) {j : Nat} (hj : j ≤ evs.length) {e : Ev} (he : evKey e) {ns : List Int} (t ke so od th ky lo : Sl) (s : DS) :
    ∃ th', EB ⟨lS ns t ke (.dat (.tup (evs.map evD))) (.dat (.int (j : Int))) so od (.dat (evD e)) th ky lo, s⟩ = some (.nx, ⟨lS ns t ke (.dat (.tup (evs.map evD))) (.dat (.int (j : Int))) so od (.dat (evD e)) th' ky lo, s⟩) := by
  obtain ⟨ts, hts⟩ : ∃ ts, ts = ((evs.take j ++ [e]) ++ evs.drop j).take 300 := ⟨_, rfl⟩
  have hm : (((evs.take j).map evD ++ [evD e]) ++ (evs.drop j).map evD).take 300 = ts.map evD := by rw [hts, List.map_take]; simp
  have kt : ∀ x ∈ ts, evKey x := fun x hx => by
    rw [hts] at hx
    have hx := List.mem_of_mem_take hx
    simp only [List.mem_append, List.mem_singleton] at hx
    rcases hx with (hx | rfl) | hx
    · exact evsF_keys ok x (List.mem_of_mem_take hx)
    · exact he
    · exact evsF_keys ok x (List.mem_of_mem_drop hx)
  have lt : ts.length ≤ 300 := by rw [hts, List.length_take]; omega
  have r := rt_ok kt lt (ns := ns) t ke (.dat (.tup (evs.map evD))) (.dat (.int (j : Int))) so od (.dat (evD e)) ky lo s
  have c1 := cutE1 evs j
  have c2 := cutE2 evs j
  have hA : ((evs.take j).map evD).length ≤ 300 := by rw [List.length_map]; exact Nat.le_trans (List.length_take_le _ _) (by omega)
  have hB : ((evs.drop j).map evD).length ≤ 300 := by rw [List.length_map, List.length_drop]; omega
  generalize (evs.take j).map evD = A at *
  generalize (evs.drop j).map evD = B at *
  have h1 : A.length ≤ 99999 := by omega
  have h2 : A.length + 1 + B.length ≤ 100000 := by omega
  refine ⟨.dat (.tup (ts.map evD)), (seq_nx (g1 := ⟨lS ns t ke (.dat (.tup (evs.map evD))) (.dat (.int (j : Int))) so od (.dat (evD e)) (.dat (.tup (ts.map evD))) ky lo, s⟩) ?_).trans r⟩
  simp only [List.append_assoc, List.singleton_append] at hm
  simp [-List.map_map, c1, c2, c300, h1, h2, hm]
theorem eb_loop {evs : List Ev} (ok : evsF false [] evs) (hl : evs.length ≤ 300) {j : Nat} (hj : j ≤ evs.length) {ns : List Int} (t ke so od ky lo : Sl) (s : DS) : ∀ (es : List Ev) (ev th : Sl), (∀ e ∈ es, evKey e) →
    ∃ ev' th', loop (gN 8) EB (es.map evD) ⟨lS ns t ke (.dat (.tup (evs.map evD))) (.dat (.int (j : Int))) so od ev th ky lo, s⟩ = some (.nx, ⟨lS ns t ke (.dat (.tup (evs.map evD))) (.dat (.int (j : Int))) so od ev' th' ky lo, s⟩)
  | [], ev, th, _ => ⟨ev, th, rfl⟩
  | e :: es, ev, th, h => by
    obtain ⟨th1, e1⟩ := eb_turn ok hl hj (h e List.mem_cons_self) (ns := ns) t ke so od th ky lo s
    obtain ⟨ev2, th2, e2⟩ := eb_loop ok hl hj (ns := ns) t ke so od ky lo s es (.dat (evD e)) th1 fun x hx => h x (List.mem_cons_of_mem _ hx)
    exact ⟨ev2, th2, (loop_cons (g1 := ⟨lS ns t ke (.dat (.tup (evs.map evD))) (.dat (.int (j : Int))) so od (.dat (evD e)) th ky lo, s⟩) rfl e1).trans e2⟩
/-! ### a long play -/
def longE (k : Int) : Nat → List Ev
  | 0 => []
  | n + 1 => .down k :: .up k :: longE k n
theorem longE_ok {k : Int} (hk : 0 ≤ k ∧ k ≤ 87) : ∀ n, evsF false [] (longE k n)
  | 0 => trivial
  | n + 1 => ⟨⟨hk, by unfold folF; simp⟩, ⟨hk, by unfold folF; simp [heldL]⟩, by
    have : heldL (heldL [] (.down k)) (.up k) = [] := by simp [heldL]
    rw [this]; exact longE_ok hk n⟩
theorem longE_len (k : Int) : ∀ n, (longE k n).length = 2 * n
  | 0 => rfl
  | n + 1 => by simp only [longE, List.length_cons, longE_len k n]; omega
theorem longE_map (k : Int) : ∀ n, (List.replicate n [evD (.down k), evD (.up k)]).flatten = (longE k n).map evD
  | 0 => rfl
  | n + 1 => by rw [List.replicate_succ, List.flatten_cons, longE_map k n]; rfl
abbrev odds : List D := [.non, .int 5, .str "lift", .tup [], .tup [.str "down"], .tup [.str "down", .int 88], .tup [.str "up", .int (-1)], .tup [.str "down", .bl true], .tup [.str "press", .int 5], .lst [.str "lift"], .dic [], .tup [.str "down", .lst [.int 5]], .tup [.str "up", .dic []], .tup [.dic [], .int 5]]
theorem odds_bad : ∀ d ∈ odds, ∀ p hs, BadAt p hs d := fun d hd p hs => bad_kind (fun s => by
  simp only [List.mem_cons, List.not_mem_nil, or_false] at hd
  rcases hd with rfl | rfl | rfl | rfl | rfl | rfl | rfl | rfl | rfl | rfl | rfl | rfl | rfl | rfl <;> kernel_rfl) p hs
theorem rep150 (k : Int) : pRepT (.tup [.tup [.str "down", .int k], .tup [.str "up", .int k]]) (.int 150) = rt (.tup ((longE k 150).map evD)) := by
  rw [← longE_map]; rfl
theorem kind_lst (xs : List D) (s : DS) : m_play_fault [.lst xs] s = some (.ok (.tup []), s) := by kernel_rfl
theorem pick3 {a b x : Int} (h0 : 0 ≤ x) (h3 : x < 3) (ha : 0 ≤ a) (ha2 : a < 12) (hb : 0 ≤ b) (hb2 : b < 40) : ∃ n : Nat, n ≤ 300 ∧ atI [D.int a, .int b, .int 300] x = some (.int (n : Int)) := by
  have : x = 0 ∨ x = 1 ∨ x = 2 := by omega
  rcases this with rfl | rfl | rfl
  · exact ⟨a.toNat, by omega, by rw [at0, Int.toNat_of_nonneg ha]⟩
  · exact ⟨b.toNat, by omega, by rw [at1, Int.toNat_of_nonneg hb]⟩
  · exact ⟨300, by omega, by rw [at2]; rfl⟩
theorem kb_ok {k : Nat} {s : DS} {ns : List Int} (t ke pl at_ so od ev th ky lo : Sl) (g : Good (k + 700) s) :
    ∃ ke' pl' at' so' od' ev' th' ky' lo' s', KB ⟨lS ns t ke pl at_ so od ev th ky lo, s⟩ = some (.nx, ⟨lS ns t ke' pl' at' so' od' ev' th' ky' lo', s'⟩) ∧ Good k s' := by
  obtain ⟨k0, s1, e1, lo1, hi1, g1⟩ := draw_ok (n := 30) (k := k + 699) (by decide) (by decide) g
  obtain ⟨k1, s2, e2, lo2, hi2, g2⟩ := draw_ok (n := 30) (k := k + 698) (by decide) (by decide) g1
  obtain ⟨k2, s3, e3, lo3, hi3, g3⟩ := draw_ok (n := 28) (k := k + 697) (by decide) (by decide) g2
  obtain ⟨a, s4, e4, lo4, hi4, g4⟩ := draw_ok (n := 12) (k := k + 696) (by decide) (by decide) g3
  obtain ⟨b, s5, e5, lo5, hi5, g5⟩ := draw_ok (n := 40) (k := k + 695) (by decide) (by decide) g4
  obtain ⟨x, s6, e6, lo6, hi6, g6⟩ := draw_ok (n := 3) (k := k + 694) (by decide) (by decide) g5
  obtain ⟨y, s7, e7, lo7, hi7, g7⟩ := draw_ok (n := 2) (k := k + 693) (by decide) (by decide) g6
  obtain ⟨n, hn, ch⟩ := pick3 lo6 hi6 lo4 hi4 lo5 hi5
  obtain ⟨cs, hcs⟩ : ∃ cs : List Int, cs = [k0, 30 + k1, 60 + k2] := ⟨_, rfl⟩
  have kcs : ∀ c ∈ cs, 0 ≤ c ∧ c ≤ 87 := fun c hc => by
    rw [hcs] at hc
    simp only [List.mem_cons, List.not_mem_nil, or_false] at hc
    omega
  obtain ⟨evs, s8, e8, ok, _, hl, g8⟩ := playF_ok kcs (by rw [hcs]; simp) (by rw [hcs]; simp) (n := n) (by omega) (decide (y = 0)) (k := k + 50) (g7.mono (by omega))
  obtain ⟨z, s9, e9, lo9, hi9, g9⟩ := draw_ok (n := (evs.length : Int) + 1) (k := k + 49) (by omega) (by omega) g8
  obtain ⟨j, rfl⟩ : ∃ j : Nat, z = (j : Int) := ⟨z.toNat, by omega⟩
  have hc3 : cs.map D.int = [.int k0, .int (30 + k1), .int (60 + k2)] := by rw [hcs]; rfl
  rw [hc3] at e8
  have of3 : ∀ {q : Nat} {s : DS}, Good (q + 1) s → ∃ c s', m__law_of [.m, .lst [.int k0, .int (30 + k1), .int (60 + k2)]] s = some (.ok (.int c), s') ∧ (0 ≤ c ∧ c ≤ 87) ∧ Good q s' := fun {q s} g => by
    obtain ⟨d, s', e, m, g'⟩ := of_ok (xs := [.int k0, .int (30 + k1), .int (60 + k2)]) (by simp) (by simp) g
    rw [← hc3] at m
    obtain ⟨c, hc, rfl⟩ := List.mem_map.mp m
    exact ⟨c, s', e, kcs c hc, g'⟩
  obtain ⟨c1, s10, e10, kc1, g10⟩ := of3 (q := k + 48) g9
  obtain ⟨c2, s11, e11, kc2, g11⟩ := of3 (q := k + 47) g10
  obtain ⟨c3, s12, e12, kc3, g12⟩ := of3 (q := k + 46) g11
  have hl3 : evs.length ≤ 300 := by omega
  have hj : j ≤ evs.length := by omega
  have kevs := evsF_keys ok
  have r1 := right_ok (fault_none ok hl3 s8) (play_repr kevs (by omega))
  have r2 := right_no0 (kind_lst (evs.map evD) s8)
  obtain ⟨od1, l1⟩ := ob_loop ok hl3 hj (ns := ns) t (.dat (.lst [.int k0, .int (30 + k1), .int (60 + k2)])) (.dat (.lst odds)) ev th ky lo s9 odds od odds_bad
  obtain ⟨ev1, th1, l2⟩ := eb_loop ok hl3 hj (ns := ns) t (.dat (.lst [.int k0, .int (30 + k1), .int (60 + k2)])) (.dat (.lst ([.down c1, .up c2, .press, .lift, .up (87 - k0)].map evD))) od1 ky lo s11 [.down c1, .up c2, .press, .lift, .up (87 - k0)] ev th (fun e he => by
    simp only [List.mem_cons, List.not_mem_nil, or_false] at he
    rcases he with rfl | rfl | rfl | rfl | rfl <;> simp [evKey] <;> omega)
  obtain ⟨ts, hts⟩ : ∃ ts, ts = evs.take j ++ evs.drop (j + 1) := ⟨_, rfl⟩
  have hm : (evs.take j).map evD ++ (evs.drop (j + 1)).map evD = ts.map evD := by rw [hts, List.map_append]
  have kts : ∀ x ∈ ts, evKey x := fun x hx => by
    rw [hts] at hx; rcases List.mem_append.mp hx with hx | hx
    · exact kevs x (List.mem_of_mem_take hx)
    · exact kevs x (List.mem_of_mem_drop hx)
  have lts : ts.length ≤ 300 := by rw [hts, List.length_append, List.length_take, List.length_drop]; omega
  have f3 := first_ok (evs := ts) (by omega) s11
  have r3 := right_evs kts lts s11
  have lgl : ((longE c3 150).map evD).length = 300 := by rw [List.length_map, longE_len]
  have r4 := right_ok (fault_none (longE_ok kc3 150) (by rw [longE_len]; decide) s12) (play_repr (evsF_keys (longE_ok kc3 150)) (by rw [longE_len]; decide))
  have r5 := fun d => right_no0 (fault_long (ds := (longE c3 150).map evD ++ [d]) (by rw [List.length_append, lgl]; simp) s12)
  have q1 := cutE1 evs j
  have q2 := cutE2 evs (j + 1)
  have q2' : ((j + 1 : Nat) : Int) = (j : Int) + 1 := rfl
  rw [q2'] at q2
  have hA : ((evs.take j).map evD).length ≤ 300 := by rw [List.length_map]; exact Nat.le_trans (List.length_take_le _ _) (by omega)
  have hB : ((evs.drop (j + 1)).map evD).length ≤ 300 := by rw [List.length_map, List.length_drop]; omega
  have hAB : ((evs.take j).map evD).length + ((evs.drop (j + 1)).map evD).length ≤ 100000 := by omega
  have rp := rep150 c3
  generalize (longE c3 150).map evD = L at lgl r4 r5 rp
  generalize (evs.take j).map evD = A at q1 hm hAB
  generalize (evs.drop (j + 1)).map evD = B at q2 hm hAB
  have hl4 : L.length ≤ 99999 := by omega
  simp only [List.map_cons, List.map_nil, evD] at l2
  refine ⟨.dat (.lst [.int k0, .int (30 + k1), .int (60 + k2)]), .dat (.tup (evs.map evD)), .dat (.int (j : Int)), .dat (.lst ([.down c1, .up c2, .press, .lift, .up (87 - k0)].map evD)), od1, ev1, .dat (.tup (ts.map evD)), .dat (.int c3), .dat (.tup L), s12, ?_, g12.mono (by omega)⟩
  cases hb : badIx false [] 0 ts with
  | none =>
    rw [hb] at f3 r3; dsimp only at f3 r3
    simp [-List.map_map, e1, e2, e3, e4, e5, e6, e7, ch, e8, r1, r2, e9, l1, e10, e11, evD, l2, q1, q2, hAB, hm, f3, r3, DE.compL, e12, rp, r4, r5, hl4]
  | some jj =>
    rw [hb] at f3 r3; dsimp only at f3 r3
    simp [-List.map_map, e1, e2, e3, e4, e5, e6, e7, ch, e8, r1, r2, e9, l1, e10, e11, evD, l2, q1, q2, hAB, hm, f3, r3, DE.compL, e12, rp, r4, r5, hl4]
theorem rb_end (ns : List Int) (t ke pl at_ so od ev th ky lo : Sl) (s : DS) : ((RB ⟨lS ns t ke pl at_ so od ev th ky lo, s⟩).map (·.1)) = some (.ret (.bl true)) := by kernel_rfl
theorem law_true (ns : List Int) (h : ns.length ≤ 63) : goesL fb_law 13 1 ns := by
  right
  have g0 : Good (0 + 700 * 4) (begS ns) := ⟨Int.le_refl 0, by show (0 : Int) + ((0 + 700 * 4 : Nat) : Int) < _; decide, Nat.le_trans (List.length_filter_le _ _) (by omega)⟩
  obtain ⟨n, hn, hn4⟩ : ∃ n : Nat, 2 + (if (ns.length : Int) < 2 then (ns.length : Int) else 2) = (n : Int) ∧ n ≤ 4 := by
    split
    · exact ⟨2 + ns.length, by omega, by omega⟩
    · exact ⟨4, by decide, by decide⟩
  have lp : ∀ (is : List D) (k : Nat) (t ke pl at_ so od ev th ky lo : Sl) (s : DS), Good (k + 700 * is.length) s → ∃ t' ke' pl' at' so' od' ev' th' ky' lo' s', loop (gN 2) KB is ⟨lS ns t ke pl at_ so od ev th ky lo, s⟩ = some (.nx, ⟨lS ns t' ke' pl' at' so' od' ev' th' ky' lo', s'⟩) := fun is => by
    induction is with
    | nil => intro k t ke pl at_ so od ev th ky lo s _; exact ⟨_, _, _, _, _, _, _, _, _, _, _, rfl⟩
    | cons d is ih =>
      intro k t ke pl at_ so od ev th ky lo s g
      obtain ⟨ke', pl', at', so', od', ev', th', ky', lo', s', e, g'⟩ := kb_ok (k := k + 700 * is.length) (ns := ns) (.dat d) ke pl at_ so od ev th ky lo (g.mono (by simp; omega))
      obtain ⟨t2, ke2, pl2, at2, so2, od2, ev2, th2, ky2, lo2, s2, e2⟩ := ih k (.dat d) ke' pl' at' so' od' ev' th' ky' lo' s' g'
      exact ⟨t2, ke2, pl2, at2, so2, od2, ev2, th2, ky2, lo2, s2, (loop_cons (g1 := ⟨lS ns (.dat d) ke pl at_ so od ev th ky lo, s⟩) rfl e).trans e2⟩
  obtain ⟨t2, ke2, pl2, at2, so2, od2, ev2, th2, ky2, lo2, s2, el⟩ := lp (intsD (n : Int)) 0 .no .no .no .no .no .no .no .no .no .no (begS ns) (g0.mono (by rw [intsD_length]; omega))
  have fe := rb_end ns t2 ke2 pl2 at2 so2 od2 ev2 th2 ky2 lo2 s2
  cases hF : RB ⟨lS ns t2 ke2 pl2 at2 so2 od2 ev2 th2 ky2 lo2, s2⟩ with
  | none => rw [hF] at fe; cases fe
  | some p =>
    obtain ⟨o, gE⟩ := p
    rw [hF] at fe; cases fe
    refine ⟨gE, ?_⟩
    rw [law_eq]
    have i0 : initS 13 1 ns = lS ns .no .no .no .no .no .no .no .no .no .no := rfl
    rw [i0]
    have hn2 : (n : Int) ≤ 1000000 ∧ (-1000000 : Int) ≤ (n : Int) := by omega
    refine (seq_nx (g1 := ⟨lS ns t2 ke2 pl2 at2 so2 od2 ev2 th2 ky2 lo2, s2⟩) ?_).trans hF
    simp [hn, hn2, el]
end K10
open PySem PySem.W PyProof.Rows in
set_option maxRecDepth 100000 in
set_option maxHeartbeats 0 in
theorem PySem.Challenge.cw_stolenvoices_k10_plays_refused_holds : PySem.Challenge.rw_stolenvoices_k10_plays_refused.Holds := by
  w_on; o_law; k_head; (case hw => w_witness2)
  k_fill
  refine DE.walk_de (l := PySem.Challenge.rw_stolenvoices_k10_plays_refused) (k := 9) (fb := K10.fb_law) rfl rfl ⟨rfl, by decide, by decide⟩ (fun w h Y => PySem.W.kIn_of Y) ?F K10.law_true
  case F =>
    intro w mg fa h KX G hmg
    refine' K10.all_mk KX G hmg ?z_bool ?z_enumerate ?z_int ?z_isinstance ?z_len ?z_list ?z_max ?z_min ?z_range ?z_repr ?z_str ?z_super ?z_tuple ?a__law_begun ?l__law_begun ?c__law_begun ?k__law_begun ?a_is_whole ?l_is_whole ?c_is_whole ?k_is_whole ?a_is_word ?l_is_word ?c_is_word ?k_is_word ?a_is_key ?l_is_key ?c_is_key ?k_is_key ?a_down_keys ?l_down_keys ?c_down_keys ?k_down_keys ?a_is_event ?l_is_event ?c_is_event ?k_is_event ?a_can_follow ?l_can_follow ?c_can_follow ?k_can_follow ?a_without ?l_without ?c_without ?k_without ?a_marked ?l_marked ?c_marked ?k_marked ?a_chosen ?l_chosen ?c_chosen ?k_chosen ?a_outer_keys ?l_outer_keys ?c_outer_keys ?k_outer_keys ?a_left_by ?l_left_by ?c_left_by ?k_left_by ?a_victim_among ?l_victim_among ?c_victim_among ?k_victim_among ?a_go_down ?l_go_down ?c_go_down ?k_go_down ?a_come_back ?l_come_back ?c_come_back ?k_come_back ?a_go_up ?l_go_up ?c_go_up ?k_go_up ?a_lift ?l_lift ?c_lift ?k_lift ?a_perform ?l_perform ?c_perform ?k_perform ?a_play_fault ?l_play_fault ?c_play_fault ?k_play_fault ?a_need_play ?l_need_play ?c_need_play ?k_need_play ?a_is_play ?l_is_play ?c_is_play ?k_is_play ?a__law_draw ?l__law_draw ?c__law_draw ?k__law_draw ?a__law_of ?l__law_of ?c__law_of ?k__law_of ?a__law_play ?l__law_play ?c__law_play ?k__law_play ?a__law_first ?l__law_first ?c__law_first ?k__law_first ?a__law_right ?l__law_right ?c__law_right ?k__law_right ?a_law ?l_law ?c_law ?k_law ?a_MOST_KEY ?a_START ?q_START ?a_KEY_WORDS ?l_KEY_WORDS ?v_KEY_WORDS ?s_KEY_WORDS ?a_PEDAL_WORDS ?l_PEDAL_WORDS ?v_PEDAL_WORDS ?s_PEDAL_WORDS ?a_MOST_EVENTS ?a_ENOUGH ?q_ENOUGH ?a_BadMachine ?e_BadMachine ?a_BadPlay ?e_BadPlay ?a_BadEvent ?e_BadEvent ?h_BadEvent_BadMachine ?h_BadEvent_BadPlay ?h_BadEvent_BadEvent ?h_BadMachine_BadMachine ?h_BadMachine_BadPlay ?h_BadMachine_BadEvent ?h_BadPlay_BadMachine ?h_BadPlay_BadPlay ?h_BadPlay_BadEvent ?a_VoiceError ?h_VoiceError_BadMachine ?h_VoiceError_BadPlay ?h_VoiceError_BadEvent
    (case z_bool => k_is)
    (case z_enumerate => k_is)
    (case z_int => k_is)
    (case z_isinstance => k_is)
    (case z_len => k_is)
    (case z_list => k_is)
    (case z_max => k_is)
    (case z_min => k_is)
    (case z_range => k_is)
    (case z_repr => k_is)
    (case z_str => k_is)
    (case z_super => k_is)
    (case z_tuple => k_is)
    (case a__law_begun => k_is)
    (case l__law_begun => k_is)
    (case c__law_begun => k_is)
    (case k__law_begun => k_is)
    (case a_is_whole => k_is)
    (case l_is_whole => k_is)
    (case c_is_whole => k_is)
    (case k_is_whole => k_is)
    (case a_is_word => k_is)
    (case l_is_word => k_is)
    (case c_is_word => k_is)
    (case k_is_word => k_is)
    (case a_is_key => k_is)
    (case l_is_key => k_is)
    (case c_is_key => k_is)
    (case k_is_key => k_is)
    (case a_down_keys => k_is)
    (case l_down_keys => k_is)
    (case c_down_keys => k_is)
    (case k_down_keys => k_is)
    (case a_is_event => k_is)
    (case l_is_event => k_is)
    (case c_is_event => k_is)
    (case k_is_event => k_is)
    (case a_can_follow => k_is)
    (case l_can_follow => k_is)
    (case c_can_follow => k_is)
    (case k_can_follow => k_is)
    (case a_without => k_is)
    (case l_without => k_is)
    (case c_without => k_is)
    (case k_without => k_is)
    (case a_marked => k_is)
    (case l_marked => k_is)
    (case c_marked => k_is)
    (case k_marked => k_is)
    (case a_chosen => k_is)
    (case l_chosen => k_is)
    (case c_chosen => k_is)
    (case k_chosen => k_is)
    (case a_outer_keys => k_is)
    (case l_outer_keys => k_is)
    (case c_outer_keys => k_is)
    (case k_outer_keys => k_is)
    (case a_left_by => k_is)
    (case l_left_by => k_is)
    (case c_left_by => k_is)
    (case k_left_by => k_is)
    (case a_victim_among => k_is)
    (case l_victim_among => k_is)
    (case c_victim_among => k_is)
    (case k_victim_among => k_is)
    (case a_go_down => k_is)
    (case l_go_down => k_is)
    (case c_go_down => k_is)
    (case k_go_down => k_is)
    (case a_come_back => k_is)
    (case l_come_back => k_is)
    (case c_come_back => k_is)
    (case k_come_back => k_is)
    (case a_go_up => k_is)
    (case l_go_up => k_is)
    (case c_go_up => k_is)
    (case k_go_up => k_is)
    (case a_lift => k_is)
    (case l_lift => k_is)
    (case c_lift => k_is)
    (case k_lift => k_is)
    (case a_perform => k_is)
    (case l_perform => k_is)
    (case c_perform => k_is)
    (case k_perform => k_is)
    (case a_play_fault => k_is)
    (case l_play_fault => k_is)
    (case c_play_fault => k_is)
    (case k_play_fault => k_is)
    (case a_need_play => k_is)
    (case l_need_play => k_is)
    (case c_need_play => k_is)
    (case k_need_play => k_is)
    (case a_is_play => k_is)
    (case l_is_play => k_is)
    (case c_is_play => k_is)
    (case k_is_play => k_is)
    (case a__law_draw => k_is)
    (case l__law_draw => k_is)
    (case c__law_draw => k_is)
    (case k__law_draw => k_is)
    (case a__law_of => k_is)
    (case l__law_of => k_is)
    (case c__law_of => k_is)
    (case k__law_of => k_is)
    (case a__law_play => k_is)
    (case l__law_play => k_is)
    (case c__law_play => k_is)
    (case k__law_play => k_is)
    (case a__law_first => k_is)
    (case l__law_first => k_is)
    (case c__law_first => k_is)
    (case k__law_first => k_is)
    (case a__law_right => k_is)
    (case l__law_right => k_is)
    (case c__law_right => k_is)
    (case k__law_right => k_is)
    (case a_law => k_is)
    (case l_law => k_is)
    (case c_law => k_is)
    (case k_law => k_is)
    (case a_MOST_KEY => k_is)
    (case a_START => k_is)
    (case q_START => (refine' DE.Cv.tupA ?l1 ?s1 ?h1; (case l1 => k_is); (case s1 => decide); (case h1 => refine' DE.CvA.cons ?x4 ?y4; (case x4 => exact DE.Cv.bl _); (case y4 => refine' DE.CvA.cons ?x2 ?y2; (case x2 => (refine' DE.Cv.tupA ?l3 ?s3 ?h3; (case l3 => k_is); (case s3 => decide); (case h3 => exact DE.CvA.nil))); (case y2 => exact DE.CvA.nil)))))
    (case a_KEY_WORDS => k_is)
    (case l_KEY_WORDS => k_is)
    (case v_KEY_WORDS => rfl)
    (case s_KEY_WORDS => decide)
    (case a_PEDAL_WORDS => k_is)
    (case l_PEDAL_WORDS => k_is)
    (case v_PEDAL_WORDS => rfl)
    (case s_PEDAL_WORDS => decide)
    (case a_MOST_EVENTS => k_is)
    (case a_ENOUGH => k_is)
    (case q_ENOUGH => (refine' DE.Cv.tupA ?l5 ?s5 ?h5; (case l5 => k_is); (case s5 => decide); (case h5 => refine' DE.CvA.cons ?x10 ?y10; (case x10 => exact DE.Cv.int _ _); (case y10 => refine' DE.CvA.cons ?x7 ?y7; (case x7 => (refine' DE.Cv.tupA ?l8 ?s8 ?h8; (case l8 => k_is); (case s8 => decide); (case h8 => refine' DE.CvA.cons ?x9 ?y9; (case x9 => exact DE.Cv.str _ _); (case y9 => exact DE.CvA.nil)))); (case y7 => refine' DE.CvA.cons ?x6 ?y6; (case x6 => exact DE.Cv.str _ _); (case y6 => exact DE.CvA.nil))))))
    (case a_BadMachine => k_is)
    (case e_BadMachine => (refine' DE.err_mk ?xL ?rb ?sa ?exC ?tyC ?kC ?iC ?tI ?noF ?sup ?sVE ?mroC ?noAny ?noSup ?top ?lI ?cI ?lcda ?hvs ?hfile ?lcc ?ga ?gg ?hdC ?ha ?hn ?ht ?hm ?hs ?S ?hsup ?har ?hev ?hp1 ?hp2 ?hw1 ?hw2 ?hb; (case xL => k_is); (case rb => rfl); (case sa => k_is); (case exC => k_is); (case tyC => k_is); (case kC => k_is); (case iC => k_is); (case tI => k_is); (case lI => k_is); (case noF => k_is); (case sup => ks_is); (case sVE => k_is); (case mroC => k_is); (case noAny => k_is); (case noSup => k_is); (case top => rfl); (case cI => k_is); (case lcda => k_is); (case hvs => rfl); (case hfile => rfl); (case lcc => k_is); (case ga => k_is); (case gg => k_is); (case hdC => k_is); (case ha => k_is); (case hn => k_is); (case ht => k_is); (case hm => k_is); (case hs => k_is); (case S => decide +kernel); (case hsup => rfl); (case har => exact ⟨_, rfl, rfl⟩); (case hev => exact ⟨_, fun _ => rfl⟩); (case hp1 => decide); (case hp2 => decide); (case hw1 => exact fun _ => rfl); (case hw2 => exact fun _ => rfl); (case hb => exact fun us hl => match us, hl with | [_, _], _ => rfl)))
    (case a_BadPlay => k_is)
    (case e_BadPlay => (refine' DE.err_mk ?xL ?rb ?sa ?exC ?tyC ?kC ?iC ?tI ?noF ?sup ?sVE ?mroC ?noAny ?noSup ?top ?lI ?cI ?lcda ?hvs ?hfile ?lcc ?ga ?gg ?hdC ?ha ?hn ?ht ?hm ?hs ?S ?hsup ?har ?hev ?hp1 ?hp2 ?hw1 ?hw2 ?hb; (case xL => k_is); (case rb => rfl); (case sa => k_is); (case exC => k_is); (case tyC => k_is); (case kC => k_is); (case iC => k_is); (case tI => k_is); (case lI => k_is); (case noF => k_is); (case sup => ks_is); (case sVE => k_is); (case mroC => k_is); (case noAny => k_is); (case noSup => k_is); (case top => rfl); (case cI => k_is); (case lcda => k_is); (case hvs => rfl); (case hfile => rfl); (case lcc => k_is); (case ga => k_is); (case gg => k_is); (case hdC => k_is); (case ha => k_is); (case hn => k_is); (case ht => k_is); (case hm => k_is); (case hs => k_is); (case S => decide +kernel); (case hsup => rfl); (case har => exact ⟨_, rfl, rfl⟩); (case hev => exact ⟨_, fun _ => rfl⟩); (case hp1 => decide); (case hp2 => decide); (case hw1 => exact fun _ => rfl); (case hw2 => exact fun _ => rfl); (case hb => exact fun us hl => match us, hl with | [_, _], _ => rfl)))
    (case a_BadEvent => k_is)
    (case e_BadEvent => (refine' DE.err_mk ?xL ?rb ?sa ?exC ?tyC ?kC ?iC ?tI ?noF ?sup ?sVE ?mroC ?noAny ?noSup ?top ?lI ?cI ?lcda ?hvs ?hfile ?lcc ?ga ?gg ?hdC ?ha ?hn ?ht ?hm ?hs ?S ?hsup ?har ?hev ?hp1 ?hp2 ?hw1 ?hw2 ?hb; (case xL => k_is); (case rb => rfl); (case sa => k_is); (case exC => k_is); (case tyC => k_is); (case kC => k_is); (case iC => k_is); (case tI => k_is); (case lI => k_is); (case noF => k_is); (case sup => ks_is); (case sVE => k_is); (case mroC => k_is); (case noAny => k_is); (case noSup => k_is); (case top => rfl); (case cI => k_is); (case lcda => k_is); (case hvs => rfl); (case hfile => rfl); (case lcc => k_is); (case ga => k_is); (case gg => k_is); (case hdC => k_is); (case ha => k_is); (case hn => k_is); (case ht => k_is); (case hm => k_is); (case hs => k_is); (case S => decide +kernel); (case hsup => rfl); (case har => exact ⟨_, rfl, rfl⟩); (case hev => exact ⟨_, fun _ => rfl⟩); (case hp1 => decide); (case hp2 => decide); (case hw1 => exact fun _ => rfl); (case hw2 => exact fun _ => rfl); (case hb => exact fun us hl => match us, hl with | [_, _], _ => rfl)))
    (case h_BadEvent_BadMachine => (refine' DE.hd_ref ?h1 ?h2 ?h3 ?h4 ?h5; (case h1 => k_is); (case h2 => k_is); (case h3 => k_is); (case h4 => k_is); (case h5 => exact Or.inr (by decide))))
    (case h_BadEvent_BadPlay => (refine' DE.hd_ref ?h1 ?h2 ?h3 ?h4 ?h5; (case h1 => k_is); (case h2 => k_is); (case h3 => k_is); (case h4 => k_is); (case h5 => exact Or.inr (by decide))))
    (case h_BadEvent_BadEvent => (refine' DE.hd_ref ?h1 ?h2 ?h3 ?h4 ?h5; (case h1 => k_is); (case h2 => k_is); (case h3 => k_is); (case h4 => k_is); (case h5 => exact Or.inl rfl)))
    (case h_BadMachine_BadMachine => (refine' DE.hd_ref ?h1 ?h2 ?h3 ?h4 ?h5; (case h1 => k_is); (case h2 => k_is); (case h3 => k_is); (case h4 => k_is); (case h5 => exact Or.inl rfl)))
    (case h_BadMachine_BadPlay => (refine' DE.hd_ref ?h1 ?h2 ?h3 ?h4 ?h5; (case h1 => k_is); (case h2 => k_is); (case h3 => k_is); (case h4 => k_is); (case h5 => exact Or.inr (by decide))))
    (case h_BadMachine_BadEvent => (refine' DE.hd_ref ?h1 ?h2 ?h3 ?h4 ?h5; (case h1 => k_is); (case h2 => k_is); (case h3 => k_is); (case h4 => k_is); (case h5 => exact Or.inr (by decide))))
    (case h_BadPlay_BadMachine => (refine' DE.hd_ref ?h1 ?h2 ?h3 ?h4 ?h5; (case h1 => k_is); (case h2 => k_is); (case h3 => k_is); (case h4 => k_is); (case h5 => exact Or.inr (by decide))))
    (case h_BadPlay_BadPlay => (refine' DE.hd_ref ?h1 ?h2 ?h3 ?h4 ?h5; (case h1 => k_is); (case h2 => k_is); (case h3 => k_is); (case h4 => k_is); (case h5 => exact Or.inl rfl)))
    (case h_BadPlay_BadEvent => (refine' DE.hd_ref ?h1 ?h2 ?h3 ?h4 ?h5; (case h1 => k_is); (case h2 => k_is); (case h3 => k_is); (case h4 => k_is); (case h5 => exact Or.inr (by decide))))
    (case a_VoiceError => k_is)
    (case h_VoiceError_BadMachine => (refine' DE.hd_ref ?h1 ?h2 ?h3 ?h4 ?h5; (case h1 => k_is); (case h2 => k_is); (case h3 => k_is); (case h4 => k_is); (case h5 => exact Or.inl rfl)))
    (case h_VoiceError_BadPlay => (refine' DE.hd_ref ?h1 ?h2 ?h3 ?h4 ?h5; (case h1 => k_is); (case h2 => k_is); (case h3 => k_is); (case h4 => k_is); (case h5 => exact Or.inl rfl)))
    (case h_VoiceError_BadEvent => (refine' DE.hd_ref ?h1 ?h2 ?h3 ?h4 ?h5; (case h1 => k_is); (case h2 => k_is); (case h3 => k_is); (case h4 => k_is); (case h5 => exact Or.inl rfl)))

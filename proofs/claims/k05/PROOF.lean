import PyProof.Rows.All
import Wide.All
import OpenK.AllK
import Wide.FinOn
import HandS.ForMost
import HandS.Exc
import HandS.ExcOwn
import HandS.ExcInit
import HandS.IsInst
import HandS.Style
import HandS.Flow
import HandS.Lambda
import HandS.TupAny
import KE.DatumIndex
import HandS.ExcSuper
import HandS.ExcIs
import HandS.ExcField
import HandS.ExcValue
import HandS.TryMany
import HandS.Nested
import KE.KExcSuper
import KE.KExcIs
import HandS.RaiseMore
import KE.KEqDict
import PyProof.NeKinds
import PyProof.EqKinds
import HandS.Ends
import KE.GoesEnum
import HandS.TupMul
import HandS.Walk
import KE.KDflt
import HandS.More
import HandS.Deep
import HandS.SortInts
import PySem.Challenge.RW_stolenvoices_k05_states_refused
set_option Elab.async false
set_option linter.all false
set_option maxRecDepth 100000
set_option maxHeartbeats 4000001
namespace DE
open PyProof.Rows PySem.Spec PySem L2

inductive D where
  | non | bl (b : Bool) | int (i : Int) | str (s : Str) | lst (xs : List D) | tup (xs : List D) | dic (kvs : List (Key × D)) | m | exc (c : Str) (v : D) | scr (ns : List Int) | fn (x : Str)

structure DS where
  great : List Int
  seed : Int
  turns : Int
inductive Sl where
  | no | dat (d : D) | own (xs : List D) | fn (f c : Addr) (q : Str) (G1 : Hp)
structure Sg where
  r : List Sl
  s : DS
structure Exn where
  c : Str
  v : D
/-- the draw dict's address; the own error classes: address, field -/
structure Gam where
  M : Addr
  cl : Str → Option (Addr × Str)
  T : List (Addr × Str)
/-- what stays as it is: neither the draw dict nor a table of code objects -/
def Gam.Ok (Γ : Gam) (a : Addr) : Prop := a ≠ Γ.M ∧ ∀ p ∈ Γ.T, a ≠ p.1

/-- a caught exception: the class at C, its dict at d -/
def xob (a C d : Addr) : HO := .ext fun h => ∃ (oe : Obj) (vs : Array Value), h.get? a = some oe ∧ Zc (.ref C) (some d) oe ∧ oe.data = .fields vs
mutual
inductive Dv (K : PySem.W.Frag) (Γ : Gam) (G : Hp) : V → D → Prop
  | non : Dv K Γ G .non .non
  | bl (b : Bool) : Dv K Γ G (.bl b) (.bl b)
  | int (i : Int) : Dv K Γ G (.int i) (.int i)
  | str (s : Str) : Dv K Γ G (.str s) (.str s)
  | lst {a : Addr} {xs : List V} {ds : List D} : G a = some (.lst xs) → DvA K Γ G xs ds → Dv K Γ G (.ref a) (.lst ds)
  | tup {a : Addr} {xs : List V} {ds : List D} : SqT K G a xs → DvA K Γ G xs ds → Dv K Γ G (.ref a) (.tup ds)
  | dic {a : Addr} {xs : List (Key × V)} {ds : List (Key × D)} : G a = some (.dK xs) → DvK K Γ G xs ds → Dv K Γ G (.ref a) (.dic ds)
  | m : Dv K Γ G (.ref Γ.M) .m
  | scr {a : Addr} {ns : List Int} : SqL K G a (ns.map V.int) → Dv K Γ G (.ref a) (.scr ns)
  | fn {f : Addr} {x : Str} : PySem.W.nsIn K mainGlobals x = some (some (Value.ref f)) → Dv K Γ G (.ref f) (.fn x)
  | exc {a d C : Addr} {f c : Str} {v : V} {w : D} : Γ.cl c = some (C, f) → G a = some (xob a C d) → G d = some (.xd [(f, v)]) → Dv K Γ G v w → Dv K Γ G (.ref a) (.exc c w)
inductive DvA (K : PySem.W.Frag) (Γ : Gam) (G : Hp) : List V → List D → Prop
  | nil : DvA K Γ G [] []
  | cons {v : V} {vs : List V} {d : D} {ds : List D} : Dv K Γ G v d → DvA K Γ G vs ds → DvA K Γ G (v :: vs) (d :: ds)
inductive DvK (K : PySem.W.Frag) (Γ : Gam) (G : Hp) : List (Key × V) → List (Key × D) → Prop
  | nil : DvK K Γ G [] []
  | cons {k : Key} {v : V} {vs : List (Key × V)} {d : D} {ds : List (Key × D)} : Dv K Γ G v d → DvK K Γ G vs ds → DvK K Γ G ((k, v) :: vs) ((k, d) :: ds)
end

def Gr (G G' : Hp) : Prop := ∀ a o, G a = some o → G' a = some o
theorem Gr.refl (G : Hp) : Gr G G := fun _ _ h => h
theorem Gr.trans {G G1 G2 : Hp} (a : Gr G G1) (b : Gr G1 G2) : Gr G G2 := fun x o h => b x o (a x o h)
theorem Gr.upd {G : Hp} {p : Addr} {o : HO} (h : G p = none) : Gr G (upd G p o) := fun a u e => by
  rw [upd_ne (ne_of_none e h)]; exact e
theorem Gr.rd {G G' : Hp} {a : Addr} {u : HO} (e : Gr G G') (h : Rd G a u) : Rd G' a u := h.imp (e a _) fun ⟨o, h⟩ => ⟨o, e a _ h⟩
theorem Gr.sqL {K : PySem.W.Frag} {G G' : Hp} {a : Addr} {xs : List V} (e : Gr G G') (h : SqL K G a xs) : SqL K G' a xs := h.imp e.rd id
theorem Gr.sqT {K : PySem.W.Frag} {G G' : Hp} {a : Addr} {xs : List V} (e : Gr G G') (h : SqT K G a xs) : SqT K G' a xs := h.imp e.rd id

section
variable {K : PySem.W.Frag} {Γ : Gam} {G G' : Hp}
mutual
theorem Dv.mono (e : Gr G G') : ∀ {v : V} {d : D}, Dv K Γ G v d → Dv K Γ G' v d
  | _, _, .non => .non
  | _, _, .bl b => .bl b
  | _, _, .int i => .int i
  | _, _, .str s => .str s
  | _, _, .lst h t => .lst (e _ _ h) (DvA.mono e t)
  | _, _, .tup h t => .tup (e.sqT h) (DvA.mono e t)
  | _, _, .dic h t => .dic (e _ _ h) (DvK.mono e t)
  | _, _, .m => .m
  | _, _, .scr h => .scr (e.sqL h)
  | _, _, .fn h => .fn h
  | _, _, .exc h1 h2 h3 t => .exc h1 (e _ _ h2) (e _ _ h3) (Dv.mono e t)
theorem DvA.mono (e : Gr G G') : ∀ {v : List V} {d : List D}, DvA K Γ G v d → DvA K Γ G' v d
  | _, _, .nil => .nil
  | _, _, .cons h t => .cons (Dv.mono e h) (DvA.mono e t)
theorem DvK.mono (e : Gr G G') : ∀ {v : List (Key × V)} {d : List (Key × D)}, DvK K Γ G v d → DvK K Γ G' v d
  | _, _, .nil => .nil
  | _, _, .cons h t => .cons (Dv.mono e h) (DvK.mono e t)
end
theorem DvA.length : ∀ {vs : List V} {ds : List D}, DvA K Γ G vs ds → vs.length = ds.length
  | _, _, .nil => rfl
  | _, _, .cons _ t => congrArg (· + 1) t.length
theorem DvA.get : ∀ {vs : List V} {ds : List D}, DvA K Γ G vs ds → ∀ (i : Nat) {d : D}, ds[i]? = some d → ∃ v, vs[i]? = some v ∧ Dv K Γ G v d
  | _, _, .nil, _, _, h => by simp at h
  | _, _, .cons h _, 0, _, e => by simp at e; subst e; exact ⟨_, rfl, h⟩
  | _, _, .cons _ t, i + 1, d, e => by
    obtain ⟨v, h1, h2⟩ := t.get i (d := d) (by simpa using e)
    exact ⟨v, by simpa using h1, h2⟩
theorem DvA.get' : ∀ {vs : List V} {ds : List D}, DvA K Γ G vs ds → ∀ (i : Nat) {v : V}, vs[i]? = some v → ∃ d, ds[i]? = some d ∧ Dv K Γ G v d
  | _, _, .nil, _, _, h => by simp at h
  | _, _, .cons h _, 0, _, e => by simp at e; subst e; exact ⟨_, rfl, h⟩
  | _, _, .cons _ t, i + 1, v, e => by
    obtain ⟨d, h1, h2⟩ := t.get' i (v := v) (by simpa using e)
    exact ⟨d, by simpa using h1, h2⟩
theorem DvA.append : ∀ {vs ws : List V} {ds es : List D}, DvA K Γ G vs ds → DvA K Γ G ws es → DvA K Γ G (vs ++ ws) (ds ++ es)
  | _, _, _, _, .nil, u => u
  | _, _, _, _, .cons h t, u => .cons h (t.append u)
theorem DvA.take : ∀ {vs : List V} {ds : List D} (n : Nat), DvA K Γ G vs ds → DvA K Γ G (vs.take n) (ds.take n)
  | _, _, 0, _ => by simp only [List.take_zero]; exact .nil
  | _, _, _ + 1, .nil => by simp only [List.take_nil]; exact .nil
  | _, _, n + 1, .cons h t => by simp only [List.take_succ_cons]; exact .cons h (t.take n)
theorem DvA.drop : ∀ {vs : List V} {ds : List D} (n : Nat), DvA K Γ G vs ds → DvA K Γ G (vs.drop n) (ds.drop n)
  | _, _, 0, h => h
  | _, _, _ + 1, .nil => by simp only [List.drop_nil]; exact .nil
  | _, _, n + 1, .cons _ t => by simp only [List.drop_succ_cons]; exact t.drop n
theorem DvA.eraseIdx : ∀ {vs : List V} {ds : List D} (n : Nat), DvA K Γ G vs ds → DvA K Γ G (vs.eraseIdx n) (ds.eraseIdx n)
  | _, _, _, .nil => by simp only [List.eraseIdx_nil]; exact .nil
  | _, _, 0, .cons _ t => t
  | _, _, n + 1, .cons h t => .cons h (t.eraseIdx n)
theorem DvA.set : ∀ {vs : List V} {ds : List D} (n : Nat) {v : V} {d : D}, DvA K Γ G vs ds → Dv K Γ G v d → DvA K Γ G (vs.set n v) (ds.set n d)
  | _, _, _, _, _, .nil, _ => by simp only [List.set_nil]; exact .nil
  | _, _, 0, _, _, .cons _ t, e => .cons e t
  | _, _, n + 1, _, _, .cons h t, e => .cons h (t.set n e)
end

/-- the draw state stands -/
def StM (Γ : Gam) (G H : Hp) (s : DS) : Prop := ∃ l, H Γ.M = some (.dK [(Sum.inr "great", .ref l), (Sum.inr "seed", .int s.seed), (Sum.inr "turns", .int s.turns)]) ∧ G l = some (.lst (s.great.map V.int))

/-- an address whose object is neither a table nor a code object -/
def Sf (H : Hp) (a : Addr) : Prop := H a = none ∨ ∃ o, H a = some o ∧ (∀ ps, o ≠ .tbl ps) ∧ ∀ c q, o ≠ LamX.CodeO c q
section
variable {H : Hp} {a : Addr}
theorem sf_new (h : H a = none) : Sf H a := .inl h
theorem sf_lst {xs : List V} (h : H a = some (.lst xs)) : Sf H a := .inr ⟨_, h, (fun _ z => by cases z), (fun _ _ z => by unfold LamX.CodeO at z; cases z)⟩
theorem sf_dK {xs : List (Key × V)} (h : H a = some (.dK xs)) : Sf H a := .inr ⟨_, h, (fun _ z => by cases z), (fun _ _ z => by unfold LamX.CodeO at z; cases z)⟩
theorem Sf.ne_code (s : Sf H a) {c : Addr} {q : Str} (h : H c = some (LamX.CodeO c q)) : c ≠ a := by
  rintro rfl
  rcases s with z | ⟨o, z, _, n⟩
  · rw [z] at h; cases h
  · rw [z] at h; cases h; exact n _ _ rfl
theorem Sf.ne_tab (s : Sf H a) {T : List (Addr × Str)} (t : LamX.Tabs T H) : ∀ p ∈ T, a ≠ p.1 := by
  rintro p hp rfl
  obtain ⟨ps, h, _⟩ := t p hp
  rcases s with z | ⟨o, z, n, _⟩
  · rw [z] at h; cases h
  · rw [z] at h; cases h; exact n _ rfl
theorem Sf.tabs (s : Sf H a) {T : List (Addr × Str)} (t : LamX.Tabs T H) {o : HO} : LamX.Tabs T (upd H a o) := fun p hp => by
  obtain ⟨ps, h1, h2, h3⟩ := t p hp
  refine ⟨ps, by rw [upd_ne (Ne.symm (s.ne_tab t p hp))]; exact h1, h2, fun pos cv hcv => ?_⟩
  obtain ⟨c, e1, e2⟩ := h3 pos cv hcv
  exact ⟨c, e1, by rw [upd_ne (s.ne_code e2)]; exact e2⟩
end
/-- what is known between two steps of a def: H0, G0 its entry -/
structure En (K : PySem.W.Frag) (Γ : Gam) (H0 G0 G H : Hp) (σ : L2.St) (g : Sg) : Prop where
  base : ∀ a o, Γ.Ok a → H0 a = some o → H a = some o
  gfr : ∀ a o, H0 a = some o → G0 a = none → G a = none
  g0 : Gr G0 G
  sub : Gr G H
  gm : G Γ.M = none
  st : StM Γ G H g.s
  len : g.r.length = σ.length
  dat : ∀ (i : Nat) d, g.r[i]? = some (Sl.dat d) → ∃ v, σ[i]? = some (some v) ∧ Dv K Γ G v d
  own : ∀ (i : Nat) xs, g.r[i]? = some (Sl.own xs) → ∃ l vs, σ[i]? = some (some (V.ref l)) ∧ H l = some (.lst vs) ∧ G l = none ∧ H0 l = none ∧ DvA K Γ G vs xs
  dis : ∀ (i j : Nat) xs ys l, g.r[i]? = some (Sl.own xs) → g.r[j]? = some (Sl.own ys) → σ[i]? = some (some (V.ref l)) → σ[j]? = some (some (V.ref l)) → i = j
  tb : LamX.Tabs Γ.T H
  gt : ∀ p ∈ Γ.T, G p.1 = none
  fn : ∀ (i : Nat) f c q G1, g.r[i]? = some (Sl.fn f c q G1) → σ[i]? = some (some (V.ref f)) ∧ H c = some (LamX.CodeO c q) ∧ Gr G1 G

theorem StM.gr {Γ : Gam} {G G' H H' : Hp} {s : DS} (h : StM Γ G H s) (e : Gr G G') (hm : H' Γ.M = H Γ.M) : StM Γ G' H' s := by
  obtain ⟨l, h1, h2⟩ := h
  exact ⟨l, hm.trans h1, e _ _ h2⟩

section
variable {K : PySem.W.Frag} {Γ : Gam} {H0 G0 G H : Hp} {σ : L2.St} {g : Sg}
theorem En.hm (E : En K Γ H0 G0 G H σ g) : ∃ o, H Γ.M = some o := let ⟨_, h, _⟩ := E.st; ⟨_, h⟩
theorem En.ok_new (E : En K Γ H0 G0 G H σ g) {a : Addr} (h : H a = none) : Γ.Ok a := ⟨let ⟨_, hM⟩ := E.hm; Ne.symm (ne_of_none hM h), (sf_new h).ne_tab E.tb⟩
theorem En.ok_lst (E : En K Γ H0 G0 G H σ g) {a : Addr} {xs : List V} (h : H a = some (.lst xs)) : Γ.Ok a := by
  refine ⟨?_, (sf_lst h).ne_tab E.tb⟩
  obtain ⟨lm, hM, _⟩ := E.st
  rintro rfl
  rw [hM] at h; cases h
theorem En.ok_code (E : En K Γ H0 G0 G H σ g) {c : Addr} {q : Str} (h : H c = some (LamX.CodeO c q)) : Γ.Ok c := by
  refine ⟨?_, fun p hp z => ?_⟩
  · obtain ⟨lm, hM, _⟩ := E.st
    exact (sf_dK hM).ne_code h
  · obtain ⟨ps, h1, _⟩ := E.tb p hp
    rw [← z, h] at h1
    exact LamX.codeO_ne ps (Option.some.inj h1)
/-- where the entry has an object there is one -/
theorem En.there (E : En K Γ H0 G0 G H σ g) {a : Addr} {o : HO} (h : H0 a = some o) : ∃ u, H a = some u := by
  by_cases n : Γ.Ok a
  · exact ⟨o, E.base a o n h⟩
  · by_cases m : a = Γ.M
    · rw [m]; exact E.hm
    · have : ∃ p ∈ Γ.T, a = p.1 := Classical.byContradiction fun z => n ⟨m, fun p hp e => z ⟨p, hp, e⟩⟩
      obtain ⟨p, hp, rfl⟩ := this
      obtain ⟨ps, h1, _⟩ := E.tb p hp
      exact ⟨_, h1⟩
theorem En.fnU (E : En K Γ H0 G0 G H σ g) {a : Addr} {o : HO} (s : Sf H a) {f c : Addr} {q : Str} {G1 G' : Hp} {i : Nat} (h : g.r[i]? = some (.fn f c q G1)) (gr : Gr G G') : σ[i]? = some (some (V.ref f)) ∧ upd H a o c = some (LamX.CodeO c q) ∧ Gr G1 G' :=
  let ⟨x, y, z⟩ := E.fn i f c q G1 h; ⟨x, by rw [upd_ne (s.ne_code y)]; exact y, z.trans gr⟩
/-- a slot that holds a function, behind a store elsewhere -/
theorem En.fnSet (E : En K Γ H0 G0 G H σ g) {i : Nat} {x : Option V} {z : Sl} (n : ∀ f c q G1, z ≠ .fn f c q G1) {j : Nat} {f c : Addr} {q : Str} {G1 : Hp} (h : (g.r.set i z)[j]? = some (.fn f c q G1)) : (σ.set i x)[j]? = some (some (V.ref f)) ∧ H c = some (LamX.CodeO c q) ∧ Gr G1 G := by
  by_cases e : j = i
  · subst e
    have il : j < g.r.length := by have := (List.getElem?_eq_some_iff.mp h).1; simpa using this
    rw [List.getElem?_set_self il] at h
    exact absurd (Option.some.inj h) (n f c q G1)
  · rw [List.getElem?_set_ne (Ne.symm e)] at h ⊢; exact E.fn j f c q G1 h
theorem gtU {T : List (Addr × Str)} {G H : Hp} {a : Addr} {o : HO} (h : ∀ p ∈ T, G p.1 = none) (t : LamX.Tabs T H) (s : Sf H a) : ∀ p ∈ T, upd G a o p.1 = none := fun p hp => by
  rw [upd_ne (Ne.symm (s.ne_tab t p hp))]; exact h p hp
/-- a new object that is known and never changes -/
theorem En.new (E : En K Γ H0 G0 G H σ g) {p : Addr} {o : HO} (hp : H p = none) : En K Γ H0 G0 (upd G p o) (upd H p o) σ g := by
  have gp : G p = none := by
    cases h : G p with
    | none => rfl
    | some u => rw [E.sub _ _ h] at hp; cases hp
  have gr : Gr G (upd G p o) := Gr.upd gp
  have hr : Gr H (upd H p o) := Gr.upd hp
  obtain ⟨om, hM⟩ := E.hm
  have pm : Γ.M ≠ p := ne_of_none hM hp
  refine ⟨fun a u n h => hr _ _ (E.base a u n h), fun a u h h' => ?_, E.g0.trans gr, fun a u h => ?_, by rw [upd_ne pm]; exact E.gm, E.st.gr gr (upd_ne pm), E.len, fun i d h => ?_, fun i xs h => ?_, E.dis, (sf_new hp).tabs E.tb, gtU E.gt E.tb (sf_new hp), fun i f c q G1 h => E.fnU (sf_new hp) h gr⟩
  · have : a ≠ p := by
      rintro rfl
      obtain ⟨u', z⟩ := E.there h
      rw [hp] at z; cases z
    rw [upd_ne this]; exact E.gfr a u h h'
  · by_cases e : a = p
    · subst e; rw [upd_same] at h ⊢; exact h
    · rw [upd_ne e] at h ⊢; exact E.sub a u h
  · obtain ⟨v, h1, h2⟩ := E.dat i d h
    exact ⟨v, h1, h2.mono gr⟩
  · obtain ⟨l, vs, h1, h2, h3, h4, h5⟩ := E.own i xs h
    have lp : l ≠ p := ne_of_none h2 hp
    exact ⟨l, vs, h1, hr _ _ h2, by rw [upd_ne lp]; exact h3, h4, h5.mono gr⟩
/-- a new object that is kept apart -/
theorem En.newO (E : En K Γ H0 G0 G H σ g) {p : Addr} {o : HO} (hp : H p = none) : En K Γ H0 G0 G (upd H p o) σ g := by
  have hr : Gr H (upd H p o) := Gr.upd hp
  obtain ⟨om, hM⟩ := E.hm
  have pm : Γ.M ≠ p := ne_of_none hM hp
  refine ⟨fun a u n h => hr _ _ (E.base a u n h), E.gfr, E.g0, E.sub.trans hr, E.gm, E.st.gr (Gr.refl _) (upd_ne pm), E.len, E.dat, fun i xs h => ?_, E.dis, (sf_new hp).tabs E.tb, E.gt, fun i f c q G1 h => E.fnU (sf_new hp) h (Gr.refl _)⟩
  obtain ⟨l, vs, h1, h2, h3, h4, h5⟩ := E.own i xs h
  exact ⟨l, vs, h1, hr _ _ h2, h3, h4, h5⟩
/-- an owned list changes -/
theorem En.put (E : En K Γ H0 G0 G H σ g) {i : Nat} {xs ys : List D} {l : Addr} {ws : List V} (hi : g.r[i]? = some (.own xs)) (hl : σ[i]? = some (some (.ref l))) (hd : DvA K Γ G ws ys) :
    En K Γ H0 G0 G (upd H l (.lst ws)) σ ⟨g.r.set i (.own ys), g.s⟩ := by
  obtain ⟨l', vs, h1, h2, h3, h4, h5⟩ := E.own i xs hi
  rw [hl] at h1; cases h1
  obtain ⟨lm, hM, hG⟩ := E.st
  have ml : Γ.M ≠ l := by rintro rfl; rw [hM] at h2; cases h2
  have il : i < g.r.length := (List.getElem?_eq_some_iff.mp hi).1
  refine ⟨fun a u n h => ?_, E.gfr, E.g0, fun a u h => ?_, E.gm, ⟨lm, by rw [upd_ne ml]; exact hM, hG⟩, by simpa using E.len, fun j d h => ?_, fun j zs h => ?_, fun j k zs us q h1 h2 h3 h4 => ?_, (sf_lst h2).tabs E.tb, E.gt, fun j f c q G1 h => ?_⟩
  · have : a ≠ l := by rintro rfl; rw [h4] at h; cases h
    rw [upd_ne this]; exact E.base a u n h
  · have : a ≠ l := by rintro rfl; rw [h3] at h; cases h
    rw [upd_ne this]; exact E.sub a u h
  · by_cases e : j = i
    · subst e; rw [List.getElem?_set_self il] at h; cases h
    · rw [List.getElem?_set_ne (Ne.symm e)] at h; exact E.dat j d h
  · by_cases e : j = i
    · subst e
      rw [List.getElem?_set_self il] at h; cases h
      exact ⟨l, ws, hl, upd_same, h3, h4, hd⟩
    · rw [List.getElem?_set_ne (Ne.symm e)] at h
      obtain ⟨l2, v2, k1, k2, k3, k4, k5⟩ := E.own j zs h
      have : l2 ≠ l := by rintro rfl; exact e (E.dis j i zs xs l2 h hi k1 hl)
      exact ⟨l2, v2, k1, by rw [upd_ne this]; exact k2, k3, k4, k5⟩
  · have e1 : ∃ z, g.r[j]? = some (.own z) := by
      by_cases e : j = i
      · subst e; exact ⟨_, hi⟩
      · rw [List.getElem?_set_ne (Ne.symm e)] at h1; exact ⟨_, h1⟩
    have e2 : ∃ z, g.r[k]? = some (.own z) := by
      by_cases e : k = i
      · subst e; exact ⟨_, hi⟩
      · rw [List.getElem?_set_ne (Ne.symm e)] at h2; exact ⟨_, h2⟩
    obtain ⟨z1, e1⟩ := e1
    obtain ⟨z2, e2⟩ := e2
    exact E.dis j k z1 z2 q e1 e2 h3 h4
  · by_cases e : j = i
    · subst e; rw [List.getElem?_set_self il] at h; cases h
    · rw [List.getElem?_set_ne (Ne.symm e)] at h; exact E.fnU (sf_lst h2) h (Gr.refl _)
/-- an owned list is let go: it is known from now on -/
theorem En.rel (E : En K Γ H0 G0 G H σ g) {i : Nat} {xs : List D} (hi : g.r[i]? = some (.own xs)) :
    ∃ l G', σ[i]? = some (some (.ref l)) ∧ Gr G G' ∧ Dv K Γ G' (.ref l) (.lst xs) ∧ En K Γ H0 G0 G' H σ ⟨g.r.set i (.dat (.lst xs)), g.s⟩ := by
  obtain ⟨l, vs, h1, h2, h3, h4, h5⟩ := E.own i xs hi
  have gr : Gr G (upd G l (.lst vs)) := Gr.upd h3
  obtain ⟨lm, hM, hG⟩ := E.st
  have ml : Γ.M ≠ l := by rintro rfl; rw [hM] at h2; cases h2
  have il : i < g.r.length := (List.getElem?_eq_some_iff.mp hi).1
  have dl : Dv K Γ (upd G l (.lst vs)) (.ref l) (.lst xs) := .lst upd_same (h5.mono gr)
  refine ⟨l, upd G l (.lst vs), h1, gr, dl, E.base, fun a u h h' => ?_, E.g0.trans gr, fun a u h => ?_, by rw [upd_ne ml]; exact E.gm, ⟨lm, hM, gr _ _ hG⟩, by simpa using E.len, fun j d h => ?_, fun j zs h => ?_, fun j k zs us q e1 e2 e3 e4 => ?_, E.tb, gtU E.gt E.tb (sf_lst h2), fun j f c q G1 h => ?_⟩
  · have : a ≠ l := by rintro rfl; rw [h4] at h; cases h
    rw [upd_ne this]; exact E.gfr a u h h'
  · by_cases e : a = l
    · subst e; rw [upd_same] at h; cases h; exact h2
    · rw [upd_ne e] at h; exact E.sub a u h
  · by_cases e : j = i
    · subst e; rw [List.getElem?_set_self il] at h; cases h
      exact ⟨_, h1, dl⟩
    · rw [List.getElem?_set_ne (Ne.symm e)] at h
      obtain ⟨v, k1, k2⟩ := E.dat j d h
      exact ⟨v, k1, k2.mono gr⟩
  · by_cases e : j = i
    · subst e; rw [List.getElem?_set_self il] at h; cases h
    · rw [List.getElem?_set_ne (Ne.symm e)] at h
      obtain ⟨l2, v2, k1, k2, k3, k4, k5⟩ := E.own j zs h
      have : l2 ≠ l := by rintro rfl; exact e (E.dis j i zs xs l2 h hi k1 h1)
      exact ⟨l2, v2, k1, k2, by rw [upd_ne this]; exact k3, k4, k5.mono gr⟩
  · have e1' : ∃ z, g.r[j]? = some (.own z) := by
      by_cases e : j = i
      · subst e; exact ⟨_, hi⟩
      · rw [List.getElem?_set_ne (Ne.symm e)] at e1; exact ⟨_, e1⟩
    have e2' : ∃ z, g.r[k]? = some (.own z) := by
      by_cases e : k = i
      · subst e; exact ⟨_, hi⟩
      · rw [List.getElem?_set_ne (Ne.symm e)] at e2; exact ⟨_, e2⟩
    obtain ⟨z1, e1'⟩ := e1'
    obtain ⟨z2, e2'⟩ := e2'
    exact E.dis j k z1 z2 q e1' e2' e3 e4
  · by_cases e : j = i
    · subst e; rw [List.getElem?_set_self il] at h; cases h
    · rw [List.getElem?_set_ne (Ne.symm e)] at h; exact (let ⟨x, y, z⟩ := E.fn j f c q G1 h; ⟨x, y, z.trans gr⟩)
/-- a slot gets a value -/
theorem En.set (E : En K Γ H0 G0 G H σ g) (i : Nat) {v : V} {d : D} (h : Dv K Γ G v d) : En K Γ H0 G0 G H (σ.set i (some v)) ⟨g.r.set i (.dat d), g.s⟩ := by
  refine ⟨E.base, E.gfr, E.g0, E.sub, E.gm, E.st, by simpa using E.len, fun j d' h' => ?_, fun j zs h' => ?_, fun j k zs us q e1 e2 e3 e4 => ?_, E.tb, E.gt, fun j f c q G1 h' => E.fnSet (fun _ _ _ _ z => by cases z) h'⟩
  · by_cases e : j = i
    · subst e
      have il : j < g.r.length := by have := (List.getElem?_eq_some_iff.mp h').1; simpa using this
      rw [List.getElem?_set_self il] at h'; cases h'
      exact ⟨v, by rw [List.getElem?_set_self (by rw [← E.len]; exact il)], h⟩
    · rw [List.getElem?_set_ne (Ne.symm e)] at h' ⊢; exact E.dat j d' h'
  · by_cases e : j = i
    · subst e
      have il : j < g.r.length := by have := (List.getElem?_eq_some_iff.mp h').1; simpa using this
      rw [List.getElem?_set_self il] at h'; cases h'
    · rw [List.getElem?_set_ne (Ne.symm e)] at h' ⊢; exact E.own j zs h'
  · have f : ∀ (j : Nat) z, (g.r.set i (.dat d))[j]? = some (.own z) → j ≠ i ∧ g.r[j]? = some (.own z) := fun j z h' => by
      by_cases e : j = i
      · subst e
        have il : j < g.r.length := by have := (List.getElem?_eq_some_iff.mp h').1; simpa using this
        rw [List.getElem?_set_self il] at h'; cases h'
      · rw [List.getElem?_set_ne (Ne.symm e)] at h'; exact ⟨e, h'⟩
    obtain ⟨n1, f1⟩ := f j zs e1
    obtain ⟨n2, f2⟩ := f k us e2
    rw [List.getElem?_set_ne (Ne.symm n1)] at e3
    rw [List.getElem?_set_ne (Ne.symm n2)] at e4
    exact E.dis j k zs us q f1 f2 e3 e4
/-- a list that stands apart -/
structure Fre (K : PySem.W.Frag) (Γ : Gam) (H0 G H : Hp) (σ : L2.St) (g : Sg) (v : V) (ds : List D) : Prop where
  at_ : ∃ p vs, v = .ref p ∧ H p = some (.lst vs) ∧ G p = none ∧ H0 p = none ∧ DvA K Γ G vs ds ∧ ∀ (i : Nat) zs, g.r[i]? = some (.own zs) → σ[i]? ≠ some (some (.ref p))
theorem En.setO (E : En K Γ H0 G0 G H σ g) (i : Nat) {v : V} {ds : List D} (h : Fre K Γ H0 G H σ g v ds) : En K Γ H0 G0 G H (σ.set i (some v)) ⟨g.r.set i (.own ds), g.s⟩ := by
  obtain ⟨p, vs, rfl, h1, h2, h3, h4, h5⟩ := h.at_
  have f : ∀ (j : Nat) z, (g.r.set i (.own ds))[j]? = some (.own z) → (j = i ∧ z = ds ∧ i < g.r.length) ∨ j ≠ i ∧ g.r[j]? = some (.own z) := fun j z h' => by
      by_cases e : j = i
      · subst e
        have il : j < g.r.length := by have := (List.getElem?_eq_some_iff.mp h').1; simpa using this
        rw [List.getElem?_set_self il] at h'; cases h'; exact .inl ⟨rfl, rfl, il⟩
      · rw [List.getElem?_set_ne (Ne.symm e)] at h'; exact .inr ⟨e, h'⟩
  have s_ : ∀ il : i < g.r.length, (σ.set i (some (V.ref p)))[i]? = some (some (V.ref p)) := fun il => by rw [List.getElem?_set_self (by rw [← E.len]; exact il)]
  refine ⟨E.base, E.gfr, E.g0, E.sub, E.gm, E.st, by simpa using E.len, fun j d' h' => ?_, fun j zs h' => ?_, fun j k zs us q e1 e2 e3 e4 => ?_, E.tb, E.gt, fun j f c q G1 h' => E.fnSet (fun _ _ _ _ z => by cases z) h'⟩
  · by_cases e : j = i
    · subst e
      have il : j < g.r.length := by have := (List.getElem?_eq_some_iff.mp h').1; simpa using this
      rw [List.getElem?_set_self il] at h'; cases h'
    · rw [List.getElem?_set_ne (Ne.symm e)] at h' ⊢; exact E.dat j d' h'
  · rcases f j zs h' with ⟨rfl, rfl, il⟩ | ⟨n, h'⟩
    · exact ⟨p, vs, s_ il, h1, h2, h3, h4⟩
    · rw [List.getElem?_set_ne (Ne.symm n)]; exact E.own j zs h'
  · rcases f j zs e1 with ⟨rfl, rfl, il⟩ | ⟨n1, f1⟩
    · rcases f k us e2 with ⟨rfl, _, _⟩ | ⟨n2, f2⟩
      · rfl
      · rw [s_ il] at e3; cases e3
        rw [List.getElem?_set_ne (Ne.symm n2)] at e4
        exact absurd e4 (h5 k us f2)
    · rw [List.getElem?_set_ne (Ne.symm n1)] at e3
      rcases f k us e2 with ⟨rfl, _, il⟩ | ⟨n2, f2⟩
      · rw [s_ il] at e4; cases e4
        exact absurd e3 (h5 j zs f1)
      · rw [List.getElem?_set_ne (Ne.symm n2)] at e4
        exact E.dis j k zs us q f1 f2 e3 e4
/-- the same, all that stands now taken for the entry's -/
theorem En.rebase (E : En K Γ H0 G0 G H σ g) : ∃ H1 : Hp, (∀ a o, H1 a = some o → H a = some o) ∧ (∀ a o, H a = some o → a ≠ Γ.M → (∀ (i : Nat) xs, g.r[i]? = some (Sl.own xs) → σ[i]? ≠ some (some (V.ref a))) → H1 a = some o) ∧ En K Γ H1 G G H σ g ∧
    ∀ G' H' σ' g', En K Γ H1 G G' H' σ' g' → En K Γ H0 G0 G' H' σ' g' := by
  classical
  have hH1 : ∃ H1 : Hp, ∀ a, (a ≠ Γ.M ∧ (∀ (i : Nat) xs, g.r[i]? = some (Sl.own xs) → σ[i]? ≠ some (some (V.ref a))) ∧ H1 a = H a) ∨ (¬ (a ≠ Γ.M ∧ ∀ (i : Nat) xs, g.r[i]? = some (Sl.own xs) → σ[i]? ≠ some (some (V.ref a))) ∧ H1 a = none) := by
    refine ⟨fun a => if a ≠ Γ.M ∧ ∀ (i : Nat) xs, g.r[i]? = some (Sl.own xs) → σ[i]? ≠ some (some (V.ref a)) then H a else none, fun a => ?_⟩
    by_cases c : a ≠ Γ.M ∧ ∀ (i : Nat) xs, g.r[i]? = some (Sl.own xs) → σ[i]? ≠ some (some (V.ref a))
    · exact .inl ⟨c.1, c.2, if_pos c⟩
    · exact .inr ⟨c, if_neg c⟩
  obtain ⟨H1, hH1⟩ := hH1
  have up : ∀ a o, H1 a = some o → H a = some o ∧ a ≠ Γ.M := fun a o h => by
    rcases hH1 a with ⟨n, _, e⟩ | ⟨_, e⟩
    · exact ⟨e ▸ h, n⟩
    · rw [e] at h; cases h
  have dn : ∀ a o, H a = some o → a ≠ Γ.M → (∀ (i : Nat) xs, g.r[i]? = some (Sl.own xs) → σ[i]? ≠ some (some (V.ref a))) → H1 a = some o := fun a o h n k => by
    rcases hH1 a with ⟨_, _, e⟩ | ⟨c, _⟩
    · rw [e]; exact h
    · exact absurd ⟨n, k⟩ c
  have ow : ∀ (i : Nat) xs l, g.r[i]? = some (Sl.own xs) → σ[i]? = some (some (V.ref l)) → H1 l = none := fun i xs l h k => by
    rcases hH1 l with ⟨_, c, _⟩ | ⟨_, e⟩
    · exact absurd k (c i xs h)
    · exact e
  refine ⟨H1, fun a o h => (up a o h).1, dn, ⟨fun a o _ h => (up a o h).1, fun a o _ h => h, Gr.refl _, E.sub, E.gm, E.st, E.len, E.dat, fun i xs h => ?_, E.dis, E.tb, E.gt, E.fn⟩, fun G' H' σ' g' F => ⟨fun a o n h => ?_, fun a o h h' => ?_, E.g0.trans F.g0, F.sub, F.gm, F.st, F.len, F.dat, fun i xs h => ?_, F.dis, F.tb, F.gt, F.fn⟩⟩
  · obtain ⟨l, vs, h1, h2, h3, _, h5⟩ := E.own i xs h
    exact ⟨l, vs, h1, h2, h3, ow i xs l h h1, h5⟩
  · have ha := E.base a o n h
    refine F.base a o n (dn a o ha n.1 fun i xs hi hs => ?_)
    obtain ⟨l, vs, h1, _, _, h4, _⟩ := E.own i xs hi
    rw [hs] at h1; cases h1; rw [h4] at h; cases h
  · by_cases n : Γ.Ok a
    case neg =>
      by_cases m : a = Γ.M
      · rw [m]; exact F.gm
      · have : ∃ p ∈ Γ.T, a = p.1 := Classical.byContradiction fun z => n ⟨m, fun p hp e => z ⟨p, hp, e⟩⟩
        obtain ⟨p, hp, rfl⟩ := this
        exact F.gt p hp
    · have ha := E.base a o n h
      refine F.gfr a o (dn a o ha n.1 fun i xs hi hs => ?_) (E.gfr a o h h')
      obtain ⟨l, vs, h1, _, _, h4, _⟩ := E.own i xs hi
      rw [hs] at h1; cases h1; rw [h4] at h; cases h
  · obtain ⟨l, vs, h1, h2, h3, h4, h5⟩ := F.own i xs h
    refine ⟨l, vs, h1, h2, h3, ?_, h5⟩
    cases z : H0 l with
    | none => rfl
    | some o =>
      exfalso
      have n := F.ok_lst h2
      · have ha := E.base l o n z
        have : H1 l = some o := dn l o ha n.1 fun j ys hi hs => by
          obtain ⟨l2, vs2, k1, _, _, k4, _⟩ := E.own j ys hi
          rw [hs] at k1; cases k1; rw [k4] at z; cases z
        rw [h4] at this; cases this
end
end DE
namespace DE
open PyProof.Rows PySem.Spec PySem L2

/-! ### programs over data -/
abbrev Res (α : Type) := Option (Except Exn α × Sg)
abbrev Mo (α : Type) := Sg → Res α
def bd {α β : Type} (f : Mo α) (k : α → Mo β) : Mo β := fun g => match f g with
  | none => none
  | some (.error x, g1) => some (.error x, g1)
  | some (.ok a, g1) => k a g1
def rt {α : Type} (a : α) : Mo α := fun g => some (.ok a, g)
def stop {α : Type} : Mo α := fun _ => none
def ofO {α : Type} : Option α → Mo α
  | some a => rt a
  | none => stop
@[simp] theorem bd_rt {α β : Type} (a : α) (k : α → Mo β) : bd (rt a) k = k a := rfl
@[simp] theorem bd_stop {α β : Type} (k : α → Mo β) : bd (stop : Mo α) k = stop := rfl

def ExD (K : PySem.W.Frag) (Γ : Gam) (G : Hp) (C : Value) (dd : Option Addr) (x : Exn) : Prop := ∃ a d f v, Γ.cl x.c = some (a, f) ∧ C = .ref a ∧ dd = some d ∧ G d = some (.xd [(f, v)]) ∧ Dv K Γ G v x.v

abbrev Rel (β α : Type) := Hp → Hp → Hp → L2.St → Sg → β → α → Prop
section
variable (K : PySem.W.Frag) (Γ : Gam) (W : WX) {α β : Type}
def tAt (R : Rel β α) (f : Mo α) (H0 G0 G : Hp) (g : Sg) (σ : L2.St) (H : Hp) (Q : β → Hp → Prop) : Prop :=
  En K Γ H0 G0 G H σ g ∧ ∃ r g', f g = some (r, g') ∧ match r with
    | .ok d => ∀ v G' H', Gr G G' → En K Γ H0 G0 G' H' σ g' → R H0 G' H' σ g' v d → Q v H'
    | .error x => ∀ C dd G' H', Gr G G' → En K Γ H0 G0 G' H' σ g' → ExD K Γ G' C dd x → W C dd σ H'
def tG (R : Rel β α) (f : Mo α) : L2.St → Hp → (β → Hp → Prop) → Prop := fun σ H Q => ∃ H0 G0 G g, tAt K Γ W R f H0 G0 G g σ H Q
def RD : Rel V D := fun _ G _ _ _ v d => Dv K Γ G v d
def RA : Rel (List V) (List D) := fun _ G _ _ _ v d => DvA K Γ G v d
def RB : Rel Bool Bool := fun _ _ _ _ _ v d => v = d
def RF : Rel V (List D) := fun H0 G H σ g v d => Fre K Γ H0 G H σ g v d
/-- a list as it stands, of one's own or known -/
def RP : Rel V (List D) := fun _ G H _ _ v d => ∃ l vs, v = .ref l ∧ (SqL K H l vs ∨ SqT K G l vs) ∧ DvA K Γ G vs d
end

section
variable {K : PySem.W.Frag} {Γ : Gam} {W : WX} {α β α' β' : Type}
theorem tAt.bind {R : Rel β α} {R1 : Rel β' α'} {f : Mo α'} {k : α' → Mo α} {H0 G0 G H : Hp} {g : Sg} {σ : L2.St} {Q : β → Hp → Prop} {P : β' → Hp → Prop}
    (h : tAt K Γ W R (bd f k) H0 G0 G g σ H Q) (hp : ∀ d v g1 G1 H1, Gr G G1 → R1 H0 G1 H1 σ g1 v d → tAt K Γ W R (k d) H0 G0 G1 g1 σ H1 Q → P v H1) : tAt K Γ W R1 f H0 G0 G g σ H P := by
  obtain ⟨E, r, g', e, q⟩ := h
  refine ⟨E, ?_⟩
  unfold bd at e
  cases hf : f g with
  | none => (rw [hf] at e); cases e
  | some p =>
    obtain ⟨r1, g1⟩ := p
    rw [hf] at e
    cases r1 with
    | error x =>
      cases e
      exact ⟨.error x, _, rfl, q⟩
    | ok d =>
      refine ⟨.ok d, g1, rfl, fun v G1 H1 gr E1 r1 => hp d v g1 G1 H1 gr r1 ⟨E1, r, g', e, ?_⟩⟩
      cases r with
      | ok d2 => exact fun v2 G2 H2 gr2 => q v2 G2 H2 (gr.trans gr2)
      | error x => exact fun C dd G2 H2 gr2 => q C dd G2 H2 (gr.trans gr2)
theorem tG.bind {R : Rel β α} {R1 : Rel β' α'} {f : Mo α'} {k : α' → Mo α} {H : Hp} {σ : L2.St} {Q : β → Hp → Prop} {P : β' → Hp → Prop}
    (h : tG K Γ W R (bd f k) σ H Q) (hp : ∀ H0 G0 d v g1 G1 H1, R1 H0 G1 H1 σ g1 v d → tAt K Γ W R (k d) H0 G0 G1 g1 σ H1 Q → P v H1) : tG K Γ W R1 f σ H P := by
  obtain ⟨H0, G0, G, g, h⟩ := h
  exact ⟨H0, G0, G, g, h.bind fun d v g1 G1 H1 _ => hp H0 G0 d v g1 G1 H1⟩
theorem tAt.g {R : Rel β α} {f : Mo α} {H0 G0 G H : Hp} {g : Sg} {σ : L2.St} {Q : β → Hp → Prop} (h : tAt K Γ W R f H0 G0 G g σ H Q) : tG K Γ W R f σ H Q := ⟨H0, G0, G, g, h⟩
theorem tAt.stop {R : Rel β α} {H0 G0 G H : Hp} {g : Sg} {σ : L2.St} {Q : β → Hp → Prop} {P : Prop} (h : tAt K Γ W R stop H0 G0 G g σ H Q) : P := by
  obtain ⟨_, _, _, e, _⟩ := h
  cases e
/-- the end: the very value -/
theorem tAt.here {R : Rel β α} {d : α} {v : β} {H0 G0 G H : Hp} {g : Sg} {σ : L2.St} {Q : β → Hp → Prop} (h : tAt K Γ W R (rt d) H0 G0 G g σ H Q) (r : R H0 G H σ g v d) : Q v H := by
  obtain ⟨E, _, _, e, q⟩ := h
  cases e
  exact q v G H (Gr.refl _) E r
/-- the end: a new known object -/
theorem tAt.new {d : D} {p : Addr} {o : HO} {H0 G0 G H : Hp} {g : Sg} {σ : L2.St} {Q : VK} (h : tAt K Γ W (RD K Γ) (rt d) H0 G0 G g σ H Q) (hp : H p = none) (r : Dv K Γ (upd G p o) (.ref p) d) : Q (.ref p) (upd H p o) := by
  obtain ⟨E, _, _, e, q⟩ := h
  cases e
  have gp : G p = none := by
    cases h : G p with
    | none => rfl
    | some u => rw [E.sub _ _ h] at hp; cases hp
  exact q (.ref p) _ _ (Gr.upd gp) (E.new hp) r
/-- the end: a new list of one's own -/
theorem tAt.newO {ds : List D} {vs : List V} {p : Addr} {H0 G0 G H : Hp} {g : Sg} {σ : L2.St} {Q : VK} (h : tAt K Γ W (RF K Γ) (rt ds) H0 G0 G g σ H Q) (hp : H p = none) (r : DvA K Γ G vs ds) : Q (.ref p) (upd H p (.lst vs)) := by
  obtain ⟨E, _, _, e, q⟩ := h
  cases e
  have gp : G p = none := by
    cases h : G p with
    | none => rfl
    | some u => rw [E.sub _ _ h] at hp; cases hp
  have h0 : H0 p = none := by
    cases h : H0 p with
    | none => rfl
    | some u =>
      obtain ⟨u', z⟩ := E.there h
      rw [hp] at z; cases z
  refine q (.ref p) _ _ (Gr.refl _) (E.newO hp) ⟨p, vs, rfl, upd_same, gp, h0, r, fun i zs hi => ?_⟩
  obtain ⟨l, _, k1, k2, _⟩ := E.own i zs hi
  rw [k1]
  intro z
  cases z
  rw [k2] at hp; cases hp
theorem tAt.en {R : Rel β α} {f : Mo α} {H0 G0 G H : Hp} {g : Sg} {σ : L2.St} {Q : β → Hp → Prop} (h : tAt K Γ W R f H0 G0 G g σ H Q) : En K Γ H0 G0 G H σ g := h.1
/-- a list of one's own that no name holds is known from now on -/
theorem En.free {H0 G0 G H : Hp} {σ : L2.St} {g : Sg} (E : En K Γ H0 G0 G H σ g) {v : V} {ds : List D} (hF : Fre K Γ H0 G H σ g v ds) : ∃ G', Gr G G' ∧ Dv K Γ G' v (.lst ds) ∧ En K Γ H0 G0 G' H σ g := by
  obtain ⟨p, vs, rfl, h1, h2, h3, h4, h5⟩ := hF.at_
  have gr : Gr G (upd G p (.lst vs)) := Gr.upd h2
  obtain ⟨lm, hM, hG⟩ := E.st
  have ml : Γ.M ≠ p := by rintro rfl; rw [hM] at h1; cases h1
  refine ⟨_, gr, .lst upd_same (h4.mono gr), E.base, fun a u h h' => ?_, E.g0.trans gr, fun a u h => ?_, by rw [upd_ne ml]; exact E.gm, ⟨lm, hM, gr _ _ hG⟩, E.len, fun j d h => ?_, fun j zs h => ?_, E.dis, E.tb, gtU E.gt E.tb (sf_lst h1), fun i f c q G1 h => (let ⟨x, y, z⟩ := E.fn i f c q G1 h; ⟨x, y, z.trans gr⟩)⟩
  · have : a ≠ p := by rintro rfl; rw [h3] at h; cases h
    rw [upd_ne this]; exact E.gfr a u h h'
  · by_cases e : a = p
    · subst e; rw [upd_same] at h; cases h; exact h1
    · rw [upd_ne e] at h; exact E.sub a u h
  · obtain ⟨v, k1, k2⟩ := E.dat j d h
    exact ⟨v, k1, k2.mono gr⟩
  · obtain ⟨l2, v2, k1, k2, k3, k4, k5⟩ := E.own j zs h
    have : l2 ≠ p := by rintro rfl; exact h5 j zs h k1
    exact ⟨l2, v2, k1, k2, by rw [upd_ne this]; exact k3, k4, k5.mono gr⟩
end

/-! ### judgements -/
theorem _root_.L2.PE.imp {X : Cx} {e : Expr} {t t' : TE} (h : PE X e t) (k : ∀ σ H Q, t' σ H Q → t σ H Q) : PE X e t' := ⟨fun p s σ H Q I q => h.run p s σ H Q I (k _ _ _ q)⟩
theorem _root_.L2.PT.imp {X : Cx} {e : Expr} {t t' : TT} (h : PT X e t) (k : ∀ σ H Q, t' σ H Q → t σ H Q) : PT X e t' := ⟨fun p s σ H Q I q => h.run p s σ H Q I (k _ _ _ q)⟩
theorem _root_.L2.PW.imp {X : Cx} {e : Expr} {t t' : TT} (h : PW X e t) (k : ∀ σ H Q, t' σ H Q → t σ H Q) : PW X e t' := ⟨fun w p s σ H Q I q => h.run w p s σ H Q I (k _ _ _ q)⟩
theorem _root_.L2.PA.imp {X : Cx} {e : List Expr} {t t' : TA} (h : PA X e t) (k : ∀ σ H Q, t' σ H Q → t σ H Q) : PA X e t' := ⟨fun w p s σ H Q I q => h.run w p s σ H Q I (k _ _ _ q)⟩
theorem _root_.L2.PS.imp {X : Cx} {e : Stmt} {t t' : TS} (h : PS X e t) (k : ∀ D σ H, t' D σ H → t D σ H) : PS X e t' := ⟨fun p s σ H D I q => h.run p s σ H D I (k _ _ _ q)⟩
theorem _root_.L2.PSs.imp {X : Cx} {e : List Stmt} {t t' : TS} (h : PSs X e t) (k : ∀ D σ H, t' D σ H → t D σ H) : PSs X e t' := ⟨fun p s σ H D I q => h.run p s σ H D I (k _ _ _ q)⟩

abbrev DX (X : Cx) (Γ : Gam) (W : WX) (e : Expr) (f : Mo D) : Prop := PE X e (tG X.K Γ W (RD X.K Γ) f)
abbrev DF (X : Cx) (Γ : Gam) (W : WX) (e : Expr) (f : Mo (List D)) : Prop := PE X e (tG X.K Γ W (RF X.K Γ) f)
abbrev DP (X : Cx) (Γ : Gam) (W : WX) (e : Expr) (f : Mo (List D)) : Prop := PE X e (tG X.K Γ W (RP X.K Γ) f)
abbrev DA (X : Cx) (Γ : Gam) (W : WX) (e : List Expr) (f : Mo (List D)) : Prop := PA X e (tG X.K Γ W (RA X.K Γ) f)
abbrev DT (X : Cx) (Γ : Gam) (W : WX) (e : Expr) (f : Mo Bool) : Prop := PT X e (tG X.K Γ W RB f)
abbrev DW (X : Cx) (Γ : Gam) (W : WX) (e : Expr) (f : Mo Bool) : Prop := PW X e (tG X.K Γ W RB f)

section
variable {X : Cx} {Γ : Gam} {W : WX} {a b e : Expr} {es : List Expr} {pos : Pos}
/-! ### names, constants -/
def fName (i : Nat) : Mo D := fun g => match g.r[i]? with
  | some (.dat d) => some (.ok d, g)
  | some (.own xs) => some (.ok (.lst xs), ⟨g.r.set i (.dat (.lst xs)), g.s⟩)
  | _ => none
theorem dv_ (i : Nat) {x : Str} {pos : Pos} (hN : X.N[i]? = some x := by rfl) (hv : Vis X.env.scope x := by first | exact Or.inl rfl | exact Or.inr (Or.inl rfl) | exact Or.inr (Or.inr rfl)) (hd : (x == ("__debug__" : Str)) = false := by decide)
    (hcd : (x == ("__classdict__" : Str)) = false := by decide) : DX X Γ W (.Name x pos) (fName i) :=
  (pe_var hN hv hd hcd).imp fun σ H Q ⟨H0, G0, G, g, E, r, g', e, q⟩ => by
    unfold fName at e
    split at e
    · rename_i d hi
      cases e
      obtain ⟨v, h1, h2⟩ := E.dat i d hi
      exact ⟨v, h1, q v G H (Gr.refl _) E h2⟩
    · rename_i xs hi
      cases e
      obtain ⟨l, G', h1, gr, h2, E2⟩ := E.rel hi
      exact ⟨_, h1, q _ G' H gr E2 h2⟩
    · cases e
/-- a list that a name holds, looked at -/
def fPeek (i : Nat) : Mo (List D) := fun g => match g.r[i]? with
  | some (.dat (.lst xs)) => some (.ok xs, g)
  | some (.dat (.tup xs)) => some (.ok xs, g)
  | some (.own xs) => some (.ok xs, g)
  | _ => none
theorem Dv.lst_inv {K : PySem.W.Frag} {G : Hp} {v : V} {xs : List D} (h : Dv K Γ G v (.lst xs)) : ∃ l vs, v = .ref l ∧ G l = some (.lst vs) ∧ DvA K Γ G vs xs := by
  cases h with
  | lst h t => exact ⟨_, _, rfl, h, t⟩
theorem Dv.tup_inv {K : PySem.W.Frag} {G : Hp} {v : V} {xs : List D} (h : Dv K Γ G v (.tup xs)) : ∃ l vs, v = .ref l ∧ SqT K G l vs ∧ DvA K Γ G vs xs := by
  cases h with
  | tup h t => exact ⟨_, _, rfl, h, t⟩
theorem dp_ (i : Nat) {x : Str} {pos : Pos} (hN : X.N[i]? = some x := by rfl) (hv : Vis X.env.scope x := by first | exact Or.inl rfl | exact Or.inr (Or.inl rfl) | exact Or.inr (Or.inr rfl)) (hd : (x == ("__debug__" : Str)) = false := by decide)
    (hcd : (x == ("__classdict__" : Str)) = false := by decide) : DP X Γ W (.Name x pos) (fPeek i) :=
  (pe_var hN hv hd hcd).imp fun σ H Q ⟨H0, G0, G, g, E, r, g', e, q⟩ => by
    unfold fPeek at e
    split at e
    · rename_i xs hi
      cases e
      obtain ⟨v, h1, h2⟩ := E.dat i _ hi
      obtain ⟨l, vs, rfl, h3, h4⟩ := h2.lst_inv
      exact ⟨_, h1, q _ G H (Gr.refl _) E ⟨l, vs, rfl, .inl (SqL.of (E.sub _ _ h3)), h4⟩⟩
    · rename_i xs hi
      cases e
      obtain ⟨v, h1, h2⟩ := E.dat i _ hi
      obtain ⟨l, vs, rfl, h3, h4⟩ := h2.tup_inv
      exact ⟨_, h1, q _ G H (Gr.refl _) E ⟨l, vs, rfl, .inr h3, h4⟩⟩
    · rename_i xs hi
      cases e
      obtain ⟨l, vs, h1, h2, _, _, h5⟩ := E.own i xs hi
      exact ⟨_, h1, q _ G H (Gr.refl _) E ⟨l, vs, rfl, .inl (SqL.of h2), h5⟩⟩
    · cases e
theorem dc_of {e : Expr} {v : V} {d : D} (h : PE X e (tC v)) (r : ∀ G, Dv X.K Γ G v d) : DX X Γ W e (rt d) := h.imp fun σ H Q ⟨H0, G0, G, g, h⟩ => h.here (v := v) (r _)
theorem d_int {i j pos} : DX X Γ W (.Constant (.int i) j pos) (rt (.int i)) := dc_of pe_int fun _ => .int i
theorem d_bl {i j pos} : DX X Γ W (.Constant (.bool i) j pos) (rt (.bl i)) := dc_of pe_bl fun _ => .bl i
theorem d_non {j pos} : DX X Γ W (.Constant .none j pos) (rt .non) := dc_of pe_non fun _ => .non
theorem d_str {x j pos} : DX X Γ W (.Constant (.str x) j pos) (rt (.str x)) := dc_of pe_str fun _ => .str x
theorem d_glob {x : Str} {v : V} {u : Value} {d : D} {pos : Pos} (hg : Gl X x) (hm : X.mg x = some u) (r : RelV v u) (h : ∀ G, Dv X.K Γ G v d) (hd : (x == ("__debug__" : Str)) = false := by decide) : DX X Γ W (.Name x pos) (rt d) := dc_of (pe_glob hg hm r hd) h

/-! ### arguments, displays -/
def fCons (f : Mo D) (fs : Mo (List D)) : Mo (List D) := bd f fun d => bd fs fun ds => rt (d :: ds)
theorem da_nil : DA X Γ W [] (rt []) := pa_nil.imp fun σ H Q ⟨H0, G0, G, g, h⟩ => h.here (v := []) .nil
theorem da_cons {f : Mo D} {fs : Mo (List D)} (ha : DX X Γ W e f) (hr : DA X Γ W es fs) (hs : starEach (e :: es) X.env = (false, eval e X.env) :: starEach es X.env := by rfl) : DA X Γ W (e :: es) (fCons f fs) :=
  (pa_cons ha hr hs).imp fun σ H Q h => h.bind fun H0 G0 d v g1 G1 H1 r1 h1 => (h1.bind fun ds vs g2 G2 H2 gr r2 h2 => h2.here (v := v :: vs) (.cons (r1.mono gr) r2)).g
def fTup (f : Mo (List D)) : Mo D := bd f fun ds => if ds.length ≤ 100000 then rt (.tup ds) else stop
def fLst (f : Mo (List D)) : Mo (List D) := bd f fun ds => if ds.length ≤ 100000 then rt ds else stop
theorem sz5 {n : Nat} (h : n ≤ 100000) : n ≤ sizeLine := Nat.le_trans h (by decide)
theorem d_tup {x1} {f : Mo (List D)} (h : DA X Γ W es f) : DX X Γ W (.Tuple es x1 pos) (fTup f) :=
  (pe_tup h).imp fun σ H Q h => h.bind fun H0 G0 ds vs g1 G1 H1 r1 h1 => by
    by_cases c : ds.length ≤ 100000
    · rw [if_pos c] at h1
      refine ⟨by rw [r1.length]; exact sz5 c, fun p hp => h1.new hp (.tup (SqT.of upd_same) (r1.mono (Gr.upd ?_)))⟩
      cases z : G1 p with
      | none => rfl
      | some u => rw [h1.en.sub _ _ z] at hp; cases hp
    · rw [if_neg c] at h1; exact h1.stop
theorem d_lstO {f : Mo (List D)} (h : DA X Γ W es f) : DF X Γ W (.List es pos) (fLst f) :=
  (pe_lst h).imp fun σ H Q h => h.bind fun H0 G0 ds vs g1 G1 H1 r1 h1 => by
    by_cases c : ds.length ≤ 100000
    · rw [if_pos c] at h1
      exact ⟨by rw [r1.length]; exact sz5 c, fun p hp => h1.newO hp r1⟩
    · rw [if_neg c] at h1; exact h1.stop
/-- a new list, let go at once -/
def fLet (f : Mo (List D)) : Mo D := bd f fun ds => rt (.lst ds)
theorem d_let {f : Mo (List D)} (h : DF X Γ W e f) : DX X Γ W e (fLet f) :=
  h.imp fun σ H Q h => h.bind fun H0 G0 ds v g1 G1 H1 r1 h1 => by
    obtain ⟨G', gr, dv, E⟩ := h1.en.free r1
    obtain ⟨_, _, _, e, q⟩ := h1
    cases e
    exact q v G' H1 gr E dv
theorem d_pk {f : Mo (List D)} (h : DF X Γ W e f) : DP X Γ W e f :=
  h.imp fun σ H Q ⟨H0, G0, G, g, E, r, g', e, q⟩ => ⟨H0, G0, G, g, E, r, g', e, by
    cases r with
    | error x => exact q
    | ok ds => exact fun v G' H' gr E' ⟨p, vs, h0, h1, h2, h3, h4, h5⟩ => q v G' H' gr E' ⟨p, vs, h0, .inl (SqL.of h1), h4⟩⟩
def aLst : D → Mo (List D)
  | .lst xs => rt xs
  | .tup xs => rt xs
  | _ => stop
def fPk (f : Mo D) : Mo (List D) := bd f aLst
theorem d_pkD {f : Mo D} (h : DX X Γ W e f) : DP X Γ W e (fPk f) :=
  h.imp fun σ H Q h => h.bind fun H0 G0 d v g1 G1 H1 r1 h1 => by
    unfold aLst at h1
    split at h1
    · obtain ⟨l, vs, rfl, h3, h4⟩ := Dv.lst_inv r1
      exact h1.here ⟨l, vs, rfl, .inl (SqL.of (h1.en.sub _ _ h3)), h4⟩
    · obtain ⟨l, vs, rfl, h3, h4⟩ := Dv.tup_inv r1
      exact h1.here ⟨l, vs, rfl, .inr h3, h4⟩
    · exact h1.stop

/-! ### operators -/
def f2 (p : D → D → Mo D) (f h : Mo D) : Mo D := bd f fun d => bd h fun e => p d e
/-- a two-place operation by data -/
def BinD (X : Cx) (Γ : Gam) (W : WX) (F : Value → Value → Sem Value) (p : D → D → Mo D) : Prop :=
  OpR X F fun x y H Q => ∃ H0 G0 G g σ d e, Dv X.K Γ G x d ∧ Dv X.K Γ G y e ∧ tAt X.K Γ W (RD X.K Γ) (p d e) H0 G0 G g σ H Q
theorem d_bin {op : Operator} {p : D → D → Mo D} {f h : Mo D} (ho : BinD X Γ W (binaryOp op) p) (ha : DX X Γ W a f) (hb : DX X Γ W b h) : DX X Γ W (.BinOp a op b pos) (f2 p f h) :=
  (pe_op ho ha hb).imp fun σ H Q h => h.bind fun H0 G0 d v g1 G1 H1 r1 h1 => (h1.bind fun e u g2 G2 H2 gr r2 h2 => ⟨H0, G0, G2, g2, σ, d, e, r1.mono gr, r2, h2⟩).g
theorem d_cmp {op : CmpOp} {p : D → D → Mo D} {f h : Mo D} (ho : BinD X Γ W (compareOp op) p) (ha : DX X Γ W a f) (hb : DX X Γ W b h) (hm : behindInMarks op b = false) : DX X Γ W (.Compare a [op] [b] pos) (f2 p f h) :=
  (pe_cmpR ho ha hb hm).imp fun σ H Q h => h.bind fun H0 G0 d v g1 G1 H1 r1 h1 => (h1.bind fun e u g2 G2 H2 gr r2 h2 => ⟨H0, G0, G2, g2, σ, d, e, r1.mono gr, r2, h2⟩).g
def aB : D → Mo Bool
  | .bl b => rt b
  | _ => stop
def fT (f : Mo D) : Mo Bool := bd f aB
theorem Dv.bl_inv {K : PySem.W.Frag} {G : Hp} {v : V} {d : D} {b : Bool} (h : Dv K Γ G v (.bl b)) : v = .bl b := by cases h; rfl
theorem tT {k : L2.St → Hp → VK → Prop} {f : Mo D} {σ : L2.St} {H : Hp} {Q : Bool → Hp → Prop} (h : tG X.K Γ W RB (fT f) σ H Q) : tG X.K Γ W (RD X.K Γ) f σ H (fun x H1 => ∃ c, x = .bl c ∧ Q c H1) :=
  h.bind fun H0 G0 d v g1 G1 H1 r1 h1 => by
    unfold aB at h1
    split at h1
    · cases r1
      exact ⟨_, rfl, h1.here rfl⟩
    · exact h1.stop
theorem t_val {f : Mo D} (h : DX X Γ W e f) (he : ∀ whole, isTrue e X.env whole = (do let v ← whole; standAt e.pos; holding [v] (truthy v)) := by intro _; rfl) : DT X Γ W e (fT f) :=
  (pt_val h he).imp fun σ H Q h => tT (k := fun _ _ _ => True) h
theorem t_cmp {op : CmpOp} {p : D → D → Mo D} {f h : Mo D} (ho : BinD X Γ W (compareOp op) p) (ha : DX X Γ W a f) (hb : DX X Γ W b h) (hm : behindInMarks op b = false) : DT X Γ W (.Compare a [op] [b] pos) (fT (f2 p f h)) :=
  (pt_cmpR ho ha hb hm).imp fun σ H Q h => (tT (k := fun _ _ _ => True) h).bind fun H0 G0 d v g1 G1 H1 r1 h1 => (h1.bind fun e u g2 G2 H2 gr r2 h2 => ⟨H0, G0, G2, g2, σ, d, e, r1.mono gr, r2, h2⟩).g
/-! ### tests -/
def fNot (f : Mo Bool) : Mo Bool := bd f fun b => rt (!b)
def fAnd (f h : Mo Bool) : Mo Bool := bd f fun b => if b = true then h else rt false
def fOr (f h : Mo Bool) : Mo Bool := bd f fun b => if b = true then rt true else h
theorem t_not {f : Mo Bool} (h : DT X Γ W a f) : DT X Γ W (.UnaryOp .Not a pos) (fNot f) :=
  (pt_not h).imp fun σ H Q h => h.bind fun H0 G0 d v g1 G1 H1 r1 h1 => by
    cases r1; exact h1.here rfl
variable {rest : List Expr}
theorem w_and1 {f : Mo Bool} (h : DT X Γ W a f) : DW X Γ W (.BoolOp .And [a] pos) f := pw_and1 h
theorem w_or1 {f : Mo Bool} (h : DT X Γ W a f) : DW X Γ W (.BoolOp .Or [a] pos) f := pw_or1 h
theorem w_and {f h : Mo Bool} (ha : DT X Γ W a f) (hb : DW X Γ W (.BoolOp .And (b :: rest) pos) h) : DW X Γ W (.BoolOp .And (a :: b :: rest) pos) (fAnd f h) :=
  (pw_and ha hb).imp fun σ H Q h => h.bind fun H0 G0 d v g1 G1 H1 r1 h1 => by
    cases r1
    cases d with
    | true => rw [if_pos rfl] at h1 ⊢; exact h1.g
    | false => rw [if_neg Bool.false_ne_true] at h1 ⊢; exact h1.here rfl
theorem w_or {f h : Mo Bool} (ha : DT X Γ W a f) (hb : DW X Γ W (.BoolOp .Or (b :: rest) pos) h) : DW X Γ W (.BoolOp .Or (a :: b :: rest) pos) (fOr f h) :=
  (pw_or ha hb).imp fun σ H Q h => h.bind fun H0 G0 d v g1 G1 H1 r1 h1 => by
    cases r1
    cases d with
    | true => rw [if_pos rfl] at h1 ⊢; exact h1.here rfl
    | false => rw [if_neg Bool.false_ne_true] at h1 ⊢; exact h1.g
theorem t_w {f : Mo Bool} (h : DW X Γ W e f) : DT X Γ W e f := h.pt
/-- values that are bools -/
def fNotV (f : Mo D) : Mo D := bd f fun d => bd (aB d) fun b => rt (.bl (!b))
def fAndV (f h : Mo D) : Mo D := bd f fun d => bd (aB d) fun b => if b = true then h else rt (.bl false)
def fOrV (f h : Mo D) : Mo D := bd f fun d => bd (aB d) fun b => if b = true then rt (.bl true) else h
theorem tAt.bl {β : Type} {α : Type} {R : Rel β α} {k : Bool → Mo α} {d : D} {v : V} {H0 G0 G H : Hp} {g : Sg} {σ : L2.St} {Q : β → Hp → Prop} {K : PySem.W.Frag} (h : tAt K Γ W R (bd (aB d) k) H0 G0 G g σ H Q) (r : Dv K Γ G v d) : ∃ b, v = .bl b ∧ tAt K Γ W R (k b) H0 G0 G g σ H Q := by
  unfold aB at h
  split at h
  · cases r; exact ⟨_, rfl, h⟩
  · exact h.stop
theorem d_not {f : Mo D} (h : DX X Γ W a f) : DX X Γ W (.UnaryOp .Not a pos) (fNotV f) :=
  (pe_not h).imp fun σ H Q h => h.bind fun H0 G0 d v g1 G1 H1 r1 h1 => by
    obtain ⟨b, rfl, h2⟩ := h1.bl r1
    exact ⟨b, rfl, h2.here (.bl _)⟩
theorem d_one {op} {f : Mo D} (h : DX X Γ W a f) : DX X Γ W (.BoolOp op [a] pos) f := pe_one h
theorem d_and {f h : Mo D} (ha : DX X Γ W a f) (hb : DX X Γ W (.BoolOp .And (b :: rest) pos) h) : DX X Γ W (.BoolOp .And (a :: b :: rest) pos) (fAndV f h) :=
  (pe_and ha hb).imp fun σ H Q h => h.bind fun H0 G0 d v g1 G1 H1 r1 h1 => by
    obtain ⟨b, rfl, h2⟩ := h1.bl r1
    refine ⟨b, rfl, ?_⟩
    cases b with
    | true => rw [if_pos rfl] at h2 ⊢; exact h2.g
    | false => rw [if_neg Bool.false_ne_true] at h2 ⊢; exact h2.here (.bl _)
theorem d_or {f h : Mo D} (ha : DX X Γ W a f) (hb : DX X Γ W (.BoolOp .Or (b :: rest) pos) h) : DX X Γ W (.BoolOp .Or (a :: b :: rest) pos) (fOrV f h) :=
  (pe_or ha hb).imp fun σ H Q h => h.bind fun H0 G0 d v g1 G1 H1 r1 h1 => by
    obtain ⟨b, rfl, h2⟩ := h1.bl r1
    refine ⟨b, rfl, ?_⟩
    cases b with
    | true => rw [if_pos rfl] at h2 ⊢; exact h2.here (.bl _)
    | false => rw [if_neg Bool.false_ne_true] at h2 ⊢; exact h2.g
def fIfE {α : Type} (c : Mo Bool) (f h : Mo α) : Mo α := bd c fun b => if b = true then f else h
theorem d_ifE {c : Expr} {fc : Mo Bool} {f h : Mo D} (hc : DT X Γ W c fc) (ha : DX X Γ W a f) (hb : DX X Γ W b h) : DX X Γ W (.IfExp c a b pos) (fIfE fc f h) :=
  (pe_ifExp hc ha hb).imp fun σ H Q h => h.bind fun H0 G0 d v g1 G1 H1 r1 h1 => by
    cases r1
    cases d with
    | true => rw [if_pos rfl] at h1 ⊢; exact h1.g
    | false => rw [if_neg Bool.false_ne_true] at h1 ⊢; exact h1.g
end
end DE
namespace DE
open PyProof.Rows PySem.Spec PySem L2

/-! ### statements -/
inductive Out where
  | nx | ret (d : D) | brk | ct | exc (x : Exn)
abbrev Ms := Sg → Option (Out × Sg)
def sb {α : Type} (f : Mo α) (k : α → Ms) : Ms := fun g => match f g with
  | none => none
  | some (.error x, g1) => some (.exc x, g1)
  | some (.ok a, g1) => k a g1
def sOut (o : Out) : Ms := fun g => some (o, g)
def sStop : Ms := fun _ => none
@[simp] theorem sb_rt {α : Type} (a : α) (k : α → Ms) : sb (rt a) k = k a := rfl
@[simp] theorem sb_stop {α : Type} (k : α → Ms) : sb (stop : Mo α) k = sStop := rfl
def fSeq (f k : Ms) : Ms := fun g => match f g with
  | some (.nx, g1) => k g1
  | o => o
section
variable (K : PySem.W.Frag) (Γ : Gam) (W : WX)
def tSt (f : Ms) (H0 G0 G : Hp) (g : Sg) (Ds : Ends) (σ : L2.St) (H : Hp) : Prop :=
  En K Γ H0 G0 G H σ g ∧ ∃ o g', f g = some (o, g') ∧ match o with
    | .nx => ∀ σ' G' H', Gr G G' → En K Γ H0 G0 G' H' σ' g' → Ds.nx σ' H'
    | .brk => ∀ σ' G' H', Gr G G' → En K Γ H0 G0 G' H' σ' g' → Ds.bk σ' H'
    | .ct => ∀ σ' G' H', Gr G G' → En K Γ H0 G0 G' H' σ' g' → Ds.ct σ' H'
    | .ret d => ∀ v σ' G' H', Gr G G' → En K Γ H0 G0 G' H' σ' g' → Dv K Γ G' v d → Ds.rt v H'
    | .exc x => ∀ C dd σ' G' H', Gr G G' → En K Γ H0 G0 G' H' σ' g' → ExD K Γ G' C dd x → W C dd σ' H'
def tS (f : Ms) : TS := fun Ds σ H => ∃ H0 G0 G g, tSt K Γ W f H0 G0 G g Ds σ H
end
section
variable {K : PySem.W.Frag} {Γ : Gam} {W : WX} {α β : Type}
theorem tSt.bind {R1 : Rel β α} {f : Mo α} {k : α → Ms} {H0 G0 G H : Hp} {g : Sg} {σ : L2.St} {Ds : Ends} {P : β → Hp → Prop}
    (h : tSt K Γ W (sb f k) H0 G0 G g Ds σ H) (hp : ∀ d v g1 G1 H1, f g = some (.ok d, g1) → Gr G G1 → R1 H0 G1 H1 σ g1 v d → tSt K Γ W (k d) H0 G0 G1 g1 Ds σ H1 → P v H1) : tAt K Γ W R1 f H0 G0 G g σ H P := by
  obtain ⟨E, o, g', e, q⟩ := h
  refine ⟨E, ?_⟩
  unfold sb at e
  cases hf : f g with
  | none => (rw [hf] at e); cases e
  | some p =>
    obtain ⟨r1, g1⟩ := p
    rw [hf] at e
    cases r1 with
    | error x =>
      cases e
      exact ⟨.error x, _, rfl, fun C dd G' H' gr E' hx => q C dd σ G' H' gr E' hx⟩
    | ok d =>
      refine ⟨.ok d, g1, rfl, fun v G1 H1 gr E1 r1 => hp d v g1 G1 H1 hf gr r1 ⟨E1, o, g', e, ?_⟩⟩
      cases o with
      | nx => exact fun σ2 G2 H2 gr2 => q σ2 G2 H2 (gr.trans gr2)
      | brk => exact fun σ2 G2 H2 gr2 => q σ2 G2 H2 (gr.trans gr2)
      | ct => exact fun σ2 G2 H2 gr2 => q σ2 G2 H2 (gr.trans gr2)
      | ret d2 => exact fun v2 σ2 G2 H2 gr2 => q v2 σ2 G2 H2 (gr.trans gr2)
      | exc x => exact fun C dd σ2 G2 H2 gr2 => q C dd σ2 G2 H2 (gr.trans gr2)
theorem tS.bind {R1 : Rel β α} {f : Mo α} {k : α → Ms} {H : Hp} {σ : L2.St} {Ds : Ends} {P : β → Hp → Prop}
    (h : tS K Γ W (sb f k) Ds σ H) (hp : ∀ H0 G0 d v g1 G1 H1, R1 H0 G1 H1 σ g1 v d → tSt K Γ W (k d) H0 G0 G1 g1 Ds σ H1 → P v H1) : tG K Γ W R1 f σ H P := by
  obtain ⟨H0, G0, G, g, h⟩ := h
  exact ⟨H0, G0, G, g, h.bind fun d v g1 G1 H1 _ _ => hp H0 G0 d v g1 G1 H1⟩
theorem tSt.s {f : Ms} {H0 G0 G H : Hp} {g : Sg} {σ : L2.St} {Ds : Ends} (h : tSt K Γ W f H0 G0 G g Ds σ H) : tS K Γ W f Ds σ H := ⟨H0, G0, G, g, h⟩
theorem tSt.stop {H0 G0 G H : Hp} {g : Sg} {σ : L2.St} {Ds : Ends} {P : Prop} (h : tSt K Γ W sStop H0 G0 G g Ds σ H) : P := by
  obtain ⟨_, _, _, e, _⟩ := h
  cases e
theorem tSt.no {f : Ms} {H0 G0 G H : Hp} {g : Sg} {σ : L2.St} {Ds : Ends} {P : Prop} (h : tSt K Γ W f H0 G0 G g Ds σ H) (e : f g = none) : P := by
  obtain ⟨_, _, _, e', _⟩ := h
  rw [e] at e'; cases e'
theorem tSt.next {f : Ms} {g g' : Sg} {H0 G0 G H H' : Hp} {σ σ' : L2.St} {Ds : Ends} (h : tSt K Γ W f H0 G0 G g Ds σ H) (e : f g = some (.nx, g')) {G' : Hp} (gr : Gr G G') (E : En K Γ H0 G0 G' H' σ' g') : Ds.nx σ' H' := by
  obtain ⟨_, _, _, e', q⟩ := h
  rw [e] at e'; cases e'
  exact q σ' G' H' gr E
/-- .. the next state, then the rest -/
theorem tSt.seq {f k : Ms} {H0 G0 G H : Hp} {g : Sg} {σ : L2.St} {Ds : Ends} (h : tSt K Γ W (fSeq f k) H0 G0 G g Ds σ H) {N : L2.St → Hp → Prop}
    (hn : ∀ σ1 G1 H1 g1, Gr G G1 → tSt K Γ W k H0 G0 G1 g1 Ds σ1 H1 → N σ1 H1) : tSt K Γ W f H0 G0 G g { Ds with nx := N } σ H := by
  obtain ⟨E, o, g', e, q⟩ := h
  refine ⟨E, ?_⟩
  unfold fSeq at e
  cases hf : f g with
  | none => simp only [hf] at e; cases e
  | some p =>
    obtain ⟨o1, g1⟩ := p
    simp only [hf] at e
    cases o1 with
    | nx =>
      refine ⟨.nx, g1, rfl, fun σ1 G1 H1 gr E1 => hn σ1 G1 H1 g1 gr ⟨E1, o, g', e, ?_⟩⟩
      cases o with
      | nx => exact fun σ2 G2 H2 gr2 => q σ2 G2 H2 (gr.trans gr2)
      | brk => exact fun σ2 G2 H2 gr2 => q σ2 G2 H2 (gr.trans gr2)
      | ct => exact fun σ2 G2 H2 gr2 => q σ2 G2 H2 (gr.trans gr2)
      | ret d2 => exact fun v2 σ2 G2 H2 gr2 => q v2 σ2 G2 H2 (gr.trans gr2)
      | exc x => exact fun C dd σ2 G2 H2 gr2 => q C dd σ2 G2 H2 (gr.trans gr2)
    | brk => cases e; exact ⟨.brk, _, rfl, q⟩
    | ct => cases e; exact ⟨.ct, _, rfl, q⟩
    | ret d => cases e; exact ⟨.ret d, _, rfl, q⟩
    | exc x => cases e; exact ⟨.exc x, _, rfl, q⟩
end

abbrev DS_ (X : Cx) (Γ : Gam) (W : WX) (st : Stmt) (f : Ms) : Prop := PS X st (tS X.K Γ W f)
abbrev DB (X : Cx) (Γ : Gam) (W : WX) (st : List Stmt) (f : Ms) : Prop := PSs X st (tS X.K Γ W f)
section
variable {X : Cx} {Γ : Gam} {W : WX} {a b e : Expr} {es : List Expr} {pos : Pos} {st : Stmt} {rest body : List Stmt}
theorem b_nil : DB X Γ W [] (sOut .nx) := pss_nil.imp fun Ds σ H ⟨H0, G0, G, g, h⟩ => h.next rfl (Gr.refl _) h.1
theorem b_cons {f k : Ms} (h1 : DS_ X Γ W st f) (h2 : DB X Γ W rest k) : DB X Γ W (st :: rest) (fSeq f k) :=
  (pss_cons h1 h2).imp fun Ds σ H ⟨H0, G0, G, g, h⟩ => ⟨H0, G0, G, g, h.seq fun σ1 G1 H1 g1 _ h1 => h1.s⟩
theorem b_one {f : Ms} (h1 : DS_ X Γ W st f) : DB X Γ W [st] f := pss_one h1
theorem s_pass : DS_ X Γ W (.Pass pos) (sOut .nx) := ps_pass.imp fun Ds σ H ⟨H0, G0, G, g, h⟩ => h.next rfl (Gr.refl _) h.1
theorem s_brk : DS_ X Γ W (.Break pos) (sOut .brk) := ps_break.imp fun Ds σ H ⟨H0, G0, G, g, E, o, g', e, q⟩ => by cases e; exact q σ G H (Gr.refl _) E
theorem s_ct : DS_ X Γ W (.Continue pos) (sOut .ct) := ps_continue.imp fun Ds σ H ⟨H0, G0, G, g, E, o, g', e, q⟩ => by cases e; exact q σ G H (Gr.refl _) E
theorem s_doc {x j pos pos'} : DS_ X Γ W (.Expr (.Constant (.str x) j pos) pos') (sOut .nx) := ps_doc.imp fun Ds σ H ⟨H0, G0, G, g, h⟩ => h.next rfl (Gr.refl _) h.1
def fSet (i : Nat) (f : Mo D) : Ms := sb f fun d g => some (.nx, ⟨g.r.set i (.dat d), g.s⟩)
def fSetO (i : Nat) (f : Mo (List D)) : Ms := sb f fun d g => some (.nx, ⟨g.r.set i (.own d), g.s⟩)
theorem s_set (i : Nat) {x : Str} {pos' : Pos} {f : Mo D} (hN : X.N.Nodup) (he : DX X Γ W e f) (hi : X.N[i]? = some x := by rfl) (hx : Loc X.env.scope x := by first | exact Or.inl rfl | exact Or.inr rfl) (hs : swapsWith e (some (.Name x pos')) pos.line X.env = pure false := by rfl)
    (hf : X.fn x = true ∨ X.env.scope.names.lookup x = some .local := by first | exact .inl rfl | exact .inr rfl | assumption) : DS_ X Γ W (.Assign [.Name x pos'] e pos) (fSet i f) :=
  (ps_set hN hi hx he hs hf).imp fun Ds σ H h => h.bind fun H0 G0 d v g1 G1 H1 r1 h1 => h1.next rfl (Gr.refl _) (h1.1.set i r1)
theorem s_setO (i : Nat) {x : Str} {pos' : Pos} {f : Mo (List D)} (hN : X.N.Nodup) (he : DF X Γ W e f) (hi : X.N[i]? = some x := by rfl) (hx : Loc X.env.scope x := by first | exact Or.inl rfl | exact Or.inr rfl) (hs : swapsWith e (some (.Name x pos')) pos.line X.env = pure false := by rfl)
    (hf : X.fn x = true ∨ X.env.scope.names.lookup x = some .local := by first | exact .inl rfl | exact .inr rfl | assumption) : DS_ X Γ W (.Assign [.Name x pos'] e pos) (fSetO i f) :=
  (ps_set hN hi hx he hs hf).imp fun Ds σ H h => h.bind fun H0 G0 d v g1 G1 H1 r1 h1 => h1.next rfl (Gr.refl _) (h1.1.setO i r1)
def fRet (f : Mo D) : Ms := sb f fun d => sOut (.ret d)
theorem s_ret {f : Mo D} (he : DX X Γ W e f) : DS_ X Γ W (.Return (some e) pos) (fRet f) :=
  (ps_ret he).imp fun Ds σ H h => h.bind fun H0 G0 d v g1 G1 H1 r1 ⟨E, o, g', e, q⟩ => by
    cases e; exact q v σ G1 H1 (Gr.refl _) E r1
def fExp (f : Mo D) : Ms := sb f fun _ => sOut .nx
theorem s_exp {f : Mo D} (he : DX X Γ W e f) (hs : swapsWith e none pos.line X.env = pure false := by rfl) : DS_ X Γ W (.Expr e pos) (fExp f) :=
  (ps_expr he hs).imp fun Ds σ H h => h.bind fun H0 G0 d v g1 G1 H1 r1 h1 => h1.next rfl (Gr.refl _) h1.1
def fIf (c : Mo Bool) (t u : Ms) : Ms := sb c fun b => if b = true then t else u
theorem s_if {c : Expr} {p q : List Stmt} {fc : Mo Bool} {t u : Ms} (hc : DT X Γ W c fc) (ha : DB X Γ W p t) (hb : DB X Γ W q u) : DS_ X Γ W (.If c p q pos) (fIf fc t u) :=
  (ps_if hc ha hb).imp fun Ds σ H h => h.bind fun H0 G0 d v g1 G1 H1 r1 h1 => by
    cases r1
    cases d with
    | true => rw [if_pos rfl] at h1 ⊢; exact h1.s
    | false => rw [if_neg Bool.false_ne_true] at h1 ⊢; exact h1.s
theorem s_never : DS_ X Γ W st sStop := ps_never.imp fun Ds σ H ⟨H0, G0, G, g, h⟩ => h.stop
theorem b_never : DB X Γ W body sStop := pss_never.imp fun Ds σ H ⟨H0, G0, G, g, h⟩ => h.stop

/-! ### targets -/
abbrev Mt := D → Sg → Option Sg
def TgS (K : PySem.W.Frag) (Γ : Gam) (gt : TG) (js : List Nat) (ft : Mt) : Prop := ∀ (v : V) (σ : L2.St) (H : Hp) (Q : L2.St → Hp → Prop) (H0 G0 G : Hp) (g g' : Sg) (d : D), En K Γ H0 G0 G H σ g → Dv K Γ G v d → ft d g = some g' →
  (∀ σ', En K Γ H0 G0 G H σ' g' → (σ'.length = σ.length ∧ ∀ i, i ∉ js → σ'[i]? = σ[i]?) → Q σ' H) → gt v σ H Q
def DG (X : Cx) (Γ : Gam) (tg : Expr) (gt : TG) (js : List Nat) (ft : Mt) : Prop := PG X tg gt ∧ TgS X.K Γ gt js ft
def gN (i : Nat) : Mt := fun d g => some ⟨g.r.set i (.dat d), g.s⟩
theorem g_name (i : Nat) {x : Str} {pos : Pos} (hN : X.N.Nodup) (hi : X.N[i]? = some x := by rfl) (hx : Loc X.env.scope x := by first | exact Or.inl rfl | exact Or.inr rfl)
    (hf : X.fn x = true ∨ X.env.scope.names.lookup x = some .local := by first | exact .inl rfl | exact .inr rfl | assumption) : DG X Γ (.Name x pos) (gName i) [i] (gN i) :=
  ⟨pg_name hN hi hx hf, fun v σ H Q H0 G0 G g g' d E dv e k => by
    cases e
    exact k _ (E.set i dv) ⟨List.length_set, fun j hj => List.getElem?_set_ne (by simp at hj; omega)⟩⟩
abbrev Mts := List D → Sg → Option Sg
def DGs (X : Cx) (Γ : Gam) (tg : List Expr) (gt : TGs) (js : List Nat) (ft : Mts) : Prop := PGs X tg gt ∧ ∀ (vs : List V) (σ : L2.St) (H : Hp) (Q : L2.St → Hp → Prop) (H0 G0 G : Hp) (g g' : Sg) (ds : List D), En X.K Γ H0 G0 G H σ g → DvA X.K Γ G vs ds → ft ds g = some g' →
  (∀ σ', En X.K Γ H0 G0 G H σ' g' → (σ'.length = σ.length ∧ ∀ i, i ∉ js → σ'[i]? = σ[i]?) → Q σ' H) → gt vs σ H Q
def gsNil : Mts := fun ds g => match ds with
  | [] => some g
  | _ => none
def gsCons (t : Mt) (u : Mts) : Mts := fun ds g => match ds with
  | [] => none
  | d :: ds => (t d g).bind (u ds)
theorem gs_nil : DGs X Γ [] gNil [] gsNil := ⟨pgs_nil, fun vs σ H Q H0 G0 G g g' ds E dv e k => by
  cases ds with
  | nil => cases dv; cases e; exact ⟨rfl, k _ E ⟨rfl, fun _ _ => rfl⟩⟩
  | cons d ds => cases e⟩
theorem gs_cons {t : Mt} {u : Mts} {j1 j2 : List Nat} {t' : TG} {u' : TGs} (h1 : DG X Γ e t' j1 t) (h2 : DGs X Γ es u' j2 u) (hs : (assignEach (e :: es) X.env).map (·.2) = assign e X.env :: (assignEach es X.env).map (·.2) := by rfl) : DGs X Γ (e :: es) (gCons t' u') (j1 ++ j2) (gsCons t u) := by
  obtain ⟨p1, k1⟩ := h1
  obtain ⟨p2, k2⟩ := h2
  refine ⟨pgs_cons p1 p2 hs, fun vs σ H Q H0 G0 G g g' ds E dv e k => ?_⟩
  cases ds with
  | nil => cases e
  | cons d ds =>
    cases dv with
    | cons dv dvs =>
      cases ht : t d g with
      | none => unfold gsCons at e; simp only [ht] at e; cases e
      | some g1 =>
        have e : u ds g1 = some g' := by unfold gsCons at e; simp only [ht, Option.bind_some] at e; exact e
        exact ⟨_, _, rfl, k1 _ σ H _ H0 G0 G g g1 d E dv ht fun σ1 E1 f1 => k2 _ σ1 H Q H0 G0 G g1 g' ds E1 dvs e fun σ2 E2 f2 => k σ2 E2 ⟨f2.1.trans f1.1, fun i hi => (f2.2 i fun z => hi (List.mem_append_right _ z)).trans (f1.2 i fun z => hi (List.mem_append_left _ z))⟩⟩
def gT (n : Nat) (u : Mts) : Mt := fun d g => match d with
  | .tup ds => if ds.length = n then u ds g else none
  | _ => none
theorem g_tup {k : Nat} {u : Mts} {n : Nat} {js : List Nat} {u' : TGs} (hc : X.calm = true) (h : DGs X Γ es u' js u) (hn : (assignEach es X.env).length = n := by rfl) (hst : (assignEach es X.env).findIdx? (·.1) = none := by rfl) : DG X Γ (.Tuple es k pos) (gTup X.K n u') js (gT n u) := by
  obtain ⟨p, q⟩ := h
  refine ⟨pg_tup hc p hn hst, fun v σ H Q H0 G0 G g g' d E dv e k => ?_⟩
  unfold gT at e
  split at e
  · split at e
    · rename_i hl
      obtain ⟨a, xs, rfl, h1, h2⟩ := Dv.tup_inv dv
      exact ⟨a, xs, rfl, E.sub.sqT h1, by rw [h2.length]; exact hl, q xs σ H Q H0 G0 G g g' _ E h2 e k⟩
    · cases e
  · cases e
def fAsg (f : Mo D) (t : Mt) : Ms := sb f fun d g => (t d g).map fun g' => (.nx, g')
theorem s_asg {tg : Expr} {f : Mo D} {t : Mt} {js : List Nat} {gt : TG} (he : DX X Γ W e f) (hg : DG X Γ tg gt js t) (hs : swapsWithSole [tg] e pos.line X.env = pure false := by rfl) (hw : swappedStores [tg] e X.env = pure none := by rfl)
    (h1 : (assignEach [tg] X.env).map (·.2) = [assign tg X.env] := by rfl) : DS_ X Γ W (.Assign [tg] e pos) (fAsg f t) := by
  obtain ⟨p, k⟩ := hg
  refine (ps_asg he p hs hw h1).imp fun Ds σ H h => h.bind fun H0 G0 d v g1 G1 H1 r1 h1 => ?_
  cases ht : t d g1 with
  | none => exact h1.no (by rw [ht]; rfl)
  | some g2 => exact k v σ H1 _ H0 G0 G1 g1 g2 d h1.1 r1 ht fun σ' E' _ => h1.next (by rw [ht]; rfl) (Gr.refl _) E'

/-! ### for -/
def loop (t : Mt) (b : Ms) : List D → Ms
  | [] => sOut .nx
  | d :: ds => fun g => match t d g with
    | none => none
    | some g1 => match b g1 with
      | some (.nx, g2) => loop t b ds g2
      | some (.ct, g2) => loop t b ds g2
      | some (.brk, g2) => some (.nx, g2)
      | o => o
theorem loop_turn {K : PySem.W.Frag} {t : Mt} {f : Ms} {d : D} {ds : List D} {H0 G0 G H : Hp} {g : Sg} {σ : L2.St} {Ds : Ends} {N : L2.St → Hp → Prop} (h : tSt K Γ W (loop t f (d :: ds)) H0 G0 G g Ds σ H) {v : V} {gt : TG} (dv : Dv K Γ G v d)
    (hgt : ∀ (Q : L2.St → Hp → Prop) (g' : Sg), t d g = some g' → (∀ σ', En K Γ H0 G0 G H σ' g' → Q σ' H) → gt v σ H Q)
    (hN : ∀ σ1 G1 H1 g1, Gr G G1 → tSt K Γ W (loop t f ds) H0 G0 G1 g1 Ds σ1 H1 → N σ1 H1) : gt v σ H fun σ2 H2 => tS K Γ W f { Ds with nx := N, ct := N, bk := Ds.nx } σ2 H2 := by
  obtain ⟨E, o, g', e, q⟩ := h
  unfold loop at e
  cases ht : t d g with
  | none => simp only [ht] at e; cases e
  | some g1 =>
    simp only [ht] at e
    refine hgt _ g1 ht fun σ1 E1 => ⟨H0, G0, G, g1, E1, ?_⟩
    cases hf : f g1 with
    | none => simp only [hf] at e; cases e
    | some p =>
      obtain ⟨o1, g2⟩ := p
      simp only [hf] at e
      have nxt : ∀ {e : loop t f ds g2 = some (o, g')} σ2 G2 H2, Gr G G2 → En K Γ H0 G0 G2 H2 σ2 g2 → N σ2 H2 := fun {e} σ2 G2 H2 gr E2 => hN σ2 G2 H2 g2 gr ⟨E2, o, g', e, by
        cases o with
        | nx => exact fun σ3 G3 H3 gr3 => q σ3 G3 H3 (gr.trans gr3)
        | brk => exact fun σ3 G3 H3 gr3 => q σ3 G3 H3 (gr.trans gr3)
        | ct => exact fun σ3 G3 H3 gr3 => q σ3 G3 H3 (gr.trans gr3)
        | ret d2 => exact fun v3 σ3 G3 H3 gr3 => q v3 σ3 G3 H3 (gr.trans gr3)
        | exc x => exact fun C dd σ3 G3 H3 gr3 => q C dd σ3 G3 H3 (gr.trans gr3)⟩
      cases o1 with
      | nx => exact ⟨.nx, g2, rfl, fun σ2 G2 H2 gr E2 => nxt (e := e) σ2 G2 H2 gr E2⟩
      | ct => exact ⟨.ct, g2, rfl, fun σ2 G2 H2 gr E2 => nxt (e := e) σ2 G2 H2 gr E2⟩
      | brk => cases e; exact ⟨.brk, _, rfl, q⟩
      | ret d => cases e; exact ⟨.ret d, _, rfl, q⟩
      | exc x => cases e; exact ⟨.exc x, _, rfl, q⟩
/-- iteration over a known list or tuple -/
def aSeq : D → Option (List D)
  | .lst xs => some xs
  | .tup xs => some xs
  | _ => none
def fFor (f : Mo D) (t : Mt) (b : Ms) : Ms := sb f fun d => match aSeq d with
  | some ds => loop t b ds
  | none => sStop
theorem PI.or {tg iter : Expr} {w u : TI} (h1 : PI X tg iter w) (h2 : PI X tg iter u) : PI X tg iter (fun σ H R => w σ H R ∨ u σ H R) :=
  ⟨fun pins s σ H R I h => h.elim (h1.run pins s σ H R I) (h2.run pins s σ H R I)⟩
theorem s_for {tg iter : Expr} {f : Mo D} {t : Mt} {k : Ms} {js : List Nat} {gt : TG} (hc : X.calm = true) (hp : PassesOwn (model X.prog X.w) X.A X.env X.xe) (hi : DX X Γ W iter f) (hg : DG X Γ tg gt js t) (hb : DB X Γ W body k)
    (hs : ∀ x, foldedSetIterable iter X.env x = pure x := by intro _; rfl) : DS_ X Γ W (.For tg iter body [] pos) (fFor f t k) := by
  obtain ⟨pg, kg⟩ := hg
  refine (ps_for hp hc (PI.or (pi_list (tl := tG X.K Γ W (RD X.K Γ) f) hi) (pi_tup (tl := tG X.K Γ W (RD X.K Γ) f) hi)) pg hb hs).imp fun Ds σ H h => ?_
  obtain ⟨H0, G0, G, g, h⟩ := h
  by_cases hl : ∃ xs g1, f g = some (.ok (D.lst xs), g1)
  · refine .inl ⟨H0, G0, G, g, h.bind (R1 := RD X.K Γ) fun d v g1 G1 H1 hfe gr r1 h1 => ?_⟩
    cases d with
    | lst ds =>
      obtain ⟨l, vs, rfl, h3, h4⟩ := Dv.lst_inv r1
      have h1 : tSt X.K Γ W (loop t k ds) H0 G0 G1 g1 Ds σ H1 := h1
      refine ⟨l, rfl, ⟨vs, SqL.of (h1.1.sub _ _ h3)⟩, for_list (xs := vs) (fun i σ2 H2 => ∃ G2 g2, Gr G1 G2 ∧ tSt X.K Γ W (loop t k (ds.drop i)) H0 G0 G2 g2 Ds σ2 H2) ⟨G1, g1, Gr.refl _, h1⟩ (fun i σ2 H2 _ ⟨G2, g2, gr2, h2⟩ => SqL.of (h2.1.sub _ _ (gr2 _ _ h3))) ?_ ?_⟩
      · rintro i x σ2 H2 hx ⟨G2, g2, gr2, h2⟩
        obtain ⟨d, hd, dv⟩ := h4.get' i hx
        have ed : ds.drop i = d :: ds.drop (i + 1) := by
          obtain ⟨il, e⟩ := List.getElem?_eq_some_iff.mp hd
          rw [← e]; exact List.drop_eq_getElem_cons il
        rw [ed] at h2
        exact loop_turn h2 (dv.mono gr2) (fun Q g' e k => kg x σ2 H2 Q H0 G0 G2 g2 g' d h2.1 (dv.mono gr2) e fun σ' E' _ => k σ' E') fun σ3 G3 H3 g3 gr3 h3 => ⟨G3, g3, gr2.trans gr3, h3⟩
      · rintro σ2 H2 ⟨G2, g2, gr2, h2⟩
        rw [h4.length, List.drop_length] at h2
        exact h2.next rfl (Gr.refl _) h2.1
    | tup ds =>
      obtain ⟨xs, g2, hl⟩ := hl
      rw [hl] at hfe; cases hfe
    | _ => exact h1.stop
  · refine .inr ⟨H0, G0, G, g, ?_⟩
    refine h.bind (R1 := RD X.K Γ) fun d v g1 G1 H1 hfe gr r1 h1 => ?_
    cases d with
    | tup ds =>
      obtain ⟨l, vs, rfl, h3, h4⟩ := Dv.tup_inv r1
      have h1 : tSt X.K Γ W (loop t k ds) H0 G0 G1 g1 Ds σ H1 := h1
      refine ⟨l, rfl, ⟨vs, h1.1.sub.sqT h3⟩, for_tup (xs := vs) (fun i σ2 H2 => ∃ G2 g2, Gr G1 G2 ∧ tSt X.K Γ W (loop t k (ds.drop i)) H0 G0 G2 g2 Ds σ2 H2) ⟨G1, g1, Gr.refl _, h1⟩ (fun i σ2 H2 _ ⟨G2, g2, gr2, h2⟩ => h2.1.sub.sqT (gr2.sqT h3)) ?_ ?_⟩
      · rintro i x σ2 H2 hx ⟨G2, g2, gr2, h2⟩
        obtain ⟨d, hd, dv⟩ := h4.get' i hx
        have ed : ds.drop i = d :: ds.drop (i + 1) := by
          obtain ⟨il, e⟩ := List.getElem?_eq_some_iff.mp hd
          rw [← e]; exact List.drop_eq_getElem_cons il
        rw [ed] at h2
        exact loop_turn h2 (dv.mono gr2) (fun Q g' e k => kg x σ2 H2 Q H0 G0 G2 g2 g' d h2.1 (dv.mono gr2) e fun σ' E' _ => k σ' E') fun σ3 G3 H3 g3 gr3 h3 => ⟨G3, g3, gr2.trans gr3, h3⟩
      · rintro σ2 H2 ⟨G2, g2, gr2, h2⟩
        rw [h4.length, List.drop_length] at h2
        exact h2.next rfl (Gr.refl _) h2.1
    | lst ds =>
      exact absurd ⟨ds, g1, hfe⟩ hl
    | _ => exact h1.stop
end
end DE
namespace DE
open PyProof.Rows PySem.Spec PySem L2

/-! ### comprehensions -/
def wipeR (r : List Sl) : List Nat → List Sl
  | [] => r
  | v :: vs => (wipeR r vs).set v .no
theorem wipeR_length (r : List Sl) : ∀ vs, (wipeR r vs).length = r.length
  | [] => rfl
  | v :: vs => by unfold wipeR; rw [List.length_set, wipeR_length r vs]
theorem wipeR_get {r : List Sl} {i : Nat} {x : Sl} (hx : x ≠ .no) : ∀ {vs : List Nat}, (wipeR r vs)[i]? = some x → r[i]? = some x ∧ i ∉ vs
  | [], h => ⟨h, by simp⟩
  | v :: vs, h => by
    unfold wipeR at h
    by_cases e : i = v
    · subst e
      have il : i < (wipeR r vs).length := by have := (List.getElem?_eq_some_iff.mp h).1; simpa using this
      rw [List.getElem?_set_self il] at h
      exact absurd (Option.some.inj h).symm hx
    · rw [List.getElem?_set_ne (Ne.symm e)] at h
      obtain ⟨a, b⟩ := wipeR_get hx h
      exact ⟨a, by simp [e, b]⟩
theorem wipe_at {σ : L2.St} {i : Nat} : ∀ {vs : List Nat}, i ∉ vs → (wipe σ vs)[i]? = σ[i]?
  | [], _ => rfl
  | v :: vs, h => by
    unfold wipe
    have e : i ≠ v := fun z => h (by simp [z])
    rw [List.getElem?_set_ne (Ne.symm e)]
    exact wipe_at fun z => h (by simp [z])
theorem wipe_in {σ : L2.St} {i : Nat} : ∀ {vs : List Nat}, i ∈ vs → (wipe σ vs)[i]? = if i < σ.length then some none else none
  | [], h => by simp at h
  | v :: vs, h => by
    unfold wipe
    by_cases e : i = v
    · subst e
      by_cases l : i < σ.length
      · rw [List.getElem?_set_self (by rw [wipe_length]; exact l), if_pos l]
      · rw [if_neg l, List.getElem?_eq_none_iff.mpr]
        rw [List.length_set, wipe_length]; omega
    · rw [List.getElem?_set_ne (Ne.symm e)]
      exact wipe_in (by simpa [e] using h)
theorem wipe_congr {σ σ' : L2.St} {vs : List Nat} (hl : σ'.length = σ.length) (h : ∀ i, i ∉ vs → σ'[i]? = σ[i]?) : wipe σ' vs = wipe σ vs := by
  refine List.ext_getElem? fun i => ?_
  by_cases m : i ∈ vs
  · rw [wipe_in m, wipe_in m, hl]
  · rw [wipe_at m, wipe_at m, h i m]
section
variable {K : PySem.W.Frag} {Γ : Gam} {H0 G0 G H : Hp} {σ : L2.St} {g : Sg}
theorem En.wipe (E : En K Γ H0 G0 G H σ g) (vs : List Nat) : En K Γ H0 G0 G H (wipe σ vs) ⟨wipeR g.r vs, g.s⟩ := by
  refine ⟨E.base, E.gfr, E.g0, E.sub, E.gm, E.st, by rw [wipeR_length, wipe_length]; exact E.len, fun i d h => ?_, fun i xs h => ?_, fun i j xs ys l h1 h2 h3 h4 => ?_, E.tb, E.gt, fun i f c q G1 h => by obtain ⟨h, n⟩ := wipeR_get (by intro z; cases z) h; (rw [wipe_at n]; exact E.fn i f c q G1 h)⟩
  · obtain ⟨h, n⟩ := wipeR_get (by intro z; cases z) h
    rw [wipe_at n]; exact E.dat i d h
  · obtain ⟨h, n⟩ := wipeR_get (by intro z; cases z) h
    rw [wipe_at n]; exact E.own i xs h
  · obtain ⟨h1, n1⟩ := wipeR_get (by intro z; cases z) h1
    obtain ⟨h2, n2⟩ := wipeR_get (by intro z; cases z) h2
    rw [wipe_at n1] at h3
    rw [wipe_at n2] at h4
    exact E.dis i j xs ys l h1 h2 h3 h4
theorem En.unwipe {vs : List Nat} (E : En K Γ H0 G0 G H (L2.wipe σ vs) g) : En K Γ H0 G0 G H σ g := by
  refine ⟨E.base, E.gfr, E.g0, E.sub, E.gm, E.st, by rw [E.len, wipe_length], fun i d h => ?_, fun i xs h => ?_, fun i j xs ys l h1 h2 h3 h4 => ?_, E.tb, E.gt, fun i f c q G1 h => let ⟨x, y⟩ := E.fn i f c q G1 h; ⟨(wipe_some x).1, y⟩⟩
  · obtain ⟨v, k1, k2⟩ := E.dat i d h
    exact ⟨v, (wipe_some k1).1, k2⟩
  · obtain ⟨l, ws, k1, k2⟩ := E.own i xs h
    exact ⟨l, ws, (wipe_some k1).1, k2⟩
  · obtain ⟨l1, _, k1, _⟩ := E.own i xs h1
    obtain ⟨l2, _, k2, _⟩ := E.own j ys h2
    have e1 := (wipe_some k1)
    have e2 := (wipe_some k2)
    rw [e1.1] at h3; cases h3
    rw [e2.1] at h4; cases h4
    exact E.dis i j xs ys l h1 h2 k1 k2
/-- an object that none of these tells of -/
theorem En.touch (E : En K Γ H0 G0 G H σ g) {p : Addr} {o : HO} (g1 : G p = none) (h0 : H0 p = none) (m : p ≠ Γ.M) (sf : Sf H p) (ow : ∀ (i : Nat) xs, g.r[i]? = some (Sl.own xs) → σ[i]? ≠ some (some (V.ref p))) : En K Γ H0 G0 G (upd H p o) σ g := by
  refine ⟨fun a u n h => ?_, E.gfr, E.g0, fun a u h => ?_, E.gm, ?_, E.len, E.dat, fun i xs h => ?_, E.dis, sf.tabs E.tb, E.gt, fun i f c q G1 h => E.fnU sf h (Gr.refl _)⟩
  · have : a ≠ p := by rintro rfl; rw [h0] at h; cases h
    rw [upd_ne this]; exact E.base a u n h
  · have : a ≠ p := by rintro rfl; rw [g1] at h; cases h
    rw [upd_ne this]; exact E.sub a u h
  · exact E.st.gr (Gr.refl _) (upd_ne (Ne.symm m))
  · obtain ⟨l, vs, h1, h2, h3⟩ := E.own i xs h
    have : l ≠ p := by rintro rfl; exact ow i xs h h1
    exact ⟨l, vs, h1, by rw [upd_ne this]; exact h2, h3⟩
end
def compL (vs : List Nat) (t : Mt) (c : Mo Bool) (e : Mo D) : List D → Sg → Option (List D × Sg)
  | [], g => some ([], g)
  | d :: ds, g => match t d g with
    | none => none
    | some g1 => match c g1 with
      | some (.ok true, g2) => match e g2 with
        | some (.ok x, g3) => (compL vs t c e ds ⟨wipeR g3.r vs, g3.s⟩).map fun p => (x :: p.1, p.2)
        | _ => none
      | some (.ok false, g2) => compL vs t c e ds ⟨wipeR g2.r vs, g2.s⟩
      | _ => none
def compF (vs : List Nat) (t : Mt) (c : Mo Bool) (e : Mo D) (ds : List D) : Mo (List D) := fun g => if ds.length ≤ 100000 then (compL vs t c e ds ⟨wipeR g.r vs, g.s⟩).map fun p => (.ok p.1, p.2) else none
theorem compL_len {vs : List Nat} {t : Mt} {c : Mo Bool} {e : Mo D} : ∀ {ds : List D} {g : Sg} {p : List D × Sg}, compL vs t c e ds g = some p → p.1.length ≤ ds.length
  | [], g, p, h => by cases h; exact Nat.le_refl _
  | d :: ds, g, p, h => by
    unfold compL at h
    split at h
    · cases h
    · split at h
      · split at h
        · obtain ⟨q, hq, e⟩ := Option.map_eq_some_iff.mp h
          subst e
          exact Nat.succ_le_succ (compL_len hq)
        · cases h
      · exact Nat.le_succ_of_le (compL_len h)
      · cases h
abbrev Wn : WX := fun _ _ _ _ => False
/-- between two turns of a comprehension -/
structure CI (K : PySem.W.Frag) (Γ : Gam) (H0 G0 G1 : Hp) (σw : L2.St) (vs : List Nat) (t : Mt) (c : Mo Bool) (e : Mo D) (out : List D) (ge : Sg) (Dl : Addr) (ds : List D) (m : Nat) (H : Hp) : Prop where
  ex : ∃ G g acc as r, Gr G1 G ∧ En K Γ H0 G0 G H σw g ∧ H Dl = some (.lst acc) ∧ DvA K Γ G acc as ∧ G Dl = none ∧ H0 Dl = none ∧ Dl ≠ Γ.M ∧ (∀ (i : Nat) xs, g.r[i]? = some (Sl.own xs) → σw[i]? ≠ some (some (V.ref Dl))) ∧
    compL vs t c e ds g = some (r, ge) ∧ out = as ++ r ∧ as.length + ds.length ≤ m
theorem comp_turn {K : PySem.W.Frag} {Γ : Gam} {H0 G0 G1 : Hp} {σ : L2.St} {vs : List Nat} {t : Mt} {c : Mo Bool} {e : Mo D} {out : List D} {ge : Sg} {Dl : Addr} {d : D} {ds : List D} {m : Nat} {H : Hp} {v : V} {gt : TG} {js : List Nat}
    (hm : m ≤ 100000) (hj : ∀ j ∈ js, j ∈ vs) (C : CI K Γ H0 G0 G1 (L2.wipe σ vs) vs t c e out ge Dl (d :: ds) m H) (dv : Dv K Γ G1 v d)
    (kg : ∀ (v : V) (σ : L2.St) (H : Hp) (Q : L2.St → Hp → Prop) (H0 G0 G : Hp) (g g' : Sg) (d : D), En K Γ H0 G0 G H σ g → Dv K Γ G v d → t d g = some g' → (∀ σ', En K Γ H0 G0 G H σ' g' → (σ'.length = σ.length ∧ ∀ i, i ∉ js → σ'[i]? = σ[i]?) → Q σ' H) → gt v σ H Q) :
    gt v (L2.wipe σ vs) H fun σ2 H2 => L2.wipe σ2 vs = L2.wipe σ vs ∧ tG K Γ Wn RB c σ2 H2 fun b H3 =>
      if b = true then tG K Γ Wn (RD K Γ) e σ2 H3 fun y H4 => ∃ acc, H4 Dl = some (.lst acc) ∧ acc.length < sizeLine ∧ CI K Γ H0 G0 G1 (L2.wipe σ vs) vs t c e out ge Dl ds m (upd H4 Dl (.lst (acc ++ [y])))
      else CI K Γ H0 G0 G1 (L2.wipe σ vs) vs t c e out ge Dl ds m H3 := by
  obtain ⟨G, g, acc, as, r, gr, E, hD, da, gD, h0, mD, ow, hc, ho, hl⟩ := C.ex
  unfold compL at hc
  cases ht : t d g with
  | none => simp only [ht] at hc; cases hc
  | some g1 =>
    simp only [ht] at hc
    obtain ⟨H1, up, dn, F0, back⟩ := E.rebase
    have hD1 : H1 Dl = some (.lst acc) := dn Dl _ hD mD ow
    refine kg v _ H _ H1 G G g g1 d F0 (dv.mono gr) ht fun σ2 F f2 => ?_
    have ew : L2.wipe σ2 vs = L2.wipe σ vs := by
      refine wipe_congr (f2.1.trans (wipe_length _ _)) fun i hi => ?_
      rw [f2.2 i fun z => hi (hj i z), wipe_at hi]
    refine ⟨ew, ?_⟩
    -- what own slots hold is not the new list
    have own_ne : ∀ {G0' G' H' : Hp} {σ' : L2.St} {g' : Sg} {H1 : Hp}, En K Γ H1 G0' G' H' σ' g' → H1 Dl = some (.lst acc) → ∀ (i : Nat) xs, g'.r[i]? = some (Sl.own xs) → σ'[i]? ≠ some (some (V.ref Dl)) := fun {G0' G' H' σ' g' H1} F hF i xs hi hs => by
      obtain ⟨l, _, k1, _, _, k4, _⟩ := F.own i xs hi
      rw [hs] at k1; cases k1; rw [hF] at k4; cases k4
    cases hcf : c g1 with
    | none => simp only [hcf] at hc; cases hc
    | some p =>
      obtain ⟨rc, g2⟩ := p
      cases rc with
      | error x => simp only [hcf] at hc; cases hc
      | ok b =>
        refine ⟨H1, G, G, g1, F, .ok b, g2, hcf, fun b' G2 H2 gr2 F2 rb => ?_⟩
        obtain rfl : b' = b := rb
        have hD2 : H2 Dl = some (.lst acc) := F2.base Dl _ (F.ok_lst hD) hD1
        have gD2 : G2 Dl = none := F2.gfr Dl _ hD1 gD
        cases b' with
        | false =>
          simp only [hcf] at hc
          rw [if_neg Bool.false_ne_true]; have W2 := (back _ _ _ _ F2).wipe vs
          rw [ew] at W2
          refine ⟨G2, _, acc, as, r, gr.trans gr2, W2, hD2, da.mono gr2, gD2, h0, mD, fun i xs hi => ?_, hc, ho, by simp at hl; omega⟩
          obtain ⟨hi, n⟩ := wipeR_get (by intro z; cases z) hi
          rw [← ew, wipe_at n]
          exact own_ne F2 hD1 i xs hi
        | true =>
          simp only [hcf] at hc
          rw [if_pos rfl]
          cases hef : e g2 with
          | none => simp only [hef] at hc; cases hc
          | some p =>
            obtain ⟨re, g3⟩ := p
            cases re with
            | error x => simp only [hef] at hc; cases hc
            | ok x =>
              simp only [hef] at hc
              obtain ⟨q, hq, eq⟩ := Option.map_eq_some_iff.mp hc
              cases eq
              refine ⟨H1, G, G2, g2, F2, .ok x, g3, hef, fun y G3 H3 gr3 F3 dy => ⟨acc, F3.base Dl _ (F.ok_lst hD) hD1, ?_, ?_⟩⟩
              · have := da.length
                simp at hl
                exact Nat.lt_of_lt_of_le (show acc.length < 100001 by omega) (by decide)
              · have gD3 : G3 Dl = none := F3.gfr Dl _ hD1 gD
                have B3 := back _ _ _ _ F3
                have W3 := (B3.touch (o := .lst (acc ++ [y])) gD3 h0 mD (sf_lst (F3.base Dl _ (F.ok_lst hD) hD1)) (own_ne F3 hD1)).wipe vs
                rw [ew] at W3
                refine ⟨G3, _, acc ++ [y], as ++ [x], q.1, (gr.trans gr2).trans gr3, W3, upd_same, ((da.mono gr2).mono gr3).append (.cons dy .nil), gD3, h0, mD, fun i xs hi => ?_, hq, by rw [ho]; simp, by simp at hl ⊢; omega⟩
                obtain ⟨hi, n⟩ := wipeR_get (by intro z; cases z) hi
                rw [← ew, wipe_at n]
                exact own_ne F3 hD1 i xs hi

theorem _root_.L2.PTs.imp {X : Cx} {e : List Expr} {t t' : TT} (h : PTs X e t) (k : ∀ σ H Q, t' σ H Q → t σ H Q) : PTs X e t' := ⟨fun p s σ H Q I q => h.run p s σ H Q I (k _ _ _ q)⟩
abbrev DTs (X : Cx) (Γ : Gam) (W : WX) (e : List Expr) (f : Mo Bool) : Prop := PTs X e (tG X.K Γ W RB f)
def fComp (vs : List Nat) (fi : Mo D) (t : Mt) (c : Mo Bool) (e : Mo D) : Mo (List D) := bd fi fun d => match aSeq d with
  | some ds => compF vs t c e ds
  | none => stop
theorem tAt.bindE {K : PySem.W.Frag} {Γ : Gam} {W : WX} {α β α' β' : Type} {R : Rel β α} {R1 : Rel β' α'} {f : Mo α'} {k : α' → Mo α} {H0 G0 G H : Hp} {g : Sg} {σ : L2.St} {Q : β → Hp → Prop} {P : β' → Hp → Prop}
    (h : tAt K Γ W R (bd f k) H0 G0 G g σ H Q) (hp : ∀ d v g1 G1 H1, f g = some (.ok d, g1) → Gr G G1 → R1 H0 G1 H1 σ g1 v d → tAt K Γ W R (k d) H0 G0 G1 g1 σ H1 Q → P v H1) : tAt K Γ W R1 f H0 G0 G g σ H P := by
  obtain ⟨E, r, g', e, q⟩ := h
  refine ⟨E, ?_⟩
  unfold bd at e
  cases hf : f g with
  | none => (rw [hf] at e); cases e
  | some p =>
    obtain ⟨r1, g1⟩ := p
    rw [hf] at e
    cases r1 with
    | error x =>
      cases e
      exact ⟨.error x, _, rfl, q⟩
    | ok d =>
      refine ⟨.ok d, g1, rfl, fun v G1 H1 gr E1 r1 => hp d v g1 G1 H1 hf gr r1 ⟨E1, r, g', e, ?_⟩⟩
      cases r with
      | ok d2 => exact fun v2 G2 H2 gr2 => q v2 G2 H2 (gr.trans gr2)
      | error x => exact fun C dd G2 H2 gr2 => q C dd G2 H2 (gr.trans gr2)
section
variable {K : PySem.W.Frag} {Γ : Gam} {W : WX}
/-- what the walk over the items gives -/
theorem comp_start {H0 G0 G1 H1 : Hp} {σ : L2.St} {g1 : Sg} {vs : List Nat} {t : Mt} {c : Mo Bool} {e : Mo D} {ds : List D} {Q : VK} (h : tAt K Γ W (RF K Γ) (compF vs t c e ds) H0 G0 G1 g1 σ H1 Q) {Dl : Addr} (hD : H1 Dl = none) :
    ∃ out ge, ds.length ≤ 100000 ∧ CI K Γ H0 G0 G1 (L2.wipe σ vs) vs t c e out ge Dl ds ds.length (upd H1 Dl (.lst [])) ∧ ∀ H', CI K Γ H0 G0 G1 (L2.wipe σ vs) vs t c e out ge Dl [] ds.length H' → Q (.ref Dl) H' := by
  obtain ⟨E, r, g', e', q⟩ := h
  unfold compF at e'
  split at e'
  · rename_i hl
    obtain ⟨p, hp, ep⟩ := Option.map_eq_some_iff.mp e'
    cases ep
    obtain ⟨om, hM⟩ := E.hm
    have mD : Dl ≠ Γ.M := Ne.symm (ne_of_none hM hD)
    have gD : G1 Dl = none := by
      cases z : G1 Dl with
      | none => rfl
      | some u => rw [E.sub _ _ z] at hD; cases hD
    have h0 : H0 Dl = none := by
      cases z : H0 Dl with
      | none => rfl
      | some u => obtain ⟨u', z⟩ := E.there z; rw [hD] at z; cases z
    have ow : ∀ (i : Nat) xs, (wipeR g1.r vs)[i]? = some (Sl.own xs) → (L2.wipe σ vs)[i]? ≠ some (some (V.ref Dl)) := fun i xs hi hs => by
      obtain ⟨l, _, k1, k2, _⟩ := (E.wipe vs).own i xs hi
      rw [hs] at k1; cases k1; rw [k2] at hD; cases hD
    refine ⟨p.1, p.2, hl, ⟨G1, _, [], [], p.1, Gr.refl _, ((E.newO hD).wipe vs), upd_same, .nil, gD, h0, mD, ow, hp, rfl, by simp⟩, fun H' C => ?_⟩
    obtain ⟨G, g, acc, as, r, gr, E2, hD2, da, gD2, h02, _, ow2, hc, ho, _⟩ := C.ex
    cases hc
    rw [List.append_nil] at ho
    refine q _ G H' gr E2.unwipe ⟨Dl, acc, rfl, hD2, gD2, h02, by rw [ho]; exact da, fun i zs hi hs => ?_⟩
    obtain ⟨l, _, k1, _⟩ := E2.own i zs hi
    have k2 := (wipe_some k1).1
    rw [hs] at k2; cases k2
    exact ow2 i zs hi k1
  · cases e'
end
section
variable {X : Cx} {Γ : Gam} {W : WX} {elt tg iter : Expr} {ifs : List Expr} {scope : Scope} {own : List (Str × Nat)} {pos : Pos}
/-- a statement's reading as an expression's -/
theorem sOf {K : PySem.W.Frag} {Γ : Gam} {W : WX} {i : Nat} {f : Mo (List D)} {Ds : Ends} {σ : L2.St} {H : Hp} (h : tS K Γ W (fSetO i f) Ds σ H) : tG K Γ W (RF K Γ) f σ H (fun x H1 => gName i x σ H1 Ds.nx) :=
  h.bind fun H0 G0 d v g1 G1 H1 r1 h1 => h1.next rfl (Gr.refl _) (h1.1.setO i r1)
theorem lc_read {K : PySem.W.Frag} {fi : Mo D} {t : Mt} {c : Mo Bool} {e : Mo D} {gt : TG} {js vs : List Nat} (hj : ∀ j ∈ js, j ∈ vs)
    (kg : ∀ (v : V) (σ : L2.St) (H : Hp) (Q : L2.St → Hp → Prop) (H0 G0 G : Hp) (g g' : Sg) (d : D), En K Γ H0 G0 G H σ g → Dv K Γ G v d → t d g = some g' → (∀ σ', En K Γ H0 G0 G H σ' g' → (σ'.length = σ.length ∧ ∀ i, i ∉ js → σ'[i]? = σ[i]?) → Q σ' H) → gt v σ H Q)
    {σ : L2.St} {H : Hp} {Q : VK} (h : tG K Γ W (RF K Γ) (fComp vs fi t c e) σ H Q) :
    tLc (fun σ H R => iList K (tG K Γ W (RD K Γ) fi) σ H R ∨ iTup K (tG K Γ W (RD K Γ) fi) σ H R) gt (tG K Γ Wn RB c) (tG K Γ Wn (RD K Γ) e) vs σ H Q := by
  obtain ⟨H0, G0, G, g, h⟩ := h
  by_cases hl : ∃ xs g1, fi g = some (.ok (D.lst xs), g1)
  · refine .inl ⟨H0, G0, G, g, h.bindE (R1 := RD K Γ) fun d v g1 G1 H1 hfe gr r1 h1 => ?_⟩
    cases d with
    | lst ds =>
      obtain ⟨l, ws, rfl, h3, h4⟩ := Dv.lst_inv r1
      have h1 : tAt K Γ W (RF K Γ) (compF vs t c e ds) H0 G0 G1 g1 σ H1 Q := h1
      refine ⟨l, rfl, ⟨ws, SqL.of (h1.1.sub _ _ h3)⟩, fun Dl hD => ?_⟩
      obtain ⟨out, ge, hm, c0, fin⟩ := comp_start h1 hD
      refine lc_list (xs := ws) (fun i H2 => CI K Γ H0 G0 G1 (L2.wipe σ vs) vs t c e out ge Dl (ds.drop i) ds.length H2) c0 (fun i H2 _ C => ?_) (fun i x H2 hx C => ?_) (fun H2 C => ?_)
      · obtain ⟨G2, _, _, _, _, gr2, E2, _⟩ := C.ex
        exact SqL.of (E2.sub _ _ (gr2 _ _ h3))
      · obtain ⟨d, hd, dv⟩ := h4.get' i hx
        have ed : ds.drop i = d :: ds.drop (i + 1) := by
          obtain ⟨il, e⟩ := List.getElem?_eq_some_iff.mp hd
          rw [← e]; exact List.drop_eq_getElem_cons il
        rw [ed] at C
        exact comp_turn hm hj C dv kg
      · rw [h4.length, List.drop_length] at C
        exact fin H2 C
    | tup ds =>
      obtain ⟨xs, g2, hl⟩ := hl
      rw [hl] at hfe; cases hfe
    | _ => exact h1.stop
  · refine .inr ⟨H0, G0, G, g, h.bindE (R1 := RD K Γ) fun d v g1 G1 H1 hfe gr r1 h1 => ?_⟩
    cases d with
    | tup ds =>
      obtain ⟨l, ws, rfl, h3, h4⟩ := Dv.tup_inv r1
      have h1 : tAt K Γ W (RF K Γ) (compF vs t c e ds) H0 G0 G1 g1 σ H1 Q := h1
      refine ⟨l, rfl, ⟨ws, h1.1.sub.sqT h3⟩, fun Dl hD => ?_⟩
      obtain ⟨out, ge, hm, c0, fin⟩ := comp_start h1 hD
      refine lc_tup (xs := ws) (fun i H2 => CI K Γ H0 G0 G1 (L2.wipe σ vs) vs t c e out ge Dl (ds.drop i) ds.length H2) c0 (fun i H2 _ C => ?_) (fun i x H2 hx C => ?_) (fun H2 C => ?_)
      · obtain ⟨G2, _, _, _, _, gr2, E2, _⟩ := C.ex
        exact E2.sub.sqT (gr2.sqT h3)
      · obtain ⟨d, hd, dv⟩ := h4.get' i hx
        have ed : ds.drop i = d :: ds.drop (i + 1) := by
          obtain ⟨il, e⟩ := List.getElem?_eq_some_iff.mp hd
          rw [← e]; exact List.drop_eq_getElem_cons il
        rw [ed] at C
        exact comp_turn hm hj C dv kg
      · rw [h4.length, List.drop_length] at C
        exact fin H2 C
    | lst ds => exact absurd ⟨ds, g1, hfe⟩ hl
    | _ => exact h1.stop
/-- the parts of a comprehension, in its block -/
def CompOk (X : Cx) (Γ : Gam) (elt tg : Expr) (ifs : List Expr) (scope : Scope) (gt : TG) (js : List Nat) (t : Mt) (c : Mo Bool) (e : Mo D) : Prop :=
  (∀ (s : Shared) (H : Hp) (C : Addr) (cl : List (Str × Addr)) (fp : List Addr), DG (X.blk s H scope (compEnvC scope cl C X.env) fp) Γ tg gt js t) ∧
  (∀ (s : Shared) (H : Hp) (C : Addr) (cl : List (Str × Addr)) (fp : List Addr), DTs (X.blk s H scope (compEnvC scope cl C X.env) fp) Γ Wn ifs c) ∧
  ∀ (s : Shared) (H : Hp) (C : Addr) (cl : List (Str × Addr)) (fp : List Addr), DX (X.blk s H scope (compEnvC scope cl C X.env) fp) Γ Wn elt e
theorem CompOk.sem {gt : TG} {js : List Nat} {t : Mt} {c : Mo Bool} {e : Mo D} (k : CompOk X Γ elt tg ifs scope gt js t c e) : TgS X.K Γ gt js t :=
  (k.1 X.s_0 (fun _ => none) X.env.locals [] []).2
theorem d_comp {fi : Mo D} {t : Mt} {c : Mo Bool} {e : Mo D} {gt : TG} {js : List Nat} (hc : X.calm = true) (hN : X.N.Nodup) (hi : DX X Γ W iter fi) (ok : BlkOk X.N X.env.scope scope own) (hj : ∀ j ∈ js, j ∈ own.map (·.2)) (k : CompOk X Γ elt tg ifs scope gt js t c e)
    (hs : ∀ x, foldedSetIterable iter X.env x = pure x := by intro _; rfl) : DF X Γ W (.ListComp elt [⟨tg, iter, ifs, 0⟩] scope pos) (fComp (own.map (·.2)) fi t c e) := by
  have kg := k.sem
  obtain ⟨pg, kt, ke⟩ := k
  exact (pe_lc hc hN (PI.or (pi_list (tl := tG X.K Γ W (RD X.K Γ) fi) hi) (pi_tup (tl := tG X.K Γ W (RD X.K Γ) fi) hi)) ok (fun s H C cl fp => (pg s H C cl fp).1) kt ke hs).imp fun σ H Q h => lc_read hj kg h
theorem s_setC {i : Nat} {y : Str} {py spos : Pos} {fi : Mo D} {t : Mt} {c : Mo Bool} {e : Mo D} {gt : TG} {js : List Nat} (hc : X.calm = true) (hN : X.N.Nodup) (hy : X.N[i]? = some y) (hyl : X.env.scope.names.lookup y = some .local)
    (hsw : swapsWith (.ListComp elt [⟨tg, iter, ifs, 0⟩] scope pos) (some (.Name y py)) spos.line X.env = pure true) (hi : DX X Γ W iter fi) (ok : BlkOk X.N X.env.scope scope own) (hj : ∀ j ∈ js, j ∈ own.map (·.2)) (k : CompOk X Γ elt tg ifs scope gt js t c e)
    (hs : ∀ x, foldedSetIterable iter X.env x = pure x := by intro _; rfl) : DS_ X Γ W (.Assign [.Name y py] (.ListComp elt [⟨tg, iter, ifs, 0⟩] scope pos) spos) (fSetO i (fComp (own.map (·.2)) fi t c e)) := by
  have kg := k.sem
  obtain ⟨pg, kt, ke⟩ := k
  refine (ps_setLc (tt := tG X.K Γ Wn RB c) (te := tG X.K Γ Wn (RD X.K Γ) e) hc hN hy hyl hsw (PI.or (pi_list (tl := tG X.K Γ W (RD X.K Γ) fi) hi) (pi_tup (tl := tG X.K Γ W (RD X.K Γ) fi) hi)) ok (fun s H C cl fp => (pg s H C cl fp).1) kt ke hs).imp fun Ds σ H h => ?_
  exact lc_read hj kg (sOf h)
end
end DE
namespace DE
open PyProof.Rows PySem.Spec PySem L2

/-! ### a def's promise over data -/
/-- what a call may have done to the heap -/
structure Aft (Γ : Gam) (G H G' H' : Hp) : Prop where
  keep : ∀ a o, Γ.Ok a → H a = some o → H' a = some o
  gr : Gr G G'
  sub : Gr G' H'
  gm : G' Γ.M = none
  fr : ∀ a o, H a = some o → G a = none → G' a = none
  tb : LamX.Tabs Γ.T H'
  gt : ∀ p ∈ Γ.T, G' p.1 = none
abbrev Fd := List D → DS → Option (Except Exn D × DS)
def dsp (K : PySem.W.Frag) (Γ : Gam) (n : Nat) (gm : Fd) : Sp := fun vs H Q E => ∃ G s ds r s', Gr G H ∧ (G Γ.M = none ∧ LamX.Tabs Γ.T H ∧ ∀ p ∈ Γ.T, G p.1 = none) ∧ StM Γ G H s ∧ DvA K Γ G vs ds ∧ ds.length = n ∧ gm ds s = some (r, s') ∧ match r with
  | .ok d => ∀ v G' H', Aft Γ G H G' H' → StM Γ G' H' s' → Dv K Γ G' v d → Q v H'
  | .error x => ∀ C dd G' H', Aft Γ G H G' H' → StM Γ G' H' s' → ExD K Γ G' C dd x → E C dd H'
theorem En.aft {K : PySem.W.Frag} {Γ : Gam} {H0 G0 G H G' H' : Hp} {σ : L2.St} {g : Sg} {s' : DS} (E : En K Γ H0 G0 G H σ g) (A : Aft Γ G H G' H') (h : StM Γ G' H' s') : En K Γ H0 G0 G' H' σ ⟨g.r, s'⟩ := by
  refine ⟨fun a o n h => A.keep a o n (E.base a o n h), fun a o h h' => ?_, E.g0.trans A.gr, A.sub, A.gm, h, E.len, fun i d h => ?_, fun i xs h => ?_, E.dis, A.tb, A.gt, fun i f c q G1 h => let ⟨x, y, z⟩ := E.fn i f c q G1 h; ⟨x, A.keep c _ (E.ok_code y) y, z.trans A.gr⟩⟩
  · by_cases n : Γ.Ok a
    case neg =>
      by_cases m : a = Γ.M
      · rw [m]; exact A.gm
      · have : ∃ p ∈ Γ.T, a = p.1 := Classical.byContradiction fun z => n ⟨m, fun p hp e => z ⟨p, hp, e⟩⟩
        obtain ⟨p, hp, rfl⟩ := this
        exact A.gt p hp
    · exact A.fr a o (E.base a o n h) (E.gfr a o h h')
  · obtain ⟨v, h1, h2⟩ := E.dat i d h
    exact ⟨v, h1, h2.mono A.gr⟩
  · obtain ⟨l, vs, h1, h2, h3, h4, h5⟩ := E.own i xs h
    exact ⟨l, vs, h1, A.keep l _ (E.ok_lst h2) h2, A.fr l _ h2 h3, h4, h5.mono A.gr⟩

/-- FnOk where no guarded code is under way -/
structure FnG (P : Program) (w : World) (K : PySem.W.Frag) (mg : Str → Option Value) (base : Heap) (k : Nat) (f : Addr) (fd : FuncData) (ps : List Str) (sp : Sp) : Prop where
  len : ∀ us H Q E, sp us H Q E → us.length = ps.length
  run : ∀ (A : Around) (outer : List Env) (s : Shared) (H : Hp) (args : Args) (us : List Value) (vs : List V) (Q : VK) (E : XK), Room k A → A.guards = some [] → Env0 P w K mg base A outer s H → BindsTo s fd args (ps.zip us) → Vals vs us → sp vs H Q E →
    codeAny (model P w) A (.call (.ref f) args) (CR (L2.CX P w) outer P w H s Q E) s
theorem FnG.mono {P : Program} {w : World} {K : PySem.W.Frag} {mg : Str → Option Value} {base : Heap} {j k : Nat} {f : Addr} {fd : FuncData} {ps : List Str} {sp : Sp} (F : FnG P w K mg base j f fd ps sp) (h : j ≤ k) : FnG P w K mg base k f fd ps sp :=
  ⟨F.len, fun A outer s H args us vs Q E hr hg => F.run A outer s H args us vs Q E (hr.mono h) hg⟩

abbrev cxD (P : Program) (w : World) (K : PySem.W.Frag) (mg : Str → Option Value) (base : Heap) (N : List Str) (qual : Str) (st : Stmt) (f : Addr) (cdv : Value) (A : Around) (outer : List Env) (s : Shared) (H : Hp) (E : XK) : Cx :=
  cxOf (L2.CX P w) P w K mg base N qual (defScope st) f cdv A outer s H E
/-- what a body's derivation may lean on -/
structure Ct (X : Cx) (W : WX) (k : Nat) : Prop where
  calm : X.calm = true
  tk : Takes X W
  pas : PassesOwn (model X.prog X.w) X.A X.env X.xe
  room : Room k X.A
  gua : X.A.guards = some []
theorem fnG_ofC {P : Program} {w : World} {K : PySem.W.Frag} {mg : Str → Option Value} {base : Heap} {x qual : Str} {st : Stmt} {f : Addr} {fd : FuncData} {N ps : List Str} {k : Nat} {sp : Sp}
    (F : Fun K x qual st f fd) (S : FnScope N ps (defScope st)) (len : ∀ vs H Q E, sp vs H Q E → vs.length = ps.length)
    (hbody : ∀ (cdv : Value) (A : Around) (outer : List Env) (s : Shared) (H : Hp) (vs : List V) (Q : VK) (E : XK), fd.code = cdv →
      Ct (cxD P w K mg base N qual st f cdv A outer s H E) (fun c d _ H => E c d H) k → sp vs H Q E →
      ∃ t, PSs (cxD P w K mg base N qual st f cdv A outer s H E) (defBody st) t ∧ t { nx := fun _ H' => Q .non H', rt := Q } (L2.start N vs) H) :
    FnG P w K mg base (k + 1) f fd ps sp := by
  obtain ⟨oc, od, kV, doc, pm, an, cdv, ct, osl, rfl, lk, hcd⟩ := F.ex; refine ⟨len, fun A outer s H args us vs Q E hr hg e0 hb r hsp => ?_⟩; have KX : K.In s.heap := e0.mod.kin.keeps fun b o e => (e0.bs b o e).1
  have kinds : ∀ y ∈ ps.zip us, (defScope st).names.lookup y.1 = some .local ∨ ((defScope st).names.lookup y.1 = some .cell ∧ ((cellsFrom (s.heap.objs.size + 1) (defScope st).names []).lookup y.1).isSome = true) := by
    rintro ⟨n, v⟩ hy
    exact (S.par n (List.of_mem_zip hy).1).imp id fun q => ⟨q, PySem.W.cellsFrom_some _ _ _ (.inl q)⟩
  refine codeAny_call_function hr.depth (KX _ _ lk) rfl S.co S.gen rfl (PySem.W.codeRec_of KX hcd) (hb _ _ _ _ ?_); refine wpAny_newFunctionEnv_cells S.kind kinds fun env he s1 x => ?_
  subst he
  have lim : s.heap.NoLimit := e0.mod.nolimit.keeps fun b o e => (e0.bs b o e).1; refine ⟨lim.keeps x.toInCall.keep, codeAny_func ?_⟩
  have C : Ct (cxD P w K mg base N qual st f cdv A outer s H E) (fun c d _ H => E c d H) k := ⟨rfl, takes_of rfl rfl rfl rfl, PassesOwn.leaving, hr.deeper _, hg⟩
  obtain ⟨t, ht, hq⟩ := hbody cdv A outer s H vs Q E rfl C hsp
  have I : Inv (cxD P w K mg base N qual st f cdv A outer s H E) [] (L2.start N vs) H s1 := inv_start S hr.hd e0 (len _ _ _ _ hsp) r x
  refine wpAny_mono (ht.run [] s1 _ H _ I hq) (fun fl s' hs => ?_) fun e s' hs => hs
  cases fl with
  | brk => exact hs.elim fun _ z => z.elim fun _ z => z.2.elim
  | cont => exact hs.elim fun _ z => z.elim fun _ z => z.2.elim
  | next =>
    obtain ⟨σ', H', J, q⟩ := hs
    exact ⟨V.non, H', J.os, J.bare, J.base, J.hok, rfl, q⟩
  | ret u =>
    obtain ⟨v, σ', H', J, rv, q⟩ := hs; exact ⟨v, H', J.os, J.bare, J.base, J.hok, rv, q⟩
theorem fnG_of {P : Program} {w : World} {K : PySem.W.Frag} {mg : Str → Option Value} {base : Heap} {x qual : Str} {st : Stmt} {f : Addr} {fd : FuncData} {N ps : List Str} {k : Nat} {sp : Sp}
    (F : Fun K x qual st f fd) (S : FnScope N ps (defScope st)) (len : ∀ vs H Q E, sp vs H Q E → vs.length = ps.length)
    (hbody : ∀ (cdv : Value) (A : Around) (outer : List Env) (s : Shared) (H : Hp) (vs : List V) (Q : VK) (E : XK),
      Ct (cxD P w K mg base N qual st f cdv A outer s H E) (fun c d _ H => E c d H) k → sp vs H Q E →
      ∃ t, PSs (cxD P w K mg base N qual st f cdv A outer s H E) (defBody st) t ∧ t { nx := fun _ H' => Q .non H', rt := Q } (L2.start N vs) H) :
    FnG P w K mg base (k + 1) f fd ps sp :=
  fnG_ofC F S len fun cdv A outer s H vs Q E _ C h => hbody cdv A outer s H vs Q E C h
theorem runG {X : Cx} {W : WX} {k : Nat} {f : Addr} {fd : FuncData} {ps : List Str} {sp : Sp} {pins : List (Addr × Obj)} {σ : L2.St} {H : Hp} {s : Shared} {Q : VK} {us : List Value} {vs : List V}
    (F : FnG X.prog X.w X.K X.mg X.base k f fd ps sp) (C : Ct X W k) (hb : Binds X.K fd ps []) (I : Inv X pins σ H s) (r : Vals vs us) (h : sp vs H Q (WE W σ)) : wpAny (model X.prog X.w) X.A (call (.ref f) us) (EP X pins σ Q) X.xe s := by
  have hl : us.length = ps.length := r.length.symm.trans (F.len _ _ _ _ h)
  have hb' : BindsTo s fd ⟨us, []⟩ (ps.zip us) := by
    have q := hb s us I.kIn (by rw [List.append_nil]; exact hl)
    rw [List.append_nil] at q; exact q
  refine wpAny_call (codeAny_mono (F.run X.A X.stack s H ⟨us, []⟩ us vs Q (WE W σ) C.room C.gua I.env0 hb' r h) fun r s' hq => ?_)
  cases r with
  | error e => exact passAt C.tk σ pins H s e s' I hq
  | ok fl =>
    cases fl with
    | ret u => exact I.after hq
    | next => exact hq.elim
    | brk => exact hq.elim
    | cont => exact hq.elim
section
variable {X : Cx} {Γ : Gam} {W : WX} {a b e : Expr} {es : List Expr} {pos : Pos}
def lift (gm : Fd) (ds : List D) : Mo D := fun g => match gm ds g.s with
  | none => none
  | some (r, s') => some (r, ⟨g.r, s'⟩)
def fCall (gm : Fd) (fa : Mo (List D)) : Mo D := bd fa (lift gm)
/-- the call's data promise from what stands at the call -/
theorem dsp_at {gm : Fd} {n : Nat} {ds : List D} {vs : List V} {H0 G0 G H : Hp} {g : Sg} {σ : L2.St} {Q : VK} (h : tAt X.K Γ W (RD X.K Γ) (lift gm ds) H0 G0 G g σ H Q) (dv : DvA X.K Γ G vs ds) (hn : ds.length = n) : dsp X.K Γ n gm vs H Q (WE W σ) := by
  obtain ⟨E, r, g', e, q⟩ := h
  unfold lift at e
  cases hg : gm ds g.s with
  | none => rw [hg] at e; cases e
  | some p =>
    obtain ⟨r1, s'⟩ := p
    rw [hg] at e
    cases e
    refine ⟨G, g.s, ds, r, s', E.sub, ⟨E.gm, E.tb, E.gt⟩, E.st, dv, hn, hg, ?_⟩
    cases r with
    | ok d => exact fun v G' H' A st dv' => q v G' H' A.gr (E.aft A st) dv'
    | error x => exact fun C dd G' H' A st ex => q C dd G' H' A.gr (E.aft A st) ex
theorem da_len {es : List Expr} : True := trivial
theorem pe_callG {k : Nat} {f : Addr} {fd : FuncData} {ps : List Str} {sp : Sp} {x : Str} {p : Pos} {t : TA} (F : FnG X.prog X.w X.K X.mg X.base k f fd ps sp) (C : Ct X W k) (hg : Gl X x) (hm : X.mg x = some (.ref f)) (hk : PySem.W.keepIn X.K (.ref f) = true) (hb : Binds X.K fd ps [])
    (args : PA X (e :: es) t) (hdb : (x == ("__debug__" : Str)) = false := by decide) (he : starEach (e :: es) X.env = (false, eval e X.env) :: starEach es X.env := by rfl) (hpl : (backTo pos (starEach es X.env)).any (·.1) = false := by rfl) :
    PE X (.Call (.Name x p) (e :: es) [] pos) (fun σ H Q => t σ H fun vs H1 => sp vs H1 Q (WE W σ)) := by
  refine ⟨fun pins s σ H Q I h => ?_⟩; refine wpAny_Call_Name_kw (ld_glob I hg hm ?_ hdb)
  refine PySem.W.callWith_K (h₀ := X.base) I.ok.mod.kin hk (thn (args.run pos pins s σ H _ I h) fun us s1 ⟨vs, H1, I1, r, q⟩ => ⟨I1.kIn, ?_⟩) he hpl; exact runG F C hb I1 r q
/-- f(e, ..) -/
def fCallN (n : Nat) (gm : Fd) (fa : Mo (List D)) : Mo D := bd fa fun ds => if ds.length = n then lift gm ds else stop
theorem d_call {k n : Nat} {f : Addr} {fd : FuncData} {ps : List Str} {gm : Fd} {x : Str} {p : Pos} {fa : Mo (List D)} (F : FnG X.prog X.w X.K X.mg X.base k f fd ps (dsp X.K Γ n gm)) (C : Ct X W k) (hg : Gl X x) (hm : X.mg x = some (.ref f)) (hk : PySem.W.keepIn X.K (.ref f) = true) (hb : Binds X.K fd ps [])
    (ha : DA X Γ W (e :: es) fa) (hdb : (x == ("__debug__" : Str)) = false := by decide) (he : starEach (e :: es) X.env = (false, eval e X.env) :: starEach es X.env := by rfl) (hpl : (backTo pos (starEach es X.env)).any (·.1) = false := by rfl) :
    DX X Γ W (.Call (.Name x p) (e :: es) [] pos) (fCallN n gm fa) :=
  (pe_callG F C hg hm hk hb ha hdb he hpl).imp fun σ H Q h => h.bind fun H0 G0 ds vs g1 G1 H1 r1 h1 => by
    by_cases c : ds.length = n
    · rw [if_pos c] at h1; exact dsp_at h1 r1 c
    · rw [if_neg c] at h1; exact h1.stop
end
/-- THE RULE for a def over data: f runs the body; gm is what it comes to -/
def bodyGives (f : Ms) (N : Nat) (n : Nat) (gm : Fd) : Prop := ∀ (ds : List D) (s : DS) r s', ds.length = n → gm ds s = some (r, s') → ∃ g', g'.s = s' ∧ ((f ⟨ds.map .dat ++ List.replicate (N - n) .no, s⟩ = some ((match r with | .ok d => .ret d | .error x => .exc x), g')) ∨ (r = .ok .non ∧ f ⟨ds.map .dat ++ List.replicate (N - n) .no, s⟩ = some (.nx, g')))
theorem fn_dataC {P : Program} {w : World} {K : PySem.W.Frag} {mg : Str → Option Value} {base : Heap} {x qual : Str} {st : Stmt} {f : Addr} {fd : FuncData} {N ps : List Str} {k : Nat} {Γ : Gam} {gm : Fd}
    (F : Fun K x qual st f fd) (S : FnScope N ps (defScope st)) (fb : Ms) (hb : bodyGives fb N.length ps.length gm)
    (hd : ∀ (cdv : Value) (A : Around) (outer : List Env) (s : Shared) (H : Hp) (E : XK), fd.code = cdv → Ct (cxD P w K mg base N qual st f cdv A outer s H E) (fun c d _ H => E c d H) k → DB (cxD P w K mg base N qual st f cdv A outer s H E) Γ (fun c d _ H => E c d H) (defBody st) fb) :
    FnG P w K mg base (k + 1) f fd ps (dsp K Γ ps.length gm) := by
  refine fnG_ofC F S (fun vs H Q E h => ?_) (fun cdv A outer s H vs Q E hc C h => ⟨_, hd cdv A outer s H E hc C, ?_⟩)
  · obtain ⟨G, s, ds, r, s', _, _, _, dv, hn, _⟩ := h
    rw [dv.length]; exact hn
  · obtain ⟨G, s0, ds, r, s', sub, ⟨gm0, tb0, gt0⟩, st0, dv, hn, hg, q⟩ := h
    obtain ⟨g', hs, hf⟩ := hb ds s0 r s' hn hg
    have hN : ps.length ≤ N.length := by have := congrArg List.length S.pre; rw [List.length_take] at this; omega
    have E0 : En K Γ H G G H (L2.start N vs) ⟨ds.map .dat ++ List.replicate (N.length - ps.length) .no, s0⟩ := by
      have hv := dv.length
      refine ⟨fun a o _ h => h, fun a o _ h => h, Gr.refl _, sub, gm0, st0, ?_, fun i d h => ?_, fun i xs h => ?_, fun i j xs ys l h => ?_, tb0, gt0, fun i f c q G1 h => ?_⟩
      · unfold L2.start; simp [hv, hn]
      · have hi : i < ds.length := by
          by_cases c : i < ds.length
          · exact c
          · rw [List.getElem?_append_right (by simpa using c), List.getElem?_replicate] at h
            split at h <;> cases h
        rw [List.getElem?_append_left (by simpa using hi), List.getElem?_map] at h
        have hd : ds[i]? = some d := by
          cases e : ds[i]? with
          | none => (rw [e] at h); cases h
          | some d' => rw [e] at h; cases h; rfl
        obtain ⟨v, h1, h2⟩ := dv.get i hd
        refine ⟨v, ?_, h2⟩
        unfold L2.start
        rw [List.getElem?_append_left (by simp; omega), List.getElem?_map, h1]; rfl
      · exfalso
        by_cases c : i < ds.length
        · rw [List.getElem?_append_left (by simpa using c), List.getElem?_map] at h
          cases e : ds[i]? with
          | none => (rw [e] at h); cases h
          | some d' => rw [e] at h; cases h
        · rw [List.getElem?_append_right (by simpa using c), List.getElem?_replicate] at h
          split at h <;> cases h
      · exfalso
        by_cases c : i < ds.length
        · rw [List.getElem?_append_left (by simpa using c), List.getElem?_map] at h
          cases e : ds[i]? with
          | none => (rw [e] at h); cases h
          | some d' => rw [e] at h; cases h
        · rw [List.getElem?_append_right (by simpa using c), List.getElem?_replicate] at h
          split at h <;> cases h
      · exfalso
        by_cases c : i < ds.length
        · rw [List.getElem?_append_left (by simpa using c), List.getElem?_map] at h
          cases e : ds[i]? with
          | none => (rw [e] at h); cases h
          | some d' => rw [e] at h; cases h
        · rw [List.getElem?_append_right (by simpa using c), List.getElem?_replicate] at h
          split at h <;> cases h
    have aft : ∀ {σ' : L2.St} {G' H' : Hp}, En K Γ H G G' H' σ' g' → Aft Γ G H G' H' ∧ StM Γ G' H' s' := fun E => ⟨⟨fun a o n h => E.base a o n h, E.g0, E.sub, E.gm, fun a o h h' => E.gfr a o h h', E.tb, E.gt⟩, hs ▸ E.st⟩
    refine ⟨H, G, G, _, E0, ?_⟩
    rcases hf with hf | ⟨rfl, hf⟩
    · cases r with
      | ok d => exact ⟨.ret d, g', hf, fun v σ' G' H' gr E dv' => q v G' H' (aft E).1 (aft E).2 dv'⟩
      | error x => exact ⟨.exc x, g', hf, fun C dd σ' G' H' gr E ex => q C dd G' H' (aft E).1 (aft E).2 ex⟩
    · exact ⟨.nx, g', hf, fun σ' G' H' gr E => q .non G' H' (aft E).1 (aft E).2 .non⟩
theorem fn_data {P : Program} {w : World} {K : PySem.W.Frag} {mg : Str → Option Value} {base : Heap} {x qual : Str} {st : Stmt} {f : Addr} {fd : FuncData} {N ps : List Str} {k : Nat} {Γ : Gam} {gm : Fd}
    (F : Fun K x qual st f fd) (S : FnScope N ps (defScope st)) (fb : Ms) (hb : bodyGives fb N.length ps.length gm)
    (hd : ∀ (cdv : Value) (A : Around) (outer : List Env) (s : Shared) (H : Hp) (E : XK), Ct (cxD P w K mg base N qual st f cdv A outer s H E) (fun c d _ H => E c d H) k → DB (cxD P w K mg base N qual st f cdv A outer s H E) Γ (fun c d _ H => E c d H) (defBody st) fb) :
    FnG P w K mg base (k + 1) f fd ps (dsp K Γ ps.length gm) :=
  fn_dataC F S fb hb fun cdv A outer s H E _ C => hd cdv A outer s H E C
end DE
namespace DE
open PyProof.Rows PySem.Spec PySem L2

/-! ### plain data -/
mutual
def pyd : D → Option PyData
  | .non => some .none
  | .bl b => some (.bool b)
  | .int i => some (.int i)
  | .str s => some (.str s)
  | .lst xs => (pydA xs).map .list
  | .tup xs => (pydA xs).map .tuple
  | .dic _ => none
  | .m => none
  | .exc _ _ => none
  | .scr _ => none
  | .fn _ => none
def pydA : List D → Option (List PyData)
  | [] => some []
  | d :: ds => match pyd d, pydA ds with
    | some p, some ps => some (p :: ps)
    | _, _ => none
end
section
variable {K : PySem.W.Frag} {Γ : Gam} {G H : Hp}
mutual
theorem Dv.dp (e : Gr G H) : ∀ {v : V} {d : D} {p : PyData}, Dv K Γ G v d → pyd d = some p → Dp K H v p
  | _, _, _, .non, h => by simp [pyd] at h; subst h; exact .non
  | _, _, _, .bl b, h => by simp [pyd] at h; subst h; exact .bl b
  | _, _, _, .int i, h => by simp [pyd] at h; subst h; exact .int i
  | _, _, _, .str s, h => by simp [pyd] at h; subst h; exact .str s
  | _, _, _, .lst h1 t, h => by
    simp only [pyd, Option.map_eq_some_iff] at h
    obtain ⟨ps, hp, rfl⟩ := h
    exact .lst (SqL.of (e _ _ h1)) (DvA.dp e t hp)
  | _, _, _, .tup h1 t, h => by
    simp only [pyd, Option.map_eq_some_iff] at h
    obtain ⟨ps, hp, rfl⟩ := h
    exact .tup (e.sqT h1) (DvA.dp e t hp)
  | _, _, _, .dic _ _, h => by simp [pyd] at h
  | _, _, _, .m, h => by simp [pyd] at h
  | _, _, _, .scr _, h => by simp [pyd] at h
  | _, _, _, .fn _, h => by simp [pyd] at h
  | _, _, _, .exc _ _ _ _, h => by simp [pyd] at h
theorem DvA.dp (e : Gr G H) : ∀ {v : List V} {d : List D} {p : List PyData}, DvA K Γ G v d → pydA d = some p → DpAll K H v p
  | _, _, _, .nil, h => by simp [pydA] at h; subst h; exact .nil
  | _, _, _, .cons h1 t, h => by
    unfold pydA at h
    split at h
    · rename_i p ps hp hps
      cases h
      exact .cons (Dv.dp e h1 hp) (DvA.dp e t hps)
    · cases h
end
end
def flat1 : D → Option V
  | .non => some .non
  | .bl b => some (.bl b)
  | .int i => some (.int i)
  | .str s => some (.str s)
  | _ => none
def flatA : List D → Option (List V)
  | [] => some []
  | d :: ds => match flat1 d, flatA ds with
    | some p, some ps => some (p :: ps)
    | _, _ => none
theorem Dv.flat {K : PySem.W.Frag} {Γ : Gam} {G : Hp} {v w : V} {d : D} (h : Dv K Γ G v d) (e : flat1 d = some w) : v = w ∧ flatV w = true := by
  cases h <;> simp [flat1] at e <;> subst e <;> exact ⟨rfl, rfl⟩
theorem DvA.flat {K : PySem.W.Frag} {Γ : Gam} {G : Hp} : ∀ {vs ws : List V} {ds : List D}, DvA K Γ G vs ds → flatA ds = some ws → vs = ws ∧ ws.all flatV = true
  | _, _, _, .nil, e => by simp [flatA] at e; subst e; exact ⟨rfl, rfl⟩
  | _, _, _, .cons h t, e => by
    unfold flatA at e
    split at e
    · rename_i p ps hp hps
      cases e
      obtain ⟨rfl, f⟩ := h.flat hp
      obtain ⟨rfl, g⟩ := t.flat hps
      exact ⟨rfl, by rw [List.all_cons, f, g]; rfl⟩
    · cases e

def pEqD (d e : D) : Mo D := match pyd d, pyd e with
  | some p, some q => if (SeqAt.shaped p && SeqAt.shaped q) = true then rt (.bl (PyData.eqv p q)) else stop
  | _, _ => stop
def pNeD (d e : D) : Mo D := match pyd d, pyd e with
  | some p, some q => if (SeqAt.shaped p && SeqAt.shaped q) = true then rt (.bl (!PyData.eqv p q)) else stop
  | _, _ => stop
def pEq (d e : D) : Mo D := match d, e with
  | .str a, .str b => rt (.bl (decide (a = b)))
  | .int a, .int b => rt (.bl (decide (a = b)))
  | _, _ => pEqD d e
def pNe (d e : D) : Mo D := match d, e with
  | .str a, .str b => rt (.bl (!decide (a = b)))
  | .int a, .int b => rt (.bl (!decide (a = b)))
  | _, _ => pNeD d e
def isNon : D → Bool
  | .non => true
  | _ => false
theorem Dv.isNon {K : PySem.W.Frag} {Γ : Gam} {G : Hp} {v : V} {d : D} (h : Dv K Γ G v d) : decide (v = .non) = isNon d := by cases h <;> simp [DE.isNon]
def pIs (d e : D) : Mo D := match e with
  | .non => rt (.bl (isNon d))
  | .bl b => match d with
    | .bl a => rt (.bl (decide (a = b)))
    | _ => stop
  | _ => stop
def pNis (d e : D) : Mo D := match e with
  | .non => rt (.bl (!isNon d))
  | .bl b => match d with
    | .bl a => rt (.bl (!decide (a = b)))
    | _ => stop
  | _ => stop
def pIn (neg : Bool) (d e : D) : Mo D := match aSeq e with
  | some es => match flat1 d, flatA es with
    | some x, some xs => rt (.bl (if neg then !inV x xs else inV x xs))
    | _, _ => stop
  | none => stop
def pI (g : Int → Int → D) (d e : D) : Mo D := match d, e with
  | .int i, .int j => rt (g i j)
  | _, _ => stop
def pIc (c : Int → Int → Bool) (g : Int → Int → D) (d e : D) : Mo D := match d, e with
  | .int i, .int j => if c i j = true then rt (g i j) else stop
  | _, _ => stop
def pAdd (d e : D) : Mo D := match d, e with
  | .int i, .int j => rt (.int (i + j))
  | .str s, .str t => if s.length + t.length ≤ 100000 then rt (.str (s ++ t)) else stop
  | .tup xs, .tup ys => if xs.length + ys.length ≤ 100000 then rt (.tup (xs ++ ys)) else stop
  | _, _ => stop
abbrev pSub := pI fun i j => .int (i - j)
abbrev pLt := pI fun i j => .bl (decide (i < j))
abbrev pLe := pI fun i j => .bl (decide (i ≤ j))
abbrev pGt := pI fun i j => .bl (decide (j < i))
abbrev pGe := pI fun i j => .bl (decide (j ≤ i))
abbrev pMul := pIc (fun i j => decide (i.natAbs < 2 ^ 60) || decide (j.natAbs < 2 ^ 60)) fun i j => .int (i * j)
abbrev pMod := pIc (fun _ j => decide (0 < j)) fun i j => .int (i % j)
abbrev pDiv := pIc (fun _ j => decide (0 < j) && decide (j < 2 ^ 29)) fun i j => .int (i / j)
abbrev pPow := pIc (fun i j => decide (0 ≤ j) && decide (j ≤ 1000) && decide (i.natAbs < 2 ^ 60)) fun i j => .int (i ^ j.toNat)
section
variable {X : Cx} {Γ : Gam} {W : WX} {k : Nat}
theorem BinD.I {F : Value → Value → Sem Value} {g : Int → Int → V} {g' : Int → Int → D} (h : OpR X F (rI0 g)) (hg : ∀ i j G, Dv X.K Γ G (g i j) (g' i j)) : BinD X Γ W F (pI g') := by
  intro pins s σ H x y v u Q I rx ry ⟨H0, G0, G, gg, σ', d, e, dx, dy, q⟩
  unfold pI at q
  split at q
  · cases dx; cases dy
    exact h pins s σ H _ _ v u Q I rx ry ⟨_, _, rfl, rfl, q.here (hg _ _ _)⟩
  · exact q.stop
theorem BinD.Ic {F : Value → Value → Sem Value} {C : Int → Int → Prop} {c : Int → Int → Bool} {g : Int → Int → V} {g' : Int → Int → D} (h : OpR X F (rI C g)) (hc : ∀ i j, c i j = true → C i j) (hg : ∀ i j G, Dv X.K Γ G (g i j) (g' i j)) : BinD X Γ W F (pIc c g') := by
  intro pins s σ H x y v u Q I rx ry ⟨H0, G0, G, gg, σ', d, e, dx, dy, q⟩
  unfold pIc at q
  split at q
  · split at q
    · rename_i cc
      cases dx; cases dy
      exact h pins s σ H _ _ v u Q I rx ry ⟨_, _, rfl, rfl, hc _ _ cc, q.here (hg _ _ _)⟩
    · exact q.stop
  · exact q.stop
theorem o_sub : BinD X Γ W (binaryOp .Sub) pSub := .I op_sub fun _ _ _ => .int _
theorem o_lt : BinD X Γ W (compareOp .Lt) pLt := .I op_lt fun _ _ _ => .bl _
theorem o_le : BinD X Γ W (compareOp .LtE) pLe := .I op_le fun _ _ _ => .bl _
theorem o_gt : BinD X Γ W (compareOp .Gt) pGt := .I op_gt fun _ _ _ => .bl _
theorem o_ge : BinD X Γ W (compareOp .GtE) pGe := .I op_ge fun _ _ _ => .bl _
theorem o_mul : BinD X Γ W (binaryOp .Mult) pMul := .Ic op_mul (fun i j h => by
  simp only [Bool.or_eq_true, decide_eq_true_eq] at h
  unfold CMul
  rcases h with h | h
  · exact .inl ⟨by omega, by omega⟩
  · exact .inr ⟨by omega, by omega⟩) fun _ _ _ => .int _
theorem o_mod : BinD X Γ W (binaryOp .Mod) pMod := .Ic op_mod (fun i j h => by simpa using h) fun _ _ _ => .int _
theorem o_div : BinD X Γ W (binaryOp .FloorDiv) pDiv := .Ic op_fdiv (fun i j h => by
  simp only [Bool.and_eq_true, decide_eq_true_eq] at h; unfold CDiv
  exact ⟨h.1, by omega⟩) fun _ _ _ => .int _
theorem o_pow : BinD X Γ W (binaryOp .Pow) pPow := .Ic op_pow (fun i j h => by
  simp only [Bool.and_eq_true, decide_eq_true_eq] at h; unfold CPow
  exact ⟨h.1.1, by omega, by omega⟩) fun _ _ _ => .int _
theorem o_add : BinD X Γ W (binaryOp .Add) pAdd := by
  intro pins s σ H x y v u Q I rx ry ⟨H0, G0, G, gg, σ', d, e, dx, dy, q⟩
  unfold pAdd at q
  split at q
  · cases dx; cases dy
    exact op_add pins s σ H _ _ v u Q I rx ry ⟨_, _, rfl, rfl, q.here (.int _)⟩
  · cases dx; cases dy
    split at q
    · rename_i c
      exact op_add_str pins s σ H _ _ v u Q I rx ry ⟨_, _, rfl, rfl, sz5 c, q.here (.str _)⟩
    · exact q.stop
  · split at q
    · rename_i c
      obtain ⟨l, vs, rfl, h3, h4⟩ := Dv.tup_inv dx
      obtain ⟨l', vs', rfl, h3', h4'⟩ := Dv.tup_inv dy
      refine op_catA pins s σ H _ _ v u Q I rx ry ⟨l, l', vs, vs', rfl, rfl, q.1.sub.sqT h3, q.1.sub.sqT h3', by rw [h4.length, h4'.length]; exact sz5 c, fun e => ?_, fun e1 e2 => ?_, fun e1 e2 p hp => ?_⟩
      · subst e
        cases h4
        exact q.here (.tup h3' h4')
      · subst e2
        cases h4'
        rw [List.append_nil] at q
        exact q.here (.tup h3 h4)
      · have gp : G p = none := by
          cases z : G p with
          | none => rfl
          | some u => rw [q.1.sub _ _ z] at hp; cases hp
        exact q.new hp (.tup (SqT.of upd_same) ((h4.append h4').mono (Gr.upd gp)))
    · exact q.stop
  · exact q.stop
theorem o_eqD (hu : X.A.units + 64 < cLine) : BinD X Γ W (compareOp .Eq) pEqD := by
  intro pins s σ H x y v u Q I rx ry ⟨H0, G0, G, gg, σ', d, e, dx, dy, q⟩
  unfold pEqD at q
  split at q
  · rename_i p p' hp hp'
    split at q
    · rename_i c
      rw [Bool.and_eq_true] at c
      exact op_eqD hu pins s σ H _ _ v u Q I rx ry ⟨p, p', dx.dp q.1.sub hp, dy.dp q.1.sub hp', c.1, c.2, q.here (.bl _)⟩
    · exact q.stop
  · exact q.stop
theorem o_neD (hu : X.A.units + 64 < cLine) : BinD X Γ W (compareOp .NotEq) pNeD := by
  intro pins s σ H x y v u Q I rx ry ⟨H0, G0, G, gg, σ', d, e, dx, dy, q⟩
  unfold pNeD at q
  split at q
  · rename_i p p' hp hp'
    split at q
    · rename_i c
      rw [Bool.and_eq_true] at c
      exact op_neD hu pins s σ H _ _ v u Q I rx ry ⟨p, p', dx.dp q.1.sub hp, dy.dp q.1.sub hp', c.1, c.2, q.here (.bl _)⟩
    · exact q.stop
  · exact q.stop
theorem o_eq (hu : X.A.units + 64 < cLine) : BinD X Γ W (compareOp .Eq) pEq := by
  intro pins s σ H x y v u Q I rx ry ⟨H0, G0, G, gg, σ', d, e, dx, dy, q⟩
  unfold pEq at q
  split at q
  · cases dx; cases dy
    exact op_eq pins s σ H _ _ v u Q I rx ry ⟨rfl, by simpa using q.here (.bl _)⟩
  · cases dx; cases dy
    exact op_eq pins s σ H _ _ v u Q I rx ry ⟨rfl, by simpa using q.here (.bl _)⟩
  · exact o_eqD hu pins s σ H x y v u Q I rx ry ⟨H0, G0, G, gg, σ', d, e, dx, dy, q⟩
theorem o_ne (hu : X.A.units + 64 < cLine) : BinD X Γ W (compareOp .NotEq) pNe := by
  intro pins s σ H x y v u Q I rx ry ⟨H0, G0, G, gg, σ', d, e, dx, dy, q⟩
  unfold pNe at q
  split at q
  · cases dx; cases dy
    exact op_ne pins s σ H _ _ v u Q I rx ry ⟨rfl, by simpa using q.here (.bl _)⟩
  · cases dx; cases dy
    exact op_ne pins s σ H _ _ v u Q I rx ry ⟨rfl, by simpa using q.here (.bl _)⟩
  · exact o_neD hu pins s σ H x y v u Q I rx ry ⟨H0, G0, G, gg, σ', d, e, dx, dy, q⟩
theorem o_is : BinD X Γ W (compareOp .Is) pIs := by
  intro pins s σ H x y v u Q I rx ry ⟨H0, G0, G, gg, σ', d, e, dx, dy, q⟩
  unfold pIs at q
  split at q
  · cases dy
    exact op_isN pins s σ H _ _ v u Q I rx ry ⟨rfl, by rw [dx.isNon]; exact q.here (.bl _)⟩
  · cases dy
    split at q
    · cases dx
      exact op_isBl pins s σ H _ _ v u Q I rx ry ⟨_, _, rfl, rfl, q.here (.bl _)⟩
    · exact q.stop
  · exact q.stop
theorem o_nis : BinD X Γ W (compareOp .IsNot) pNis := by
  intro pins s σ H x y v u Q I rx ry ⟨H0, G0, G, gg, σ', d, e, dx, dy, q⟩
  unfold pNis at q
  split at q
  · cases dy
    exact op_notN pins s σ H _ _ v u Q I rx ry ⟨rfl, by rw [dx.isNon]; exact q.here (.bl _)⟩
  · cases dy
    split at q
    · cases dx
      exact op_notBl pins s σ H _ _ v u Q I rx ry ⟨_, _, rfl, rfl, q.here (.bl _)⟩
    · exact q.stop
  · exact q.stop
theorem seq_at {K : PySem.W.Frag} {G H : Hp} {v : V} {d : D} {ds : List D} (h : Dv K Γ G v d) (e : aSeq d = some ds) (s : Gr G H) : ∃ l vs, v = .ref l ∧ (SqL K H l vs ∨ SqT K H l vs) ∧ DvA K Γ G vs ds := by
  cases d <;> simp [aSeq] at e
  · subst e
    obtain ⟨l, vs, rfl, h3, h4⟩ := Dv.lst_inv h
    exact ⟨l, vs, rfl, .inl (SqL.of (s _ _ h3)), h4⟩
  · subst e
    obtain ⟨l, vs, rfl, h3, h4⟩ := Dv.tup_inv h
    exact ⟨l, vs, rfl, .inr (s.sqT h3), h4⟩
theorem in_core {neg : Bool} {F : Value → Value → Sem Value} (h : OpR X F (rIn X.K neg)) : BinD X Γ W F (pIn neg) := by
  intro pins s σ H x y v u Q I rx ry ⟨H0, G0, G, gg, σ', d, e, dx, dy, q⟩
  unfold pIn at q
  split at q
  · rename_i es he
    split at q
    · rename_i x' xs' h1 h2
      obtain ⟨l, vs, rfl, h3, h4⟩ := seq_at dy he q.1.sub
      obtain ⟨rfl, f1⟩ := dx.flat h1
      obtain ⟨rfl, f2⟩ := h4.flat h2
      exact h pins s σ H _ _ v u Q I rx ry ⟨l, _, rfl, h3, f1, f2, q.here (.bl _)⟩
    · exact q.stop
  · exact q.stop
theorem o_in : BinD X Γ W (compareOp .In) (pIn false) := in_core op_in_seq
theorem o_nin : BinD X Γ W (compareOp .NotIn) (pIn true) := in_core op_notIn_seq

/-! ### chains of comparisons -/
variable {a b c e : Expr} {es : List Expr} {pos : Pos}
def fChain (p q : D → D → Mo D) (f h j : Mo D) : Mo D := bd f fun d => bd h fun e => bd (p d e) fun z => bd (aB z) fun t => if t = true then bd j fun w => q e w else rt (.bl false)
theorem chain_read {op op' : CmpOp} {p q : D → D → Mo D} {f h j : Mo D} {σ : L2.St} {H : Hp} {Q : VK} (hh : tG X.K Γ W (RD X.K Γ) (fChain p q f h j) σ H Q) :
    tChain (fun x y H Q => ∃ H0 G0 G g σ d e, Dv X.K Γ G x d ∧ Dv X.K Γ G y e ∧ tAt X.K Γ W (RD X.K Γ) (p d e) H0 G0 G g σ H Q) (fun x y H Q => ∃ H0 G0 G g σ d e, Dv X.K Γ G x d ∧ Dv X.K Γ G y e ∧ tAt X.K Γ W (RD X.K Γ) (q d e) H0 G0 G g σ H Q)
      (tG X.K Γ W (RD X.K Γ) f) (tG X.K Γ W (RD X.K Γ) h) (tG X.K Γ W (RD X.K Γ) j) σ H Q :=
  hh.bind fun H0 G0 d v g1 G1 H1 r1 h1 => (h1.bind fun e u g2 G2 H2 gr2 r2 h2 => ⟨H0, G0, G2, g2, σ, d, e, r1.mono gr2, r2, h2.bind fun z w g3 G3 H3 gr3 r3 h3 => by
    obtain ⟨t, rfl, h4⟩ := h3.bl r3
    refine ⟨t, rfl, ?_⟩
    cases t with
    | true =>
      rw [if_pos rfl] at h4 ⊢
      exact (h4.bind fun w x g4 G4 H4 gr4 r4 h5 => ⟨H0, G0, G4, g4, σ, e, w, (Dv.mono gr3 r2).mono gr4, r4, h5⟩).g
    | false =>
      rw [if_neg Bool.false_ne_true] at h4 ⊢
      exact h4.here (.bl _)⟩).g
theorem d_chain {op op' : CmpOp} {p q : D → D → Mo D} {f h j : Mo D} (ho : BinD X Γ W (compareOp op) p) (ho' : BinD X Γ W (compareOp op') q) (ha : DX X Γ W a f) (hb : DX X Γ W b h) (hc : DX X Γ W c j)
    (hm : lastMarks [op, op'] [b, c] = false := by with_unfolding_all rfl) : DX X Γ W (.Compare a [op, op'] [b, c] pos) (fChain p q f h j) :=
  (pe_chain ho ho' ha hb hc hm).imp fun σ H Q h => chain_read (op := op) (op' := op') h
theorem t_chain {op op' : CmpOp} {p q : D → D → Mo D} {f h j : Mo D} (ho : BinD X Γ W (compareOp op) p) (ho' : BinD X Γ W (compareOp op') q) (ha : DX X Γ W a f) (hb : DX X Γ W b h) (hc : DX X Γ W c j)
    (hm : lastMarks [op, op'] [b, c] = false := by with_unfolding_all rfl) : DT X Γ W (.Compare a [op, op'] [b, c] pos) (fT (fChain p q f h j)) :=
  (pt_chain ho ho' ha hb hc hm).imp fun σ H Q h => chain_read (op := op) (op' := op') (tT (k := fun _ _ _ => True) h)

/-! ### negative numbers, items, slices -/
def fNeg (f : Mo D) : Mo D := bd f fun d => match d with
  | .int i => rt (.int (-i))
  | _ => stop
theorem d_neg {f : Mo D} (ha : DX X Γ W a f) : DX X Γ W (.UnaryOp .USub a pos) (fNeg f) :=
  (pe_un un_neg ha).imp fun σ H Q h => h.bind fun H0 G0 d v g1 G1 H1 r1 h1 => by
    split at h1
    · cases r1; exact ⟨_, rfl, h1.here (.int _)⟩
    · exact h1.stop
def pIx (ds : List D) (e : D) : Mo D := match e with
  | .int i => match atI ds i with
    | some d => rt d
    | none => stop
  | _ => stop
def fIx (f : Mo (List D)) (h : Mo D) : Mo D := bd f fun ds => bd h (pIx ds)
theorem atI_dv {K : PySem.W.Frag} {G : Hp} {vs : List V} {ds : List D} (h : DvA K Γ G vs ds) {i : Int} {d : D} (e : atI ds i = some d) : ∃ v, atI vs i = some v ∧ Dv K Γ G v d := by
  unfold atI at e ⊢
  rw [h.length]
  cases z : ixN ds.length i with
  | none => rw [z] at e; cases e
  | some j =>
    rw [z] at e
    exact h.get j e
/-- a[i], a a known list or tuple -/
def fIxD (f : Mo D) (h : Mo D) : Mo D := bd f fun d => bd h fun e => match aSeq d with
  | some ds => pIx ds e
  | none => stop
theorem d_ix {f h : Mo D} (ha : DX X Γ W a f) (hb : DX X Γ W b h) (hs : PlainIx b) : DX X Γ W (.Subscript a b pos) (fIxD f h) :=
  (pe_ix (ix_list.or ix_tup) ha hb hs).imp fun σ H Q h => h.bind fun H0 G0 d v g1 G1 H1 r1 h1 => (h1.bind fun e u g2 G2 H2 gr2 r2 h2 => by
    split at h2
    · rename_i ds hd
      unfold pIx at h2
      split at h2
      · split at h2
        · rename_i d' hd'
          cases r2
          obtain ⟨l, vs, rfl, h3, h4⟩ := seq_at (Dv.mono gr2 r1) hd h2.1.sub
          obtain ⟨w, hw, dw⟩ := atI_dv h4 hd'
          rcases h3 with h3 | h3
          · exact .inl ⟨l, vs, _, w, rfl, rfl, h3, hw, h2.here dw⟩
          · exact .inr ⟨l, vs, _, w, rfl, rfl, h3, hw, h2.here dw⟩
        · exact h2.stop
      · exact h2.stop
    · exact h2.stop).g
/-- the parts of a slice -/
abbrev DO (X : Cx) (Γ : Gam) (W : WX) (e : Option Expr) (f : Mo (Option Int)) : Prop := PO X e (tG X.K Γ W (fun _ _ _ _ _ v d => v = d) f)
theorem _root_.L2.PO.imp {X : Cx} {e : Option Expr} {t t' : TO} (h : PO X e t) (k : ∀ σ H Q, t' σ H Q → t σ H Q) : PO X e t' := ⟨fun p s σ H Q I q => h.run p s σ H Q I (k _ _ _ q)⟩
theorem do_none : DO X Γ W none (rt none) := po_none.imp fun σ H Q ⟨H0, G0, G, g, h⟩ => h.here rfl
def fPart (f : Mo D) : Mo (Option Int) := bd f fun d => match d with
  | .int i => rt (some i)
  | _ => stop
theorem do_some {f : Mo D} (h : DX X Γ W e f) : DO X Γ W (some e) (fPart f) :=
  (po_some h).imp fun σ H Q h => h.bind fun H0 G0 d v g1 G1 H1 r1 h1 => by
    split at h1
    · cases r1; exact ⟨_, rfl, h1.here rfl⟩
    · exact h1.stop
def cutD {α : Type} (xs : List α) (lo hi : Option Int) : List α := (xs.drop (HT.sIx xs.length 0 lo)).take (HT.sIx xs.length xs.length hi - HT.sIx xs.length 0 lo)
theorem DvA.cut {K : PySem.W.Frag} {G : Hp} {vs : List V} {ds : List D} (h : DvA K Γ G vs ds) (lo hi : Option Int) : DvA K Γ G (cutV vs lo hi) (cutD ds lo hi) := by
  unfold cutV cutD
  rw [h.length]
  exact (h.drop _).take _
/-- t[lo:hi] of a known tuple -/
def fSlT (f : Mo D) (l u : Mo (Option Int)) : Mo D := bd f fun d => bd l fun lo => bd u fun hi => match d with
  | .tup ds => rt (.tup (cutD ds lo hi))
  | _ => stop
theorem d_slT {lo hi : Option Expr} {p2 : Pos} {f : Mo D} {l u : Mo (Option Int)} (ha : DX X Γ W a f) (hl : DO X Γ W lo l) (hh : DO X Γ W hi u) : DX X Γ W (.Subscript a (.Slice lo hi none p2) pos) (fSlT f l u) :=
  (pe_slice sl_tupA ha hl hh).imp fun σ H Q h => h.bind fun H0 G0 d v g1 G1 H1 r1 h1 => (h1.bind fun lo' lo g2 G2 H2 gr2 r2 h2 => (h2.bind fun hi' hi g3 G3 H3 gr3 r3 h3 => by
    obtain rfl := r2
    obtain rfl := r3
    split at h3
    · obtain ⟨l, vs, rfl, k1, k2⟩ := Dv.tup_inv ((Dv.mono gr2 r1).mono gr3)
      refine ⟨l, vs, rfl, h3.1.sub.sqT k1, fun hw => ?_, fun hw p hp => ?_⟩
      · refine h3.here (.tup k1 ?_)
        have e : cutD ‹List D› lo hi = ‹List D› := by
          unfold cutD
          rw [← k2.length, hw.1, hw.2, k2.length]; simp
        rw [e]; exact k2
      · have gp : G3 p = none := by
          cases z : G3 p with
          | none => rfl
          | some u => rw [h3.1.sub _ _ z] at hp; cases hp
        exact h3.new hp (.tup (SqT.of upd_same) ((k2.cut lo hi).mono (Gr.upd gp)))
    · exact h3.stop).g).g
/-- xs[lo:hi] of a known list: a new one -/
def fSlL (f : Mo D) (l u : Mo (Option Int)) : Mo (List D) := bd f fun d => bd l fun lo => bd u fun hi => match d with
  | .lst ds => rt (cutD ds lo hi)
  | _ => stop
theorem d_slL {lo hi : Option Expr} {p2 : Pos} {f : Mo D} {l u : Mo (Option Int)} (ha : DX X Γ W a f) (hl : DO X Γ W lo l) (hh : DO X Γ W hi u) : DF X Γ W (.Subscript a (.Slice lo hi none p2) pos) (fSlL f l u) :=
  (pe_slice sl_list ha hl hh).imp fun σ H Q h => h.bind fun H0 G0 d v g1 G1 H1 r1 h1 => (h1.bind fun lo' lo g2 G2 H2 gr2 r2 h2 => (h2.bind fun hi' hi g3 G3 H3 gr3 r3 h3 => by
    obtain rfl := r2
    obtain rfl := r3
    split at h3
    · obtain ⟨l, vs, rfl, k1, k2⟩ := Dv.lst_inv ((Dv.mono gr2 r1).mono gr3)
      exact ⟨l, vs, rfl, SqL.of (h3.1.sub _ _ k1), fun p hp => h3.newO hp (k2.cut lo hi)⟩
    · exact h3.stop).g).g

/-! ### built-ins -/
def fLen (f : Mo (List D)) : Mo D := bd f fun ds => rt (.int ds.length)
theorem d_len {x : Str} {p : Pos} {f : Mo (List D)} (ha : DP X Γ W e f) (hg : Gl X x) (hm : X.mg x = none) (hv : bootBuiltins x = some (.builtin "len")) (hn : x ≠ "__name__" := by decide) (hdb : (x == ("__debug__" : Str)) = false := by decide)
    (hs : starEach [e] X.env = (false, eval e X.env) :: starEach [] X.env := by rfl) (hpl : (backTo pos (starEach [] X.env)).any (·.1) = false := by rfl) : DX X Γ W (.Call (.Name x p) [e] [] pos) (fLen f) :=
  (pe_callB call_len_seq hg hm hv (pa_cons ha pa_nil hs) hn hdb hs hpl).imp fun σ H Q h => h.bind fun H0 G0 ds v g1 G1 H1 r1 h1 => by
    obtain ⟨l, vs, rfl, h3, h4⟩ := r1
    refine ⟨l, vs, rfl, h3.imp id fun z => h1.1.sub.sqT z, ?_⟩
    rw [h4.length]
    exact h1.here (.int _)
def fTupOf (f : Mo (List D)) : Mo D := bd f fun ds => rt (.tup ds)
theorem d_tuple {x : Str} {p : Pos} {f : Mo (List D)} (ha : DP X Γ W e f) (hg : Gl X x) (hm : X.mg x = none) (hv : bootBuiltins x = some (.type "tuple")) (hn : x ≠ "__name__" := by decide) (hdb : (x == ("__debug__" : Str)) = false := by decide)
    (hs : starEach [e] X.env = (false, eval e X.env) :: starEach [] X.env := by rfl) (hpl : (backTo pos (starEach [] X.env)).any (·.1) = false := by rfl) : DX X Γ W (.Call (.Name x p) [e] [] pos) (fTupOf f) :=
  (pe_callTy call_tuple_of hg hm hv (pa_cons ha pa_nil hs) hn hdb hs hpl).imp fun σ H Q h => h.bind fun H0 G0 ds v g1 G1 H1 r1 h1 => by
    obtain ⟨l, vs, rfl, h3, h4⟩ := r1
    refine ⟨l, vs, rfl, ?_⟩
    rcases h3 with h3 | h3
    · refine .inl ⟨h3, fun q hq => ?_⟩
      have gp : G1 q = none := by
        cases z : G1 q with
        | none => rfl
        | some u => rw [h1.1.sub _ _ z] at hq; cases hq
      exact h1.new hq (.tup (SqT.of upd_same) (h4.mono (Gr.upd gp)))
    · exact .inr ⟨h1.1.sub.sqT h3, h1.here (.tup h3 h4)⟩
def fListOf (f : Mo (List D)) : Mo (List D) := f
theorem d_list {x : Str} {p : Pos} {f : Mo (List D)} (ha : DP X Γ W e f) (hg : Gl X x) (hm : X.mg x = none) (hv : bootBuiltins x = some (.type "list")) (hn : x ≠ "__name__" := by decide) (hdb : (x == ("__debug__" : Str)) = false := by decide)
    (hs : starEach [e] X.env = (false, eval e X.env) :: starEach [] X.env := by rfl) (hpl : (backTo pos (starEach [] X.env)).any (·.1) = false := by rfl) : DF X Γ W (.Call (.Name x p) [e] [] pos) (bd f rt) :=
  (pe_callTy call_list_of hg hm hv (pa_cons ha pa_nil hs) hn hdb hs hpl).imp fun σ H Q h => h.bind fun H0 G0 ds v g1 G1 H1 r1 h1 => by
    obtain ⟨l, vs, rfl, h3, h4⟩ := r1
    exact ⟨l, vs, rfl, h3.imp id fun z => h1.1.sub.sqT z, fun q hq => h1.newO hq h4⟩
def fInt (f : Mo D) : Mo D := bd f fun d => match d with
  | .int i => rt (.int i)
  | .bl b => rt (.int (if b then 1 else 0))
  | _ => stop
theorem d_intOf {x : Str} {p : Pos} {f : Mo D} (ha : DX X Γ W e f) (hg : Gl X x) (hm : X.mg x = none) (hv : bootBuiltins x = some (.type "int")) (hn : x ≠ "__name__" := by decide) (hdb : (x == ("__debug__" : Str)) = false := by decide)
    (hs : starEach [e] X.env = (false, eval e X.env) :: starEach [] X.env := by rfl) (hpl : (backTo pos (starEach [] X.env)).any (·.1) = false := by rfl) : DX X Γ W (.Call (.Name x p) [e] [] pos) (fInt f) :=
  (pe_callTy call_int1 hg hm hv (pa_cons ha pa_nil hs) hn hdb hs hpl).imp fun σ H Q h => h.bind fun H0 G0 d v g1 G1 H1 r1 h1 => by
    split at h1
    · cases r1; exact .inl ⟨_, rfl, h1.here (.int _)⟩
    · cases r1; exact .inr ⟨_, rfl, h1.here (.int _)⟩
    · exact h1.stop
def tyD : D → String
  | .non => "NoneType"
  | .bl _ => "bool"
  | .int _ => "int"
  | .str _ => "str"
  | .lst _ => "list"
  | .tup _ => "tuple"
  | .dic _ => "dict"
  | .m => "dict"
  | .exc _ _ => "?"
  | .scr _ => "?"
  | .fn _ => "?"
def isExc : D → Bool
  | .exc _ _ => true
  | .scr _ => true
  | .fn _ => true
  | _ => false
theorem Dv.ty {K : PySem.W.Frag} {G H : Hp} {v : V} {d : D} (h : Dv K Γ G v d) (ne : isExc d = false) (s : Gr G H) {s' : DS} (m : StM Γ G H s') : TyX K H v (.type (tyD d)) := by
  cases h with
  | non => exact .base .non
  | bl b => exact .base (.bl b)
  | int i => exact .base (.int i)
  | str z => exact .base (.str z)
  | lst h1 _ => exact .base (.lst (s _ _ h1))
  | tup h1 _ =>
    rcases h1 with (h1 | ⟨o, h1⟩) | ⟨o, its, n, h1, h2, _⟩
    · exact .base (.tup (s _ _ h1))
    · exact .fTuple (s _ _ h1)
    · exact .kTuple h1 h2
  | dic h1 _ => exact .base (.dK (s _ _ h1))
  | m =>
    obtain ⟨l, h1, _⟩ := m
    exact .base (.dK h1)
  | exc _ _ _ _ => cases ne
  | scr _ => cases ne
  | fn _ => cases ne
def fIsi (T : String) (f : Mo D) : Mo D := bd f fun d => if isExc d = true then stop else match kitB (tyD d) T with
  | some b => rt (.bl b)
  | none => stop
theorem d_isi {x : Str} {T : String} {p : Pos} {f : Mo D} {b : Expr} (ha : DX X Γ W e f) (hT : PE X b (tC (.ty T))) (hg : Gl X x) (hm : X.mg x = none) (hv : bootBuiltins x = some (.builtin "isinstance")) (hn : x ≠ "__name__" := by decide) (hdb : (x == ("__debug__" : Str)) = false := by decide)
    (hs2 : starEach [b] X.env = (false, eval b X.env) :: starEach [] X.env := by rfl) (hs : starEach [e, b] X.env = (false, eval e X.env) :: starEach [b] X.env := by rfl) (hpl : (backTo pos (starEach [b] X.env)).any (·.1) = false := by rfl) : DX X Γ W (.Call (.Name x p) [e, b] [] pos) (fIsi T f) :=
  (pe_callB call_isi hg hm hv (pa_cons ha (pa_cons hT pa_nil hs2) hs) hn hdb hs hpl).imp fun σ H Q h => h.bind fun H0 G0 d v g1 G1 H1 r1 h1 => by
    split at h1
    · exact h1.stop
    · rename_i ne
      split at h1
      · rename_i bb hk
        exact ⟨v, .ty T, _, _, bb, rfl, .ty T, Dv.ty r1 (by simpa using ne) h1.1.sub h1.1.st, kit_ty hk, h1.here (.bl _)⟩
      · exact h1.stop
end
end DE
namespace DE
open PyProof.Rows PySem.Spec PySem L2
/-! ### a def of the text, ready to be called -/
def Kf (P : Program) (w : World) (K : PySem.W.Frag) (mg : Str → Option Value) (base : Heap) (k : Nat) (x : Str) (sp : Sp) : Prop :=
  ∃ f fd ps, FnG P w K mg base k f fd ps sp ∧ mg x = some (.ref f) ∧ PySem.W.keepIn K (.ref f) = true ∧ Binds K fd ps []
theorem Kf.mono {P : Program} {w : World} {K : PySem.W.Frag} {mg : Str → Option Value} {base : Heap} {j k : Nat} {x : Str} {sp : Sp} (h : Kf P w K mg base j x sp) (hk : j ≤ k) : Kf P w K mg base k x sp :=
  let ⟨f, fd, ps, a, b⟩ := h
  ⟨f, fd, ps, a.mono hk, b⟩
section
variable {X : Cx} {Γ : Gam} {W : WX} {a b c e : Expr} {es : List Expr} {pos : Pos} {k : Nat}
theorem d_callK {j n : Nat} {gm : Fd} {x : Str} {p : Pos} {fa : Mo (List D)} (F : Kf X.prog X.w X.K X.mg X.base j x (dsp X.K Γ n gm)) (hk : j ≤ k) (C : Ct X W k) (hg : Gl X x)
    (ha : DA X Γ W (e :: es) fa) (hdb : (x == ("__debug__" : Str)) = false := by decide) (he : starEach (e :: es) X.env = (false, eval e X.env) :: starEach es X.env := by rfl) (hpl : (backTo pos (starEach es X.env)).any (·.1) = false := by rfl) :
    DX X Γ W (.Call (.Name x p) (e :: es) [] pos) (fCallN n gm fa) :=
  let ⟨f, fd, ps, h1, h2, h3, h4⟩ := F.mono hk
  d_call h1 C hg h2 h3 h4 ha hdb he hpl
/-! ### two lists -/
def fCat (f h : Mo D) : Mo (List D) := bd f fun d => bd h fun e => match d, e with
  | .lst xs, .lst ys => if xs.length + ys.length ≤ 100000 then rt (xs ++ ys) else stop
  | _, _ => stop
theorem d_catO {f h : Mo D} (ha : DX X Γ W a f) (hb : DX X Γ W b h) : DF X Γ W (.BinOp a .Add b pos) (fCat f h) :=
  (pe_op op_cat ha hb).imp fun σ H Q h => h.bind fun H0 G0 d v g1 G1 H1 r1 h1 => (h1.bind fun e u g2 G2 H2 gr2 r2 h2 => by
    split at h2
    · split at h2
      · rename_i c
        obtain ⟨l, vs, rfl, h3, h4⟩ := Dv.lst_inv (Dv.mono gr2 r1)
        obtain ⟨l', vs', rfl, h3', h4'⟩ := Dv.lst_inv r2
        exact ⟨l, l', vs, vs', rfl, rfl, h2.1.sub _ _ h3, h2.1.sub _ _ h3', by rw [h4.length, h4'.length]; exact sz5 c, fun p hp => h2.newO hp (h4.append h4')⟩
      · exact h2.stop
    · exact h2.stop).g
theorem d_catL {f h : Mo D} (ha : DX X Γ W a f) (hb : DX X Γ W b h) : DX X Γ W (.BinOp a .Add b pos) (fLet (fCat f h)) := d_let (d_catO ha hb)
/-- a slice of a known tuple or list -/
def fSl (f : Mo D) (l u : Mo (Option Int)) : Mo D := bd f fun d => bd l fun lo => bd u fun hi => match d with
  | .tup ds => rt (.tup (cutD ds lo hi))
  | .lst ds => rt (.lst (cutD ds lo hi))
  | _ => stop
theorem d_sl {lo hi : Option Expr} {p2 : Pos} {f : Mo D} {l u : Mo (Option Int)} (ha : DX X Γ W a f) (hl : DO X Γ W lo l) (hh : DO X Γ W hi u) : DX X Γ W (.Subscript a (.Slice lo hi none p2) pos) (fSl f l u) :=
  (pe_slice (sl_tupA.or sl_list) ha hl hh).imp fun σ H Q h => h.bind fun H0 G0 d v g1 G1 H1 r1 h1 => (h1.bind fun lo' lo g2 G2 H2 gr2 r2 h2 => (h2.bind fun hi' hi g3 G3 H3 gr3 r3 h3 => by
    obtain rfl := r2
    obtain rfl := r3
    have gp : ∀ {p : Addr}, H3 p = none → G3 p = none := fun {p} hp => by
      cases z : G3 p with
      | none => rfl
      | some u => rw [h3.1.sub _ _ z] at hp; cases hp
    split at h3
    · obtain ⟨l, vs, rfl, k1, k2⟩ := Dv.tup_inv ((Dv.mono gr2 r1).mono gr3)
      refine .inl ⟨l, vs, rfl, h3.1.sub.sqT k1, fun hw => ?_, fun hw p hp => ?_⟩
      · refine h3.here (.tup k1 ?_)
        have e : cutD ‹List D› lo hi = ‹List D› := by
          unfold cutD
          rw [← k2.length, hw.1, hw.2, k2.length]; simp
        rw [e]; exact k2
      · exact h3.new hp (.tup (SqT.of upd_same) ((k2.cut lo hi).mono (Gr.upd (gp hp))))
    · obtain ⟨l, vs, rfl, k1, k2⟩ := Dv.lst_inv ((Dv.mono gr2 r1).mono gr3)
      exact .inr ⟨l, vs, rfl, SqL.of (h3.1.sub _ _ k1), fun p hp => h3.new hp (.lst upd_same ((k2.cut lo hi).mono (Gr.upd (gp hp))))⟩
    · exact h3.stop).g).g
/-! ### xs.append(e), xs.pop(e) of a list of one's own -/
def fApp (i : Nat) (f : Mo D) : Mo D := fun g => match g.r[i]? with
  | some (.own _) => bd f (fun d g1 => match g1.r[i]? with
    | some (.own xs) => if xs.length < 100000 then some (.ok .non, ⟨g1.r.set i (.own (xs ++ [d])), g1.s⟩) else none
    | _ => none) g
  | _ => none
theorem d_app (i : Nat) {x : Str} {p apos : Pos} {f : Mo D} (he : DX X Γ W e f) (hN : X.N[i]? = some x := by rfl) (hv : Vis X.env.scope x := by first | exact Or.inl rfl | exact Or.inr (Or.inl rfl) | exact Or.inr (Or.inr rfl)) (hd : (x == ("__debug__" : Str)) = false := by decide)
    (hcd : (x == ("__classdict__" : Str)) = false := by decide)
    (hbase : attributeBase (.Name x p) "append" X.env (eval (.Name x p) X.env) = eval (.Name x p) X.env := by rfl)
    (hfew : ((backTo pos (starEach [e] X.env)).all (fun x => !x.1) && (backToKw pos (keywordEach [] X.env)).all (fun x => x.1.isSome)
      && (decide (([e] : List Expr).length + ([] : List Keyword).length + (if ([] : List Keyword).isEmpty then 0 else 1) < 30))) = true := by rfl)
    (hline : (apos.endLine == pos.line) = true := by rfl) (hs : starEach [e] X.env = (false, eval e X.env) :: starEach [] X.env := by rfl) (hplain : (backTo pos (starEach [] X.env)).any (·.1) = false := by rfl) :
    DX X Γ W (.Call (.Attribute (.Name x p) "append" apos) [e] [] pos) (fApp i f) :=
  (pe_bm PySem.F.plainAttrs_list PySem.F.slot_list_append PySem.F.type_list_append mt_append (pe_var hN hv hd hcd) (pa_cons he pa_nil hs) hbase hfew hline hs hplain).imp fun σ H Q ⟨H0, G0, G, g, h⟩ => by
    obtain ⟨E, r, g', ef, q⟩ := h
    unfold fApp at ef
    split at ef
    · rename_i xs0 hi
      obtain ⟨l, vs, h1, h2, h3, h4, h5⟩ := E.own i _ hi
      refine ⟨_, h1, .inl ⟨rfl, _, SqL.of h2⟩, ?_⟩
      have t0 : tAt X.K Γ W (RD X.K Γ) (bd f (fun d g1 => match g1.r[i]? with
        | some (.own xs) => if xs.length < 100000 then some (.ok D.non, ⟨g1.r.set i (.own (xs ++ [d])), g1.s⟩) else none
        | _ => none)) H0 G0 G g σ H Q := ⟨E, r, g', ef, q⟩
      refine (t0.bind (R1 := RD X.K Γ) fun d v g1 G1 H1 gr r1 t1 => ?_).g
      obtain ⟨E1, r', g1', e1, q1⟩ := t1
      dsimp only at e1
      split at e1
      · rename_i xs hi1
        split at e1
        · rename_i hz
          cases e1
          obtain ⟨l1, vs1, k1, k2, k3, k4, k5⟩ := E1.own i xs hi1
          rw [h1] at k1; cases k1
          refine ⟨l, vs1, v, rfl, rfl, k2, by rw [k5.length]; exact Nat.lt_of_lt_of_le hz (by decide), ?_⟩
          exact q1 .non G1 _ (Gr.refl _) (E1.put hi1 h1 (k5.append (.cons r1 .nil))) .non
        · cases e1
      · cases e1
    · cases ef
def fPopAt (i : Nat) (f : Mo D) : Mo D := fun g => match g.r[i]? with
  | some (.own _) => bd f (fun d g1 => match d, g1.r[i]? with
    | .int j, some (.own xs) => match (if 0 ≤ j ∧ j < 100000 then xs[j.toNat]? else none) with
      | some y => some (.ok y, ⟨g1.r.set i (.own (xs.eraseIdx j.toNat)), g1.s⟩)
      | none => none
    | _, _ => none) g
  | _ => none
theorem d_popAt (i : Nat) {x : Str} {p apos : Pos} {f : Mo D} (he : DX X Γ W e f) (hN : X.N[i]? = some x := by rfl) (hv : Vis X.env.scope x := by first | exact Or.inl rfl | exact Or.inr (Or.inl rfl) | exact Or.inr (Or.inr rfl)) (hd : (x == ("__debug__" : Str)) = false := by decide)
    (hcd : (x == ("__classdict__" : Str)) = false := by decide)
    (hbase : attributeBase (.Name x p) "pop" X.env (eval (.Name x p) X.env) = eval (.Name x p) X.env := by rfl)
    (hfew : ((backTo pos (starEach [e] X.env)).all (fun x => !x.1) && (backToKw pos (keywordEach [] X.env)).all (fun x => x.1.isSome)
      && (decide (([e] : List Expr).length + ([] : List Keyword).length + (if ([] : List Keyword).isEmpty then 0 else 1) < 30))) = true := by rfl)
    (hline : (apos.endLine == pos.line) = true := by rfl) (hs : starEach [e] X.env = (false, eval e X.env) :: starEach [] X.env := by rfl) (hplain : (backTo pos (starEach [] X.env)).any (·.1) = false := by rfl) :
    DX X Γ W (.Call (.Attribute (.Name x p) "pop" apos) [e] [] pos) (fPopAt i f) :=
  (pe_bm PySem.F.plainAttrs_list PySem.F.slot_list_pop PySem.F.type_list_pop mt_popAt (pe_var hN hv hd hcd) (pa_cons he pa_nil hs) hbase hfew hline hs hplain).imp fun σ H Q ⟨H0, G0, G, g, h⟩ => by
    obtain ⟨E, r, g', ef, q⟩ := h
    unfold fPopAt at ef
    split at ef
    · rename_i xs0 hi
      obtain ⟨l, vs, h1, h2, h3, h4, h5⟩ := E.own i _ hi
      refine ⟨_, h1, .inl ⟨rfl, _, SqL.of h2⟩, ?_⟩
      have t0 : tAt X.K Γ W (RD X.K Γ) (bd f (fun d g1 => match d, g1.r[i]? with
        | .int j, some (.own xs) => match (if 0 ≤ j ∧ j < 100000 then xs[j.toNat]? else none) with
          | some y => some (.ok y, ⟨g1.r.set i (.own (xs.eraseIdx j.toNat)), g1.s⟩)
          | none => none
        | _, _ => none)) H0 G0 G g σ H Q := ⟨E, r, g', ef, q⟩
      refine (t0.bind (R1 := RD X.K Γ) fun d v g1 G1 H1 gr r1 t1 => ?_).g
      obtain ⟨E1, r', g1', e1, q1⟩ := t1
      dsimp only at e1
      split at e1
      · rename_i j xs hi1
        split at e1
        · rename_i y hy
          cases e1
          split at hy
          · rename_i hj
            cases r1
            obtain ⟨l1, vs1, k1, k2, k3, k4, k5⟩ := E1.own i xs hi1
            rw [h1] at k1; cases k1
            obtain ⟨w, hw, dw⟩ := k5.get _ hy
            have hlt : j.toNat < vs1.length := (List.getElem?_eq_some_iff.mp hw).1
            refine ⟨l, vs1, j, j.toNat, w, rfl, rfl, k2, by omega, by omega, seqIndex_of hj.1 (by omega), hw, ?_⟩
            exact q1 w G1 _ (Gr.refl _) (E1.put hi1 h1 (k5.eraseIdx _)) dw
          · cases hy
        · cases e1
      · cases e1
    · cases ef
/-! ### for over a range -/
def intsD (n : Int) : List D := (List.range n.toNat).map fun (i : Nat) => D.int (i : Int)
def fForR (f : Mo (List D)) (t : Mt) (b : Ms) : Ms := sb f fun ds => match ds with
  | [.int n] => if n ≤ 1000000 ∧ -1000000 ≤ n then loop t b (intsD n) else sStop
  | _ => sStop
theorem s_forR {tg : Expr} {p2 : Pos} {body : List Stmt} {f : Mo (List D)} {t : Mt} {kk : Ms} {js : List Nat} {gt : TG} {p : Pos} (hc : X.calm = true) (hp : PassesOwn (model X.prog X.w) X.A X.env X.xe) (hi : DA X Γ W [e] f) (hg : DG X Γ tg gt js t) (hb : DB X Γ W body kk)
    (hgl : Gl X "range") (hm : X.mg "range" = none) (hs1 : starEach [e] X.env = [(false, eval e X.env)] := by rfl)
    (hs : ∀ x, foldedSetIterable (.Call (.Name "range" p) [e] [] p2) X.env x = pure x := by intro _; rfl) : DS_ X Γ W (.For tg (.Call (.Name "range" p) [e] [] p2) body [] pos) (fForR f t kk) := by
  obtain ⟨pg, kg⟩ := hg
  refine (ps_for hp hc (pi_range1 hgl hm hi hs1) pg hb hs).imp fun Ds σ H h => h.bind (R1 := RA X.K Γ) fun H0 G0 ds vs g1 G1 H1 r1 h1 => ?_
  split at h1
  · rename_i n
    split at h1
    · rename_i hn
      cases r1 with
      | cons dv t0 =>
        cases t0
        cases dv
        refine ⟨n, rfl, by omega, by omega, for_range (lo := 0) (n := n.toNat) (fun i σ2 H2 => ∃ G2 g2, Gr G1 G2 ∧ tSt X.K Γ W (loop t kk ((intsD n).drop i)) H0 G0 G2 g2 Ds σ2 H2) ⟨G1, g1, Gr.refl _, h1⟩ ?_ ?_⟩
        · rintro i σ2 H2 hi ⟨G2, g2, gr2, h2⟩
          have ed : (intsD n).drop i = D.int (i : Int) :: (intsD n).drop (i + 1) := by
            have il : i < (intsD n).length := by unfold intsD; simpa using hi
            rw [List.drop_eq_getElem_cons il]
            have z : (intsD n)[i]? = some (D.int (i : Int)) := by unfold intsD; rw [List.getElem?_map, List.getElem?_range hi]; rfl
            rw [List.getElem?_eq_getElem il] at z
            rw [Option.some.inj z]
          rw [ed] at h2
          have e0 : (0 : Int) + (i : Int) = (i : Int) := Int.zero_add _; rw [e0]
          exact loop_turn h2 (.int _) (fun Q g' e k => kg _ σ2 H2 Q H0 G0 G2 g2 g' _ h2.1 (.int _) e fun σ' E' _ => k σ' E') fun σ3 G3 H3 g3 gr3 h3 => ⟨G3, g3, gr2.trans gr3, h3⟩
        · rintro σ2 H2 ⟨G2, g2, gr2, h2⟩
          have el : (intsD n).drop n.toNat = [] := by
            apply List.drop_eq_nil_of_le
            unfold intsD; simp
          rw [el] at h2
          exact h2.next rfl (Gr.refl _) h2.1
    · exact h1.stop
  · exact h1.stop
/-- a, b = x, y: no pair is made -/
def fPar (i j : Nat) (f h : Mo D) : Ms := sb f fun d => sb h fun e g => some (.nx, ⟨(g.r.set i (.dat d)).set j (.dat e), g.s⟩)
end
end DE
namespace DE
open PyProof.Rows PySem.Spec PySem L2
/-! ### a def's meaning: its body, run -/
def runB (f : Ms) (N n : Nat) : Fd := fun ds s => if ds.length = n then
    match f ⟨ds.map .dat ++ List.replicate (N - n) .no, s⟩ with
    | some (.ret d, g') => some (.ok d, g'.s)
    | some (.nx, g') => some (.ok .non, g'.s)
    | some (.exc x, g') => some (.error x, g'.s)
    | _ => none
  else none
theorem runB_gives (f : Ms) (N n : Nat) : bodyGives f N n (runB f N n) := by
  intro ds s r s' hn h
  unfold runB at h
  rw [if_pos hn] at h
  split at h
  · rename_i d g' e
    cases h
    exact ⟨g', rfl, .inl e⟩
  · rename_i g' e
    cases h
    exact ⟨g', rfl, .inr ⟨rfl, e⟩⟩
  · rename_i x g' e
    cases h
    exact ⟨g', rfl, .inl e⟩
  · cases h
theorem kf_of {P : Program} {w : World} {K : PySem.W.Frag} {mg : Str → Option Value} {base : Heap} {x qual : Str} {st : Stmt} {f : Addr} {fd : FuncData} {N ps : List Str} {k : Nat} {Γ : Gam} {fb : Ms}
    (F : Fun K x qual st f fd) (hm : mg x = some (.ref f)) (S : FnScope N ps (defScope st)) (hb : Binds K fd ps [])
    (hd : ∀ (cdv : Value) (A : Around) (outer : List Env) (s : Shared) (H : Hp) (E : XK), Ct (cxD P w K mg base N qual st f cdv A outer s H E) (fun c d _ H => E c d H) k → DB (cxD P w K mg base N qual st f cdv A outer s H E) Γ (fun c d _ H => E c d H) (defBody st) fb) :
    Kf P w K mg base (k + 1) x (dsp K Γ ps.length (runB fb N.length ps.length)) :=
  ⟨f, fd, ps, fn_data F S fb (runB_gives _ _ _) hd, hm, F.kp, hb⟩
theorem kf_ofC {P : Program} {w : World} {K : PySem.W.Frag} {mg : Str → Option Value} {base : Heap} {x qual : Str} {st : Stmt} {f : Addr} {fd : FuncData} {N ps : List Str} {k : Nat} {Γ : Gam} {fb : Ms}
    (F : Fun K x qual st f fd) (hm : mg x = some (.ref f)) (S : FnScope N ps (defScope st)) (hb : Binds K fd ps [])
    (hd : ∀ (cdv : Value) (A : Around) (outer : List Env) (s : Shared) (H : Hp) (E : XK), fd.code = cdv → Ct (cxD P w K mg base N qual st f cdv A outer s H E) (fun c d _ H => E c d H) k → DB (cxD P w K mg base N qual st f cdv A outer s H E) Γ (fun c d _ H => E c d H) (defBody st) fb) :
    Kf P w K mg base (k + 1) x (dsp K Γ ps.length (runB fb N.length ps.length)) :=
  ⟨f, fd, ps, fn_dataC F S fb (runB_gives _ _ _) hd, hm, F.kp, hb⟩
section
variable {X : Cx} {Γ : Gam} {W : WX} {a b c e : Expr} {es : List Expr} {pos : Pos} {k : Nat}
theorem takesB {X : Cx} : Takes X Wn := fun _ _ x => by
  obtain ⟨_, _, _, _, _, _, _, _, _, _, _, _, _, _, _, _, z⟩ := x; exact z.elim
theorem Ct.blk (C : Ct X W k) {s : Shared} {H : Hp} {scope : Scope} {env : Env} {fp : List Addr} : Ct (X.blk s H scope env fp) Wn k := ⟨C.calm, takesB, PassesOwn.never, C.room, C.gua⟩
theorem Ct.mono {j : Nat} (C : Ct X W k) (h : j ≤ k) : Ct X W j := ⟨C.calm, C.tk, C.pas, C.room.mono h, C.gua⟩
theorem pts_yes : DTs X Γ W [] (rt true) := pts_nil.imp fun σ H Q ⟨H0, G0, G, g, h⟩ => h.here rfl
theorem pts_1 {f : Mo Bool} (h : DT X Γ W e f) : DTs X Γ W [e] f := pts_one h
theorem s_retN : DS_ X Γ W (.Return none pos) (sOut (.ret .non)) := ps_retN.imp fun Ds σ H ⟨H0, G0, G, g, E, o, g', e, q⟩ => by cases e; exact q .non σ G H (Gr.refl _) E .non
/-! ### a, b = e1, e2 -/
def fParOO (i j : Nat) (f h : Mo (List D)) : Ms := sb f fun xs => sb h fun ys g => some (.nx, ⟨(g.r.set i (.own xs)).set j (.own ys), g.s⟩)
def fParDO (i j : Nat) (f : Mo D) (h : Mo (List D)) : Ms := sb f fun d => sb h fun ys g => some (.nx, ⟨(g.r.set i (.dat d)).set j (.own ys), g.s⟩)
def fParDD (i j : Nat) (f h : Mo D) : Ms := sb f fun d => sb h fun e g => some (.nx, ⟨(g.r.set i (.dat d)).set j (.dat e), g.s⟩)
theorem s_parDD {i j : Nat} {x y : Str} {px py pt : Pos} {kt k2 : Nat} {pt2 : Pos} {f h : Mo D} (hc : X.calm = true) (hN : X.N.Nodup) (ha : DX X Γ W a f) (hb : DX X Γ W b h) (hi : X.N[i]? = some x := by rfl) (hj : X.N[j]? = some y := by rfl) (hij : i ≠ j := by decide)
    (hx : X.env.scope.names.lookup x = some .local := by rfl) (hy : X.env.scope.names.lookup y = some .local := by rfl) (h1 : starEach [a, b] X.env = (false, eval a X.env) :: starEach [b] X.env := by rfl) (h2 : starEach [b] X.env = (false, eval b X.env) :: starEach [] X.env := by rfl)
    (hw : swappedStores [.Tuple [.Name x px, .Name y py] kt pt] (.Tuple [a, b] k2 pt2) X.env = pure (some [x, y]) := by rfl)
    (hs : swapsWithSole [.Tuple [.Name x px, .Name y py] kt pt] (.Tuple [a, b] k2 pt2) pos.line X.env = pure false := by rfl) : DS_ X Γ W (.Assign [.Tuple [.Name x px, .Name y py] kt pt] (.Tuple [a, b] k2 pt2) pos) (fParDD i j f h) :=
  (ps_par hc hN hi hj hij hx hy (pa_cons ha (pa_cons hb pa_nil h2) h1) hw hs).imp fun Ds σ H hh => hh.bind fun H0 G0 d v g1 G1 H1 r1 t1 => (t1.bind (R1 := RD X.K Γ) fun e u g2 G2 H2 _ gr2 r2 t2 =>
    ⟨v, u, rfl, t2.next rfl (Gr.refl _) ((t2.1.set i (Dv.mono gr2 r1)).set j r2)⟩).g
/-- the lists of a tuple display that is never made: both one's own -/
theorem par_own {K : PySem.W.Frag} {f h : Mo (List D)} {k : List D → List D → Ms} {Ds : Ends} {σ : L2.St} {H : Hp} {Q : V → V → Hp → Prop} (hh : tS K Γ W (sb f fun xs => sb h (k xs)) Ds σ H)
    (hQ : ∀ H0 G0 G2 H2 g2 xs ys v u, Fre K Γ H0 G2 H2 σ g2 v xs → Fre K Γ H0 G2 H2 σ g2 u ys → v ≠ u → tSt K Γ W (k xs ys) H0 G0 G2 g2 Ds σ H2 → Q v u H2) :
    tG K Γ W (RF K Γ) f σ H fun v H1 => tG K Γ W (RF K Γ) h σ H1 fun u H2 => Q v u H2 :=
  hh.bind fun H0 G0 xs v g1 G1 H1 r1 t1 => by
    obtain ⟨E1, o, g', e, q⟩ := t1
    obtain ⟨p, vs, rfl, p1, p2, p3, p4, p5⟩ := r1.at_
    obtain ⟨Hr, up, dn, F, back⟩ := E1.rebase
    have pm : p ≠ Γ.M := by
      obtain ⟨lm, hM, _⟩ := E1.st
      rintro rfl
      rw [hM] at p1; cases p1
    have hp : Hr p = some (.lst vs) := dn p _ p1 pm fun i zs hi hs => p5 i zs hi hs
    refine ⟨Hr, G1, G1, g1, F, ?_⟩
    unfold sb at e
    cases hf : h g1 with
    | none => (rw [hf] at e); cases e
    | some w =>
      obtain ⟨rr, g2⟩ := w
      rw [hf] at e
      cases rr with
      | error x =>
        cases e
        exact ⟨.error x, _, rfl, fun C dd G' H' gr E' hx => q C dd σ G' H' gr (back _ _ _ _ E') hx⟩
      | ok ys =>
        refine ⟨.ok ys, g2, rfl, fun u G2 H2 gr2 E2 r2 => ?_⟩
        have B2 := back _ _ _ _ E2
        obtain ⟨p', vs', rfl, q1, q2, q3, q4, q5⟩ := r2.at_
        have hpq : p ≠ p' := by rintro rfl; rw [hp] at q3; cases q3
        have h0 : H0 p' = none := by
          cases z : H0 p' with
          | none => rfl
          | some u =>
            exfalso
            have ok' : p' ≠ Γ.M → Γ.Ok p' := fun _ => E2.ok_lst q1
            have pm' : p' ≠ Γ.M := by
              obtain ⟨lm, hM, _⟩ := E2.st
              rintro rfl
              rw [hM] at q1; cases q1
            have a1 := E1.base p' u (ok' pm') z
            have a2 : Hr p' = some u := dn p' u a1 pm' fun i zs hi hs => by
              obtain ⟨l, _, k1, _, _, k4, _⟩ := E1.own i zs hi
              rw [hs] at k1; cases k1; rw [k4] at z; cases z
            rw [q3] at a2; cases a2
        refine hQ H0 G0 G2 H2 g2 xs ys _ _ ⟨p, vs, rfl, E2.base p _ (E1.ok_lst p1) hp, E2.gfr p _ hp p2, p3, p4.mono gr2, fun i zs hi hs => ?_⟩ ⟨p', vs', rfl, q1, q2, h0, q4, q5⟩ (fun z => by cases z; exact hpq rfl) ⟨B2, o, g', e, ?_⟩
        · obtain ⟨l, _, k1, _, _, k4, _⟩ := E2.own i zs hi
          rw [hs] at k1; cases k1; rw [hp] at k4; cases k4
        · cases o with
          | nx => exact fun σ2 G3 H3 gr3 => q σ2 G3 H3 (gr2.trans gr3)
          | brk => exact fun σ2 G3 H3 gr3 => q σ2 G3 H3 (gr2.trans gr3)
          | ct => exact fun σ2 G3 H3 gr3 => q σ2 G3 H3 (gr2.trans gr3)
          | ret d2 => exact fun v2 σ2 G3 H3 gr3 => q v2 σ2 G3 H3 (gr2.trans gr3)
          | exc x => exact fun C dd σ2 G3 H3 gr3 => q C dd σ2 G3 H3 (gr2.trans gr3)
theorem s_parOO {i j : Nat} {x y : Str} {px py pt : Pos} {kt k2 : Nat} {pt2 : Pos} {f h : Mo (List D)} (hc : X.calm = true) (hN : X.N.Nodup) (ha : DF X Γ W a f) (hb : DF X Γ W b h) (hi : X.N[i]? = some x := by rfl) (hj : X.N[j]? = some y := by rfl) (hij : i ≠ j := by decide)
    (hx : X.env.scope.names.lookup x = some .local := by rfl) (hy : X.env.scope.names.lookup y = some .local := by rfl) (h1 : starEach [a, b] X.env = (false, eval a X.env) :: starEach [b] X.env := by rfl) (h2 : starEach [b] X.env = (false, eval b X.env) :: starEach [] X.env := by rfl)
    (hw : swappedStores [.Tuple [.Name x px, .Name y py] kt pt] (.Tuple [a, b] k2 pt2) X.env = pure (some [x, y]) := by rfl)
    (hs : swapsWithSole [.Tuple [.Name x px, .Name y py] kt pt] (.Tuple [a, b] k2 pt2) pos.line X.env = pure false := by rfl) : DS_ X Γ W (.Assign [.Tuple [.Name x px, .Name y py] kt pt] (.Tuple [a, b] k2 pt2) pos) (fParOO i j f h) :=
  (ps_par hc hN hi hj hij hx hy (pa_cons ha (pa_cons hb pa_nil h2) h1) hw hs).imp fun Ds σ H hh => par_own hh fun H0 G0 G2 H2 g2 xs ys v u r1 r2 hne t => by
    refine ⟨v, u, rfl, t.next rfl (Gr.refl _) ((t.1.setO i r1).setO j ?_)⟩
    obtain ⟨p', vs', rfl, q1, q2, q3, q4, q5⟩ := r2.at_
    refine ⟨p', vs', rfl, q1, q2, q3, q4, fun l zs hl hs => ?_⟩
    by_cases z : l = i
    · subst z
      have il : l < g2.r.length := by have := (List.getElem?_eq_some_iff.mp hl).1; simpa using this
      rw [List.getElem?_set_self (by rw [← t.1.len]; exact il)] at hs
      exact hne (Option.some.inj (Option.some.inj hs))
    · rw [List.getElem?_set_ne (Ne.symm z)] at hl hs
      exact q5 l zs hl hs
/-! ### for i, x in enumerate(list) -/
def fForE (f : Mo (List D)) (t : Mt) (b : Ms) : Ms := sb f fun ds => match ds with
  | [.lst xs] => loop t b (xs.zipIdx.map fun p => D.tup [.int p.2, p.1])
  | _ => sStop
end
end DE
namespace DE
open PyProof.Rows PySem.Spec PySem L2
/-! ### the draw dict -/
def mkvs (l : Addr) (s : DS) : List (Key × V) := [(Sum.inr "great", .ref l), (Sum.inr "seed", .int s.seed), (Sum.inr "turns", .int s.turns)]
theorem gs_ : ¬ (("great" : Str) = "seed") := by decide +kernel
theorem gt_ : ¬ (("great" : Str) = "turns") := by decide +kernel
theorem st_ : ¬ (("seed" : Str) = "turns") := by decide +kernel
theorem val_g (l : Addr) (s : DS) : valV (mkvs l s) (Sum.inr "great") = some (.ref l) := by simp [mkvs, valV, List.find?_cons]
theorem val_s (l : Addr) (s : DS) : valV (mkvs l s) (Sum.inr "seed") = some (.int s.seed) := by simp [mkvs, valV, List.find?_cons, gs_]
theorem val_t (l : Addr) (s : DS) : valV (mkvs l s) (Sum.inr "turns") = some (.int s.turns) := by simp [mkvs, valV, List.find?_cons, gt_, st_]
theorem put_g (l l' : Addr) (s : DS) (xs : List Int) : putK (mkvs l s) (Sum.inr "great") (.ref l') = mkvs l' { s with great := xs } := by
  simp [mkvs, putK, gs_, gt_, Ne.symm gs_, Ne.symm gt_, fun h => gs_ (Eq.symm h), fun h => gt_ (Eq.symm h)]
theorem put_t (l : Addr) (s : DS) (n : Int) : putK (mkvs l s) (Sum.inr "turns") (.int n) = mkvs l { s with turns := n } := by
  simp [mkvs, putK, gt_, st_]
inductive MK where
  | great | seed | turns
def MK.key : MK → Str
  | .great => "great"
  | .seed => "seed"
  | .turns => "turns"
def fMg (k : MK) (f : Mo D) : Mo D := bd f fun d g => match d with
  | .m => some (.ok (match k with | .great => .lst (g.s.great.map .int) | .seed => .int g.s.seed | .turns => .int g.s.turns), g)
  | _ => none
theorem dva_ints {K : PySem.W.Frag} {Γ : Gam} {G : Hp} : ∀ xs : List Int, DvA K Γ G (xs.map V.int) (xs.map D.int)
  | [] => .nil
  | x :: xs => .cons (.int x) (dva_ints xs)
theorem dva_ints' {K : PySem.W.Frag} {Γ : Gam} {G : Hp} : ∀ {xs : List Int} {vs : List V}, DvA K Γ G vs (xs.map D.int) → vs = xs.map V.int
  | [], _, h => by cases h; rfl
  | x :: xs, _, h => by
    cases h with
    | cons h t =>
      cases h
      rw [dva_ints' t]; rfl
section
variable {X : Cx} {Γ : Gam} {W : WX} {a b c e : Expr} {es : List Expr} {pos p2 pos' : Pos} {k : Nat} {j : Nat}
theorem d_mget (mk : MK) {f : Mo D} (hu : X.A.units + 1 < cLine) (ha : DX X Γ W a f) (hs : NoSl (.Constant (.str mk.key) j p2) := by exact fun _ _ => rfl) : DX X Γ W (.Subscript a (.Constant (.str mk.key) j p2) pos) (fMg mk f) :=
  (pe_dget hu ha pe_str hs).imp fun σ H Q h => h.bind fun H0 G0 d v g1 G1 H1 r1 h1 => by
    obtain ⟨E, r, g', e, q⟩ := h1
    dsimp only at e
    split at e
    · cases e
      cases r1
      obtain ⟨l, hM, hG⟩ := E.st
      cases mk with
      | great => exact ⟨Γ.M, .ref l, rfl, by rw [← val_g l g1.s]; exact DGet.k (k := Sum.inr "great") hM, q _ _ _ (Gr.refl _) E (.lst hG (dva_ints _))⟩
      | seed => exact ⟨Γ.M, .int g1.s.seed, rfl, by rw [← val_s l g1.s]; exact DGet.k (k := Sum.inr "seed") hM, q _ _ _ (Gr.refl _) E (.int _)⟩
      | turns => exact ⟨Γ.M, .int g1.s.turns, rfl, by rw [← val_t l g1.s]; exact DGet.k (k := Sum.inr "turns") hM, q _ _ _ (Gr.refl _) E (.int _)⟩
    · cases e
theorem En.putM {K : PySem.W.Frag} {H0 G0 G H : Hp} {σ : L2.St} {g : Sg} (E : En K Γ H0 G0 G H σ g) {l : Addr} {s' : DS} (hl : G l = some (.lst (s'.great.map V.int))) : En K Γ H0 G0 G (upd H Γ.M (.dK (mkvs l s'))) σ ⟨g.r, s'⟩ := by
  refine ⟨fun a o n h => by rw [upd_ne n.1]; exact E.base a o n h, E.gfr, E.g0, fun a o h => ?_, E.gm, ⟨l, upd_same, hl⟩, E.len, E.dat, fun i xs h => ?_, E.dis, (let ⟨_, z, _⟩ := E.st; (sf_dK z).tabs E.tb), E.gt, fun i f c q G1 h => (let ⟨_, z, _⟩ := E.st; E.fnU (sf_dK z) h (Gr.refl _))⟩
  · have : a ≠ Γ.M := by rintro rfl; rw [E.gm] at h; cases h
    rw [upd_ne this]; exact E.sub a o h
  · obtain ⟨q, vs, h1, h2, h3⟩ := E.own i xs h
    have : q ≠ Γ.M := by
      obtain ⟨lm, hM, _⟩ := E.st
      rintro rfl
      rw [hM] at h2; cases h2
    exact ⟨q, vs, h1, by rw [upd_ne this]; exact h2, h3⟩
def intsOf : List D → Option (List Int)
  | [] => some []
  | .int i :: ds => (intsOf ds).map (i :: ·)
  | _ => none
theorem intsOf_eq : ∀ {ds : List D} {xs : List Int}, intsOf ds = some xs → ds = xs.map D.int
  | [], xs, h => by simp [intsOf] at h; subst h; rfl
  | d :: ds, xs, h => by
    cases d <;> simp [intsOf] at h
    obtain ⟨ys, h1, rfl⟩ := h
    rw [intsOf_eq h1]; rfl
/-- m["great"] = e, m["turns"] = e -/
def fMp (k : MK) (i : Nat) (f : Mo D) : Ms := sb f fun d => sb (fName i) fun m g => match m, k, d with
  | .m, .great, .lst ds => match intsOf ds with
    | some xs => some (.nx, ⟨g.r, { g.s with great := xs }⟩)
    | none => none
  | .m, .turns, .int n => some (.nx, ⟨g.r, { g.s with turns := n }⟩)
  | _, _, _ => none
theorem s_mput (mk : MK) (i : Nat) {f : Mo D} (hu : X.A.units + 1 < cLine) (ha : DX X Γ W a (fName i)) (hv : DX X Γ W e f) (hs : swapsWith e (some (.Subscript a (.Constant (.str mk.key) j p2) pos')) pos.line X.env = pure false := by rfl) :
    DS_ X Γ W (.Assign [.Subscript a (.Constant (.str mk.key) j p2) pos'] e pos) (fMp mk i f) :=
  (ps_dput hu ha pe_str hv hs).imp fun Ds σ H h => h.bind fun H0 G0 d v g1 G1 H1 r1 h1 => (h1.bind fun m u g2 G2 H2 hfe gr2 r2 h2 => by
    obtain ⟨E, o, g', e, q⟩ := h2
    obtain ⟨l, hM, hG⟩ := E.st
    dsimp only at e
    split at e
    · split at e
      · rename_i ds xs hx
        cases e
        cases r2
        obtain ⟨l2, vs, rfl, k1, k2⟩ := Dv.lst_inv (Dv.mono gr2 r1)
        have hd := intsOf_eq hx
        subst hd
        have hv := dva_ints' k2
        subst hv
        exact ⟨Γ.M, _, rfl, DPut.k (k := Sum.inr "great") hM (by show 3 < sizeLine; decide), by
          rw [show ([(Sum.inr "great", V.ref l), (Sum.inr "seed", V.int g2.s.seed), (Sum.inr "turns", V.int g2.s.turns)] : List (Key × V)) = mkvs l g2.s from rfl, put_g l l2 g2.s xs]
          exact q σ G2 _ (Gr.refl _) (E.putM k1)⟩
      · cases e
    · cases e
      cases r2
      cases (show Dv X.K Γ G1 v (.int _) from r1)
      exact ⟨Γ.M, _, rfl, DPut.k (k := Sum.inr "turns") hM (by show 3 < sizeLine; decide), by
        rw [show ([(Sum.inr "great", V.ref l), (Sum.inr "seed", V.int g2.s.seed), (Sum.inr "turns", V.int g2.s.turns)] : List (Key × V)) = mkvs l g2.s from rfl, put_t l g2.s _]
        exact q σ G2 _ (Gr.refl _) (E.putM hG)⟩
    · cases e).g
/-! ### while, with fuel -/
def whl (c : Mo Bool) (b : Ms) : Nat → Ms
  | 0 => sStop
  | n + 1 => sb c fun t => if t = true then (fun g => match b g with
      | some (.nx, g2) => whl c b n g2
      | some (.ct, g2) => whl c b n g2
      | some (.brk, g2) => some (.nx, g2)
      | o => o) else sOut .nx
def fWhl (fuel : Sg → Nat) (c : Mo Bool) (b : Ms) : Ms := fun g => whl c b (fuel g) g
theorem s_while (fuel : Sg → Nat) {test : Expr} {body : List Stmt} {c : Mo Bool} {b : Ms} (hp : PassesOwn (model X.prog X.w) X.A X.env X.xe) (hc : DT X Γ W test c) (hb : DB X Γ W body b) : DS_ X Γ W (.While test body [] pos) (fWhl fuel c b) := by
  refine (ps_while hp hc hb).imp fun Ds σ H ⟨H0, G0, G, g, h⟩ => ?_
  have h0 : tSt X.K Γ W (whl c b (fuel g)) H0 G0 G g Ds σ H := h
  refine ⟨fun n σ H => tS X.K Γ W (whl c b n) Ds σ H, ⟨fuel g, h0.s⟩, fun n σ H hn => ?_⟩
  cases n with
  | zero =>
    obtain ⟨H0, G0, G, g, h⟩ := hn
    exact h.stop
  | succ n =>
    refine hn.bind fun H0 G0 t t' g1 G1 H1 r1 h1 => ?_
    cases r1
    cases t with
    | false =>
      rw [if_neg Bool.false_ne_true] at h1 ⊢
      exact h1.next rfl (Gr.refl _) h1.1
    | true =>
      rw [if_pos rfl] at h1 ⊢
      refine ⟨fun σ' H' => tS X.K Γ W (whl c b n) Ds σ' H', fun σ' H' q => ⟨n, Nat.lt_succ_self n, q⟩, ?_⟩
      obtain ⟨E, o, g', e, q⟩ := h1
      dsimp only at e
      refine ⟨H0, G0, G1, g1, E, ?_⟩
      cases hf : b g1 with
      | none => (rw [hf] at e); cases e
      | some p =>
        obtain ⟨o1, g2⟩ := p
        rw [hf] at e
        have nxt : ∀ {e : whl c b n g2 = some (o, g')} σ2 G2 H2, Gr G1 G2 → En X.K Γ H0 G0 G2 H2 σ2 g2 → tS X.K Γ W (whl c b n) Ds σ2 H2 := fun {e} σ2 G2 H2 gr E2 => ⟨H0, G0, G2, g2, E2, o, g', e, by
          cases o with
          | nx => exact fun σ3 G3 H3 gr3 => q σ3 G3 H3 (gr.trans gr3)
          | brk => exact fun σ3 G3 H3 gr3 => q σ3 G3 H3 (gr.trans gr3)
          | ct => exact fun σ3 G3 H3 gr3 => q σ3 G3 H3 (gr.trans gr3)
          | ret d2 => exact fun v3 σ3 G3 H3 gr3 => q v3 σ3 G3 H3 (gr.trans gr3)
          | exc x => exact fun C dd σ3 G3 H3 gr3 => q C dd σ3 G3 H3 (gr.trans gr3)⟩
        cases o1 with
        | nx => exact ⟨.nx, g2, rfl, fun σ2 G2 H2 gr E2 => nxt (e := e) σ2 G2 H2 gr E2⟩
        | ct => exact ⟨.ct, g2, rfl, fun σ2 G2 H2 gr E2 => nxt (e := e) σ2 G2 H2 gr E2⟩
        | brk => cases e; exact ⟨.brk, _, rfl, q⟩
        | ret d => cases e; exact ⟨.ret d, _, rfl, q⟩
        | exc x => cases e; exact ⟨.exc x, _, rfl, q⟩
end
end DE
namespace DE
open PyProof.Rows PySem.Spec PySem L2
def Cst (K : PySem.W.Frag) (mg : Str → Option Value) (x : Str) (d : D) : Prop := ∃ v u, mg x = some u ∧ RelV v u ∧ ∀ Γ G, Dv K Γ G v d
theorem d_gl {X : Cx} {Γ : Gam} {W : WX} {x : Str} {d : D} {pos : Pos} (h : Cst X.K X.mg x d) (hg : Gl X x) (hd : (x == ("__debug__" : Str)) = false := by decide) : DX X Γ W (.Name x pos) (rt d) :=
  let ⟨v, u, h1, h2, h3⟩ := h
  d_glob hg h1 h2 (fun G => h3 Γ G) hd
end DE
namespace DE
open PyProof.Rows PySem.Spec PySem L2
open NdefX (NF envF ncx startF NScope CellsAt inv_startN)
/-! ### own error classes: super().__init__(text), then self.f = p -/
structure ErrC (P : Program) (K : PySem.W.Frag) (C fI : Addr) (fld par txt qual : Str) (fd : FuncData) : Prop where
  T : OexC K C
  iC : PySem.W.findIn K (.ref C) "__init__" = some (some (.ref fI))
  tI : PySem.W.typeIn K (.ref fI) = some (.type "function")
  noF : PySem.W.findIn K (.ref C) fld = some none
  sup : PySem.W.ks_superIn K C C "__init__" = some (some (.builtin "ValueError.__init__"))
  sVE : PySem.W.subIn K (.ref C) (.type "ValueError") = some true
  mroC : PySem.W.mroIn K C (.ref C) = some true
  noAny : PySem.W.nsIn K cStatics "thirdparty.any" = some none
  noSup : PySem.W.nsIn K mainGlobals "super" = some none
  top : (P.main.scope.names.lookup ("super" : Str)).isSome = false
  fn : ∃ (oc : Value) (od : Option Addr) (osl : Array (Option Value)) (params : Arguments) (body : List Stmt) (scope : Scope) (dV kV doc pm : Value) (an : Option Addr) (cda : Addr) (ct : Value) (cc : Addr) (ccl : Value) (cdd : Option Addr) (vs : Array Value) (ccs : Array (Option Value)) (file : Str) (tf : Tok) (cl : Value) (cld : Option Addr) (csl : Array (Option Value)) (p0 p1 p2 p3 p4 p5 q1 q2 q3 q4 : Pos) (j : Nat) (ar : Arg),
    fd = PySem.W.ksFn "__init__" qual params body scope dV kV doc pm an (.ref cda) ct cc ∧ K.lookup fI = some ⟨oc, od, .func fd, osl⟩ ∧ PySem.W.codeIn K (.ref cda) qual = true ∧ K.lookup cda = some ⟨ccl, cdd, .fields vs, ccs⟩ ∧ vs[2]? = some (.str file tf) ∧ ((P.main.file : Str) == file) = true ∧
      K.lookup cc = some ⟨cl, cld, .cell (some (.ref C)), csl⟩ ∧ NScope (["self", par, "__class__"] : List Str) (["self", par] : List Str) (["__class__"] : List Str) scope ∧ scope.names.lookup ("super" : Str) = some .globalImplicit ∧ (params.posonlyargs ++ params.args).head? = some ar ∧ ar.arg = "self" ∧
      (∃ pl : Env → Sem Bool, ∀ env : Env, eval (.Call (.Attribute (.Call (.Name "super" p0) [] [] p1) "__init__" p2) [.Constant (.str txt) j p3] [] p4) env = (do
        let ov ← attributeBase (.Call (.Name "super" p0) [] [] p1) "__init__" env (eval (.Call (.Name "super" p0) [] [] p1) env)
        standAt p2.atName
        let (f, first) ← holding [ov] (getMethod ov "__init__" (pl env))
        callWith p4 f first (backTo p4 (starEach [.Constant (.str txt) j p3] env)) [])) ∧ (par == ("__debug__" : Str)) = false ∧ (par == ("__classdict__" : Str)) = false ∧
      (∀ env : Env, swapsWith (.Call (.Attribute (.Call (.Name "super" p0) [] [] p1) "__init__" p2) [.Constant (.str txt) j p3] [] p4) none p5.line env = pure false) ∧ (∀ env : Env, swapsWith (.Name par q3) (some (.Attribute (.Name "self" q1) fld q2)) q4.line env = pure false) ∧
      body = [.Expr (.Call (.Attribute (.Call (.Name "super" p0) [] [] p1) "__init__" p2) [.Constant (.str txt) j p3] [] p4) p5, .Assign [.Attribute (.Name "self" q1) fld q2] (.Name par q3) q4] ∧
      (∀ us : List Value, us.length = 2 → bindArgs fd ⟨us, []⟩ = pure ((["self", par] : List Str).zip us))
section
variable {w : World} {prog : Program} {A : Around} {E : Value → Shared → Prop} {h : Heap} {g : Array GenState} {d : Drawn} {t : Nat} {os : OsState}
variable {q nm : Str} {C N : Addr} {bs bm : List Value} {hdct : Bool} {sn : List Str} {sub : List Value} {ab : Bool} {col : Option Bool} {dd : Option Addr} {k0 k1 k2 k3 k5 : Option Value}
/-- ValueError.__init__, bound to the exception at e, called -/
theorem call_mw {u e t0 : Addr} {rest : List Value} {Q : Value → Shared → Prop}
    (hC : h.get? C = some (excClassObj nm q C N bs bm hdct sn sub ab col dd k0 k1 k2 k3 k5 "ValueError.__new__")) (he : h.get? e = some (HandSPX.excO C t0)) (hu : h.get? u = some (PySem.W.kxs_mw "ValueError.__init__" e)) (hrest : rest.length ≤ sizeLine)
    (done : ∀ h' t1, (∀ b o, b ≠ e → h.get? b = some o → h'.get? b = some o) → h'.get? e = some (HandSPX.excO C t1) → Q .none ⟨h', g, d, t, os⟩) :
    wpAny (model prog w) A (call (Value.ref u) rest) Q E ⟨h, g, d, t, os⟩ := by
  refine wpAny_call (codeAny_of_tree ?_); show wpAny _ A.in1 (callAny (.ref u) ⟨rest, []⟩) _ _ _
  simp only [callAny]
  refine wpAny_bind (wpAny_load hu ?_); simp only [PySem.W.kxs_mw, show (Value.type "method-wrapper" == Value.type "method" || Value.type "method-wrapper" == Value.type "builtin_function_or_method" || Value.type "method-wrapper" == Value.type "method-wrapper") = true by decide, if_true]
  refine PySem.W.KFB.if_so (by decide) ?_; refine wpAny_bind (PySem.ESX.check_bound PySem.F.excBase_ValueError hC he rfl ?_)
  refine wpAny_bind (wpAny_pure (wpAny_pure ?_)); refine ⟨Code.quiet_builtin _ (by decide +kernel), codeAny_builtin PySem.F.excBase_ValueError.initEntry ?_⟩
  rw [Around.under_plainId PySem.F.excBase_ValueError.init.plain _]
  wp_walk
  exact done _ h.objs.size (fun b o hb ho => (Heap.get?_update_other _ _ (Ne.symm hb)).trans (Heap.get?_push_of_some _ ho)) ((Heap.get?_update_self _ (Heap.get?_push_of_some _ he) rfl).trans rfl)
end
/-- super().__init__(text), self an exception that is being made -/
theorem super_init {X : Cx} {σ : L2.St} {H : Hp} {s : Shared} {a C f cc cda : Addr} {fd : FuncData} {oc ccl cl : Value} {od cdd cld : Option Addr} {osl ccs csl : Array (Option Value)} {vs : Array Value} {file : Str} {tf : Tok} {ar : Arg} {body : List Stmt} {p0 p1 p2 p3 p4 : Pos} {j : Nat} {txt : Str}
    (I : Inv X [] σ H s) (T : OexC X.K C) (hks : X.env.kindOf "super" = some .globalImplicit) (hkc : X.env.kindOf "__class__" = some .free) (hka : X.env.kindOf "self" = some .local) (hfu : X.env.func = some f) (hco : X.env.code = .ref cda) (hcell : X.env.cells.lookup ("__class__" : Str) = some cc)
    (hN : X.N[0]? = some ("self" : Str)) (hσ : σ[0]? = some (some (.ref a))) (ha : H a = some (exo a C none)) (lk : X.K.lookup f = some ⟨oc, od, .func fd, osl⟩) (hp : (fd.params.posonlyargs ++ fd.params.args).head? = some ar) (hself : ar.arg = "self")
    (lcda : X.K.lookup cda = some ⟨ccl, cdd, .fields vs, ccs⟩) (hvs : vs[2]? = some (.str file tf)) (hfile : ((X.prog.main.file : Str) == file) = true) (htop : (X.prog.main.scope.names.lookup ("super" : Str)).isSome = false) (lcc : X.K.lookup cc = some ⟨cl, cld, .cell (some (.ref C)), csl⟩)
    (hm : X.mg "super" = none) (mroC : PySem.W.mroIn X.K C (.ref C) = some true) (noAny : PySem.W.nsIn X.K cStatics "thirdparty.any" = some none) (sup : PySem.W.ks_superIn X.K C C "__init__" = some (some (.builtin "ValueError.__init__"))) (sVE : PySem.W.subIn X.K (.ref C) (.type "ValueError") = some true)
    {pl : Sem Bool} (hev : eval (.Call (.Attribute (.Call (.Name "super" p0) [] [] p1) "__init__" p2) [.Constant (.str txt) j p3] [] p4) X.env = (do
      let ov ← attributeBase (.Call (.Name "super" p0) [] [] p1) "__init__" X.env (eval (.Call (.Name "super" p0) [] [] p1) X.env)
      standAt p2.atName
      let (f, first) ← (holding [ov] (getMethod ov "__init__" pl))
      callWith p4 f first (backTo p4 (starEach [.Constant (.str txt) j p3] X.env)) [])) :
    PySem.wpAt (model X.prog X.w) X.A (.func body X.env) (eval (.Call (.Attribute (.Call (.Name "super" p0) [] [] p1) "__init__" p2) [.Constant (.str txt) j p3] [] p4) X.env) (fun _ s' => Inv X [] σ H s') X.xe s := by
  obtain ⟨nm, q, N, bs, bm, sn, sub, ab, col, dd, k0, k1, k2, k3, k5, hC, hbm⟩ := T.cls; have KX := I.kIn
  obtain ⟨cdC, hcd⟩ : ∃ cd, PySem.W.clsIn X.K C = some cd := by
    cases e : PySem.W.clsIn X.K C with
    | none => unfold PySem.W.ks_superIn at sup; rw [e] at sup; cases sup
    | some cd => exact ⟨cd, rfl⟩
  obtain ⟨oD, hD1, hD2⟩ : ∃ oD, s.heap.get? C = some oD ∧ oD.data = .cls cdC := by
    unfold PySem.W.clsIn at hcd
    split at hcd
    · rename_i c d cd' sl ho
      cases hcd
      exact ⟨_, KX _ _ ho, rfl⟩
    · cases hcd
  obtain ⟨t1, hoa⟩ := exo_at I.hok ha
  obtain ⟨m, hns, hlk⟩ := I.loc
  obtain ⟨u, ru, lku⟩ := hlk 0 "self" (.ref a) hN hσ (.inl hka); obtain rfl : u = Value.ref a := ru
  have hms : m "self" = some (.ref a) := by
    rcases lku with ⟨_, e⟩ | ⟨k | k, _⟩
    · exact e
    · rw [hka] at k; cases k
    · rw [hka] at k; cases k
  refine ks_wpAt_MethodCall ?_ hev
  refine ks_wpAt_super_base hks hkc (by decide) hfu (KX _ _ lk) rfl hp hco (KX _ _ lcda) rfl hvs hfile htop ?_
  obtain ⟨mb, hb1, hb2⟩ := I.mod.blt
  refine PySem.W.ks_loadName_global I.ok.kind hks (Calls.loadGlobal_builtin (by rw [I.ok.glob]; exact I.mod.glob.keeps I.bk) hm (by rw [I.ok.blt]; exact hb1.keeps I.bk) ((hb2 _ (by decide)).trans (show bootBuiltins "super" = some (.type "super") from by decide +kernel)) ⟨rfl, ?_⟩)
  refine wpAny_loadName_free I.ok.kind hkc hcell ⟨_, KX _ _ lcc, rfl⟩ ?_
  rw [hself]
  refine wpAny_loadName_local I.ok.kind hka hns hms ?_
  refine ks_wpAny_isType_cls hD1 hD2 ⟨rfl, ?_⟩; refine ks_wpAny_call_super hD1 hD2 hoa rfl (fun c e => by cases e) (PySem.W.looks_mroIn KX mroC) (fun h1 e1 k1' => ?_)
  -- the bound __init__
  have I1 : Inv X [] σ H { s with heap := h1 } := I.kept (t' := s.toks) k1'
  have hoa1 := k1' _ _ hoa
  have IA : PySem.W.InstAt h1 a (HandSPX.excO C t1) C none := ⟨hoa1, rfl, rfl, trivial⟩
  unfold PySem.W.ks_superIn at sup
  rw [hcd] at sup
  refine PySem.W.kxs_getMethod PySem.W.kxs_ValueError e1 (PySem.W.looks_opaque I1.kIn noAny) (l₀ := cdC.mro) (fun A Q E s k q => wpAny_bind ((PySem.W.looks_clsIn I1.kIn hcd) A _ E s k (wpAny_pure q))) rfl I1.kIn sup (IA.type.andThen (PySem.W.looks_subIn I1.kIn sVE)) (PySem.W.ks_ne I1.kIn IA hcd) (by decide) ?_
  have k2' : ∀ b o, h1.get? b = some o → (h1.push (PySem.W.kxs_mw "ValueError.__init__" a)).get? b = some o := fun b o e => Heap.get?_push_of_some _ e
  have I2 : Inv X [] σ H { s with heap := h1.push (PySem.W.kxs_mw "ValueError.__init__" a), toks := s.toks + 1 } := I1.kept (t' := s.toks + 1) k2'
  have hu : (h1.push (PySem.W.kxs_mw "ValueError.__init__" a)).get? h1.objs.size = some (PySem.W.kxs_mw "ValueError.__init__" a) := Heap.get?_push_at rfl rfl
  have nH : H h1.objs.size = none := I1.hok.fresh (Nat.le_refl _)
  have nL : h1.objs.size ≠ X.env.locals := Ne.symm (Nat.ne_of_lt I1.lt)
  have nF : h1.objs.size ∉ X.fs := fun hb => by
    obtain ⟨_, o, e, _⟩ := I1.ok.funs.mem hb
    exact absurd (Nat.lt_of_lt_of_le (Heap.lt_size e) I1.sz) (Nat.lt_irrefl _)
  have I3 : Inv X [(h1.objs.size, PySem.W.kxs_mw "ValueError.__init__" a)] σ H { s with heap := h1.push (PySem.W.kxs_mw "ValueError.__init__" a), toks := s.toks + 1 } :=
    ⟨I2.ok, I2.os, I2.bare, I2.base, I2.loc, I2.cell, I2.free, I2.freeC, fun p hp => by
      rcases List.mem_append.mp hp with hp' | hp'
      · exact I2.pin p (List.mem_append_left _ hp')
      · obtain rfl := List.mem_singleton.mp hp'
        exact ⟨hu, nH, nL, nF, fun v e => by cases e⟩, I2.hok, I2.len⟩
  refine PySem.W.kxs_callWith (i := "ValueError.__init__") (x := a) rfl (Calls.evalArgs_plain ?_)
  refine thn ((pa_cons (X := X) (pe_str (X := X)) (pa_nil (X := X))).run p4 [(h1.objs.size, PySem.W.kxs_mw "ValueError.__init__" a)] _ σ H (fun vs' H1 => vs' = [V.str txt] ∧ H = H1) I3 ⟨rfl, rfl⟩) fun us s4 hh => ?_
  obtain ⟨vs', H1, I4, r4, ev, eH⟩ := hh
  subst ev
  rw [← eH] at I4
  have hpin := I4.pin (h1.objs.size, PySem.W.kxs_mw "ValueError.__init__" a) (List.mem_append_right _ List.mem_cons_self)
  refine ⟨hpin.1, ?_⟩
  have I5 : Inv X [] σ H s4 := ⟨I4.ok, I4.os, I4.bare, I4.base, I4.loc, I4.cell, I4.free, I4.freeC, fun p hp => I4.pin p (by rw [List.append_nil] at hp; exact List.mem_append_left _ hp), I4.hok, I4.len⟩
  obtain ⟨t4, ho4⟩ := exo_at I5.hok ha
  have hz : us.length ≤ sizeLine := by rw [← Paired.length r4, sizeLine_eq]; show 1 ≤ _; decide
  obtain ⟨hp4, g4, d4, tk4, os4⟩ := s4
  refine call_mw (I5.kIn _ _ hC) ho4 hpin.1 hz fun h' t2 k hx => ?_
  have J := I5.write (t' := tk4) (x := a) (e := a) (o := exo a C none) (by rw [ha]; exact True.intro) (.inl rfl) k ⟨_, hx⟩ (exo_ok hx)
  have same : upd H a (exo a C none) = H := by
    funext b
    by_cases hb : b = a
    · rw [hb, upd_same, ha]
    · rw [upd_ne hb]
  rw [same] at J
  exact J
/-- what such an __init__ keeps -/
def spI (C : Addr) (fld : Str) : Sp := fun vs H Q _ => ∃ a y, vs = [.ref a, y] ∧ H a = some (exo a C none) ∧ ∀ dx, H dx = none → dx ≠ a → Q .non (upd (upd H dx (exd dx [(fld, y)])) a (exo a C (some dx)))
theorem fn_init {P : Program} {w : World} {K : PySem.W.Frag} {mg : Str → Option Value} {base : Heap} {C fI : Addr} {fld par txt qual : Str} {fd : FuncData} (R : ErrC P K C fI fld par txt qual fd) (hmg : mg "super" = none) :
    FnOk P w K mg base (L2.CX P w) 1 fI fd ["self", par] (spI C fld) := by
  obtain ⟨oc, od, osl, params, body, scope, dV, kV, doc, pm, an, cda, ct, cc, ccl, cdd, vs, ccs, file, tf, cl, cld, csl, p0, p1, p2, p3, p4, p5, q1, q2, q3, q4, j, ar, efd, lk, hcd, lcda, hvs, hfile, lcc, S, hsup, har, hself, ⟨pl, hev⟩, hpdb, hpcd, hsw1, hsw2, ebody, hbind⟩ := R.fn
  refine ⟨fun vs H Q E h => ?_, fun A outer s H args us vs' Q E hr e0 hb r hsp => ?_⟩
  · obtain ⟨a, y, rfl, _⟩ := h; rfl
  · obtain ⟨a, y, rfl, ha, hq⟩ := hsp
    have KX : K.In s.heap := e0.mod.kin.keeps fun b o e => (e0.bs b o e).1; have lim : s.heap.NoLimit := e0.mod.nolimit.keeps fun b o e => (e0.bs b o e).1
    have hnocell : ∀ x ∈ scope.names, x.2 ≠ .cell := S.nocell
    have hscope : fd.scope = scope := by rw [efd]
    refine ks_codeAny_call_defAt (fd := fd) (body := body) (binds := (["self", par] : List Str).zip us) hr.depth (KX _ _ lk) rfl lim (by rw [efd]; exact PySem.W.codeRec_of KX hcd) (by rw [efd]) hb (by rw [hscope]; exact hnocell) (fun x hx => by rw [hscope]; exact S.par x.1 (List.of_mem_zip hx).1) (fun h₀ hns hk => ?_) (by rw [hscope]; exact S.co) (by rw [hscope]; exact S.gen) (by rw [hscope]; exact S.kind)
    have C0 : CellsAt [("__class__", cc)] ["__class__"] [none] s.heap H := by
      have hcc : s.heap.get? cc = some ⟨cl, cld, .cell (some (.ref C)), csl⟩ := KX _ _ lcc
      have hbase := e0.bs cc _ (e0.mod.kin _ _ lcc)
      have lk1 : ∀ {y c}, ([(("__class__" : Str), cc)] : List (Str × Addr)).lookup y = some c → y = "__class__" ∧ c = cc := fun {y c} e => by
        by_cases hy : y = "__class__"
        · subst hy; simp [List.lookup] at e; exact ⟨rfl, e.symm⟩
        · have : (y == ("__class__" : Str)) = false := by simpa using hy
          simp [List.lookup, this] at e
      refine ⟨rfl, fun y c e => ?_, fun x y c e1 e2 => (lk1 e1).1.trans (lk1 e2).1.symm, fun i y hi => ?_⟩
      · obtain ⟨_, rfl⟩ := lk1 e
        exact ⟨hbase.2, _, _, hcc, rfl⟩
      · cases i with
        | zero =>
          simp at hi; subst hi
          exact ⟨cc, by simp [List.lookup], fun v hv => by simp at hv⟩
        | succ i => simp at hi
    obtain ⟨F, hF⟩ : ∃ F : NF, F = ⟨"__init__", qual, params, body, scope, [("__class__", cc)], cda⟩ := ⟨_, rfl⟩
    have I0 : L2.Inv (ncx (L2.CX P w) P w K mg base (["self", par, "__class__"] : List Str) F fI A outer s H E) [] (startF (["self", par, "__class__"] : List Str) [.ref a, y] [none]) H { s with heap := h₀, toks := s.toks + ((["self", par] : List Str).zip us).length } :=
      inv_startN (F := F) (by rw [hF]; exact S) hr.hd e0 rfl r (by rw [hF]; exact C0) hns hk
    have henv : callEnv fd s.heap.objs.size fI = envF F fI s.heap.objs.size := by rw [efd, hF]; rfl
    rw [henv]
    obtain ⟨X, hX⟩ : ∃ X : Cx, X = ncx (L2.CX P w) P w K mg base (["self", par, "__class__"] : List Str) F fI A outer s H E := ⟨_, rfl⟩
    have e1 : envF F fI s.heap.objs.size = X.env := by rw [hX]; rfl
    have eA : A.deeper (envF F fI s.heap.objs.size) = X.A := by rw [hX]; rfl
    rw [← hX] at I0
    have kself : scope.names.lookup ("self" : Str) = some .local := S.par _ (by simp)
    have kpar : scope.names.lookup par = some .local := S.par _ (by simp)
    have kcls : scope.names.lookup ("__class__" : Str) = some .free := S.frk _ (by simp)
    have EE : ∀ u s', X.xe u s' ↔ wpAny (model P w) (A.deeper (envF F fI s.heap.objs.size)) (leaving (envF F fI s.heap.objs.size) u) (fun _ s'' => L2.CX P w outer H s E u s'') (fun e' s'' => L2.CX P w outer H s E e' s'') s' := fun u s' => by rw [hX]; exact Iff.rfl
    have base : ∀ {σ' : L2.St} {H' : Hp} {s' : Shared}, L2.Inv X [] σ' H' s' → Q .non H' → CE outer P w H s Q .none s' := fun {σ' H' s'} J q => by
      rw [hX] at J
      exact ⟨.non, H', J.os, J.bare, J.base, J.hok, rfl, q⟩
    rw [eA, e1]
    have hXs : X.env.scope = scope := by rw [hX, hF]; rfl
    have hint : interactive X.env = false := by
      unfold interactive
      rw [hXs, S.kind]; rfl
    have hXp : X.prog = P := by rw [hX]; rfl
    have hXw : X.w = w := by rw [hX]; rfl
    have hXK : X.K = K := by rw [hX]; rfl
    have hXm : X.mg = mg := by rw [hX]; rfl
    have hXN : X.N = (["self", par, "__class__"] : List Str) := by rw [hX]; rfl
    have hkind : ∀ x, X.env.kindOf x = scope.names.lookup x := fun x => by rw [hX, hF]; rfl
    have hinit := super_init (X := X) (σ := startF (["self", par, "__class__"] : List Str) [.ref a, y] [none]) (H := H) (a := a) (C := C) (f := fI) (cc := cc) (cda := cda) (body := body) (txt := txt) (j := j) (p0 := p0) (p1 := p1) (p2 := p2) (p3 := p3) (p4 := p4) (pl := pl X.env) I0 (by rw [hXK]; exact R.T) (by rw [hkind]; exact hsup) (by rw [hkind]; exact kcls) (by rw [hkind]; exact kself) (by rw [hX, hF]; rfl) (by rw [hX, hF]; rfl) (by rw [hX, hF]; simp [ncx, envF, List.lookup]) (by rw [hXN]; rfl) rfl ha (by rw [hXK]; exact lk) (by rw [efd]; exact har) hself
      (by rw [hXK]; exact lcda) hvs (by rw [hXp]; exact hfile) (by rw [hXp]; exact R.top) (by rw [hXK]; exact lcc) (by rw [hXm]; exact hmg) (by rw [hXK]; exact R.mroC) (by rw [hXK]; exact R.noAny) (by rw [hXK]; exact R.sup) (by rw [hXK]; exact R.sVE) (hev X.env)
    have hrest : PSs X [.Assign [.Attribute (.Name "self" q1) fld q2] (.Name par q3) q4] _ := pss_one (ps_ost (X := X) (pe_var (i := 0) (by rw [hXN]; rfl) (.inl (by rw [hXs]; exact kself)) (by decide) (by decide)) (pe_var (i := 1) (by rw [hXN]; rfl) (.inl (by rw [hXs]; exact kpar)) hpdb hpcd) (hsw2 X.env))
    rw [hXp, hXw] at hinit
    have key : PySem.wpAt (model P w) X.A (.func body X.env) (execs [.Expr (.Call (.Attribute (.Call (.Name "super" p0) [] [] p1) "__init__" p2) [.Constant (.str txt) j p3] [] p4) p5, .Assign [.Attribute (.Name "self" q1) fld q2] (.Name par q3) q4] X.env)
        (fun f s' => CR (L2.CX P w) outer P w H s Q E (.ok (.ret (match f with | .ret v => v | _ => .none))) s') X.xe { s with heap := h₀, toks := s.toks + ((["self", par] : List Str).zip us).length } := by
      refine ks_wpAt_execs_cons (ks_wpAt_Expr_any (ks_wpAt_mono hinit (fun v s' J => ?_) fun _ _ z => z) hint (hsw1 X.env))
      refine wpAt_of_wpAny ?_
      have run := hrest.run [] s' _ H { nx := fun _ H' => Q .non H', rt := fun _ _ => False } J
        ⟨y, rfl, .ref a, rfl, a, C, rfl, by rw [hXK]; exact R.T, by rw [hXK]; exact R.noF, .inl ⟨ha, fun dx hd hne => hq dx hd hne⟩⟩
      rw [hXp, hXw] at run
      refine wpAny_mono run (fun f s2 hs2 => ?_) fun _ _ z => z
      cases f with
      | next =>
        obtain ⟨σ', H', J', q⟩ := hs2
        exact base J' q
      | brk => obtain ⟨_, _, _, q⟩ := hs2; exact q.elim
      | cont => obtain ⟨_, _, _, q⟩ := hs2; exact q.elim
      | ret u => obtain ⟨_, _, _, _, _, q⟩ := hs2; exact q.elim
    rw [← ebody] at key
    refine ks_wpAt_mono key (fun f s' z => z) fun u s' z => ?_
    have z := (EE u s').mp z
    rw [eA, e1] at z
    exact z
end DE
namespace DE
open PyProof.Rows PySem.Spec PySem L2
/-! ### raise X(e) -/
/-- an own error class under its name -/
def ErrX (P : Program) (w : World) (K : PySem.W.Frag) (mg : Str → Option Value) (base : Heap) (Γ : Gam) (x : Str) : Prop :=
  ∃ (C fI : Addr) (fld par txt qual : Str) (fd : FuncData), mg x = some (.ref C) ∧ Γ.cl x = some (C, fld) ∧ mg "super" = none ∧ ErrC P K C fI fld par txt qual fd
theorem ErrC.bnd {P : Program} {K : PySem.W.Frag} {C fI : Addr} {fld par txt qual : Str} {fd : FuncData} (R : ErrC P K C fI fld par txt qual fd) : Binds K fd ["self", par] [] := by
  obtain ⟨oc, od, osl, params, body, scope, dV, kV, doc, pm, an, cda, ct, cc, ccl, cdd, vs, ccs, file, tf, cl, cld, csl, p0, p1, p2, p3, p4, p5, q1, q2, q3, q4, j, ar, efd, lk, hcd, lcda, hvs, hfile, lcc, S, hsup, har, hself, ⟨pl, hev⟩, hpdb, hpcd, hsw1, hsw2, ebody, hbind⟩ := R.fn
  exact Binds.all fun us hl => hbind us hl
def fRaise (c : Str) (f : Mo D) : Ms := sb f fun d g => some (.exc ⟨c, d⟩, g)
theorem upd_two {H : Hp} {a d : Addr} {o1 o2 o3 o4 : HO} (hn : H a = none) (hne : d ≠ a) : upd (del (upd (upd (upd H a o1) d o2) a o3) a) d o4 = upd H d o4 := by
  funext b
  by_cases hd : b = d
  · subst hd; rw [upd_same, upd_same]
  · rw [upd_ne hd, upd_ne hd]
    by_cases ha : b = a
    · subst ha; rw [del_same, hn]
    · rw [del_ne ha, upd_ne ha, upd_ne hd, upd_ne ha]
section
variable {X : Cx} {Γ : Gam} {W : WX} {a b c e : Expr} {es : List Expr} {pos pos2 : Pos} {k : Nat}
theorem s_raise {x : Str} {p : Pos} {f : Mo D} (R : ErrX X.prog X.w X.K X.mg X.base Γ x) (C : Ct X W k) (hk : 2 ≤ k) (hg : Gl X x) (ha : DX X Γ W e f) (hdb : (x == ("__debug__" : Str)) = false := by decide)
    (he : starEach [e] X.env = (false, eval e X.env) :: starEach [] X.env := by rfl) (hpl : (backTo pos (starEach [] X.env)).any (·.1) = false := by rfl) : DS_ X Γ W (.Raise (some (.Call (.Name x p) [e] [] pos)) none pos2) (fRaise x f) := by
  obtain ⟨Cl, fI, fld, par, txt, qual, fd, hm, hcl, hsup, R⟩ := R
  refine (ps_raise C.calm C.tk (pmk_oex (k := 1) R.T R.iC R.tI (fn_init R hsup) (C.room.mono hk) R.bnd (dvs := []) (ds := []) .nil ?_ hg hm (pa_cons ha pa_nil he) hdb he hpl)).imp fun Ds σ H h => ?_
  · intro pins σ H s u s' _ cx
    obtain ⟨_, _, _, _, _, _, _, _, _, _, _, _, z⟩ := cx
    exact z.elim
  · refine h.bind fun H0 G0 d v g1 G1 H1 r1 h1 => ⟨by show 1 ≤ 1000; decide, fun a0 ha0 => ?_⟩
    refine ⟨a0, v, rfl, upd_same, fun dx hdx hne => ⟨rfl, dx, [(fld, v)], upd_same, ?_, ?_, ?_⟩⟩
    · rw [upd_ne hne, upd_same]
    · rw [upd_ne hne] at hdx; exact hdx
    · rw [upd_ne hne] at hdx
      rw [upd_two ha0 hne]
      obtain ⟨E, o, g', e, q⟩ := h1
      cases e
      have gp : G1 dx = none := by
        cases z : G1 dx with
        | none => rfl
        | some u => rw [E.sub _ _ z] at hdx; cases hdx
      exact q _ _ σ _ _ (Gr.upd gp) (E.new hdx) ⟨Cl, dx, fld, v, hcl, rfl, rfl, upd_same, Dv.mono (Gr.upd gp) r1⟩
end
/-! ### try: body / except X as e: suite / .. -/
section
variable {X : Cx} {σ : L2.St} {H : Hp} {s : Shared} {pins : List (Addr × Obj)}
/-- an object that stands already is tracked from now on -/
theorem inv_track {a : Addr} {o : HO} (I : L2.Inv X pins σ H s) (hn : H a = none) (new0 : X.s_0.heap.get? a = none) (offL : a ≠ X.env.locals) (nC : ∀ x c, X.env.cells.lookup x = some c → c ≠ a) (nP : ∀ p ∈ X.pn ++ pins, p.1 ≠ a) (okX : ObjOk X.prog X.w (upd H a o) s.heap a o) :
    L2.Inv X pins σ (upd H a o) s := by
  refine ⟨I.ok, I.os, I.bare, ⟨I.base.keep, I.base.slot, fun b u e n hx => ?_, I.base.there, fun b xs e => ?_, fun b u v e => ?_, fun b ps e => ?_⟩, I.loc, I.cell, ?_, fun x c e => ?_, fun p hp => ?_, I.hok.laidN (fun _ _ z => z) hn okX, I.len⟩
  · have : b ≠ a := by rintro rfl; rw [new0] at e; cases e
    rw [upd_ne this]; exact I.base.free b u e n hx
  · rw [upd_ne (ne_of_none (I.base.tups b xs e) hn)]; exact I.base.tups b xs e
  · have q := I.base.frzs b u v e
    rw [upd_ne (ne_of_none q hn)]; exact q
  · obtain ⟨more, q⟩ := I.base.tbls b ps e
    exact ⟨more, by rw [upd_ne (ne_of_none q hn)]; exact q⟩
  · rw [upd_ne (Ne.symm offL)]; exact I.free
  · rw [upd_ne (nC x c e)]; exact I.freeC x c e
  · obtain ⟨h1, h2, h3, h4, h5⟩ := I.pin p hp
    exact ⟨h1, by rw [upd_ne (nP p hp)]; exact h2, h3, h4, h5⟩
theorem inv_suiteN (I : L2.Inv X pins σ H s) (a : Addr) : L2.Inv (X.suite a (X.pn ++ pins)) [] σ H s :=
  ⟨I.ok.suite _ _, I.os, I.bare, I.base, I.loc, I.cell, I.free, I.freeC, fun p hp => I.pin p (by rw [List.append_nil] at hp; exact hp), I.hok, I.len⟩
theorem inv_unsuiteN {a : Addr} {pn' : List (Addr × Obj)} (I : L2.Inv (X.suite a (X.pn ++ pins)) pn' σ H s) (okX : X.Ok) : L2.Inv X pins σ H s :=
  ⟨okX, I.os, I.bare, I.base, I.loc, I.cell, I.free, I.freeC, fun p hp => I.pin p (List.mem_append_left _ hp), I.hok, I.len⟩
theorem xob_ok {P : Program} {w : World} {H : Hp} {h : Heap} {a C d : Addr} {oe : Obj} {vs : Array Value} (e : h.get? a = some oe) (z : Zc (.ref C) (some d) oe) (hd : oe.data = .fields vs) : ObjOk P w H h a (xob a C d) :=
  ⟨⟨oe, vs, e, z, hd⟩, ⟨oe, e⟩, fun _ _ ⟨o, v, q, r⟩ k => ⟨o, v, k o q, r⟩⟩
end
/-- a slot is empty from now on -/
theorem En.unset {K : PySem.W.Frag} {Γ : Gam} {H0 G0 G H : Hp} {σ : L2.St} {g : Sg} (E : En K Γ H0 G0 G H σ g) (i : Nat) : En K Γ H0 G0 G H (σ.set i none) ⟨g.r.set i .no, g.s⟩ := by
  have f : ∀ (j : Nat) z, z ≠ Sl.no → (g.r.set i .no)[j]? = some z → j ≠ i ∧ g.r[j]? = some z := fun j z hz h' => by
    by_cases e : j = i
    · subst e
      have il : j < g.r.length := by have := (List.getElem?_eq_some_iff.mp h').1; simpa using this
      rw [List.getElem?_set_self il] at h'; cases h'; exact absurd rfl hz
    · rw [List.getElem?_set_ne (Ne.symm e)] at h'; exact ⟨e, h'⟩
  refine ⟨E.base, E.gfr, E.g0, E.sub, E.gm, E.st, by simpa using E.len, fun j d' h' => ?_, fun j zs h' => ?_, fun j k zs us q e1 e2 e3 e4 => ?_, E.tb, E.gt, fun j f c q G1 h' => E.fnSet (fun _ _ _ _ z => by cases z) h'⟩
  · obtain ⟨n, h'⟩ := f j _ (by intro z; cases z) h'
    rw [List.getElem?_set_ne (Ne.symm n)]; exact E.dat j d' h'
  · obtain ⟨n, h'⟩ := f j _ (by intro z; cases z) h'
    rw [List.getElem?_set_ne (Ne.symm n)]; exact E.own j zs h'
  · obtain ⟨n1, f1⟩ := f j _ (by intro z; cases z) e1
    obtain ⟨n2, f2⟩ := f k _ (by intro z; cases z) e2
    rw [List.getElem?_set_ne (Ne.symm n1)] at e3
    rw [List.getElem?_set_ne (Ne.symm n2)] at e4
    exact E.dis j k zs us q f1 f2 e3 e4
structure HSem where
  t : List (Str × Bool)
  i : Option Nat
  f : Ms
def hsuite (x : Exn) (h : HSem) : Ms := fun g => match h.i with
  | none => match h.f g with
    | some (.exc _, _) => none
    | o => o
  | some i => match h.f ⟨g.r.set i (.dat (.exc x.c x.v)), g.s⟩ with
    | some (.exc _, _) => none
    | some (o, g2) => some (o, ⟨g2.r.set i .no, g2.s⟩)
    | none => none
def hdl (x : Exn) : List HSem → Ms
  | [] => sOut (.exc x)
  | h :: r => match h.t.lookup x.c with
    | none => sStop
    | some false => hdl x r
    | some true => hsuite x h
def fTry (fb : Ms) (l : List HSem) : Ms := fun g => match fb g with
  | some (.exc x, g1) => hdl x l g1
  | o => o
/-- a class under its name: own or built-in -/
inductive ClN (mg : Str → Option Value) (x : Str) : V → Value → Prop
  | own {C : Addr} : mg x = some (.ref C) → ClN mg x (.ref C) (.ref C)
  | blt {T : String} : mg x = none → bootBuiltins x = some (.type T) → x ≠ "__name__" → ClN mg x (.ty T) (.type T)
/-- what the own error classes are to the class under the name x -/
def HdX (K : PySem.W.Frag) (mg : Str → Option Value) (Γ : Gam) (x : Str) (tb : List (Str × Bool)) : Prop :=
  ∃ v c, ClN mg x v c ∧ ∀ cn C f b, Γ.cl cn = some (C, f) → tb.lookup cn = some b → PySem.W.exmOne K (.ref C) c = some b ∧ PySem.W.kitOne K (.ref C) c = some b
theorem ClN.names {X : Cx} {x : Str} {v : V} {c : Value} (h : ClN X.mg x v c) (hg : Gl X x) (hd : (x == ("__debug__" : Str)) = false) : Names X x c := by
  cases h with
  | own h => exact ⟨hg, hd, .inl h⟩
  | blt h1 h2 h3 => exact ⟨hg, hd, .inr ⟨h1, h2, h3⟩⟩
theorem ClN.pe {X : Cx} {x : Str} {v : V} {c : Value} (h : ClN X.mg x v c) (hg : Gl X x) {pos : Pos} (hd : (x == ("__debug__" : Str)) = false) : PE X (.Name x pos) (tC v) := by
  cases h with
  | own h => exact pe_glob hg h rfl hd
  | blt h1 h2 h3 => exact pe_bltn hg h1 h2 rfl h3 hd
theorem ClN.rel {mg : Str → Option Value} {x : Str} {v : V} {c : Value} (h : ClN mg x v c) : ∀ u, RelV v u → u = c := by
  cases h with
  | own h => exact fun u r => r
  | blt h1 h2 h3 => exact fun u r => r
inductive HdsD (X : Cx) (Γ : Gam) : List ExceptHandler → List HSem → Prop
  | nil : HdsD X Γ [] []
  | as_ {x n : Str} {tb : List (Str × Bool)} {i : Nat} {f : Ms} {b₀ : Stmt} {suite : List Stmt} {np pos' : Pos} {hds : List ExceptHandler} {l : List HSem} (hc : HdX X.K X.mg Γ x tb) (hg : Gl X x) (hi : X.N[i]? = some n) (hln : X.env.kindOf n = some .local)
      (hsu : ∀ (a : Addr) (pn : List (Addr × Obj)), DB (X.suite a pn) Γ Wn (b₀ :: suite) f) (r : HdsD X Γ hds l) (hd : (x == ("__debug__" : Str)) = false) :
      HdsD X Γ (.ExceptHandler (some (.Name x np)) (some n) (b₀ :: suite) pos' :: hds) (⟨tb, some i, f⟩ :: l)
  | no_ {x : Str} {tb : List (Str × Bool)} {f : Ms} {b₀ : Stmt} {suite : List Stmt} {np pos' : Pos} {hds : List ExceptHandler} {l : List HSem} (hc : HdX X.K X.mg Γ x tb) (hg : Gl X x)
      (hsu : ∀ (a : Addr) (pn : List (Addr × Obj)), DB (X.suite a pn) Γ Wn (b₀ :: suite) f) (r : HdsD X Γ hds l) (hd : (x == ("__debug__" : Str)) = false) :
      HdsD X Γ (.ExceptHandler (some (.Name x np)) none (b₀ :: suite) pos' :: hds) (⟨tb, none, f⟩ :: l)
/-- what the clauses wish of an exception of the body -/
def wTry (K : PySem.W.Frag) (Γ : Gam) (W : WX) (Ds : Ends) (l : List HSem) : WX := fun kls dd σ H => ∃ H0 G0 G g x, ExD K Γ G kls dd x ∧ tSt K Γ W (hdl x l) H0 G0 G g Ds σ H
theorem post_gr {K : PySem.W.Frag} {Γ : Gam} {W : WX} {o : Out} {g' : Sg} {H0 G0 G G1 : Hp} {Ds : Ends} (gr : Gr G G1) : (match o with
    | .nx => ∀ σ' G' H', Gr G G' → En K Γ H0 G0 G' H' σ' g' → Ds.nx σ' H'
    | .brk => ∀ σ' G' H', Gr G G' → En K Γ H0 G0 G' H' σ' g' → Ds.bk σ' H'
    | .ct => ∀ σ' G' H', Gr G G' → En K Γ H0 G0 G' H' σ' g' → Ds.ct σ' H'
    | .ret d => ∀ v σ' G' H', Gr G G' → En K Γ H0 G0 G' H' σ' g' → Dv K Γ G' v d → Ds.rt v H'
    | .exc x => ∀ C dd σ' G' H', Gr G G' → En K Γ H0 G0 G' H' σ' g' → ExD K Γ G' C dd x → W C dd σ' H') → (match o with
    | .nx => ∀ σ' G' H', Gr G1 G' → En K Γ H0 G0 G' H' σ' g' → Ds.nx σ' H'
    | .brk => ∀ σ' G' H', Gr G1 G' → En K Γ H0 G0 G' H' σ' g' → Ds.bk σ' H'
    | .ct => ∀ σ' G' H', Gr G1 G' → En K Γ H0 G0 G' H' σ' g' → Ds.ct σ' H'
    | .ret d => ∀ v σ' G' H', Gr G1 G' → En K Γ H0 G0 G' H' σ' g' → Dv K Γ G' v d → Ds.rt v H'
    | .exc x => ∀ C dd σ' G' H', Gr G1 G' → En K Γ H0 G0 G' H' σ' g' → ExD K Γ G' C dd x → W C dd σ' H') := by
  cases o with
  | nx => exact fun q σ2 G2 H2 gr2 => q σ2 G2 H2 (gr.trans gr2)
  | brk => exact fun q σ2 G2 H2 gr2 => q σ2 G2 H2 (gr.trans gr2)
  | ct => exact fun q σ2 G2 H2 gr2 => q σ2 G2 H2 (gr.trans gr2)
  | ret d2 => exact fun q v2 σ2 G2 H2 gr2 => q v2 σ2 G2 H2 (gr.trans gr2)
  | exc x => exact fun q C dd σ2 G2 H2 gr2 => q C dd σ2 G2 H2 (gr.trans gr2)
theorem try_body {K : PySem.W.Frag} {Γ : Gam} {W : WX} {fb : Ms} {l : List HSem} {Ds : Ends} {σ : L2.St} {H : Hp} (h : tS K Γ W (fTry fb l) Ds σ H) : tS K Γ (wTry K Γ W Ds l) fb Ds σ H := by
  obtain ⟨H0, G0, G, g, E, o, g', e, q⟩ := h
  refine ⟨H0, G0, G, g, E, ?_⟩
  unfold fTry at e
  cases hf : fb g with
  | none => simp only [hf] at e; cases e
  | some p =>
    obtain ⟨ob, g1⟩ := p
    simp only [hf] at e
    cases ob with
    | exc x => exact ⟨.exc x, g1, rfl, fun C dd σ' G' H' gr E' hx => ⟨H0, G0, G', g1, x, hx, E', o, g', e, post_gr gr q⟩⟩
    | nx => cases e; exact ⟨.nx, _, rfl, q⟩
    | brk => cases e; exact ⟨.brk, _, rfl, q⟩
    | ct => cases e; exact ⟨.ct, _, rfl, q⟩
    | ret d => cases e; exact ⟨.ret d, _, rfl, q⟩
theorem suite_as {K : PySem.W.Frag} {Γ : Gam} {W : WX} {Ds : Ends} {x : Exn} {tb : List (Str × Bool)} {i : Nat} {f : Ms} {o : Out} {g g' : Sg} {H0 G0 G H : Hp} {σ : L2.St} {a C dd : Addr} {fld : Str} {v : V} (h : tSt K Γ W (hsuite x ⟨tb, some i, f⟩) H0 G0 G g Ds σ H) (na : H a = none)
    (e1 : Γ.cl x.c = some (C, fld)) (e4 : G dd = some (.xd [(fld, v)])) (e5 : Dv K Γ G v x.v) :
    tS K Γ Wn f { nx := fun σ' H' => Ds.nx (σ'.set i none) H', rt := Ds.rt, bk := fun σ' H' => Ds.bk (σ'.set i none) H', ct := fun σ' H' => Ds.ct (σ'.set i none) H' } (σ.set i (some (.ref a))) (upd H a (xob a C dd)) := by
  obtain ⟨E, o, g', e, q⟩ := h
  have ga : G a = none := by
    cases z : G a with
    | none => rfl
    | some u => rw [E.sub _ _ z] at na; cases na
  have gr : Gr G (upd G a (xob a C dd)) := Gr.upd ga
  have dv : Dv K Γ (upd G a (xob a C dd)) (.ref a) (.exc x.c x.v) := .exc e1 upd_same (gr _ _ e4) (Dv.mono gr e5)
  have E2 := (E.new (o := xob a C dd) na).set i dv
  refine ⟨H0, G0, _, _, E2, ?_⟩
  unfold hsuite at e
  dsimp only at e
  cases hf : f ⟨g.r.set i (.dat (.exc x.c x.v)), g.s⟩ with
  | none => (rw [hf] at e); cases e
  | some p =>
    obtain ⟨ob, g2⟩ := p
    rw [hf] at e
    cases ob with
    | exc y => cases e
    | nx => cases e; exact ⟨.nx, _, rfl, fun σ' G' H' gr' E' => q _ G' H' (gr.trans gr') (E'.unset i)⟩
    | brk => cases e; exact ⟨.brk, _, rfl, fun σ' G' H' gr' E' => q _ G' H' (gr.trans gr') (E'.unset i)⟩
    | ct => cases e; exact ⟨.ct, _, rfl, fun σ' G' H' gr' E' => q _ G' H' (gr.trans gr') (E'.unset i)⟩
    | ret d => cases e; exact ⟨.ret d, _, rfl, fun v σ' G' H' gr' E' dv' => q v _ G' H' (gr.trans gr') (E'.unset i) dv'⟩
theorem suite_no {K : PySem.W.Frag} {Γ : Gam} {W : WX} {Ds : Ends} {x : Exn} {tb : List (Str × Bool)} {f : Ms} {o : Out} {g g' : Sg} {H0 G0 G H : Hp} {σ : L2.St} {a C dd : Addr} (h : tSt K Γ W (hsuite x ⟨tb, none, f⟩) H0 G0 G g Ds σ H) (na : H a = none) :
    tS K Γ Wn f Ds σ (upd H a (xob a C dd)) := by
  obtain ⟨E, o, g', e, q⟩ := h
  have ga : G a = none := by
    cases z : G a with
    | none => rfl
    | some u => rw [E.sub _ _ z] at na; cases na
  have gr : Gr G (upd G a (xob a C dd)) := Gr.upd ga
  refine ⟨H0, G0, _, g, E.new (o := xob a C dd) na, ?_⟩
  unfold hsuite at e
  dsimp only at e
  cases hf : f g with
  | none => (rw [hf] at e); cases e
  | some p =>
    obtain ⟨ob, g2⟩ := p
    rw [hf] at e
    cases ob with
    | exc y => cases e
    | nx => cases e; exact ⟨.nx, _, rfl, fun σ' G' H' gr' E' => q _ G' H' (gr.trans gr') E'⟩
    | brk => cases e; exact ⟨.brk, _, rfl, fun σ' G' H' gr' E' => q _ G' H' (gr.trans gr') E'⟩
    | ct => cases e; exact ⟨.ct, _, rfl, fun σ' G' H' gr' E' => q _ G' H' (gr.trans gr') E'⟩
    | ret d => cases e; exact ⟨.ret d, _, rfl, fun v σ' G' H' gr' E' dv' => q v _ G' H' (gr.trans gr') E' dv'⟩
section
variable {X : Cx} {Γ : Gam} {W : WX} {body : List Stmt} {h₀ : ExceptHandler} {hds : List ExceptHandler} {l : List HSem} {pos : Pos} {fb : Ms} {k : Nat}
theorem s_try (hs : X.stack = X.env :: X.outer) (hf : X.env.frame = some X.env.locals) (hex : X.ex = []) (hN : X.N.Nodup) (C : Ct X W k)
    (hb : ∀ (W' : WX) (pn : List (Addr × Obj)) (xe : Value → Shared → Prop), Ct (X.tr pn xe) W' k → DB (X.tr pn xe) Γ W' body fb)
    (hh : HdsD X Γ (h₀ :: hds) l) : DS_ X Γ W (.Try body (h₀ :: hds) [] [] pos) (fTry fb l) := by
  refine ⟨fun pins s σ H D I h => ?_⟩; have okX := I.ok
  have frameEq : X.A.frames = some (X.env :: X.outer) := by rw [okX.frames, hs]
  have hbd := try_body h
  refine wpAny_Try_except ?_
  refine wpAny_mono ((hb (wTry X.K Γ W D l) (X.pn ++ pins) (fun e s₁ => wpAny (model X.prog X.w) X.A (noteFrame e X.env) (fun _ s₂ => wpAny (model X.prog X.w) X.A (setFlight e none) (fun _ s₃ =>
    wpAny (model X.prog X.w) X.A (handleBy e X.env (h₀ :: hds)) (SP X pins D) X.xe s₃) X.xe s₂) X.xe s₁) ⟨C.calm, fun u s' xx => ?_, PassesOwn.looking, C.room, C.gua⟩).run [] s σ H D (I.toTry _) hbd) (fun f s1 hsp => ?_) (fun e s1 he => he)
  · -- the catch
    obtain ⟨a, B, sI, pins', σ', H', kls, d, rfl, J', grd, up, air, na, os, ag, w⟩ := xx
    have J : L2.Inv X pins σ' H' sI := J'.ofTry okX
    have sky' : Sky B (X.env :: X.outer) a (Zc kls d) X.env.locals s'.heap := by rw [← hs]; exact air
    show wpAny (model X.prog X.w) X.A (noteFrame (.ref a) X.env) _ _ _; refine Sky.land Zc.steady frameEq hf sky' fun h3 fly3 upA => ?_
    have J3 : L2.Inv X pins σ' H' { s' with heap := h3 } := J.landed grd fly3.1 (up.trans upA) os ag
    obtain ⟨ox3, ws3, hx3, zc3, hdat3⟩ := fly3.there
    have recOff : ∀ {h : Heap} {o : Obj} {vs : Array Value}, h.FunFrames B (X.env :: X.outer) → h.get? a = some o → o.data = .fields vs → a ∉ frs (X.env :: X.outer) := fun {h o vs} ff e dd hm => by
      obtain ⟨_, o', e', noRec⟩ := ff.mem hm
      rw [e] at e'; cases e'
      exact noRec _ dd
    have offFr := recOff fly3.2.2.1 hx3 hdat3
    have offL : a ≠ X.env.locals := fun z => offFr (List.mem_filterMap.mpr ⟨X.env, List.mem_cons_self, by rw [hf, z]⟩)
    have offF : a ∉ X.fs := fun hm => by
      obtain ⟨e, he, q⟩ := List.mem_filterMap.mp hm; exact offFr (List.mem_filterMap.mpr ⟨e, List.mem_cons_of_mem _ he, q⟩)
    have sIn : sI.heap.get? a = none := by
      cases e : sI.heap.get? a with
      | none => rfl
      | some o =>
        have z := grd a o e (by rw [hs]; exact offFr)
        rw [fly3.2.1] at z; cases z
    have new0 : X.s_0.heap.get? a = none := by
      cases e : (X.s_0.heap).get? a with
      | none => rfl
      | some o =>
        obtain ⟨o', z⟩ := J.base.there a o e (by rw [hex]; exact fun z => nomatch z)
        rw [sIn] at z; cases z
    have nP : ∀ p ∈ X.pn ++ pins, p.1 ≠ a := fun p hp z => by
      have q := (J.pin p hp).1
      rw [z, sIn] at q; cases q
    have suite3 := J3.suite hx3 hdat3 na offL offF
    have go : ∀ {hds' : List ExceptHandler} {l' : List HSem}, HdsD X Γ hds' l' → wTry X.K Γ W D l' kls d σ' H' →
        wpAny (model X.prog X.w) X.A (handleBy (Value.ref a) X.env hds') (SP X pins D) X.xe { s' with heap := h3 } := by
      intro hds' l' hk
      induction hk with
      | nil =>
        intro w
        have w : W kls d σ' H' := by
          obtain ⟨H0, G0, G, g, x, hx, E, o, g', e, q⟩ := w
          cases e
          exact q _ _ _ _ _ (Gr.refl _) E hx
        refine wpAny_handleBy_nil ?_
        obtain ⟨k1, k2, k3, oe, vs, T, oT, ts', he, hz, hd, h1, hr⟩ := id fly3
        unfold PySem.passOn
        refine wpAny_bind (wpAny_field he hd h1 ?_); rw [if_neg (show ¬ ((Value.ref T == Value.none) = true) from by simp)]
        have passing : wpAny (model X.prog X.w) X.A (setFlight (.ref a) X.env.frame) (fun _ s4 => wpAny (model X.prog X.w) X.A (throw (.ref a) : Sem Flow) (SP X pins D) X.xe s4) X.xe { s' with heap := h3 } := by
          rw [hf]
          refine HandSPX.setFlight_upZ fly3 fun h4 hh4 upB => wpAny_throw (C.tk _ _ ?_)
          exact ⟨a, B, sI, pins, σ', H', kls, d, rfl, J, grd, (up.trans upA).trans upB, .inr (.inr (by rw [hs]; exact hh4)), na, os, ag, w⟩
        first
          | exact wpAny_bind (wpAny_pure (wpAny_bind passing))
          | exact wpAny_bind passing
      | @as_ xn n tb i f b₀ suite np pos' hds l hc hg hi hln hsu r hd ih =>
        intro w
        obtain ⟨H0, G0, G, g, x, ⟨C1, dd, fld, vv, e1, e2, e3, e4, e5⟩, t⟩ := w
        obtain ⟨v, c, hcl, htab⟩ := hc
        subst e2 e3
        obtain ⟨E, o, g', e, q⟩ := t
        unfold hdl at e
        dsimp only at e
        cases hb1 : tb.lookup x.c with
        | none => rw [hb1] at e; cases e
        | some b =>
          rw [hb1] at e
          refine wpAny_handleBy_cons (codeAny_handlers_test ?_) (by intro q; cases q); have LT : PySem.W.Looks (model X.prog X.w) h3 (typeOf (.ref a)) (.ref C1) := fun A Q E s k q => wpAny_typeOf_ref (k _ _ hx3) (by rw [zc3.1]; exact q)
          have LM := PySem.W.exm_one (M := model X.prog X.w) (J3.kIn) LT (htab _ _ _ _ e1 hb1).1
          have test : ∀ {Q : Value → Shared → Prop} {E : Value → Shared → Prop}, Q c { s' with heap := h3 } → wpAny (model X.prog X.w) (X.A.mark (some (.ref a))) (eval (.Name xn np) X.env) Q E { s' with heap := h3 } := fun {Q E} q => by
            obtain ⟨hg, hdbg, hm | ⟨hm, hv, hnn⟩⟩ := hcl.names hg hd
            · exact ld_glob (X := X.suite a ((a, ox3) :: (X.pn ++ pins))) suite3 hg hm q hdbg
            · exact ld_blt (X := X.suite a ((a, ox3) :: (X.pn ++ pins))) suite3 hg hm hv q hnn hdbg
          refine test (LM.here ?_)
          cases b with
          | true =>
            refine codeAny_handlers_suite_as ?_; refine HandSPX.lands_againZ fly3 fun h4 fly4 upB => ?_
            have J4 : L2.Inv X pins σ' H' { s' with heap := h4 } := J.landed grd fly4.1 ((up.trans upA).trans upB) os ag
            obtain ⟨ox4, ws4, hx4, zc4, hdat4⟩ := fly4.there
            have T4 : L2.Inv X pins σ' (upd H' a (xob a C1 dd)) { s' with heap := h4 } := inv_track J4 na new0 offL (fun y cy ey z => by
              obtain ⟨w, ow, z1, z2⟩ := J4.cell y cy ey
              have z1' : h4.get? cy = some ow := z1
              rw [z, hx4] at z1'; cases z1'
              rw [hdat4] at z2; cases z2) nP (xob_ok hx4 zc4 hdat4)
            refine store_ok (X := X.suite a (X.pn ++ pins)) (v := .ref a) (inv_suiteN T4 a) hN hi (.inl hln) rfl (fun s5 inv5 => ?_) (.inr hln)
            refine wpAny_mono ((hsu a (X.pn ++ pins)).run [] s5 _ _ _ inv5 (suite_as (W := W) (o := o) (g' := g') ⟨E, o, g', e, q⟩ na e1 e4 e5)) (fun f s6 hsp => ?_) (fun _ _ z => False.elim z)
            have goneThen : ∀ {σ6 : L2.St} {H6 : Hp} {Q : Shared → Prop}, L2.Inv (X.suite a (X.pn ++ pins)) [] σ6 H6 s6 → (∀ st7, L2.Inv X pins (σ6.set i none) H6 st7 → Q st7) →
                wpAny (model X.prog X.w) X.A (do bindName X.env n .none; unbindBehindTheSuite X.env n pos') (fun _ st7 => Q st7) X.xe s6 := fun {σ6 H6 Q} inv6 hq => gone_ok (inv_unsuiteN inv6 okX) hN hi hln hq
            cases f with
            | next =>
              obtain ⟨σ6, H6, inv6, fin6⟩ := hsp
              exact goneThen inv6 fun st7 inv7 => ⟨_, _, inv7, fin6⟩
            | brk =>
              obtain ⟨σ6, H6, inv6, fin6⟩ := hsp
              exact goneThen inv6 fun st7 inv7 => ⟨_, _, inv7, fin6⟩
            | cont =>
              obtain ⟨σ6, H6, inv6, fin6⟩ := hsp
              exact goneThen inv6 fun st7 inv7 => ⟨_, _, inv7, fin6⟩
            | ret u =>
              obtain ⟨v6, σ6, H6, inv6, rel6, fin6⟩ := hsp
              exact goneThen inv6 fun st7 inv7 => ⟨_, _, _, inv7, rel6, fin6⟩
          | false =>
            show wpAny _ X.A (handleBy (.ref a) X.env hds) _ _ _
            exact ih ⟨H0, G0, G, g, x, ⟨C1, dd, fld, vv, e1, rfl, rfl, e4, e5⟩, E, o, g', e, q⟩
      | @no_ xn tb f b₀ suite np pos' hds l hc hg hsu r hd ih =>
        intro w
        obtain ⟨H0, G0, G, g, x, ⟨C1, dd, fld, vv, e1, e2, e3, e4, e5⟩, t⟩ := w
        obtain ⟨v, c, hcl, htab⟩ := hc
        subst e2 e3
        obtain ⟨E, o, g', e, q⟩ := t
        unfold hdl at e
        dsimp only at e
        cases hb1 : tb.lookup x.c with
        | none => rw [hb1] at e; cases e
        | some b =>
          rw [hb1] at e
          refine wpAny_handleBy_cons (codeAny_handlers_test ?_) (by intro q; cases q); have LT : PySem.W.Looks (model X.prog X.w) h3 (typeOf (.ref a)) (.ref C1) := fun A Q E s k q => wpAny_typeOf_ref (k _ _ hx3) (by rw [zc3.1]; exact q)
          have LM := PySem.W.exm_one (M := model X.prog X.w) (J3.kIn) LT (htab _ _ _ _ e1 hb1).1
          have test : ∀ {Q : Value → Shared → Prop} {E : Value → Shared → Prop}, Q c { s' with heap := h3 } → wpAny (model X.prog X.w) (X.A.mark (some (.ref a))) (eval (.Name xn np) X.env) Q E { s' with heap := h3 } := fun {Q E} q => by
            obtain ⟨hg, hdbg, hm | ⟨hm, hv, hnn⟩⟩ := hcl.names hg hd
            · exact ld_glob (X := X.suite a ((a, ox3) :: (X.pn ++ pins))) suite3 hg hm q hdbg
            · exact ld_blt (X := X.suite a ((a, ox3) :: (X.pn ++ pins))) suite3 hg hm hv q hnn hdbg
          refine test (LM.here ?_)
          cases b with
          | true =>
            refine codeAny_handlers_suite ?_; refine HandSPX.lands_againZ fly3 fun h4 fly4 upB => ?_
            have J4 : L2.Inv X pins σ' H' { s' with heap := h4 } := J.landed grd fly4.1 ((up.trans upA).trans upB) os ag
            obtain ⟨ox4, ws4, hx4, zc4, hdat4⟩ := fly4.there
            have T4 : L2.Inv X pins σ' (upd H' a (xob a C1 dd)) { s' with heap := h4 } := inv_track J4 na new0 offL (fun y cy ey z => by
              obtain ⟨w, ow, z1, z2⟩ := J4.cell y cy ey
              have z1' : h4.get? cy = some ow := z1
              rw [z, hx4] at z1'; cases z1'
              rw [hdat4] at z2; cases z2) nP (xob_ok hx4 zc4 hdat4)
            refine wpAny_mono ((hsu a (X.pn ++ pins)).run [] _ _ _ _ (inv_suiteN T4 a) (suite_no (W := W) (o := o) (g' := g') ⟨E, o, g', e, q⟩ na)) (fun f s6 hsp => ?_) (fun _ _ z => False.elim z)
            cases f with
            | next =>
              obtain ⟨σ6, H6, inv6, fin6⟩ := hsp
              exact ⟨_, _, inv_unsuiteN inv6 okX, fin6⟩
            | brk =>
              obtain ⟨σ6, H6, inv6, fin6⟩ := hsp
              exact ⟨_, _, inv_unsuiteN inv6 okX, fin6⟩
            | cont =>
              obtain ⟨σ6, H6, inv6, fin6⟩ := hsp
              exact ⟨_, _, inv_unsuiteN inv6 okX, fin6⟩
            | ret u =>
              obtain ⟨v6, σ6, H6, inv6, rel6, fin6⟩ := hsp
              exact ⟨_, _, _, inv_unsuiteN inv6 okX, rel6, fin6⟩
          | false =>
            show wpAny _ X.A (handleBy (.ref a) X.env hds) _ _ _
            exact ih ⟨H0, G0, G, g, x, ⟨C1, dd, fld, vv, e1, rfl, rfl, e4, e5⟩, E, o, g', e, q⟩
    exact go hh w
  · cases f with
    | next =>
      obtain ⟨σ', H', J', q⟩ := hsp
      exact wpAny_execs_nil ⟨σ', H', J'.ofTry okX, q⟩
    | brk =>
      obtain ⟨σ', H', J', q⟩ := hsp
      exact ⟨σ', H', J'.ofTry okX, q⟩
    | cont =>
      obtain ⟨σ', H', J', q⟩ := hsp
      exact ⟨σ', H', J'.ofTry okX, q⟩
    | ret u =>
      obtain ⟨v, σ', H', J', r, q⟩ := hsp; exact ⟨v, σ', H', J'.ofTry okX, r, q⟩
end
end DE
namespace DE
open PyProof.Rows PySem.Spec PySem L2
/-! ### repr -/
def showB (p : PyData) : Bool := p.showable && (decide (p.depth ≤ 50) && (decide (p.shown.length ≤ 16000000) && !p.hasDict))
def aRepr (d : D) : Mo D := match pyd d with
  | some p => if showB p = true then rt (.str p.shown) else stop
  | none => stop
def fRepr (f : Mo D) : Mo D := bd f aRepr
section
variable {X : Cx} {Γ : Gam} {W : WX} {a b c e : Expr} {es : List Expr} {pos : Pos} {k : Nat}
theorem call_repr_d (hu : X.A.units + 64 < cLine) (hg : X.A.guards = some []) : CallR X (.builtin "repr") (fun xs H Q => ∃ v p, xs = [v] ∧ Dp X.K H v p ∧ showB p = true ∧ Q (.str p.shown) H) := by
  intro pins s σ H xs us Q I r h; obtain ⟨v, p, rfl, hp, hs, q⟩ := h
  cases r with
  | cons r0 rr =>
    cases rr
    unfold showB at hs
    simp only [Bool.and_eq_true, decide_eq_true_eq, Bool.not_eq_true'] at hs
    obtain ⟨h1, h2, h3, h4⟩ := hs
    have sz : p.shown.length ≤ sizeLine := Nat.le_trans h3 (by decide)
    obtain ⟨as, rd⟩ := hp.reads I _ _ _ r0
    have go : ∀ (a : Addr) (u : Value), RelV v u → u = .ref a → wpAny (model X.prog X.w) X.A (call (.builtin "repr") [u]) (EP X pins σ Q) X.xe s := fun a u ru e => by
      subst e
      obtain ⟨as, rd⟩ := hp.reads I _ _ _ ru
      exact repr_of_reads' rd h1 (fun z => by rw [h4] at z; cases z) hg (by omega) (fun _ _ z => z) (fun h' u tk k => ⟨.str p.shown, H, I.kept (t' := tk) k, ⟨u, rfl⟩, q⟩) sz
    cases hp with
    | non =>
      cases r0
      exact PySem.P.repr_of_none ⟨.str _, H, I.tok _, ⟨_, rfl⟩, q⟩
    | bl b =>
      cases r0
      exact PySem.P.repr_of_bool ⟨.str _, H, I.tok _, ⟨_, rfl⟩, by cases b <;> exact q⟩
    | int i =>
      obtain ⟨t, rfl⟩ := r0
      exact PySem.P.repr_of_int (by simpa [PyData.showable] using h1) ⟨.str _, H, I.tok _, ⟨_, rfl⟩, q⟩
    | str x =>
      obtain ⟨t, rfl⟩ := r0
      exact PySem.P.repr_of_str ⟨.str _, H, I.tok _, ⟨_, rfl⟩, q⟩ sz
    | lst h1 h2 => exact go _ _ r0 r0
    | tup h1 h2 => exact go _ _ r0 r0
theorem d_repr {x : Str} {p : Pos} {f : Mo D} (C : Ct X W k) (ha : DX X Γ W e f) (hg : Gl X x) (hm : X.mg x = none) (hv : bootBuiltins x = some (.builtin "repr")) (hn : x ≠ "__name__" := by decide) (hdb : (x == ("__debug__" : Str)) = false := by decide)
    (hs : starEach [e] X.env = (false, eval e X.env) :: starEach [] X.env := by rfl) (hpl : (backTo pos (starEach [] X.env)).any (·.1) = false := by rfl) : DX X Γ W (.Call (.Name x p) [e] [] pos) (fRepr f) :=
  (pe_callB (call_repr_d C.room.units C.gua) hg hm hv (pa_cons ha pa_nil hs) hn hdb hs hpl).imp fun σ H Q h => h.bind fun H0 G0 d v g1 G1 H1 r1 h1 => by
    unfold aRepr at h1
    split at h1
    · rename_i p hp
      split at h1
      · rename_i hs
        exact ⟨v, p, rfl, Dv.dp h1.1.sub r1 hp, hs, h1.here (.str _)⟩
      · exact h1.stop
    · exact h1.stop
/-! ### isinstance of a caught error, its field -/
/-- what the written part says of the own error classes -/
def ErrK (K : PySem.W.Frag) (Γ : Gam) : Prop := ∀ cn C f, Γ.cl cn = some (C, f) → XfC K C ∧ ExcC K C ∧ (PySem.W.clsIn K C).isSome = true ∧ PySem.W.findIn K (.ref C) f = some none
theorem xob_at {P : Program} {w : World} {H : Hp} {h : Heap} {a C d : Addr} (hok : HOk P w H h) (he : H a = some (xob a C d)) : ∃ (oe : Obj) (vs : Array Value), h.get? a = some oe ∧ Zc (.ref C) (some d) oe ∧ oe.data = .fields vs := by
  have x : ObjOk P w H h a (.ext fun h => ∃ (oe : Obj) (vs : Array Value), h.get? a = some oe ∧ Zc (.ref C) (some d) oe ∧ oe.data = .fields vs) := hok a _ he
  exact x.1
theorem inst_at {X : Cx} {pins : List (Addr × Obj)} {σ : L2.St} {H : Hp} {s : Shared} {a C d : Addr} {f : Str} {v : V} (I : L2.Inv X pins σ H s) (ha : H a = some (xob a C d)) (hd : H d = some (.xd [(f, v)])) :
    ∃ (oe od : Obj) (mA : Str → Option Value), PySem.W.InstAt s.heap a oe C (some od) ∧ PySem.W.lookIn f od = some (mA f) ∧ RelO (([(f, v)] : List (Str × V)).lookup f) (mA f) := by
  obtain ⟨oe, vs, h1, hz, h2⟩ := xob_at I.hok ha
  have hx : ObjOk X.prog X.w H s.heap d (.xd [(f, v)]) := I.hok d _ hd
  obtain ⟨mA, hns, hr⟩ := hx
  obtain ⟨od, ho, hl⟩ := lookIn_ns hns; exact ⟨oe, od, mA, ⟨h1, hz.1, by unfold PySem.W.notCls; rw [h2] <;> rfl, by rw [hz.2]; exact ho⟩, hl f, hr f⟩
theorem call_isX : CallR X (.builtin "isinstance") (fun xs H Q => ∃ (a C d : Addr) (f : Str) (v cv : V) (c : Value) (b : Bool), xs = [.ref a, cv] ∧ (∀ u, RelV cv u → u = c) ∧ H a = some (xob a C d) ∧ H d = some (.xd [(f, v)]) ∧ ExcC X.K C ∧ (PySem.W.clsIn X.K C).isSome = true ∧ PySem.W.kitOne X.K (.ref C) c = some b ∧ Q (.bl b) H) := by
  intro pins s σ H xs us Q I r h; obtain ⟨a, C, d, f, v, cv, c, b, rfl, hcv, ha, hd, T, hcl, e, q⟩ := h
  cases r with
  | cons rx rr =>
    cases rr with
    | cons rt rr =>
      cases rr
      cases rx
      have ec := hcv _ rt
      subst ec
      obtain ⟨oe, od, mA, J, _, _⟩ := inst_at I ha hd
      exact PySem.W.kia_one (PySem.W.kitx_exc hcl T.hg T.hk T.hs T.ha T.hn T.ht T.hm) I.kIn J e (fun z => nomatch z) fun tk => ⟨.bl b, H, I.kept (t' := tk) fun _ _ z => z, rfl, q⟩
def aIsE (tb : List (Str × Bool)) (d : D) : Mo D := match d with
  | .exc c _ => match tb.lookup c with
    | some b => rt (.bl b)
    | none => stop
  | _ => stop
def fIsE (tb : List (Str × Bool)) (f : Mo D) : Mo D := bd f (aIsE tb)
theorem Dv.exc_inv {K : PySem.W.Frag} {G : Hp} {v : V} {c : Str} {w : D} (h : Dv K Γ G v (.exc c w)) : ∃ a d C f u, v = .ref a ∧ Γ.cl c = some (C, f) ∧ G a = some (xob a C d) ∧ G d = some (.xd [(f, u)]) ∧ Dv K Γ G u w := by
  cases h with
  | exc h1 h2 h3 h4 => exact ⟨_, _, _, _, _, rfl, h1, h2, h3, h4⟩
theorem d_isE {x y : Str} {tb : List (Str × Bool)} {p py : Pos} {f : Mo D} (R : ErrK X.K Γ) (hy : HdX X.K X.mg Γ y tb) (gy : Gl X y) (ha : DX X Γ W e f) (hg : Gl X x) (hm : X.mg x = none) (hv : bootBuiltins x = some (.builtin "isinstance")) (hdy : (y == ("__debug__" : Str)) = false := by decide)
    (hn : x ≠ "__name__" := by decide) (hdb : (x == ("__debug__" : Str)) = false := by decide)
    (hs2 : starEach [.Name y py] X.env = (false, eval (.Name y py) X.env) :: starEach [] X.env := by rfl) (hs : starEach [e, .Name y py] X.env = (false, eval e X.env) :: starEach [.Name y py] X.env := by rfl) (hpl : (backTo pos (starEach [.Name y py] X.env)).any (·.1) = false := by rfl) :
    DX X Γ W (.Call (.Name x p) [e, .Name y py] [] pos) (fIsE tb f) := by
  obtain ⟨cv, c, hc, htab⟩ := hy
  refine (pe_callB call_isX hg hm hv (pa_cons ha (pa_cons (hc.pe gy hdy) pa_nil hs2) hs) hn hdb hs hpl).imp fun σ H Q h => h.bind fun H0 G0 d v g1 G1 H1 r1 h1 => ?_
  unfold aIsE at h1
  split at h1
  · rename_i cn w
    split at h1
    · rename_i b hb
      obtain ⟨a, d, C, f, u, rfl, k1, k2, k3, k4⟩ := Dv.exc_inv r1
      obtain ⟨_, x2, x3, _⟩ := R _ _ _ k1
      exact ⟨a, C, d, f, u, cv, c, b, rfl, hc.rel, h1.1.sub _ _ k2, h1.1.sub _ _ k3, x2, x3, (htab _ _ _ _ k1 hb).2, h1.here (.bl _)⟩
    · exact h1.stop
  · exact h1.stop
/-- e.name -/
def aFld (cs : List Str) (d : D) : Mo D := match d with
  | .exc c w => if cs.contains c = true then rt w else stop
  | _ => stop
def fFld (cs : List Str) (f : Mo D) : Mo D := bd f (aFld cs)
def FldOk (Γ : Gam) (n : Str) (cs : List Str) : Prop := ∀ c, cs.contains c = true → ∀ C f, Γ.cl c = some (C, f) → f = n
theorem d_fld {n : Str} {cs : List Str} {f : Mo D} (R : ErrK X.K Γ) (F : FldOk Γ n cs) (he : DX X Γ W e f) (hb : attributeBase e n X.env (eval e X.env) = eval e X.env := by rfl) : DX X Γ W (.Attribute e n pos) (fFld cs f) := by
  refine ⟨fun pins s σ H Q I h => ?_⟩; refine attr_of hb (thn (he.run pins s σ H _ I (h.bind (P := fun v H1 => ∃ (a C d : Addr) (u : V), v = .ref a ∧ H1 a = some (xob a C d) ∧ H1 d = some (.xd [(n, u)]) ∧ XfC X.K C ∧ PySem.W.findIn X.K (.ref C) n = some none ∧ Q u H1) fun H0 G0 d v g1 G1 H1 r1 h1 => ?_)) fun u s1 hh => ?_)
  · unfold aFld at h1
    split at h1
    · rename_i cn w
      split at h1
      · rename_i hcs
        obtain ⟨a, d, C, f, u, rfl, k1, k2, k3, k4⟩ := Dv.exc_inv r1
        obtain ⟨x1, _, _, x4⟩ := R _ _ _ k1
        obtain rfl := F _ hcs _ _ k1
        exact ⟨a, C, d, u, rfl, h1.1.sub _ _ k2, h1.1.sub _ _ k3, x1, x4, h1.here k4⟩
      · exact h1.stop
    · exact h1.stop
  · obtain ⟨v, H1, I1, rv, a, C, d, u', rfl, k2, k3, T, hno, q⟩ := hh
    obtain rfl : u = Value.ref a := rv
    obtain ⟨oe, od, mA, J, hl, hr⟩ := inst_at I1 k2 k3
    obtain ⟨u2, hu, ru⟩ := RelO.some_of (v := u') (o := mA n) (by
      have z : ([(n, u')] : List (Str × V)).lookup n = some u' := by simp [List.lookup]
      rw [z] at hr; exact hr)
    exact HandSPX.exc_get I1.kIn J T.ga T.gg T.exC (PySem.W.findObj_own T.hdC hno rfl (by rw [hl, hu])) (handed_of ru) ⟨u', H1, I1.tok _, ru, q⟩
end
end DE
namespace DE
open PyProof.Rows PySem.Spec PySem L2
/-! ### isinstance(e, (X, Y, ..)) of a caught error -/
def anyT : List (List (Str × Bool)) → Str → Option Bool
  | [], _ => some false
  | tb :: r, c => match tb.lookup c with
    | some true => some true
    | some false => anyT r c
    | none => none
section
variable {X : Cx} {Γ : Gam} {W : WX} {a b c e : Expr} {es : List Expr} {pos : Pos} {k : Nat}
def DC (X : Cx) (Γ : Gam) (es : List Expr) (tbs : List (List (Str × Bool))) : Prop :=
  ∃ (vs : List V) (cs : List Value), PA X es (fun _ H Q => Q vs H) ∧ vs.length = tbs.length ∧ (∀ us, Vals vs us → us = cs) ∧ ∀ cn C f b, Γ.cl cn = some (C, f) → anyT tbs cn = some b → PySem.W.kitAny X.K (.ref C) cs = some b
theorem dc_nil : DC X Γ [] [] := ⟨[], [], pa_nil, rfl, fun us h => by cases h; rfl, fun cn C f b _ h => h⟩
theorem dc_cons {y : Str} {tb : List (Str × Bool)} {tbs : List (List (Str × Bool))} {py : Pos} (hy : HdX X.K X.mg Γ y tb) (gy : Gl X y) (h : DC X Γ es tbs) (hdy : (y == ("__debug__" : Str)) = false := by decide)
    (hs : starEach (.Name y py :: es) X.env = (false, eval (.Name y py) X.env) :: starEach es X.env := by rfl) : DC X Γ (.Name y py :: es) (tb :: tbs) := by
  obtain ⟨v, c, hc, htab⟩ := hy
  obtain ⟨vs, cs, h1, h2, h3, h4⟩ := h
  refine ⟨v :: vs, c :: cs, pa_cons (hc.pe gy hdy) h1 hs, congrArg (· + 1) h2, fun us r => ?_, fun cn C f b k1 k2 => ?_⟩
  · cases r with
    | cons r0 rr => rw [hc.rel _ r0, h3 _ rr]
  · unfold anyT at k2
    unfold PySem.W.kitAny
    cases z : tb.lookup cn with
    | none => rw [z] at k2; cases k2
    | some b1 =>
      rw [z] at k2
      rw [(htab _ _ _ _ k1 z).2]
      cases b1 with
      | true => exact k2
      | false => exact h4 _ _ _ _ k1 k2
theorem call_isXT : CallR X (.builtin "isinstance") (fun xs H Q => ∃ (a C d p : Addr) (f : Str) (v : V) (vs : List V) (cs : List Value) (b : Bool), xs = [.ref a, .ref p] ∧ H p = some (.tup vs) ∧ (∀ us, Vals vs us → us = cs) ∧ H a = some (xob a C d) ∧ H d = some (.xd [(f, v)]) ∧ ExcC X.K C ∧ (PySem.W.clsIn X.K C).isSome = true ∧ PySem.W.kitAny X.K (.ref C) cs = some b ∧ Q (.bl b) H) := by
  intro pins s σ H xs us Q I r h; obtain ⟨a, C, d, p, f, v, vs, cs, b, rfl, hp, hcs, ha, hd, T, hcl, e, q⟩ := h
  cases r with
  | cons rx rr =>
    cases rr with
    | cons rt rr =>
      cases rr
      cases rx
      cases rt
      obtain ⟨oe, od, mA, J, _, _⟩ := inst_at I ha hd
      have ht : ObjOk X.prog X.w H s.heap p (.tup vs) := I.hok p _ hp
      obtain ⟨z, us, rv, o, ho, hc, n, hdat⟩ := ht
      have ec := hcs _ rv
      subst ec
      obtain ⟨oc, odd, odt, osl⟩ := o
      simp only at hc hdat
      subst hc hdat
      exact PySem.W.kia_tup (PySem.W.kitx_exc hcl T.hg T.hk T.hs T.ha T.hn T.ht T.hm) I.kIn J ho e (fun z => nomatch z) fun tk => ⟨.bl b, H, I.kept (t' := tk) fun _ _ z => z, rfl, q⟩
def aIsT (tbs : List (List (Str × Bool))) (d : D) : Mo D := match d with
  | .exc c _ => match anyT tbs c with
    | some b => rt (.bl b)
    | none => stop
  | _ => stop
def fIsT (tbs : List (List (Str × Bool))) (f : Mo D) : Mo D := bd f (aIsT tbs)
theorem d_isT {x : Str} {tbs : List (List (Str × Bool))} {p pt : Pos} {kt : Nat} {f : Mo D} (R : ErrK X.K Γ) (hy : DC X Γ es tbs) (hlen : tbs.length ≤ 1000) (ha : DX X Γ W e f) (hg : Gl X x) (hm : X.mg x = none) (hv : bootBuiltins x = some (.builtin "isinstance"))
    (hn : x ≠ "__name__" := by decide) (hdb : (x == ("__debug__" : Str)) = false := by decide)
    (hs2 : starEach [.Tuple es kt pt] X.env = (false, eval (.Tuple es kt pt) X.env) :: starEach [] X.env := by rfl) (hs : starEach [e, .Tuple es kt pt] X.env = (false, eval e X.env) :: starEach [.Tuple es kt pt] X.env := by rfl) (hpl : (backTo pos (starEach [.Tuple es kt pt] X.env)).any (·.1) = false := by rfl) :
    DX X Γ W (.Call (.Name x p) [e, .Tuple es kt pt] [] pos) (fIsT tbs f) := by
  obtain ⟨vs, cs, hc, hl, hcs, htab⟩ := hy
  refine (pe_callB call_isXT hg hm hv (pa_cons ha (pa_cons (pe_tup hc) pa_nil hs2) hs) hn hdb hs hpl).imp fun σ H Q h => h.bind fun H0 G0 d v g1 G1 H1 r1 h1 => ?_
  refine ⟨by rw [hl, sizeLine_eq]; omega, fun p hp => ?_⟩
  unfold aIsT at h1
  split at h1
  · rename_i cn w
    split at h1
    · rename_i b hb
      obtain ⟨a, d, C, f, u, rfl, k1, k2, k3, k4⟩ := Dv.exc_inv r1
      obtain ⟨_, x2, x3, _⟩ := R _ _ _ k1
      obtain ⟨E, _, _, e, q⟩ := h1
      cases e
      have gp : G1 p = none := by
        cases z : G1 p with
        | none => rfl
        | some u => rw [E.sub _ _ z] at hp; cases hp
      have ka := E.sub _ _ k2
      have kd := E.sub _ _ k3
      exact ⟨a, C, d, p, f, u, vs, cs, b, rfl, upd_same, hcs, by rw [upd_ne (ne_of_none ka hp)]; exact ka, by rw [upd_ne (ne_of_none kd hp)]; exact kd, x2, x3, htab _ _ _ _ k1 hb, q (.bl b) _ _ (Gr.upd gp) (E.new hp) (.bl b)⟩
    · exact h1.stop
  · exact h1.stop
/-! ### {}, and a dict held against a text -/
theorem d_dic0 : DX X Γ W (.Dict [] [] pos) (rt (.dic [])) :=
  pe_dnewK.imp fun σ H Q ⟨H0, G0, G, g, h⟩ p hp => h.new hp (.dic upd_same .nil)
end
section
variable {M : Model} {prog : Program} {w : World} {A : Around} {E : Value → Shared → Prop} {s : Shared}
theorem str_ne_declines_dict (b : Str) (u : Tok) (l : Addr) (c : Value) (items : Array DictEntry) (n : Nat) (dd : Option Addr) (sl : Array (Option Value)) :
    Meets (Builtin.«str.__ne__» ⟨[.str b u, .ref l], []⟩) (fun _ R s => s.heap.get? l = some { cls := c, dict := dd, data := .dict items n, slots := sl } ∧ R (.ok (.ret .notImplemented)) s) :=
  .of_wp fun prog w A R s hh => by obtain ⟨hp, g, d, tk, os⟩ := s; obtain ⟨hl, h⟩ := hh; wp_walk using wpAny_loadPart' hl, wpAny_load hl; exact ⟨_, rfl, h⟩
theorem dict_ne_str {l : Addr} {items : Array DictEntry} {n : Nat} {dd : Option Addr} {sl : Array (Option Value)} {b : Str} {u : Tok} {Q : Value → Shared → Prop} (ho : s.heap.get? l = some { cls := .type "dict", dict := dd, data := .dict items n, slots := sl }) (hu : A.units < cLine) (h : Q (.bool true) s) :
    wpAny (model prog w) A (richCompare .NotEq (.ref l) (.str b u)) Q E s := by
  have hT : s.TypeIs (.ref l) "dict" := ⟨_, ho, rfl⟩
  refine SeqAt.rc_ne_decline_or (k := false) hT (typeIs_str s b u) (by decide) PySem.F.sub_str_dict PySem.F.slot_dict_ne PySem.F.slot_str_ne_refl (fun _ hq => ?_)
    (fun _ hq => call_meets PySem.F.slot_str_ne_refl (typeIs_str s b u) PySem.F.entry_str_ne (PySem.F.args_str_ne_2 _ _) (str_ne_declines_dict b u l (.type "dict") items n dd sl) ⟨ho, hq⟩)
    (fun _ hr => wpAny_of_eq (rfl : isSame (.ref l) (.str b u) = pure false) hr) (.inr hu) h
  refine wpAny_call_entry PySem.F.slot_dict_ne hT PySem.F.entry_dict_ne ?_ (PySem.F.args_dict_ne_2 _ _)
  show wpAny _ _ (Builtin.Dict.dictSlotArgs "__ne__" ⟨[.ref l, .str b u], []⟩ >>= _) _ _ s
  refine wpAny_bind ?_
  unfold Builtin.Dict.dictSlotArgs; refine wpAny_bind (wpAny_notOrdered_dict hT ?_)
  show wpAny _ _ (pure (Value.ref l, Value.str b u)) _ _ s
  refine wpAny_pure ?_
  refine wpAny_bind (wpAny_isInstance (T := "str") (typeIs_str s b u) PySem.F.sub_str_dict ?_)
  simp only [Bool.not_false, if_true]; refine wpAny_bind (wpAny_rule ?_)
  exact wpAny_pure ⟨_, rfl, hq⟩
end
/-- != where a dict may be held against a text -/
def pNeX (d e : D) : Mo D := match d, e with
  | .dic _, .str _ => rt (.bl true)
  | _, _ => pNe d e
section
variable {X : Cx} {Γ : Gam} {W : WX}
theorem o_nex (hu : X.A.units + 64 < cLine) : BinD X Γ W (compareOp .NotEq) pNeX := by
  intro pins s σ H x y v u Q I rx ry ⟨H0, G0, G, gg, σ', d, e, dx, dy, q⟩
  unfold pNeX at q
  split at q
  · cases dx with
    | dic h1 t =>
      cases dy
      cases rx
      obtain ⟨tk, rfl⟩ := ry
      obtain ⟨z, hd, vs0, r0, dd⟩ := dk_of I.hok (q.1.sub _ _ h1)
      obtain ⟨o, es, ep, ho, hx, hdat, _⟩ := dd
      obtain ⟨oc, od, odt, osl⟩ := o; obtain ⟨h1', h2', h3'⟩ := hx
      simp only at hdat h1' h2' h3'
      subst hdat h1' h2' h3'
      exact dict_ne_str ho (by omega) ⟨.bl true, H, I, rfl, q.here (.bl _)⟩
  · exact o_ne hu pins s σ H x y v u Q I rx ry ⟨H0, G0, G, gg, σ', d, e, dx, dy, q⟩
end
end DE
namespace DE
open PyProof.Rows PySem.Spec PySem L2
/-! ### the script's draws begin -/
def begStep (s c : Int) : Int := (s * 69621 + c % 2147483629 + 7) % 2147483647
def begS (ns : List Int) : DS := ⟨ns.filter (fun c => decide ((10 : Int) ^ 18 ≤ c)), ns.foldl begStep 11, 0⟩
abbrev tBInt (t : TE) : TE := fun σ H Q => tCons t tNil σ H fun xs H1 => (∃ i, xs = [.int i] ∧ Q (.int i) H1) ∨ ∃ k, xs = [.bl k] ∧ Q (.int (if k then 1 else 0)) H1
abbrev tBStep : TE := tOp (rI (fun _ j => 0 < j) fun i j => .int (i % j)) (tBInt (tOp (rI0 fun i j => .int (i + j)) (tOp (rI0 fun i j => .int (i + j)) (tOp (rI CMul fun i j => .int (i * j)) (tVar 1) (tC (.int 69621))) (tOp (rI (fun _ j => 0 < j) fun i j => .int (i % j)) (tBInt (tVar 2)) (tC (.int 2147483629)))) (tC (.int 7)))) (tC (.int 2147483647))
abbrev tBComp (K : PySem.W.Frag) : TE := tLc (iList K (tVar 0)) (gName 2) (tTest (tOp (rI0 fun i j => .bl (decide (j ≤ i))) (tVar 2) (tOp (rI CPow fun i j => .int (i ^ j.toNat)) (tC (.int 10)) (tC (.int 18))))) (tVar 2) [2]
abbrev tBeg (K : PySem.W.Frag) : TS := tSeq (tAsg (tC (.int 11)) (gName 1)) (tSeq (tFor (iList K (tVar 0)) (gName 2) (tAsg tBStep (gName 1)))
  (tRet (tDisp [(tC (.str "great"), tBComp K), (tC (.str "seed"), tVar 1), (tC (.str "turns"), tC (.int 0))])))
def spBeg (K : PySem.W.Frag) : Sp := fun vs H Q _ => ∃ l ns, vs = [.ref l] ∧ SqL K H l (ns.map V.int) ∧ ns.length ≤ 100000 ∧
  ∀ M D H', H M = none → H D = none → M ≠ D → H' M = some (.dK (mkvs D (begS ns))) → H' D = some (.lst ((begS ns).great.map V.int)) → (∀ a, a ≠ M → a ≠ D → H' a = H a) → Q (.ref M) H'
theorem takeOne {α : Type} : ∀ {l : List α} {x : α} {i : Nat}, l[i]? = some x → l.take (i + 1) = l.take i ++ [x]
  | [], x, i, h => by simp at h
  | a :: l, x, 0, h => by simp at h; subst h; rfl
  | a :: l, x, i + 1, h => by
    have ih := takeOne (l := l) (i := i) (x := x) (by simpa using h)
    simp [ih]
theorem beg_run {K : PySem.W.Frag} {l : Addr} {ns : List Int} {H : Hp} {Ds : Ends} {σ : L2.St} (hσ : σ.length = 3) (h0 : σ[0]? = some (some (V.ref l))) (hl : SqL K H l (ns.map V.int)) (hn : ns.length ≤ 100000)
    (hq : ∀ M D H', H M = none → H D = none → M ≠ D → H' M = some (.dK (mkvs D (begS ns))) → H' D = some (.lst ((begS ns).great.map V.int)) → (∀ a, a ≠ M → a ≠ D → H' a = H a) → Ds.rt (.ref M) H') : tBeg K Ds σ H := by
  have set_ne : ∀ {σ : L2.St} {i j : Nat} {v : Option V}, i ≠ j → (σ.set i v)[j]? = σ[j]? := fun h => List.getElem?_set_ne h
  have set_eq : ∀ {σ : L2.St} {i : Nat} {v : Option V}, i < σ.length → (σ.set i v)[i]? = some v := fun h => List.getElem?_set_self h
  show tSeq _ _ Ds (σ.set 1 (some (.int 11))) H
  refine ⟨.ref l, by rw [set_ne (by decide)]; exact h0, l, rfl, ⟨_, hl⟩, for_list (xs := ns.map V.int) (fun i σ2 H2 => H2 = H ∧ σ2.length = 3 ∧ σ2[0]? = some (some (V.ref l)) ∧ σ2[1]? = some (some (V.int ((ns.take i).foldl begStep 11)))) ⟨rfl, by simpa using hσ, by rw [set_ne (by decide)]; exact h0, by rw [set_eq (by omega)]; rfl⟩ (fun i σ2 H2 _ p => by rw [p.1]; exact hl) ?_ ?_⟩
  · rintro i x σ2 H2 hx ⟨rfl, hs, p0, p1⟩
    rw [List.getElem?_map] at hx
    cases hc : ns[i]? with
    | none => rw [hc] at hx; cases hx
    | some c =>
      rw [hc] at hx; cases hx
      refine ⟨.int ((ns.take i).foldl begStep 11), by rw [set_ne (by decide)]; exact p1, _, _, rfl, rfl, .inr ⟨by decide, by decide⟩, .int c, set_eq (by omega), .inl ⟨c, rfl, _, _, rfl, rfl, (show (0 : Int) < 2147483629 by decide), _, _, rfl, rfl, _, _, rfl, rfl, .inl ⟨_, rfl, _, _, rfl, rfl, (show (0 : Int) < 2147483647 by decide), rfl, by simpa using hs, ?_, ?_⟩⟩⟩
      · rw [set_ne (by decide), set_ne (by decide)]; exact p0
      · rw [set_eq (by simpa using (by omega : 1 < σ2.length)), takeOne hc, List.foldl_append]; rfl
  · rintro σ2 H2 ⟨rfl, hs, p0, p1⟩ p hp
    rw [List.length_map, List.take_length] at p1
    refine ⟨.ref l, p0, l, rfl, ⟨_, Gr.sqL (Gr.upd hp) hl⟩, fun D hD => ?_⟩
    have pD : D ≠ p := by rintro rfl; rw [upd_same] at hD; cases hD
    have hD' : H2 D = none := by rw [upd_ne pD] at hD; exact hD
    refine lc_list (xs := ns.map V.int) (fun i H3 => H3 D = some (.lst (((ns.take i).filter (fun c => decide ((10 : Int) ^ 18 ≤ c))).map V.int)) ∧ ∀ a, a ≠ D → H3 a = upd H2 p (.dK []) a) ⟨upd_same, fun a ha => upd_ne ha⟩ (fun i H3 _ q => Gr.sqL (fun a o z => by rw [q.2 a (ne_of_none z hD), ← z]) (Gr.sqL (Gr.upd hp) hl)) ?_ ?_
    · rintro i x H3 hx ⟨q1, q2⟩
      rw [List.getElem?_map] at hx
      cases hc : ns[i]? with
      | none => rw [hc] at hx; cases hx
      | some c =>
        rw [hc] at hx; cases hx
        have wl : (L2.wipe σ2 [2]).length = 3 := by rw [wipe_length]; exact hs
        refine ⟨wipe_congr (by rw [List.length_set, wl, hs]) fun i hi => ?_, .int c, set_eq (by omega), _, _, rfl, rfl, by unfold CPow; decide, _, _, rfl, rfl, ?_⟩
        · have : 2 ≠ i := by simpa [eq_comm] using hi
          rw [set_ne this, wipe_at hi]
        · refine ⟨_, rfl, ?_⟩
          have e18 : ((10 : Int) ^ (18 : Int).toNat) = 10 ^ 18 := rfl
          by_cases hk : (10 : Int) ^ 18 ≤ c
          · have hk' : decide ((10 : Int) ^ (18 : Int).toNat ≤ c) = true := by rw [e18]; exact decide_eq_true hk
            rw [hk']
            show (if true = true then _ else _); rw [if_pos rfl]
            refine ⟨.int c, set_eq (by omega), _, q1, ?_, ?_, fun a ha => by rw [upd_ne ha]; exact q2 a ha⟩
            · rw [List.length_map]
              have h1 := List.length_filter_le (fun c => decide ((10 : Int) ^ 18 ≤ c)) (ns.take i)
              have h2 : (ns.take i).length ≤ ns.length := by rw [List.length_take]; omega
              exact Nat.lt_of_le_of_lt (Nat.le_trans h1 (Nat.le_trans h2 hn)) (by decide)
            · rw [upd_same, takeOne hc, List.filter_append, List.map_append]
              have : List.filter (fun c => decide ((10 : Int) ^ 18 ≤ c)) [c] = [c] := by rw [List.filter_cons]; rw [decide_eq_true hk]; rfl
              rw [this]; rfl
          · have hk' : decide ((10 : Int) ^ (18 : Int).toNat ≤ c) = false := by rw [e18]; exact decide_eq_false hk
            rw [hk']
            show (if false = true then _ else _)
            rw [if_neg Bool.false_ne_true]; refine ⟨?_, q2⟩
            rw [q1, takeOne hc, List.filter_append]
            have : List.filter (fun c => decide ((10 : Int) ^ 18 ≤ c)) [c] = [] := by rw [List.filter_cons]; rw [decide_eq_false hk]; rfl
            rw [this, List.append_nil]
    · rintro H3 ⟨q1, q2⟩
      rw [List.length_map, List.take_length] at q1
      refine ⟨.int (ns.foldl begStep 11), p1, ⟨by rw [q2 p (Ne.symm pD), upd_same], [(Sum.inr "great", .ref D), (Sum.inr "seed", .int (ns.foldl begStep 11)), (Sum.inr "turns", .int 0)], rfl, by show 3 ≤ 15; decide, ?_⟩⟩
      have em : mergeK [] [(Sum.inr "great", V.ref D), (Sum.inr "seed", .int (ns.foldl begStep 11)), (Sum.inr "turns", .int 0)] = mkvs D (begS ns) := by
        simp [mergeK, putK, mkvs, gs_, gt_, st_, begS]
      rw [em]
      refine hq p D _ hp hD' (Ne.symm pD) upd_same ?_ fun a h1 h2 => ?_
      · rw [upd_ne pD]; exact q1
      · rw [upd_ne h1, q2 a h2, upd_ne h1]
end DE
namespace DE
open PyProof.Rows PySem.Spec PySem L2
/-! ### a law's def: m = _law_begun(script), then the rest over data -/
section
variable {X : Cx} {W : WX} {e : Expr} {es : List Expr} {pos : Pos} {k : Nat}
theorem pe_callKs {j : Nat} {sp : Sp} {x : Str} {p : Pos} {t : TA} (F : Kf X.prog X.w X.K X.mg X.base j x sp) (hk : j ≤ k) (C : Ct X W k) (hg : Gl X x) (args : PA X (e :: es) t)
    (hdb : (x == ("__debug__" : Str)) = false := by decide) (he : starEach (e :: es) X.env =
      (false, eval e X.env) :: starEach es X.env := by rfl) (hpl : (backTo pos (starEach es X.env)).any (·.1) = false := by rfl) :
    PE X (.Call (.Name x p) (e :: es) [] pos) (fun σ H Q => t σ H fun vs H1 => sp vs H1 Q (WE W σ)) :=
  let ⟨_, _, _, h1, h2, h3, h4⟩ := F.mono hk
  pe_callG h1 C hg h2 h3 h4 args hdb he hpl
end
theorem pss_ex {X : Cx} {α : Type} {st : List Stmt} {t : α → TS} (h : ∀ a, PSs X st (t a)) : PSs X st (fun Ds σ H => ∃ a, t a Ds σ H) := ⟨fun pins s σ H Ds I ⟨a, q⟩ => (h a).run pins s σ H Ds I q⟩
def initR (n i : Nat) : List Sl := (List.replicate n Sl.no).set i (.dat .m)
def initS (n i : Nat) (ns : List Int) : List Sl := (initR n i).set 0 (.dat (.scr ns))
/-- the law's program gives True, its script known or not -/
def goesL (fb : Ms) (n im : Nat) (ns : List Int) : Prop := (∃ g', fb ⟨initR n im, begS ns⟩ = some (.ret (.bl true), g')) ∨ ∃ g', fb ⟨initS n im ns, begS ns⟩ = some (.ret (.bl true), g')
def spLaw (K : PySem.W.Frag) (T : List (Addr × Str)) (n im : Nat) (fb : Ms) : Sp := fun vs H Q _ => ∃ l ns, vs = [.ref l] ∧ SqL K H l (ns.map V.int) ∧ ns.length ≤ 100000 ∧ LamX.Tabs T H ∧ goesL fb n im ns ∧ ∀ H', Q (.bl true) H'
abbrev tFirst (K : PySem.W.Frag) (E : XK) (im : Nat) : TS := tAsg (fun σ H Q => tCons (tVar 0) tNil σ H fun vs H1 => spBeg K vs H1 Q E) (gName im)
theorem law_fnC {P : Program} {w : World} {K : PySem.W.Frag} {mg : Str → Option Value} {base : Heap} {cl : Str → Option (Addr × Str)} {T : List (Addr × Str)} {st st1 : Stmt} {rest : List Stmt} {f : Addr} {fd : FuncData} {N : List Str} {im k : Nat} {fb : Ms}
    (F : Fun K "law" "law" st f fd) (S : FnScope N ["script"] (defScope st)) (hbody : defBody st = st1 :: rest) (him : im < N.length) (h0 : im ≠ 0)
    (hfirst : ∀ (cdv : Value) (A : Around) (outer : List Env) (s : Shared) (H : Hp) (E : XK), Ct (cxD P w K mg base N "law" st f cdv A outer s H E) (fun c d _ H => E c d H) k → PS (cxD P w K mg base N "law" st f cdv A outer s H E) st1 (tFirst K E im))
    (hd : ∀ (M : Addr) (cdv : Value) (A : Around) (outer : List Env) (s : Shared) (H : Hp) (E : XK), fd.code = cdv → Ct (cxD P w K mg base N "law" st f cdv A outer s H E) (fun c d _ H => E c d H) k → DB (cxD P w K mg base N "law" st f cdv A outer s H E) ⟨M, cl, T⟩ (fun c d _ H => E c d H) rest fb) :
    FnG P w K mg base (k + 1) f fd ["script"] (spLaw K T N.length im fb) := by
  refine fnG_ofC F S (fun vs H Q E h => ?_) (fun cdv A outer s H vs Q E hcv C h => ?_)
  · obtain ⟨l, ns, rfl, _⟩ := h; rfl
  · obtain ⟨l, ns, rfl, hl, hn, tb, hg, q⟩ := h
    rw [hbody]
    refine ⟨_, pss_cons (hfirst cdv A outer s H E C) (pss_ex fun M => hd M cdv A outer s H E hcv C), ?_⟩
    have hN : 1 ≤ N.length := by omega
    have s0 : (L2.start N [V.ref l])[0]? = some (some (V.ref l)) := by unfold L2.start; rfl
    refine ⟨.ref l, s0, l, ns, rfl, hl, hn, fun M D H' hM hD hMD eM eD keep => ?_⟩
    have gne : ∀ a o, (if a = D then H' D else none) = some o → a = D ∧ H' D = some o := fun a o z => by
      by_cases c : a = D
      · rw [if_pos c] at z; exact ⟨c, z⟩
      · rw [if_neg c] at z; cases z
    have lenS : (L2.start N [V.ref l]).length = N.length := by unfold L2.start; simp; omega
    have slot : ∀ (i : Nat) z, z ≠ Sl.no → (initR N.length im)[i]? = some z → i = im ∧ z = .dat .m := fun i z hz h' => by
      unfold initR at h'
      by_cases c : i = im
      · subst c
        rw [List.getElem?_set_self (by simpa using him)] at h'
        exact ⟨rfl, (Option.some.inj h').symm⟩
      · rw [List.getElem?_set_ne (Ne.symm c), List.getElem?_replicate] at h'
        split at h'
        · exact absurd (Option.some.inj h').symm hz
        · cases h'
    have old : ∀ a o, H a = some o → H' a = some o := fun a o z => by
      rw [keep a (ne_of_none z hM) (ne_of_none z hD)]; exact z
    have E0 : En K ⟨M, cl, T⟩ H' (fun a => if a = D then H' D else none) (fun a => if a = D then H' D else none) H' ((L2.start N [V.ref l]).set im (some (.ref M))) ⟨initR N.length im, begS ns⟩ := by
      refine ⟨fun a o _ z => z, fun a o _ z => z, Gr.refl _, fun a o z => ?_, if_neg hMD, ⟨D, eM, ?_⟩, ?_, fun i d z => ?_, fun i xs z => ?_, fun i j xs ys l z => ?_, tb.ext old, fun p hp => ?_, fun i f c q G1 z => ?_⟩
      · obtain ⟨rfl, z⟩ := gne a o z; exact z
      · show (if D = D then H' D else none) = _
        rw [if_pos rfl, eD]
      · rw [List.length_set, lenS]; unfold initR; simp
      · obtain ⟨rfl, zz⟩ := slot i _ (by intro z; cases z) z
        cases zz
        exact ⟨.ref M, List.getElem?_set_self (by rw [lenS]; exact him), .m⟩
      · obtain ⟨_, zz⟩ := slot i _ (by intro z; cases z) z
        cases zz
      · obtain ⟨_, zz⟩ := slot i _ (by intro z; cases z) z
        cases zz
      · obtain ⟨ps, z, _⟩ := tb p hp
        exact if_neg (ne_of_none z hD)
      · obtain ⟨_, zz⟩ := slot i _ (by intro z; cases z) z
        cases zz
    rcases hg with ⟨g', hg⟩ | ⟨g', hg⟩
    · exact ⟨M, H', _, _, _, E0, .ret (.bl true), g', hg, fun v σ' G' H2 gr E' dv => by cases dv; exact q H2⟩
    · -- the script is known, too
      have hlM : l ≠ M ∨ H l = none := by
        by_cases c : l = M
        · subst c; exact .inr hM
        · exact .inl c
      obtain ⟨G2, hG2, hsub, hD2, hM2, hT2⟩ : ∃ G2 : Hp, SqL K G2 l (ns.map V.int) ∧ Gr G2 H' ∧ G2 D = H' D ∧ G2 M = none ∧ ∀ p ∈ T, G2 p.1 = none := by
        have gD : ∀ p ∈ T, p.1 ≠ D := fun p hp z => by
          obtain ⟨ps, y, _⟩ := tb p hp
          rw [z, hD] at y; cases y
        rcases hl with hR | hK
        · have hlH : ∃ o, H l = some o ∧ ∀ ps, o ≠ .tbl ps := by
            rcases hR with h | ⟨o, h⟩
            · exact ⟨_, h, fun _ z => by cases z⟩
            · exact ⟨_, h, fun _ z => by cases z⟩
          obtain ⟨o, ho, no⟩ := hlH
          have lM : l ≠ M := ne_of_none ho hM
          have lD : l ≠ D := ne_of_none ho hD
          refine ⟨fun a => if a = D then H' D else if a = l then H l else none, .inl ?_, fun a u z => ?_, if_pos rfl, ?_, fun p hp => ?_⟩
          · have e : (if l = D then H' D else if l = l then H l else none) = H l := by rw [if_neg lD, if_pos rfl]
            rcases hR with h | ⟨o, h⟩
            · exact .inl (e.trans h)
            · exact .inr ⟨o, e.trans h⟩
          · replace z : (if a = D then H' D else if a = l then H l else none) = some u := z
            by_cases c : a = D
            · rw [if_pos c] at z; rw [c]; exact z
            · rw [if_neg c] at z
              by_cases c2 : a = l
              · rw [if_pos c2] at z; rw [c2]; exact old _ _ z
              · rw [if_neg c2] at z; cases z
          · show (if M = D then H' D else if M = l then H l else none) = none
            rw [if_neg hMD, if_neg (Ne.symm lM)]
          · obtain ⟨ps, y, _⟩ := tb p hp
            have : p.1 ≠ l := fun z => by rw [z, ho] at y; exact no _ (Option.some.inj y)
            show (if p.1 = D then H' D else if p.1 = l then H l else none) = none
            rw [if_neg (gD p hp), if_neg this]
        · refine ⟨fun a => if a = D then H' D else none, .inr hK, fun a u z => ?_, if_pos rfl, if_neg hMD, fun p hp => if_neg (gD p hp)⟩
          obtain ⟨rfl, z⟩ := gne a u z; exact z
      have slotS : ∀ (i : Nat) z, z ≠ Sl.no → (initS N.length im ns)[i]? = some z → (i = 0 ∧ z = .dat (.scr ns)) ∨ (i = im ∧ z = .dat .m) := fun i z hz h' => by
        unfold initS at h'
        by_cases c : i = 0
        · subst c
          rw [List.getElem?_set_self (by unfold initR; simp; omega)] at h'
          exact .inl ⟨rfl, (Option.some.inj h').symm⟩
        · rw [List.getElem?_set_ne (Ne.symm c)] at h'
          exact .inr (slot i z hz h')
      have E1 : En K ⟨M, cl, T⟩ H' G2 G2 H' ((L2.start N [V.ref l]).set im (some (.ref M))) ⟨initS N.length im ns, begS ns⟩ := by
        refine ⟨fun a o _ z => z, fun a o _ z => z, Gr.refl _, hsub, hM2, ⟨D, eM, hD2.trans eD⟩, ?_, fun i d z => ?_, fun i xs z => ?_, fun i j xs ys l z => ?_, tb.ext old, hT2, fun i f c q G1 z => ?_⟩
        · rw [List.length_set, lenS]; unfold initS initR; simp
        · rcases slotS i _ (by intro z; cases z) z with ⟨rfl, zz⟩ | ⟨rfl, zz⟩
          · cases zz
            refine ⟨.ref l, ?_, .scr hG2⟩
            rw [List.getElem?_set_ne h0]; exact s0
          · cases zz
            exact ⟨.ref M, List.getElem?_set_self (by rw [lenS]; exact him), .m⟩
        · rcases slotS i _ (by intro z; cases z) z with ⟨_, zz⟩ | ⟨_, zz⟩ <;> cases zz
        · rcases slotS i _ (by intro z; cases z) z with ⟨_, zz⟩ | ⟨_, zz⟩ <;> cases zz
        · rcases slotS i _ (by intro z; cases z) z with ⟨_, zz⟩ | ⟨_, zz⟩ <;> cases zz
      exact ⟨M, H', _, _, _, E1, .ret (.bl true), g', hg, fun v σ' G' H2 gr E' dv => by cases dv; exact q H2⟩
theorem law_fn {P : Program} {w : World} {K : PySem.W.Frag} {mg : Str → Option Value} {base : Heap} {cl : Str → Option (Addr × Str)} {T : List (Addr × Str)} {st st1 : Stmt} {rest : List Stmt} {f : Addr} {fd : FuncData} {N : List Str} {im k : Nat} {fb : Ms}
    (F : Fun K "law" "law" st f fd) (S : FnScope N ["script"] (defScope st)) (hbody : defBody st = st1 :: rest) (him : im < N.length) (h0 : im ≠ 0)
    (hfirst : ∀ (cdv : Value) (A : Around) (outer : List Env) (s : Shared) (H : Hp) (E : XK), Ct (cxD P w K mg base N "law" st f cdv A outer s H E) (fun c d _ H => E c d H) k → PS (cxD P w K mg base N "law" st f cdv A outer s H E) st1 (tFirst K E im))
    (hd : ∀ (M : Addr) (cdv : Value) (A : Around) (outer : List Env) (s : Shared) (H : Hp) (E : XK), Ct (cxD P w K mg base N "law" st f cdv A outer s H E) (fun c d _ H => E c d H) k → DB (cxD P w K mg base N "law" st f cdv A outer s H E) ⟨M, cl, T⟩ (fun c d _ H => E c d H) rest fb) :
    FnG P w K mg base (k + 1) f fd ["script"] (spLaw K T N.length im fb) :=
  law_fnC F S hbody him h0 hfirst fun M cdv A outer s H E _ C => hd M cdv A outer s H E C
end DE
namespace DE
open PyProof.Rows PySem.Spec PySem L2
theorem blk_ok {P : Program} {w : World} {K : PySem.W.Frag} {mg : Str → Option Value} {base : Heap} {N : List Str} {qual : Str} {st : Stmt} {f : Addr} {cdv : Value} {A : Around} {outer : List Env} {s : Shared} {H : Hp} {E : XK} {scope : Scope} {own : List (Str × Nat)} (h : blkC N (defScope st) scope own = true) :
    BlkOk (cxD P w K mg base N qual st f cdv A outer s H E).N (cxD P w K mg base N qual st f cdv A outer s H E).env.scope scope own := blkOk_by h
/-! ### the end of a law -/
/-- the law's call at a heap where at most the script is tracked -/
theorem end_core {P : Program} {w : World} {K : PySem.W.Frag} {mg mb : Str → Option Value} {k n im : Nat} {fa a : Addr} {fd : FuncData} {fb : Ms} {s₁ : Shared} {items : Array Value} {ns : List Int} {H : Hp}
    (KX : K.In s₁.heap) (hns : s₁.heap.Ns mainGlobals mg) (hbn : s₁.heap.Ns builtinsNs mb) (hbb : ∀ y : Str, y ≠ "__name__" → mb y = bootBuiltins y) (hlim : s₁.heap.NoLimit) (hgen : s₁.gens = #[]) (hlen : ns.length ≤ 100000) (hr : Room k callerA)
    (hobj : s₁.heap.get? a = some { cls := .type "list", data := .seq items }) (F : ∀ base : Heap, K.In base → base.Ns mainGlobals mg → FnG P w K mg base k fa fd ["script"] (spLaw K [] n im fb))
    (bnd : ∀ (s : Shared) (u : Value), BindsTo s fd ⟨[u], []⟩ [("script", u)]) (hfb : goesL fb n im ns)
    (only : ∀ b u, H b = some u → b = a ∧ ∃ o xs, u = .frz o (.lst xs)) (hS : SqL K H a (ns.map V.int)) (hok : HOk P w H s₁.heap) (notK : ∀ u, H a = some u → K.lookup a = none) :
    codeAny (model P w) callerA (.call (.ref fa) ⟨[Value.ref a], []⟩) (fun r s' => r = .ok (.ret (.bool true)) ∧ OldK s₁.heap s'.heap ∧ s'.os = s₁.os ∧ AllBare s'.gens) s₁ := by
  have stays : ∀ {b : Addr} {o : Obj}, s₁.heap.get? b = some o → H b = none → (hidT s₁.heap H).get? b = some o := fun z e => hidT_get z e
  have dictFree : ∀ {b : Addr} {o : Obj} {es : Array DictEntry} {ep : Nat}, s₁.heap.get? b = some o → o.data = .dict es ep → H b = none := fun {b o es ep} z e => by
    cases q : H b with
    | none => rfl
    | some u =>
      obtain ⟨rfl, _⟩ := only b u q
      rw [hobj] at z; cases z; cases e
  have nsStays : ∀ {b : Addr} {m : Str → Option Value}, s₁.heap.Ns b m → (hidT s₁.heap H).Ns b m := fun ⟨o, es, ep, z, e, more⟩ => ⟨o, es, ep, stays z (dictFree z e), e, more⟩
  have KB : K.In (hidT s₁.heap H) := fun b o z => stays (KX b o z) (by
    cases q : H b with
    | none => rfl
    | some u =>
      obtain ⟨rfl, _⟩ := only b u q
      rw [notK u q] at z; cases z)
  have ground : Mod K mg (hidT s₁.heap H) := ⟨KB, nsStays hns, ⟨mb, nsStays hbn, hbb⟩, hlim.elim fun mc z => ⟨mc, nsStays z.1, z.2⟩⟩
  have env : Env0 P w K mg (hidT s₁.heap H) callerA [] s₁ H := ⟨rfl, ground, fun b o z => of_hidT z, Nat.le_of_eq (hidT_size _ _), trivial, fun b z => (nomatch z), hok, .of_eq hgen⟩
  refine codeAny_mono ((F _ KB (nsStays hns)).run callerA [] s₁ H ⟨[.ref a], []⟩ [.ref a] [.ref a] (fun v _ => v = .bl true) (fun _ _ _ => False) hr rfl env (bnd s₁ (.ref a)) (.cons rfl .nil) ⟨a, ns, rfl, hS, hlen, fun _ hp => (nomatch hp), hfb, fun _ => rfl⟩) fun r s' z => ?_
  match r, z with
  | .error e, z =>
    obtain ⟨_, _, _, _, _, _, _, _, _, _, _, _, no⟩ := z
    exact no.elim
  | .ok (.ret u), ⟨v, H', hos, hbare, hun, hok', hrel, hv⟩ =>
    have hv : v = .bl true := hv
    subst hv
    obtain rfl : u = Value.bool true := hrel
    refine ⟨rfl, OldK.of_keep fun b o z => ?_, hos, hbare⟩
    cases q : H b with
    | none => exact hun.keep b o z q (fun y => nomatch y) (fun y => nomatch y)
    | some u =>
      obtain ⟨_, ob, xs, rfl⟩ := only b u q
      have before := (hok b _ q).1
      have behind := (hok' b _ (hun.frzs b ob _ q)).1
      rw [z] at before; cases before
      exact behind
  | .ok .next, z => exact z.elim
  | .ok .brk, z => exact z.elim
  | .ok .cont, z => exact z.elim
theorem end_call {P : Program} {w : World} {K : PySem.W.Frag} {mg mb : Str → Option Value} {k n im : Nat} {fa a : Addr} {fd : FuncData} {fb : Ms} {s₁ : Shared} {vs : List Value} {ns : List Int}
    (KX : K.In s₁.heap) (hns : s₁.heap.Ns mainGlobals mg) (hbn : s₁.heap.Ns builtinsNs mb) (hbb : ∀ y : Str, y ≠ "__name__" → mb y = bootBuiltins y) (hlim : s₁.heap.NoLimit) (hgen : s₁.gens = #[]) (hlen : ns.length ≤ 100000) (hr : Room k callerA)
    (hobj : s₁.heap.get? a = some { cls := .type "list", data := .seq vs.toArray }) (hi : IntsAre vs ns) (F : ∀ base : Heap, K.In base → base.Ns mainGlobals mg → FnG P w K mg base k fa fd ["script"] (spLaw K [] n im fb))
    (bnd : ∀ (s : Shared) (u : Value), BindsTo s fd ⟨[u], []⟩ [("script", u)]) (hfb : goesL fb n im ns) :
    codeAny (model P w) callerA (.call (.ref fa) ⟨[Value.ref a], []⟩) (fun r s' => r = .ok (.ret (.bool true)) ∧ OldK s₁.heap s'.heap ∧ s'.os = s₁.os ∧ AllBare s'.gens) s₁ := by
  have rv := vals_ints hi
  have sz : ns.length ≤ sizeLine := sz5 hlen
  cases hk : K.lookup a with
  | some o =>
    have z := KX a o hk
    rw [hobj] at z
    cases z
    have hS : SqL K (fun _ => none) a (ns.map V.int) := .inr ⟨_, vs.toArray, _, hk, rfl, rfl, rfl, by rw [List.size_toArray, hi.length]; exact sz, by simpa using rv⟩
    exact end_core (H := fun _ => none) KX hns hbn hbb hlim hgen hlen hr hobj F bnd hfb (fun b u z => by cases z) hS (fun b u z => by cases z) (fun u z => by cases z)
  | none =>
    have at_a : ∀ {b : Addr} {u : HO}, (if b = a then some (HO.frz { cls := .type "list", data := .seq vs.toArray } (.lst (ns.map V.int))) else none) = some u → b = a ∧ u = .frz { cls := .type "list", data := .seq vs.toArray } (.lst (ns.map V.int)) := fun {b u} z => by
      by_cases c : b = a
      · rw [if_pos c] at z; exact ⟨c, (Option.some.inj z).symm⟩
      · rw [if_neg c] at z; cases z
    refine end_core (H := fun b => if b = a then some (HO.frz { cls := .type "list", data := .seq vs.toArray } (.lst (ns.map V.int))) else none) KX hns hbn hbb hlim hgen hlen hr hobj F bnd hfb (fun b u z => ⟨(at_a z).1, _, _, (at_a z).2⟩) (.inl (.inr ⟨_, if_pos rfl⟩)) (fun b u z => ?_) (fun _ _ => hk)
    obtain ⟨rfl, rfl⟩ := at_a z
    exact ⟨hobj, by rw [List.length_map]; exact sz, vs, _, rv, hobj⟩
/-- what k_head leaves, from the law's program over data -/
theorem walk_de {l : PySem.W.OpenLaw} {k m im : Nat} {q : Program} {loose : List Str} {XP : (Str → Option Value) → Heap → Prop} {YP : World → Heap → Prop} {d : DefRec} {K : Params → PySem.W.Frag} {fb : Ms}
    (hn : l.most = some 63) (hdf : d.params.defaults = []) (hr : Room k callerA) (hY : ∀ (w : World) (h : Heap), YP w h → (K w.params).In h)
    (F : ∀ (w : World) (mg : Str → Option Value) (fa : Addr) (h : Heap), (K w.params).In h → h.Ns mainGlobals mg → mg d.name = some (Value.ref fa) →
      ∃ fd : FuncData, (∀ (s : Shared) (u : Value), BindsTo s fd ⟨[u], []⟩ [("script", u)]) ∧ ∀ base : Heap, (K w.params).In base → base.Ns mainGlobals mg → FnG l.prog w (K w.params) mg base k fa fd ["script"] (spLaw (K w.params) [] m im fb))
    (hfb : ∀ ns : List Int, ns.length ≤ 63 → goesL fb m im ns) :
    PySem.W.WalkO q loose XP YP l.row.toRowW d [] (fun g us => PySem.call g us) := by
  refine Att.attach_call hn hdf fun w s₀ s₁ mg mb fa o pm cd doc a vs ns G Y ho hdt hcd hmg hobj hints hlen hg => ?_
  obtain ⟨fd, hb, hF⟩ := F w mg fa _ (hY w _ Y) G.T.g hmg
  exact end_call (hY w _ Y) G.T.g G.T.b G.T.builtins G.T.nolimit hg (by omega) hr hobj hints hF hb (hfb ns hlen)
end DE
namespace DE
open PyProof.Rows PySem.Spec PySem L2
open NdefX (nscB nscope_by)
/-! ### what the written part must say, packed -/
def strsOf : List Value → Option (List Str)
  | [] => some []
  | .str s _ :: r => (strsOf r).map (s :: ·)
  | _ => none
theorem strs_vals : ∀ {us : List Value} {ss : List Str}, strsOf us = some ss → Vals (ss.map V.str) us
  | [], ss, h => by cases h; exact .nil
  | u :: us, ss, h => by
    cases u <;> simp [strsOf] at h
    obtain ⟨r, h1, rfl⟩ := h
    exact .cons ⟨_, rfl⟩ (strs_vals h1)
theorem strs_dv {K : PySem.W.Frag} {Γ : Gam} {G : Hp} : ∀ ss : List Str, DvA K Γ G (ss.map V.str) (ss.map D.str)
  | [] => .nil
  | s :: ss => .cons (.str s) (strs_dv ss)
theorem cst_tup {K : PySem.W.Frag} {mg : Str → Option Value} {x : Str} {a : Addr} {od : Option Addr} {its : Array Value} {n : Nat} {sl : Array (Option Value)} {ss : List Str} (hm : mg x = some (.ref a)) (l : K.lookup a = some ⟨.type "tuple", od, .seq its n, sl⟩) (h : strsOf its.toList = some ss) (hz : its.size ≤ 1000) :
    Cst K mg x (.tup (ss.map D.str)) := ⟨.ref a, .ref a, hm, rfl, fun Γ G => .tup (.inr ⟨_, its, n, l, rfl, rfl, by rw [sizeLine_eq]; omega, strs_vals h⟩) (strs_dv ss)⟩
theorem cst_int {K : PySem.W.Frag} {mg : Str → Option Value} {x : Str} {i : Int} {t : Tok} (hm : mg x = some (.int i t)) : Cst K mg x (.int i) := ⟨.int i, .int i t, hm, ⟨t, rfl⟩, fun Γ G => .int i⟩
/-- the facts of one error class -/
structure ErrF (P : Program) (K : PySem.W.Frag) (C fI : Addr) (fld par txt qual : Str) (fd : FuncData) : Prop where
  c : ErrC P K C fI fld par txt qual fd
  x : XfC K C
  e : ExcC K C
  s : (PySem.W.clsIn K C).isSome = true
theorem err_mk {P : Program} {K : PySem.W.Frag} {C fI N : Addr} {fld par txt qual nm q : Str} {bs bm : List Value} {sn : List Str} {sub : List Value} {ab : Bool} {col : Option Bool} {dd : Option Addr} {k0 k1 k2 k3 k5 : Option Value}
    {oc : Value} {od : Option Addr} {osl : Array (Option Value)} {params : Arguments} {scope : Scope} {dV kV doc pm : Value} {an : Option Addr} {cda : Addr} {ct : Value} {cc : Addr} {ccl : Value} {cdd : Option Addr} {vs : Array Value} {ccs : Array (Option Value)} {file : Str} {tf : Tok} {cl : Value} {cld : Option Addr} {csl : Array (Option Value)} {p0 p1 p2 p3 p4 p5 q1 q2 q3 q4 : Pos} {j : Nat}
    (xL : K.lookup C = some (excClassObj nm q C N bs bm true sn sub ab col dd k0 k1 k2 k3 k5 "ValueError.__new__")) (rb : HandSPX.refsVE bm = true) (sa : PySem.W.findIn K (.ref C) "__setattr__" = some (some (.builtin "object.__setattr__"))) (exC : PySem.W.subIn K (.ref C) (.type "BaseException") = some true) (tyC : PySem.W.typeIn K (.ref C) = some (.type "type")) (kC : PySem.W.keepIn K (.ref C) = true)
    (iC : PySem.W.findIn K (.ref C) "__init__" = some (some (.ref fI))) (tI : PySem.W.typeIn K (.ref fI) = some (.type "function")) (noF : PySem.W.findIn K (.ref C) fld = some none) (sup : PySem.W.ks_superIn K C C "__init__" = some (some (.builtin "ValueError.__init__"))) (sVE : PySem.W.subIn K (.ref C) (.type "ValueError") = some true) (mroC : PySem.W.mroIn K C (.ref C) = some true) (noAny : PySem.W.nsIn K cStatics "thirdparty.any" = some none) (noSup : PySem.W.nsIn K mainGlobals "super" = some none)
    (top : (P.main.scope.names.lookup ("super" : Str)).isSome = false)
    (lI : K.lookup fI = some ⟨oc, od, .func (PySem.W.ksFn "__init__" qual params [.Expr (.Call (.Attribute (.Call (.Name "super" p0) [] [] p1) "__init__" p2) [.Constant (.str txt) j p3] [] p4) p5, .Assign [.Attribute (.Name "self" q1) fld q2] (.Name par q3) q4] scope dV kV doc pm an (.ref cda) ct cc), osl⟩)
    (cI : PySem.W.codeIn K (.ref cda) qual = true) (lcda : K.lookup cda = some ⟨ccl, cdd, .fields vs, ccs⟩) (hvs : vs[2]? = some (.str file tf)) (hfile : ((P.main.file : Str) == file) = true) (lcc : K.lookup cc = some ⟨cl, cld, .cell (some (.ref C)), csl⟩)
    (ga : PySem.W.findIn K (.ref C) "__getattribute__" = some (some (.builtin "BaseException.__getattribute__"))) (gg : PySem.W.findIn K (.ref C) "__getattr__" = some none) (hdC : PySem.W.hasDictIn K C = true) (ha : PySem.W.findIn K (.ref C) "__class__" = some (some (.builtin "object.__class__")))
    (hn : PySem.W.specialIn K (.builtin "object.__class__") "__get__" = some (some (.builtin "getset_descriptor.__get__"))) (ht : PySem.W.takesIn K (.builtin "object.__class__") = some true) (hm : PySem.W.mroIn K C (.type "object") = some true) (hs : PySem.W.isClsIn K C = true)
    (S : nscB ["self", par, "__class__"] ["self", par] ["__class__"] scope = true) (hsup : scope.names.lookup ("super" : Str) = some .globalImplicit) (har : ∃ ar : Arg, (params.posonlyargs ++ params.args).head? = some ar ∧ ar.arg = "self")
    (hev : ∃ pl : Env → Sem Bool, ∀ env : Env, eval (.Call (.Attribute (.Call (.Name "super" p0) [] [] p1) "__init__" p2) [.Constant (.str txt) j p3] [] p4) env = (do
        let ov ← attributeBase (.Call (.Name "super" p0) [] [] p1) "__init__" env (eval (.Call (.Name "super" p0) [] [] p1) env)
        standAt p2.atName
        let (f, first) ← holding [ov] (getMethod ov "__init__" (pl env))
        callWith p4 f first (backTo p4 (starEach [.Constant (.str txt) j p3] env)) []))
    (hp1 : (par == ("__debug__" : Str)) = false) (hp2 : (par == ("__classdict__" : Str)) = false)
    (hw1 : ∀ env : Env, swapsWith (.Call (.Attribute (.Call (.Name "super" p0) [] [] p1) "__init__" p2) [.Constant (.str txt) j p3] [] p4) none p5.line env = pure false) (hw2 : ∀ env : Env, swapsWith (.Name par q3) (some (.Attribute (.Name "self" q1) fld q2)) q4.line env = pure false)
    (hb : ∀ (us : List Value), us.length = 2 → bindArgs (PySem.W.ksFn "__init__" qual params [.Expr (.Call (.Attribute (.Call (.Name "super" p0) [] [] p1) "__init__" p2) [.Constant (.str txt) j p3] [] p4) p5, .Assign [.Attribute (.Name "self" q1) fld q2] (.Name par q3) q4] scope dV kV doc pm an (.ref cda) ct cc) ⟨us, []⟩ = pure ((["self", par] : List Str).zip us)) :
    ∃ fd, ErrF P K C fI fld par txt qual fd :=
  let ⟨ar, h1, h2⟩ := har
  ⟨_, ⟨⟨⟨⟨nm, q, N, bs, bm, sn, sub, ab, col, dd, k0, k1, k2, k3, k5, xL, rb⟩, sa, exC, tyC, kC⟩, iC, tI, noF, sup, sVE, mroC, noAny, noSup, top,
    ⟨oc, od, osl, params, _, scope, dV, kV, doc, pm, an, cda, ct, cc, ccl, cdd, vs, ccs, file, tf, cl, cld, csl, p0, p1, p2, p3, p4, p5, q1, q2, q3, q4, j, ar, rfl, lI, cI, lcda, hvs, hfile, lcc, nscope_by S, hsup, h1, h2, hev, hp1, hp2, hw1, hw2, rfl, hb⟩⟩,
    ⟨ga, gg, exC, hdC⟩, ⟨ga, gg, exC, hdC, ha, hn, ht, hm⟩, hs⟩⟩
/-! ### the own error classes by their names -/
def clL (l : List (Str × (Addr × Str))) : Str → Option (Addr × Str) := fun c => l.lookup c
theorem cl_all {l : List (Str × (Addr × Str))} {R : Str → Addr → Str → Prop} (h : ∀ p ∈ l, R p.1 p.2.1 p.2.2) : ∀ cn C f, clL l cn = some (C, f) → R cn C f := fun cn C f e => h (cn, (C, f)) (PySem.mem_of_lookup e)
theorem fa_nil {α : Type} {R : α → Prop} : ∀ p ∈ ([] : List α), R p := fun _ h => nomatch h
theorem fa_cons {α : Type} {R : α → Prop} {a : α} {l : List α} (h : R a) (t : ∀ p ∈ l, R p) : ∀ p ∈ a :: l, R p := fun p hp => by
  rcases List.mem_cons.mp hp with e | q
  · exact e ▸ h
  · exact t p q
def HdF (K : PySem.W.Frag) (C : Addr) (c : Value) (b : Bool) : Prop := PySem.W.exmOne K (.ref C) c = some b ∧ PySem.W.kitOne K (.ref C) c = some b
theorem hd_ref {K : PySem.W.Frag} {C D : Addr} {b : Bool} (h1 : PySem.W.subIn K (.ref D) (.type "BaseException") = some true) (h2 : PySem.W.isClsIn K D = true) (h3 : PySem.W.typeIn K (.ref D) = some (.type "type")) (h4 : PySem.W.subIn K (.ref C) (.ref D) = some b) (h5 : b = true ∨ C ≠ D) : HdF K C (.ref D) b := by
  have h2' : (PySem.W.clsIn K D).isSome = true := h2
  have e0 : PySem.W.kitCls K (.ref C) (.ref D) = some b := by
    unfold PySem.W.kitCls
    dsimp only
    rw [h2', h3, if_pos (by decide)]; exact h4
  constructor
  · unfold PySem.W.exmOne
    rw [h1, if_pos (by decide)]; exact e0
  · unfold PySem.W.kitOne
    by_cases c : (Value.ref C == Value.ref D) = true
    · rw [if_pos c]
      rcases h5 with rfl | h5
      · rfl
      · have : C = D := by simpa using c
        exact absurd this h5
    · rw [if_neg c]; exact e0
theorem hd_type {K : PySem.W.Frag} {C : Addr} {T : String} {b : Bool} (h1 : PySem.W.subIn K (.type T) (.type "BaseException") = some true) (h2 : PySem.W.kitMeta T = true) (h4 : PySem.W.subIn K (.ref C) (.type T) = some b) : HdF K C (.type T) b := by
  have e0 : PySem.W.kitCls K (.ref C) (.type T) = some b := by
    unfold PySem.W.kitCls
    dsimp only
    rw [if_pos h2]; exact h4
  constructor
  · unfold PySem.W.exmOne
    rw [h1, if_pos (by decide)]; exact e0
  · unfold PySem.W.kitOne
    rw [if_neg (by simp)]; exact e0
theorem hd_el {K : PySem.W.Frag} {C : Addr} {c : Value} {tb : List (Str × Bool)} {cn : Str} {b0 : Bool} (e : tb.lookup cn = some b0) (h : HdF K C c b0) : ∀ b, tb.lookup cn = some b → PySem.W.exmOne K (.ref C) c = some b ∧ PySem.W.kitOne K (.ref C) c = some b := fun b hb => by
  rw [e] at hb; cases hb; exact h
end DE
namespace DE
open PyProof.Rows PySem.Spec PySem L2
/-! ### d == () -/
def pEqE (d e : D) : Mo D := match d, e with
  | .tup xs, .tup [] => rt (.bl xs.isEmpty)
  | _, _ => stop
/-! ### t * n -/
def pRepT (d e : D) : Mo D := match d, e with
  | .tup xs, .int k => if xs.isEmpty = false ∧ 2 ≤ k ∧ k ≤ 1000 ∧ xs.length ≤ 1000 then rt (.tup (List.replicate k.toNat xs).flatten) else stop
  | _, _ => stop
theorem DvA.rep {K : PySem.W.Frag} {Γ : Gam} {G : Hp} {vs : List V} {ds : List D} (h : DvA K Γ G vs ds) : ∀ n : Nat, DvA K Γ G (List.replicate n vs).flatten (List.replicate n ds).flatten
  | 0 => .nil
  | n + 1 => by
    rw [List.replicate_succ, List.replicate_succ, List.flatten_cons, List.flatten_cons]; exact h.append (h.rep n)
section
variable {X : Cx} {Γ : Gam} {W : WX} {k : Nat}
theorem o_eqE (hu : X.A.units + 64 < cLine) : BinD X Γ W (compareOp .Eq) pEqE := by
  intro pins s σ H x y v u Q I rx ry ⟨H0, G0, G, gg, σ', d, e, dx, dy, q⟩
  unfold pEqE at q
  split at q
  · rename_i xs
    obtain ⟨l, vs, rfl, h3, h4⟩ := Dv.tup_inv dx
    obtain ⟨l', vs', rfl, h3', h4'⟩ := Dv.tup_inv dy
    cases h4'
    obtain ⟨us, r1, p1, _⟩ := I.tuple (q.1.sub.sqT h3)
    obtain ⟨us', r2, p2, _⟩ := I.tuple (q.1.sub.sqT h3')
    cases r2
    cases rx; cases ry
    refine SeqAt.eq_tupleAt (e := fun _ => true) p1 p2 (by omega) (fun j _ h2 => absurd h2 (Nat.not_lt_zero j)) ⟨.bl xs.isEmpty, H, I, ?_, q.here (.bl _)⟩
    have hl : us.length = xs.length := r1.length.symm.trans h4.length
    cases xs with
    | nil => cases us with
      | nil => rfl
      | cons a b => cases hl
    | cons a b => cases us with
      | nil => cases hl
      | cons a b => rfl
  · exact q.stop
theorem o_repT : BinD X Γ W (binaryOp .Mult) pRepT := by
  intro pins s σ H x y v u Q I rx ry ⟨H0, G0, G, gg, σ', d, e, dx, dy, q⟩
  unfold pRepT at q
  split at q
  · rename_i xs k
    split at q
    · rename_i c
      obtain ⟨c0, c1, c2, c3⟩ := c
      obtain ⟨l, vs, rfl, h3, h4⟩ := Dv.tup_inv dx
      cases dy
      refine op_repT pins s σ H _ _ v u Q I rx ry ⟨l, k, vs, rfl, rfl, q.1.sub.sqT h3, fun e => ?_, c1, c2, by rw [h4.length]; exact c3, fun p hp => ?_⟩
      · subst e
        cases h4
        cases c0
      · have gp : G p = none := by
          cases z : G p with
          | none => rfl
          | some u => rw [q.1.sub _ _ z] at hp; cases hp
        exact q.new hp (.tup (SqT.of upd_same) ((h4.rep _).mono (Gr.upd gp)))
    · exact q.stop
  · exact q.stop
end
/-! ### enumerate(tuple) -/
set_option maxHeartbeats 1000001 in
theorem enum_new1 {v : Value} {o : Obj} {J : Heap → Prop} (B : Begins v o J) : Meets (Builtin.«enumerate.__new__» ⟨[.type "enumerate", v], []⟩) fun _ R s => J s.heap ∧
    R (.ok (.ret (.ref (s.heap.push o).objs.size))) { s with heap := (s.heap.push o).push { cls := .type "enumerate", data := .fields #[.none, .bool false, .ref s.heap.objs.size, rawInt 0, .none, .none] } } :=
  .of_wp fun prog w A R s hyp => by
    obtain ⟨hp, gl, dd, tt, os⟩ := s
    obtain ⟨j, fin⟩ := hyp
    have sub_e := sub_enumerate
    have go : ∀ {A' : Around} {E Q : Value → Shared → Prop}, Q (.ref hp.objs.size) ⟨hp.push o, gl, dd, tt, os⟩ → wpAny (model prog w) A' (pyIter v) Q E ⟨hp, gl, dd, tt, os⟩ := fun z => B.iter prog w _ _ ⟨hp, gl, dd, tt, os⟩ _ j z
    wp_walk using go
    refine wpAny_stack_any fun _ => wpAny_pure ?_
    split
    · rename_i cc _ _ _ _ _
      cases (cc == Value.type "enumerate") <;> (wp_walk using go; exact ⟨_, rfl, fin⟩)
    · wp_walk using go; exact ⟨_, rfl, fin⟩
theorem enum_begun {prog : Program} {w : World} {A : Around} {E Q : Value → Shared → Prop} {s : Shared} {v : Value} {o : Obj} {J : Heap → Prop} (B : Begins v o J) (j : J s.heap)
    (fin : ∀ h', IsEnum h' (s.heap.objs.size + 1) s.heap.objs.size 0 .none → h'.get? s.heap.objs.size = some o → (∀ b z, s.heap.get? b = some z → h'.get? b = some z) → Q (.ref (s.heap.objs.size + 1)) { s with heap := h' }) :
    wpAny (model prog w) A (call (.type "enumerate") [v]) Q E s := by
  refine callType_new F.called_enumerate (by decide) (F.typeCall_enumerate_1 _) (F.newCall_enumerate_1 _) (fun obj => F.args_object_init_2 obj _) F.entry_enumerate_new (enum_new1 B) ⟨j, ?_⟩
  have size1 : (s.heap.push o).objs.size = s.heap.objs.size + 1 := Heap.size_push ..
  have made := Heap.get?_push_size (s.heap.push o) (o := { cls := .type "enumerate", data := .fields #[.none, .bool false, .ref s.heap.objs.size, rawInt 0, .none, .none] }) rfl
  show _ ∧ _
  rw [size1] at made ⊢
  exact ⟨⟨_, made, rfl⟩, fin _ made (Heap.get?_push_of_some _ (Heap.get?_push_size _ B.free)) fun b z x => Heap.get?_push_of_some _ (Heap.get?_push_of_some _ x)⟩
/-- the tuple at a, each item in a new pair -/
def Itu (K : PySem.W.Frag) (a : Addr) : It where
  go i H := ∃ xs x, SqT K H a xs ∧ xs[i]? = some x
  yld i H v H' := ∃ q x, v = .ref q ∧ H q = none ∧ H' = upd H q (.tup [.int (i : Nat), x]) ∧ ∀ xs, SqT K H a xs → xs[i]? = some x
  stop i H := ∃ xs, SqT K H a xs ∧ xs.length = i
theorem apart {h : Heap} {a b : Addr} {o o' : Obj} (h1 : h.get? a = some o) (h2 : h.get? b = some o') (n : o.cls ≠ o'.cls) : a ≠ b := by
  rintro rfl
  rw [h1] at h2
  cases h2
  exact n rfl
theorem turn_enumT {P : Program} {w : World} {K : PySem.W.Frag} {elts : List Expr} {kk : Nat} {tpos : Pos} (a e it : Addr) :
    Turn P w K (.Tuple elts kk tpos) (Itu K a) [e, it] e (fun i h => (∃ old, IsEnum h e it ((i : Nat) : Int) old) ∧ h.IsTupleIter it a i ∧ e ≠ it) where
  mem := List.mem_cons_self
  obj i h st b hb := by
    obtain ⟨⟨old, he⟩, ⟨o, ho, _, hd⟩, _⟩ := st
    rcases (by simpa using hb : b = e ∨ b = it) with rfl | rfl
    · exact ⟨_, he, fun v q => nomatch q⟩
    · exact ⟨o, ho, fun v q => by rw [hd] at q; cases q⟩
  keep i h h' st k := by
    obtain ⟨⟨old, he⟩, hi, ne⟩ := st
    exact ⟨⟨old, k e (by simp) _ he⟩, hi.at fun o q => k it (by simp) o q, ne⟩
  item := by
    intro X hP hw hK hc i pins s σ H E I hf st hg; subst hP; subst hw; subst hK
    obtain ⟨⟨old, he⟩, hit, ne⟩ := st
    obtain ⟨xs, x, hq, hx⟩ := hg
    obtain ⟨its, rv, p, _⟩ := I.tuple hq
    obtain ⟨u, hu, ru⟩ := rv.get hx; have el := Heap.lt_size he
    have il : it < s.heap.objs.size := let ⟨_, q, _⟩ := hit; Heap.lt_size q
    have ai : a ≠ it := by
      obtain ⟨_, q1, c1, _⟩ := hit
      obtain ⟨_, q2, c2, _⟩ := p
      exact apart q2 q1 (by rw [c1, c2]; decide)
    have ae : e ≠ a := by
      obtain ⟨_, q2, c2, _⟩ := p
      exact apart he q2 (by rw [c2]; exact (show Value.type "enumerate" ≠ Value.type "tuple" by decide))
    have iu : i < its.toArray.size := by
      have z := (List.getElem?_eq_some_iff.mp hu).1
      simpa using z
    refine wpAny_pyNext_enum_itemD (Draws.tuple (A := X.A.in1) (I.ok.hd hc) it a ai its.toArray) he ⟨hit, p⟩ iu ne (by simp [ne, ae]) fun x' h' tk hp' ho hst hT hz hk => ?_
    obtain rfl : x' = u := by
      rw [show its.toArray[i]? = its[i]? by simp, hu] at hp'
      exact (Option.some.inj hp').symm
    refine ⟨_, rfl, wpAny_letOwnedTupleGo_enum (s := { s with heap := h', toks := tk + 1 }) ho fun h2 he2 sb => ?_⟩
    have hT2 : h2.get? s.heap.objs.size = some { cls := .type "tuple", data := .seq #[.int i tk, x'] } := (sb.2 _ (Nat.ne_of_gt el)).trans hT
    have I1 : Inv X pins σ (upd H s.heap.objs.size (.tup [.int (i : Nat), x])) { s with heap := h2, toks := tk + 1 } :=
      I.turnedNew (ch := [e, it]) (fun b z hb q => by
        rw [List.mem_cons, List.mem_singleton, not_or] at hb
        exact (sb.2 b hb.1).trans (hk b z hb.1 hb.2 q)) hf (Nat.le_refl _) ⟨by show 2 ≤ sizeLine; decide, [.int i tk, x'], .cons ⟨_, rfl⟩ (.cons ru .nil), ⟨_, hT2, rfl, _, rfl⟩⟩
    refine ⟨.ref s.heap.objs.size, _, I1, rfl, ⟨_, x, rfl, I.hok.fresh (Nat.le_refl _), rfl, fun ys hy => by rw [I.tuple_inj hy hq]; exact hx⟩, ⟨⟨x', ?_⟩, hst.1.at fun o q => (sb.2 it (Ne.symm ne)).trans q, ne⟩, fun b hb => ?_⟩
    · rw [show ((i + 1 : Nat) : Int) = (i : Int) + 1 by omega]; exact he2
    · have bl : b < s.heap.objs.size := by
        rcases (by simpa using hb : b = e ∨ b = it) with rfl | rfl
        · exact el
        · exact il
      rw [upd_ne (Nat.ne_of_lt bl)]
      exact (hf b hb).1
  done := by
    intro X hP hw hK hc i pins s σ H E I hf st hg; subst hP; subst hw; subst hK
    obtain ⟨⟨old, he⟩, hit, ne⟩ := st
    obtain ⟨xs, hq, hx⟩ := hg
    obtain ⟨its, rv, p, _⟩ := I.tuple hq
    have ai : a ≠ it := by
      obtain ⟨_, q1, c1, _⟩ := hit
      obtain ⟨_, q2, c2, _⟩ := p
      exact apart q2 q1 (by rw [c1, c2]; decide)
    have hl := rv.length
    obtain ⟨f0, f1, f2, f3, f4, f5⟩ := hf it (by simp); have en : its.toArray.size = i := by rw [List.size_toArray]; omega
    subst en
    exact wpAny_pyNext_enum_endD (Draws.tuple (A := X.A.in1) (I.ok.hd hc) it a ai its.toArray) he ⟨hit, p⟩ fun h' eb => ⟨rfl, I.turned (t' := s.toks) (fun b o hb q => eb b o hb q) f0 f1 f3 f4 f5⟩
  self A i s Q E st h := by
    obtain ⟨⟨_, he⟩, _⟩ := st
    exact wpAny_pyIter_enum he h
theorem pi_enumT {X : Cx} {e : Expr} {ta : TA} {p pos tpos : Pos} {elts : List Expr} {kk : Nat} (hg : Gl X "enumerate") (hm : X.mg "enumerate" = none) (ha : PA X [e] ta) (hs : starEach [e] X.env = [(false, eval e X.env)] := by rfl) :
    PI X (.Tuple elts kk tpos) (.Call (.Name "enumerate" p) [e] [] pos) fun σ H R => ta σ H fun vs H1 => ∃ a xs, vs = [.ref a] ∧ SqT X.K H1 a xs ∧ R (Itu X.K a) H1 := by
  refine ⟨fun pins s σ H R I h => Call_ (ld_blt I hg hm boot_enumerate (PyProof.Rows.callWith_type1 (thn (ha.run pos pins s σ H _ I h) ?_) hs rfl))⟩
  rintro us s1 ⟨vs, H1, I1, r1, a, xs, rfl, hq, q⟩
  rcases r1 with _ | ⟨r, rr⟩
  cases rr
  cases r
  obtain ⟨its, rv, p', _⟩ := I1.tuple hq
  refine enum_begun (begins_tuple a its.toArray) p' fun h' he hit hk => wpAny_pyIter_enum he ⟨s1.heap.objs.size + 1, [s1.heap.objs.size + 1, s1.heap.objs.size], _, _, H1, rfl, I1.kept (t' := s1.toks) hk, turn_enumT a (s1.heap.objs.size + 1) s1.heap.objs.size, ⟨⟨.none, he⟩, ⟨_, hit, rfl, rfl⟩, Nat.succ_ne_self _⟩, fun b hb => ?_, q⟩
  have le : s1.heap.objs.size ≤ b := by
    rcases (by simpa using hb : b = s1.heap.objs.size + 1 ∨ b = s1.heap.objs.size) with rfl | rfl
    · exact Nat.le_succ _
    · exact Nat.le_refl _
  exact I1.fpOk le (I1.hok.fresh le)
theorem walk_enumT {K : PySem.W.Frag} {a : Addr} {xs : List V} : Walk (Itu K a) xs.length (fun H => SqT K H a xs) (YPair (fun i => some (.int (i : Nat))) (fun i => xs[i]?)) where
  goes i _ hi q := ⟨xs, xs[i], q, by simp [hi]⟩
  stops _ q := ⟨xs, q, rfl⟩
  yields := by
    rintro i H v H' _ sq ⟨T1, x1, y1, y2, y3, y4⟩
    exact ⟨T1, .int (i : Nat), x1, y1, y2, y3, rfl, y4 xs sq⟩
/-- the pairs of an enumerate -/
def pairsD (xs : List D) : List D := (List.range xs.length).map fun (i : Nat) => D.tup [.int (i : Int), xs.getD i .non]
def fForEn (f : Mo (List D)) (t : Mt) (b : Ms) : Ms := sb f fun ds => match ds with
  | [.tup xs] => loop t b (pairsD xs)
  | [.lst xs] => loop t b (pairsD xs)
  | _ => sStop
section
variable {X : Cx} {Γ : Gam} {W : WX} {e : Expr} {pos : Pos} {body : List Stmt}
theorem pairsD_drop {xs : List D} {i : Nat} {d : D} (h : xs[i]? = some d) : (pairsD xs).drop i = D.tup [.int (i : Int), d] :: (pairsD xs).drop (i + 1) := by
  obtain ⟨il, e⟩ := List.getElem?_eq_some_iff.mp h
  have l : i < (pairsD xs).length := by unfold pairsD; simpa using il
  rw [List.drop_eq_getElem_cons l]
  have z : (pairsD xs)[i] = D.tup [.int (i : Int), d] := by
    unfold pairsD
    simp [List.getD_eq_getElem?_getD, h]
  rw [z]
theorem pairsD_end (xs : List D) : (pairsD xs).drop xs.length = [] := by
  apply List.drop_eq_nil_of_le
  unfold pairsD; simp
/-- one turn of an enumerate -/
theorem enum_turn {K : PySem.W.Frag} {t : Mt} {kk : Ms} {js : List Nat} {gt : TG} (kg : TgS K Γ gt js t) {H0 G0 G1 : Hp} {Ds : Ends} {xs : List D} {vs : List V} (h4 : DvA K Γ G1 vs xs) {i : Nat} {x : V} {σ : L2.St} {H H' : Hp}
    (hp : ∃ G g, Gr G1 G ∧ tSt K Γ W (loop t kk ((pairsD xs).drop i)) H0 G0 G g Ds σ H) (y : YPair (fun i => some (.int (i : Nat))) (fun i => vs[i]?) i H x H') :
    gt x σ H' fun σ2 H2 => tS K Γ W kk { Ds with nx := fun σ H => ∃ G g, Gr G1 G ∧ tSt K Γ W (loop t kk ((pairsD xs).drop (i + 1))) H0 G0 G g Ds σ H, ct := fun σ H => ∃ G g, Gr G1 G ∧ tSt K Γ W (loop t kk ((pairsD xs).drop (i + 1))) H0 G0 G g Ds σ H, bk := Ds.nx } σ2 H2 := by
  obtain ⟨G, g, gr, h⟩ := hp
  obtain ⟨q, a, b, rfl, hq, rfl, ea, eb⟩ := y
  obtain rfl := Option.some.inj ea
  obtain ⟨d, hd, dv⟩ := h4.get' i eb
  rw [pairsD_drop hd] at h
  have gq : G q = none := by
    cases z : G q with
    | none => rfl
    | some u => rw [h.1.sub _ _ z] at hq; cases hq
  have gr2 : Gr G (upd G q (.tup [.int (i : Nat), b])) := Gr.upd gq
  obtain ⟨E, o, g', ee, hh⟩ := h
  have h : tSt K Γ W (loop t kk (D.tup [.int (i : Int), d] :: (pairsD xs).drop (i + 1))) H0 G0 (upd G q (.tup [.int (i : Nat), b])) g Ds σ (upd H q (.tup [.int (i : Nat), b])) := ⟨E.new hq, o, g', ee, by
    cases o with
    | nx => exact fun σ3 G3 H3 gr3 => hh σ3 G3 H3 (gr2.trans gr3)
    | brk => exact fun σ3 G3 H3 gr3 => hh σ3 G3 H3 (gr2.trans gr3)
    | ct => exact fun σ3 G3 H3 gr3 => hh σ3 G3 H3 (gr2.trans gr3)
    | ret d3 => exact fun v3 σ3 G3 H3 gr3 => hh v3 σ3 G3 H3 (gr2.trans gr3)
    | exc x3 => exact fun C dd σ3 G3 H3 gr3 => hh C dd σ3 G3 H3 (gr2.trans gr3)⟩
  have dt : Dv K Γ (upd G q (.tup [.int (i : Nat), b])) (.ref q) (.tup [.int (i : Int), d]) := .tup (SqT.of upd_same) (.cons (.int _) (.cons ((dv.mono gr).mono gr2) .nil))
  exact loop_turn h dt (fun Q g'' e'' k => kg _ σ _ Q H0 G0 _ g g'' _ h.1 dt e'' fun σ' E' _ => k σ' E') fun σ3 G3 H3 g3 gr3 h3 => ⟨G3, g3, (gr.trans gr2).trans gr3, h3⟩
theorem s_forEn {elts : List Expr} {k2 : Nat} {tpos p2 p : Pos} {f : Mo (List D)} {t : Mt} {kk : Ms} {js : List Nat} {gt : TG} (hc : X.calm = true) (hp : PassesOwn (model X.prog X.w) X.A X.env X.xe) (hi : DA X Γ W [e] f) (hg : DG X Γ (.Tuple elts k2 tpos) gt js t) (hb : DB X Γ W body kk)
    (hgl : Gl X "enumerate") (hm : X.mg "enumerate" = none) (hs1 : starEach [e] X.env = [(false, eval e X.env)] := by rfl)
    (hs : ∀ x, foldedSetIterable (.Call (.Name "enumerate" p) [e] [] p2) X.env x = pure x := by intro _; rfl) : DS_ X Γ W (.For (.Tuple elts k2 tpos) (.Call (.Name "enumerate" p) [e] [] p2) body [] pos) (fForEn f t kk) := by
  obtain ⟨pg, kg⟩ := hg
  refine (ps_for hp hc (PI.or (pi_enum hgl hm hi hs1) (pi_enumT hgl hm hi hs1)) pg hb hs).imp fun Ds σ H h => ?_
  obtain ⟨H0, G0, G, g, h⟩ := h
  by_cases hl : ∃ xs g1, f g = some (.ok [D.lst xs], g1)
  · refine .inl ⟨H0, G0, G, g, h.bind (R1 := RA X.K Γ) fun ds vs g1 G1 H1 hfe gr r1 h1 => ?_⟩
    obtain ⟨xs, g2, hl⟩ := hl
    rw [hl] at hfe; cases hfe
    rcases r1 with _ | ⟨dv, r2⟩
    cases r2
    obtain ⟨l, ws, rfl, h3, h4⟩ := Dv.lst_inv dv
    have h1 : tSt X.K Γ W (loop t kk (pairsD xs)) H0 G0 G1 g1 Ds σ H1 := h1
    refine ⟨l, ws, rfl, SqL.of (h1.1.sub _ _ h3), for_it walk_enum (fun i σ2 H2 => ∃ G g, Gr G1 G ∧ tSt X.K Γ W (loop t kk ((pairsD xs).drop i)) H0 G0 G g Ds σ2 H2) ⟨G1, g1, Gr.refl _, h1⟩ (fun i σ2 H2 _ ⟨G2, g2, gr2, h2⟩ => SqL.of (h2.1.sub _ _ (gr2 _ _ h3))) (fun i x σ2 H2 H' hi hp' y => enum_turn kg h4 hp' y) ?_⟩
    rintro σ2 H2 ⟨G2, g3, gr2, h2⟩
    rw [h4.length, pairsD_end] at h2
    exact h2.next rfl (Gr.refl _) h2.1
  · refine .inr ⟨H0, G0, G, g, h.bind (R1 := RA X.K Γ) fun ds vs g1 G1 H1 hfe gr r1 h1 => ?_⟩
    split at h1
    · rename_i xs
      rcases r1 with _ | ⟨dv, r2⟩
      cases r2
      obtain ⟨l, ws, rfl, h3, h4⟩ := Dv.tup_inv dv
      refine ⟨l, ws, rfl, h1.1.sub.sqT h3, for_it walk_enumT (fun i σ2 H2 => ∃ G g, Gr G1 G ∧ tSt X.K Γ W (loop t kk ((pairsD xs).drop i)) H0 G0 G g Ds σ2 H2) ⟨G1, g1, Gr.refl _, h1⟩ (fun i σ2 H2 _ ⟨G2, g2, gr2, h2⟩ => h2.1.sub.sqT (gr2.sqT h3)) (fun i x σ2 H2 H' hi hp' y => enum_turn kg h4 hp' y) ?_⟩
      rintro σ2 H2 ⟨G2, g3, gr2, h2⟩
      rw [h4.length, pairsD_end] at h2
      exact h2.next rfl (Gr.refl _) h2.1
    · exact absurd ⟨_, _, hfe⟩ hl
    · exact h1.stop
end
end DE
namespace DE
open PyProof.Rows PySem.Spec PySem L2
theorem kf_zero {P : Program} {w : World} {K : PySem.W.Frag} {mg : Str → Option Value} {base : Heap} {k n : Nat} {f : Addr} {fd : FuncData} {ps : List Str} {Γ : Gam} : FnG P w K mg base k f fd ps (dsp K Γ n fun _ _ => none) :=
  ⟨fun us H Q E ⟨_, _, _, _, _, _, _, _, _, _, z, _⟩ => (nomatch z), fun A outer s H args us vs Q E _ _ _ _ _ ⟨_, _, _, _, _, _, _, _, _, _, z, _⟩ => (nomatch z)⟩
end DE
namespace DE
open PyProof.Rows PySem.Spec PySem L2
open LamX (CodeO TabB Tabs lamEnv lamCx)
/-! ### a lambda is made -/
section
variable {X : Cx} {σ : L2.St} {H : Hp} {pins : List (Addr × Obj)} {s : Shared}
abbrev lamO (q : Str) (params : Arguments) (body : Expr) (scope : Scope) (cl : List (Str × Addr)) (dV doc pm : Value) (c' : Addr) (ct : Value) : Obj := PySem.W.kdv_obj "<lambda>" q params (.expr body) scope cl dV doc pm c' ct
/-- the maker's tail: the code object is new, or stands in the table -/
theorem lam_tail {T : List (Addr × Str)} {c P : Addr} {params : Arguments} {body : Expr} {scope : Scope} {pos : Pos} {dV : Value} {E Q : Value → Shared → Prop} (I : L2.Inv X pins σ H s) (B : TabB X.base X.mg c P) (hc0 : X.env.code = .ref c)
    (hm : (P, X.env.qual ++ "<lambda>") ∈ T) (hu : ∀ p ∈ T, p.1 = P → p.2 = X.env.qual ++ "<lambda>") (tb : Tabs T H) (fr : ∀ y ∈ scope.names, y.2 = .free → ∃ c, X.env.cells.lookup y.1 = some c)
    (go : ∀ (f c' : Addr) (pm doc ct : Value) (H1 : Hp) (s' : Shared), L2.Inv X pins σ H1 s' → (∀ b o, b ≠ P → H b = some o → H1 b = some o) → Tabs T H1 → (∀ b o, b ≠ P → s.heap.get? b = some o → s'.heap.get? b = some o) → (∀ b, H b = none → b < s.heap.objs.size → H1 b = none) →
      s'.heap.get? f = some (lamO (X.env.qual ++ "<lambda>") params body scope (cloFrom X.env.cells scope.names []) dV doc pm c' ct) → H1 f = none → f ∉ frs X.stack → H1 c' = some (CodeO c' (X.env.qual ++ "<lambda>")) → Q (.ref f) s') :
    wpAny (model X.prog X.w) X.A (makeTail "<lambda>" (X.env.qual ++ "<lambda>") params (.expr body) scope X.env dV .none none pos pos.line) Q E s := by
  obtain ⟨ps, tP, t3, tA⟩ := tb _ hm
  have tabAt : s.heap.get? P = some { cls := .none, data := .fields ps } := I.hok P _ tP
  have notFr : ∀ f, s.heap.objs.size ≤ f → f ∉ frs X.stack := fun f hf z => (List.mem_cons.mp (I.stkSub _ z)).elim (fun e => absurd (Nat.lt_of_lt_of_le I.lt (e ▸ hf)) (Nat.lt_irrefl _)) fun e => I.nofs hf e
  cases hc : PySem.codeAmong pos ps.toList with
  | some cv =>
    obtain ⟨c', rfl, co⟩ := tA pos cv hc
    refine PySem.W.kdv_makeTailHit (mg := X.mg) (c := c) (P := P) (ps := ps) (closure_ok fr) I.ok.glob (I.mod.glob.keeps I.bk) hc0 (B.code.keeps I.bk) tabAt t3 hc (B.bm.keeps I.bk) fun ct doc h' tk k sz => ?_
    have k' := fun b o (z : s.heap.get? b = some o) => Heap.get?_push_of_some (lamO (X.env.qual ++ "<lambda>") params body scope (cloFrom X.env.cells scope.names []) dV doc ((X.mg "__name__").getD .none) c' ct) (k b o z)
    exact go h'.objs.size c' _ doc ct H _ (I.kept k') (fun _ _ _ z => z) tb (fun b o _ z => k' b o z) (fun _ z _ => z) (Heap.get?_push_size _ rfl) (I.hok.fresh sz) (notFr _ sz) co
  | none =>
    refine PySem.W.kdv_makeTail (mg := X.mg) (c := c) (P := P) (ps := ps) (closure_ok fr) I.ok.glob (I.mod.glob.keeps I.bk) hc0 (B.code.keeps I.bk) tabAt t3 hc B.gP (B.bm.keeps I.bk) fun c' ct doc h' tk hx ge lt rec tNew => ?_
    obtain ⟨c2, oc, vs, t, e2, hoc, hd, hv⟩ := rec
    cases e2
    obtain ⟨O, hO⟩ : ∃ O, O = lamO (X.env.qual ++ "<lambda>") params body scope (cloFrom X.env.cells scope.names []) dV doc ((X.mg "__name__").getD .none) c' ct := ⟨_, rfl⟩
    have nc : H c' = none := I.hok.fresh ge
    have big : s.heap.objs.size ≤ h'.objs.size := Nat.le_trans ge (Nat.le_of_lt lt)
    have I1 := LamX.inv_table (t' := tk) (more := #[rawInt pos.line, rawInt pos.col, .ref c']) (q := X.env.qual ++ "<lambda>") (h' := h'.push O) I tP (fun b o hb z => Heap.get?_push_of_some _ (hx b o hb z)) (Heap.get?_push_of_some _ tNew) ge ⟨oc, vs, t, Heap.get?_push_of_some _ hoc, hd, hv⟩
    have keep : ∀ b o, b ≠ P → H b = some o → upd (upd H P (.tbl (ps ++ #[rawInt pos.line, rawInt pos.col, .ref c']))) c' (CodeO c' (X.env.qual ++ "<lambda>")) b = some o := fun b o hb z => by
      rw [upd_ne (ne_of_none z nc), upd_ne hb]; exact z
    have isCode : ∀ {b q}, H b = some (CodeO b q) → b ≠ P := fun {b q} z w => by
      rw [w, tP] at z
      exact LamX.codeO_ne ps (Option.some.inj z).symm
    have nPc : P ≠ c' := ne_of_none tP nc
    have hO' : O = PySem.W.kdv_obj "<lambda>" (X.env.qual ++ "<lambda>") params (.expr body) scope (cloFrom X.env.cells scope.names []) dV doc ((X.mg "__name__").getD .none) c' ct := hO
    rw [← hO']
    refine go h'.objs.size c' ((X.mg "__name__").getD .none) doc ct _ _ I1 keep (fun p hp => ?_) (fun b o hb z => Heap.get?_push_of_some _ (hx b o hb z)) (fun b z hb => ?_) (by rw [hO]; exact Heap.get?_push_size _ rfl) ?_ (notFr _ big) upd_same
    · by_cases hb : p.1 = P
      · rw [hu p hp hb, hb]
        have eList : (ps ++ #[rawInt pos.line, rawInt pos.col, .ref c']).toList = ps.toList ++ [rawInt pos.line, rawInt pos.col, .ref c'] := by simp
        refine ⟨_, by rw [upd_ne nPc, upd_same], by rw [eList]; exact PySem.TriplesOk_snoc _ _ _ _ t3, fun p' cv z => ?_⟩
        rw [eList] at z
        rcases LamX.among_app _ t3 z with z | rfl
        · obtain ⟨c0, e1, e2⟩ := tA p' cv z
          exact ⟨c0, e1, keep _ _ (isCode e2) e2⟩
        · exact ⟨c', rfl, upd_same⟩
      · obtain ⟨ps', a1, a2, a3⟩ := tb p hp
        refine ⟨ps', keep _ _ hb a1, a2, fun p' cv z => ?_⟩
        obtain ⟨c0, e1, e2⟩ := a3 p' cv z
        exact ⟨c0, e1, keep _ _ (isCode e2) e2⟩
    · have h1 : b ≠ c' := Nat.ne_of_lt (Nat.lt_of_lt_of_le hb ge)
      have h2 : b ≠ P := fun w => by rw [w, tP] at z; cases z
      rw [upd_ne h1, upd_ne h2]; exact z
    · have n1 : h'.objs.size ≠ c' := Nat.ne_of_gt lt
      have n2 : h'.objs.size ≠ P := Nat.ne_of_gt (Nat.lt_of_lt_of_le (Heap.lt_size tabAt) big)
      rw [upd_ne n1, upd_ne n2]; exact I.hok.fresh big
end
/-! ### the lambda's frame -/
/-- captured names, globals, and names of its own that the maker has not -/
structure LamN (N : List Str) (sc scope : Scope) : Prop where
  kind : scope.kind = .function
  plain : scope.isCoroutine = false ∧ scope.isGenerator = false
  nocell : ∀ y ∈ scope.names, y.2 ≠ .cell
  own : ∀ y ∈ N, scope.names.lookup y ≠ some .local
  caught : ∀ z ∈ scope.names, z.2 = .free → sc.names.lookup z.1 = some .cell ∨ sc.names.lookup z.1 = some .free
def lamNB (N : List Str) (sc scope : Scope) : Bool := decide (scope.kind = .function) && !scope.isCoroutine && !scope.isGenerator && (scope.names.all fun y => !decide (y.2 = .cell)) && (N.all fun y => !decide (scope.names.lookup y = some .local)) &&
  scope.names.all fun y => !decide (y.2 = .free) || decide (sc.names.lookup y.1 = some .cell) || decide (sc.names.lookup y.1 = some .free)
theorem lamN_by {N : List Str} {sc scope : Scope} (h : lamNB N sc scope = true) : LamN N sc scope := by
  unfold lamNB at h
  simp only [Bool.and_eq_true, Bool.or_eq_true, Bool.not_eq_true', decide_eq_true_eq, decide_eq_false_iff_not, List.all_eq_true] at h; obtain ⟨⟨⟨⟨⟨h1, h2⟩, h3⟩, h4⟩, h5⟩, h6⟩ := h
  refine ⟨h1, ⟨h2, h3⟩, h4, h5, fun y hy e => ?_⟩
  rcases h6 y hy with (z | z) | z
  · exact absurd e z
  · exact .inl z
  · exact .inr z
theorem LamN.has {X : Cx} {scope : Scope} (L : LamN X.N X.env.scope scope) (ok : X.Ok) : ∀ y ∈ scope.names, y.2 = .free → ∃ c, X.env.cells.lookup y.1 = some c := fun y hy e => (L.caught y hy e).elim (fun k => ok.has _ (.inl k)) fun k => ok.has _ (.inr k)
/-- what the lambda's cells hold is what the maker's hold -/
theorem clo_back {X : Cx} {scope : Scope} (L : LamN X.N X.env.scope scope) (ok : X.Ok) {y : Str} {c : Addr} (e : (cloFrom X.env.cells scope.names []).lookup y = some c) : X.env.cells.lookup y = some c := by
  rcases cloFrom_mem (PySem.mem_of_lookup e) with z | ⟨h1, h2⟩
  · exact absurd z List.not_mem_nil
  · obtain ⟨c1, hc⟩ := L.has ok _ h1 rfl
    obtain hc : X.env.cells.lookup y = some c1 := hc
    rw [h2, hc]; rfl
theorem clo_look {X : Cx} {scope : Scope} {y : Str} (hl : scope.names.lookup y = some .free) : ∃ c, (cloFrom X.env.cells scope.names []).lookup y = some c := mem_lookup (cloFrom_has (cells := X.env.cells) (acc := []) (PySem.mem_of_lookup hl))
theorem LamN.kinds {N : List Str} {sc scope : Scope} (L : LamN N sc scope) {y : Str} (h : scope.names.lookup y = some .free) : sc.names.lookup y = some .cell ∨ sc.names.lookup y = some .free := L.caught _ (PySem.mem_of_lookup h) rfl
theorem LamN.noC {N : List Str} {sc scope : Scope} (L : LamN N sc scope) {y : Str} : scope.names.lookup y ≠ some .cell := fun h => L.nocell _ (PySem.mem_of_lookup h) rfl
section
variable {X : Cx} {σ : L2.St} {H HZ : Hp} {s s1 : Shared} {pins : List (Addr × Obj)}
theorem lam_frame {A : Around} {outer : List Env} {E : XK} {scope : Scope} {f c' : Addr} {h₁ : Heap} {tk : Nat} {m : Str → Option Value} (I : L2.Inv X pins σ H s) (L : LamN X.N X.env.scope scope) (e0 : Env0 X.prog X.w X.K X.mg X.base A outer s1 HZ) (hd : A.handled = none)
    (un : Un (frs X.stack) [] H HZ s.heap s1.heap) (hns : h₁.Ns s1.heap.objs.size m) (kp : ∀ b o, s1.heap.get? b = some o → h₁.get? b = some o) :
    L2.Inv (lamCx X A outer s1 HZ E scope f c') [] σ HZ { s1 with heap := h₁, toks := tk } := by
  -- a cell of the maker's is there, and as it was
  have stays : ∀ {y : Str} {c : Addr} {v : Option Value}, X.env.cells.lookup y = some c → s.heap.IsCell c v → h₁.IsCell c v := fun {y c v} hy ⟨o, ho, dv⟩ => by
    obtain ⟨sl, z⟩ := un.any ho (I.freeC y c hy) (fun z => nomatch z)
    exact ⟨_, kp _ _ z, dv⟩
  have none0 : ∀ b : Addr, ¬ b ∈ (lamCx X A outer s1 HZ E scope f c').ex := fun b z => nomatch (show b ∈ ([] : List Addr) from z)
  have ok : (lamCx X A outer s1 HZ E scope f c').Ok := by
    refine ⟨e0.mod, L.kind, rfl, rfl, Nat.le_refl _, fun y z c k1 k2 => I.ok.inj y z c (clo_back L I.ok k1) (clo_back L I.ok k2), fun y hy => ?_, fun y c z _ => absurd (show false = true from z) Bool.false_ne_true, fun _ => hd, Around.frames_deeper e0.frames,
      .inr ⟨rfl, rfl⟩, fun b z => (none0 b z).elim, e0.bs, e0.bsz, fun b _ _ => none0 b, fun b z => (none0 b z).elim, e0.funs, e0.frf⟩
    exact (show scope.names.lookup y = some .cell ∨ scope.names.lookup y = some .free from hy).elim (fun k => absurd k L.noC) clo_look
  have names : ∀ (i : Nat) (y : Str) (v : V), X.N[i]? = some y → σ[i]? = some (some v) → Vis scope y → ∃ u, RelV v u ∧ Look (lamEnv X scope s1.heap.objs.size f c') h₁ m y u := by
    rintro i y v k1 k2 (k | k | k)
    · exact (L.own y (List.mem_of_getElem? k1) k).elim
    · exact (L.noC k).elim
    · obtain ⟨m', _, all⟩ := I.loc
      have hk := L.kinds k
      obtain ⟨u, r, q⟩ := all i y v k1 k2 (hk.elim (fun z => .inr (.inl z)) fun z => .inr (.inr z))
      obtain ⟨c, hc⟩ := clo_look (X := X) k
      have hb := clo_back L I.ok hc
      rcases q with ⟨lo, _⟩ | ⟨_, c3, e3, q⟩
      · have lo : X.env.scope.names.lookup y = some .local := lo
        rcases hk with z | z <;> (rw [z] at lo; cases lo)
      · rw [hb] at e3
        cases e3
        exact ⟨u, r, .inr ⟨.inr k, c, hc, stays hb q⟩⟩
  refine ⟨ok, rfl, e0.bare, Un.kept kp, ⟨m, hns, names⟩, fun y c e => ?_, e0.hok.fresh (Nat.le_refl _), fun y c e => ?_, fun q hq => (nomatch (show q ∈ ([] : List (Addr × Obj)) from hq)), e0.hok.kept kp, I.len⟩
  · obtain ⟨v, z⟩ := I.cell y c (clo_back L I.ok e)
    exact ⟨v, stays (clo_back L I.ok e) z⟩
  · obtain ⟨v, o, ho, _⟩ := I.cell y c (clo_back L I.ok e)
    exact un.free c o ho (I.freeC y c (clo_back L I.ok e)) (fun z => nomatch z)
end
end DE
namespace DE
open PyProof.Rows PySem.Spec PySem L2
open LamX (CodeO TabB Tabs lamEnv lamCx)
/-- called without arguments: the names it binds -/
def LamBd (fd : FuncData) (h : Heap) : Prop := ∃ bs : List (Str × Value), (∀ y ∈ bs, fd.scope.names.lookup y.1 = some .local) ∧
  ∀ (M : Model) (A : Around) (Q : List (Str × Value) → Shared → Prop) (E : Value → Shared → Prop) (s : Shared), (∀ T o, fd.defaults = .ref T → h.get? T = some o → s.heap.get? T = some o) → Q bs s → wpAny M A (bindArgs fd ⟨[], []⟩) Q E s
section
variable {X : Cx} {σ : L2.St} {H HZ : Hp} {s s1 : Shared} {pins : List (Addr × Obj)}
/-- the lambda that a def got, called there -/
theorem lam_act {Ng : List Str} {qg : Str} {sg : Scope} {g f c' : Addr} {cdg pm doc ct dV : Value} {params : Arguments} {body : Expr} {scope : Scope} {k i : Nat} {a : Str} {pn : List (Addr × Obj)} {xe : Value → Shared → Prop} {W : WX} {Eg : XK} {t : XK → TE} {p1 p2 : Pos}
    (I : L2.Inv X pins σ H s) (L : LamN X.N X.env.scope scope) (hf : s.heap.get? f = some (lamO (X.env.qual ++ "<lambda>") params body scope (cloFrom X.env.cells scope.names []) dV doc pm c' ct)) (fn : H f = none) (ffr : f ∉ frs X.stack)
    (hT : ∀ T, dV = .ref T → H T = none ∧ T ∉ frs X.stack) (bd : LamBd (PySem.W.kdv_fn "<lambda>" (X.env.qual ++ "<lambda>") params (.expr body) scope (cloFrom X.env.cells scope.names []) dV doc pm (.ref c') ct) s.heap)
    (tk : Takes ((cxOf (L2.CX X.prog X.w) X.prog X.w X.K X.mg X.base Ng qg sg g cdg X.A X.stack s H Eg).tr pn xe) W) (hr : Room (k + 1) (X.A.deeper (envOfC qg sg s.heap.objs.size g cdg))) (gu : (X.A.deeper (envOfC qg sg s.heap.objs.size g cdg)).guards = some [])
    (hb : ∀ (A : Around) (outer : List Env) (s : Shared) (H : Hp) (E : XK), Room k (A.deeper (lamEnv X scope s.heap.objs.size f c')) → A.guards = some [] → PE (lamCx X A outer s H E scope f c') body (t E))
    (hN : Ng[i]? = some a) (hv : Vis sg a) (hd : (a == ("__debug__" : Str)) = false := by
      decide) (hcd : (a == ("__classdict__" : Str)) = false := by decide) :
    PE ((cxOf (L2.CX X.prog X.w) X.prog X.w X.K X.mg X.base Ng qg sg g cdg X.A X.stack s H Eg).tr pn xe) (.Call (.Name a p1) [] [] p2)
      (fun σZ HZ Q => σZ[i]? = some (some (.ref f)) ∧ HZ c' = some (CodeO c' (X.env.qual ++ "<lambda>")) ∧ t (WE W σZ) σ HZ Q) := by
  refine ⟨fun pinsZ sZ σZ HZ Q IZ h => ?_⟩; obtain ⟨hs, hc, ht⟩ := h
  refine wpAny_Call_Name_kw (thn ((pe_var (pos := p1) (i := i) hN hv hd hcd).run pinsZ sZ σZ HZ (fun v H1 => v = .ref f ∧ H1 = HZ) IZ ⟨.ref f, hs, rfl, rfl⟩) fun u s1 ⟨v, H1, I1, r1, q1⟩ => ?_); obtain ⟨rfl, eH⟩ := q1
  rw [eH] at I1
  obtain rfl : u = Value.ref f := r1; have un : Un (frs X.stack) [] H HZ s.heap s1.heap := I1.base
  have of1 : s1.heap.get? f = some (lamO (X.env.qual ++ "<lambda>") params body scope (cloFrom X.env.cells scope.names []) dV doc pm c' ct) := un.keep f _ hf fn ffr (fun z => nomatch (show f ∈ ([] : List Addr) from z))
  refine PySem.W.callWith_F0 ⟨_, _, _, _, of1⟩ ?_; obtain ⟨⟨oc, vs, tt, hoc, hdc, hvc⟩, _, _⟩ := I1.hok c' _ hc
  obtain ⟨bs, hloc, hbind⟩ := bd
  refine wpAny_call (codeAny_mono (R := CR (L2.CX X.prog X.w) (envOfC qg sg s.heap.objs.size g cdg :: X.stack) X.prog X.w HZ s1 Q (WE W σZ)) ?_ fun r s' hq => ?_)
  · refine PySem.W.kla_callFunE hr.depth of1 rfl L.plain.1 L.plain.2 rfl ⟨c', oc, vs, tt, rfl, hoc, hdc, hvc⟩ ?_
    refine hbind _ _ _ _ s1 (fun T o e z => ?_) ?_
    · obtain ⟨n1, n2⟩ := hT T e
      exact un.keep T _ z n1 n2 (fun z => nomatch (show T ∈ ([] : List Addr) from z))
    refine wpAny_newFunctionEnv L.nocell hloc (fun h₁ hns hsb => ⟨I1.nolimit.fresh _ hsb, ?_⟩) L.kind
    show codeAny _ _ (.expr body (lamEnv X scope s1.heap.objs.size f c')) _ _; have kp : ∀ b o, s1.heap.get? b = some o → h₁.get? b = some o := fun b o e => hsb.extBut b o (Nat.ne_of_lt (Heap.lt_size e)) (Heap.get?_push_of_some _ e)
    have J : L2.Inv (lamCx X (X.A.deeper (envOfC qg sg s.heap.objs.size g cdg)) (envOfC qg sg s.heap.objs.size g cdg :: X.stack) s1 HZ (WE W σZ) scope f c') [] σ HZ { s1 with heap := h₁, toks := s1.toks + bs.length } := lam_frame I L I1.env0 hr.hd un hns kp
    refine PySem.W.kla_codeExpr (wpAny_mono ((hb _ _ s1 HZ _ (hr.deeper _) gu).run [] _ _ HZ Q J ht) (fun v s' hq => ?_) fun e s' hq => hq)
    obtain ⟨w', H', J', rv, q⟩ := hq; exact ⟨w', H', J'.os, J'.bare, J'.base, J'.hok, rv, q⟩
  · cases r with
    | error e => exact passAt tk σZ pinsZ HZ s1 e s' I1 hq
    | ok fl =>
      cases fl with
      | ret u => exact I1.after hq
      | next => exact False.elim hq
      | brk => exact False.elim hq
      | cont => exact False.elim hq
end
end DE
namespace DE
open PyProof.Rows PySem.Spec PySem L2
open LamX (CodeO TabB Tabs lamEnv lamCx)
/-! ### the value of a lambda expression -/
def LamMake (X : Cx) (P : Addr) (T : List (Addr × Str)) (params : Arguments) (body : Expr) (scope : Scope) (lpos : Pos) : Prop := ∀ (pins : List (Addr × Obj)) (s : Shared) (σ : L2.St) (H : Hp) (Q : Value → Shared → Prop), L2.Inv X pins σ H s → Tabs T H →
  (∀ (f c' : Addr) (pm doc ct dV : Value) (H1 : Hp) (s' : Shared), L2.Inv X pins σ H1 s' → (∀ b o, b ≠ P → H b = some o → H1 b = some o) → Tabs T H1 →
    s'.heap.get? f = some (lamO (X.env.qual ++ "<lambda>") params body scope (cloFrom X.env.cells scope.names []) dV doc pm c' ct) → H1 f = none → f ∉ frs X.stack → H1 c' = some (CodeO c' (X.env.qual ++ "<lambda>")) → (∀ D, dV = .ref D → H1 D = none ∧ D ∉ frs X.stack) →
    LamBd (PySem.W.kdv_fn "<lambda>" (X.env.qual ++ "<lambda>") params (.expr body) scope (cloFrom X.env.cells scope.names []) dV doc pm (.ref c') ct) s'.heap → Q (.ref f) s') →
  wpAny (model X.prog X.w) X.A (eval (.Lambda params body scope lpos) X.env) Q X.xe s
section
variable {X : Cx} {T : List (Addr × Str)} {c P : Addr} {params : Arguments} {body : Expr} {scope : Scope} {lpos : Pos}
theorem lam_make0 (B : TabB X.base X.mg c P) (hc0 : X.env.code = .ref c) (hm : (P, X.env.qual ++ "<lambda>") ∈ T) (hu : ∀ p ∈ T, p.1 = P → p.2 = X.env.qual ++ "<lambda>") (L : LamN X.N X.env.scope scope) (hdef : defaultsOf params X.env = ([], []))
    (hb : ∀ (q : Str) (cl : List (Str × Addr)) (doc pm cv ct : Value), bindArgs (PySem.W.kdv_fn "<lambda>" q params (.expr body) scope cl .none doc pm cv ct) ⟨[], []⟩ = pure []) : LamMake X P T params body scope lpos := by
  intro pins s σ H Q I tb go
  refine PySem.W.kla_eval hdef ?_; rw [makeFunction_eq]
  simp only [List.zip_nil_right, List.filterMap_nil, List.isEmpty_nil, if_true, pure_bind]; refine lam_tail I B hc0 hm hu tb (L.has I.ok) fun f c' pm doc ct H1 s' I1 k t1 _ _ a1 a2 a3 a4 => go f c' pm doc ct .none H1 s' I1 k t1 a1 a2 a3 a4 (fun _ z => by cases z) ⟨[], fun _ z => (nomatch z), fun M A Q E s _ q => ?_⟩
  rw [hb]; exact wpAny_pure q
theorem lam_make1 {i : Int} {j : Nat} {p : Pos} {y : Str} (B : TabB X.base X.mg c P) (hc0 : X.env.code = .ref c) (hm : (P, X.env.qual ++ "<lambda>") ∈ T) (hu : ∀ p ∈ T, p.1 = P → p.2 = X.env.qual ++ "<lambda>") (L : LamN X.N X.env.scope scope)
    (hdef : defaultsOf params X.env = ([eval (.Constant (.int i) j p) X.env], [])) (hkw : params.kwonlyargs = []) (hloc : scope.names.lookup y = some .local)
    (hb : ∀ (q : Str) (cl : List (Str × Addr)) (D : Addr) (doc pm cv ct : Value), ∃ k, bindArgs (PySem.W.kdv_fn "<lambda>" q params (.expr body) scope cl (.ref D) doc pm cv ct) ⟨[], []⟩ = seqItems? (.ref D) >>= k ∧ ∀ v : Value, k (some #[v]) = pure [(y, v)]) : LamMake X P T params body scope lpos := by
  intro pins s σ H Q I tb go
  rw [arm_eval_Lambda, hdef]
  show wpAny _ _ (do let dv ← evalAll [eval (.Constant (.int i) j p) X.env]; let kdv ← holding dv (evalAllOpt []); makeFunction "<lambda>" (X.env.qual ++ "<lambda>") params (.expr body) scope X.env dv kdv [] lpos lpos.line) _ _ _
  refine wpAny_bind (wpAny_evalAll_cons (wpAny_mono ((pe_int (X := X) (i := i) (j := j) (pos := p)).run pins s σ H (fun v H' => v = .int i ∧ H' = H) I ⟨rfl, rfl⟩) (fun v s1 h1 => ?_) fun e s' h => ?_))
  · obtain ⟨_, H', I1, _, _, rfl⟩ := h1
    refine wpAny_evalAll_nil (wpAny_bind (wpAny_holding (wpAny_pure ?_)))
    rw [makeFunction_eq, hkw]
    simp only [List.zip_nil_right, List.filterMap_nil, List.isEmpty_nil, List.isEmpty_cons, Bool.false_eq_true, if_false, if_true, pure_bind]
    refine wpAny_bind (wpAny_newTextTuple ?_); obtain ⟨ps, hP, _⟩ := tb _ hm
    have kk : ∀ b o, s1.heap.get? b = some o → (s1.heap.push { cls := .type "tuple", data := .seq [v].toArray }).get? b = some o := fun b o z => Heap.get?_push_of_some _ z
    have I2 : L2.Inv X pins σ H' { s1 with heap := s1.heap.push { cls := .type "tuple", data := .seq [v].toArray } } := I1.kept (t' := s1.toks) kk
    have dN : H' s1.heap.objs.size = none := I1.hok.fresh (Nat.le_refl _)
    have dP : s1.heap.objs.size ≠ P := fun z => by rw [z, hP] at dN; cases dN
    have dT : (s1.heap.push { cls := .type "tuple", data := .seq [v].toArray }).get? s1.heap.objs.size = some { cls := .type "tuple", data := .seq [v].toArray } := Heap.get?_push_at rfl rfl
    have dF : s1.heap.objs.size ∉ frs X.stack := fun z => (List.mem_cons.mp (I1.stkSub _ z)).elim (fun e => absurd (e ▸ I1.lt) (Nat.lt_irrefl _)) fun e => I1.nofs (Nat.le_refl _) e
    refine lam_tail I2 B hc0 hm hu tb (L.has I2.ok) fun f c' pm doc ct H1 s' I3 k t1 k2 k3 a1 a2 a3 a4 => go f c' pm doc ct (.ref s1.heap.objs.size) H1 s' I3 k t1 a1 a2 a3 a4 (fun D z => ?_) ?_
    · cases z
      exact ⟨k3 _ dN (by show _ < (s1.heap.push _).objs.size; rw [Heap.size_push]; exact Nat.lt_succ_self _), dF⟩
    · obtain ⟨kf, e1, e2⟩ := hb (X.env.qual ++ "<lambda>") (cloFrom X.env.cells scope.names []) s1.heap.objs.size doc pm (.ref c') ct
      refine ⟨[(y, v)], fun z hz => ?_, fun M A Q E s2 hk q => ?_⟩
      · obtain rfl := List.mem_singleton.mp hz
        exact hloc
      · rw [e1]
        refine wpAny_bind (wpAny_seqItems (hk _ _ rfl (k2 _ _ dP dT)) rfl ?_)
        rw [e2]; exact wpAny_pure q
  · exact h
end
end DE
namespace DE
open PyProof.Rows PySem.Spec PySem L2
open LamX (CodeO TabB Tabs lamEnv lamCx)
/-! ### functions without arguments over data -/
abbrev Th := DS → Option (Except Exn D × DS)
def relS : List Nat → List Sl → List Sl
  | [], r => r
  | j :: js, r => relS js (match r[j]? with
    | some (.own xs) => r.set j (.dat (.lst xs))
    | _ => r)
def pick1 : Sl → Sl
  | .dat d => .dat d
  | _ => .no
def pickS (js : List Nat) : Nat → List Sl → List Sl
  | _, [] => []
  | i, x :: r => (if js.contains i then pick1 x else .no) :: pickS js (i + 1) r
def thunk (js : List Nat) (f : Mo D) (r : List Sl) : Th := fun s => match f ⟨pickS js 0 (relS js r), s⟩ with
  | some (x, g) => some (x, g.s)
  | none => none
theorem pickS_len (js : List Nat) : ∀ (i : Nat) (r : List Sl), (pickS js i r).length = r.length
  | _, [] => rfl
  | i, x :: r => congrArg Nat.succ (pickS_len js (i + 1) r)
theorem pickS_get (js : List Nat) : ∀ (i : Nat) (r : List Sl) (n : Nat) {z : Sl}, (pickS js i r)[n]? = some z → z = .no ∨ ∃ d, z = .dat d ∧ r[n]? = some (.dat d)
  | _, [], _, _, h => by cases h
  | i, x :: r, 0, z, h => by
    unfold pickS at h; simp only [List.getElem?_cons_zero, Option.some.injEq] at h
    split at h
    · cases x with
      | dat d => exact .inr ⟨d, h.symm, rfl⟩
      | no => exact .inl h.symm
      | own xs => exact .inl h.symm
      | fn _ _ _ _ => exact .inl h.symm
    · exact .inl h.symm
  | i, x :: r, n + 1, z, h => by
    have := pickS_get js (i + 1) r n (z := z) (by unfold pickS at h; simpa using h)
    simpa using this
theorem relS_len : ∀ (js : List Nat) (r : List Sl), (relS js r).length = r.length
  | [], _ => rfl
  | j :: js, r => by
    unfold relS
    rw [relS_len js]
    split
    · rw [List.length_set]
    · rfl
section
variable {K : PySem.W.Frag} {Γ : Gam} {H0 G0 G H : Hp} {σ : L2.St} {g : Sg}
theorem En.relAll : ∀ (js : List Nat) {G : Hp} {g : Sg}, En K Γ H0 G0 G H σ g → ∃ G', Gr G G' ∧ En K Γ H0 G0 G' H σ ⟨relS js g.r, g.s⟩
  | [], G, g, E => ⟨G, Gr.refl _, E⟩
  | j :: js, G, g, E => by
    unfold relS
    split
    · rename_i xs hi
      obtain ⟨l, G1, _, gr, _, E1⟩ := E.rel hi
      obtain ⟨G2, gr2, E2⟩ := En.relAll js E1
      exact ⟨G2, gr.trans gr2, E2⟩
    · exact En.relAll js E
/-- the captured names, in another frame's heap -/
theorem En.pick (E : En K Γ H0 G0 G H σ g) (js : List Nat) {H0' G0' G' H' : Hp} {σ' : L2.St} {g' : Sg} (F : En K Γ H0' G0' G' H' σ' g') (gr : Gr G G') : En K Γ H' G' G' H' σ ⟨pickS js 0 g.r, g'.s⟩ := by
  refine ⟨fun _ _ _ z => z, fun _ _ _ z => z, Gr.refl _, F.sub, F.gm, F.st, by rw [pickS_len]; exact E.len, fun i d h => ?_, fun i xs h => ?_, fun i j xs ys l h => ?_, F.tb, F.gt, fun i f c q G1 h => ?_⟩
  · rcases pickS_get js 0 g.r i h with z | ⟨d', z, h'⟩
    · cases z
    · cases z
      obtain ⟨v, h1, h2⟩ := E.dat i d h'
      exact ⟨v, h1, h2.mono gr⟩
  · rcases pickS_get js 0 g.r i h with z | ⟨d', z, h'⟩ <;> cases z
  · rcases pickS_get js 0 g.r i h with z | ⟨d', z, h'⟩ <;> cases z
  · rcases pickS_get js 0 g.r i h with z | ⟨d', z, h'⟩ <;> cases z
theorem En.toAft {G' H' : Hp} {σ' : L2.St} {g' : Sg} (E : En K Γ H G G' H' σ' g') : Aft Γ G H G' H' := ⟨fun a o n h => E.base a o n h, E.g0, E.sub, E.gm, fun a o h h' => E.gfr a o h h', E.tb, E.gt⟩
end
open Classical in
/-- a(), a the function at the slot i -/
noncomputable def fAct (i : Nat) (f c : Addr) (q : Str) (G1 : Hp) (th : Th) : Mo D := fun g => if g.r[i]? = some (.fn f c q G1) then (match th g.s with
    | some (x, s') => some (x, ⟨g.r, s'⟩)
    | none => none) else none
def fActU (th : Th) : Mo D := fun g => match th g.s with
  | some (x, s') => some (x, ⟨g.r, s'⟩)
  | none => none
/-- what a def makes of the function that it gets -/
def GivesTh (fb : Mo D → Ms) (N : Nat) (mT : Th → Th) : Prop := ∀ (f c : Addr) (q : Str) (G1 : Hp) (th : Th) (s : DS) (r : Except Exn D) (s' : DS), mT th s = some (r, s') → ∃ g', g'.s = s' ∧
  (fb (fAct 0 f c q G1 th) ⟨.fn f c q G1 :: List.replicate (N - 1) .no, s⟩ = some ((match r with | .ok d => .ret d | .error x => .exc x), g') ∨ (r = .ok .non ∧ fb (fAct 0 f c q G1 th) ⟨.fn f c q G1 :: List.replicate (N - 1) .no, s⟩ = some (.nx, g')))
/-- a def whose one argument is a function that it calls -/
def KfT (P : Program) (w : World) (K : PySem.W.Frag) (mg : Str → Option Value) (base : Heap) (k : Nat) (x : Str) (Γ : Gam) (N : Nat) (fb : Mo D → Ms) : Prop :=
  ∃ (g : Addr) (st : Stmt) (fd : FuncData) (Ng : List Str) (a : Str), Fun K x x st g fd ∧ FnScope Ng [a] (defScope st) ∧ Ng.length = N ∧ Ng[0]? = some a ∧ Vis (defScope st) a ∧ (a == ("__debug__" : Str)) = false ∧ (a == ("__classdict__" : Str)) = false ∧ mg x = some (.ref g) ∧ PySem.W.keepIn K (.ref g) = true ∧ Binds K fd [a] [] ∧
    ∀ (cdv : Value) (A : Around) (outer : List Env) (s : Shared) (H : Hp) (E : XK), Ct (cxD P w K mg base Ng x st g cdv A outer s H E) (fun c d _ H => E c d H) (k + 1) → ∀ act : Mo D,
      (∀ (W : WX) (pn : List (Addr × Obj)) (xe : Value → Shared → Prop) (p1 p2 : Pos), Ct ((cxD P w K mg base Ng x st g cdv A outer s H E).tr pn xe) W (k + 1) → DX ((cxD P w K mg base Ng x st g cdv A outer s H E).tr pn xe) Γ W (.Call (.Name a p1) [] [] p2) act) →
      DB (cxD P w K mg base Ng x st g cdv A outer s H E) Γ (fun c d _ H => E c d H) (defBody st) (fb act)
/-- x(lambda: e) -/
def fLam (js : List Nat) (mT : Th → Th) (f : Mo D) : Mo D := fun g => match mT (thunk js f g.r) g.s with
  | some (x, s') => some (x, ⟨relS js g.r, s'⟩)
  | none => none
section
variable {X : Cx} {Γ : Gam} {W : WX}
theorem d_lam {k j N : Nat} {x : Str} {P : Addr} {params : Arguments} {body : Expr} {scope : Scope} {p lpos pos : Pos} {fb : Mo D → Ms} {mT : Th → Th} {f : Mo D} (js : List Nat) (F : KfT X.prog X.w X.K X.mg X.base j x Γ N fb) (hk : j + 2 ≤ k) (C : Ct X W k) (hm : GivesTh fb N mT) (hgl : Gl X x)
    (LM : LamMake X P Γ.T params body scope lpos) (hP : ∃ q, (P, q) ∈ Γ.T) (L : LamN X.N X.env.scope scope)
    (hbody : ∀ (A : Around) (outer : List Env) (s : Shared) (H : Hp) (E : XK) (fa c' : Addr), Ct (lamCx X A outer s H E scope fa c') (fun c d _ H => E c d H) j → DX (lamCx X A outer s H E scope fa c') Γ (fun c d _ H => E c d H) body f)
    (hdb : (x == ("__debug__" : Str)) = false := by decide) : DX X Γ W (.Call (.Name x p) [.Lambda params body scope lpos] [] pos) (fLam js mT f) := by
  refine ⟨fun pins s σ H Q I h => ?_⟩; obtain ⟨H0, G0, G, g, E, r, gE, eq, q⟩ := h
  obtain ⟨ga, st, fd, Ng, a, FF, Sg, hNl, hN0, hva, ha1, ha2, hmg, hkp, hbi, hder⟩ := F
  unfold fLam at eq
  cases hmt : mT (thunk js f g.r) g.s with
  | none => rw [hmt] at eq; cases eq
  | some rs =>
  obtain ⟨r1, s1⟩ := rs
  rw [hmt] at eq
  cases eq
  obtain ⟨G1, gr1, E1⟩ := E.relAll js
  refine wpAny_Call_Name_kw (ld_glob I hgl hmg ?_ hdb)
  refine PySem.W.callWith_K (h₀ := X.base) I.ok.mod.kin hkp ?_ (by rfl) (by rfl); show wpAny _ _ (spliced ((false, eval (.Lambda params body scope lpos) X.env) :: backTo pos (starEach [] X.env))) _ _ s
  refine Calls.spliced_cons (LM pins s σ H _ I E.tb fun fa c' pm doc ct dV H1 s' I1 kp t1 hf hfn hfr hco hD hbd => ?_)
  refine Calls.spliced_nil ⟨I1.kIn, ?_⟩; obtain ⟨qP, hPm⟩ := hP
  have E2 : En X.K Γ H0 G0 G1 H1 σ ⟨relS js g.r, g.s⟩ := by
    have hPt : ∀ b, Γ.Ok b → b ≠ P := fun b n => n.2 _ hPm
    obtain ⟨ps, hPs, _⟩ := E.tb _ hPm
    refine ⟨fun b o n z => kp b o (hPt b n) (E1.base b o n z), E1.gfr, E1.g0, fun b o z => kp b o (fun w => ?_) (E1.sub b o z), E1.gm, ?_, E1.len, E1.dat, fun i xs z => ?_, E1.dis, t1, E1.gt, fun i f c q G2 z => ?_⟩
    · have := E1.gt _ hPm
      rw [w, this] at z; cases z
    · obtain ⟨l, m1, m2⟩ := E1.st
      refine ⟨l, kp _ _ (fun w => ?_) m1, m2⟩
      rw [w, hPs] at m1; cases m1
    · obtain ⟨l, vs, z1, z2, z3⟩ := E1.own i xs z
      exact ⟨l, vs, z1, kp _ _ (hPt l (E1.ok_lst z2)) z2, z3⟩
    · obtain ⟨z1, z2, z3⟩ := E1.fn i f c q G2 z
      exact ⟨z1, kp _ _ (hPt c (E1.ok_code z2)) z2, z3⟩
  obtain ⟨oc, od, kV, doc2, pm2, an, cdv, ct2, osl, rfl, lk, hcd⟩ := FF.ex
  have room : Room (j + 2) X.A := C.room.mono hk
  refine wpAny_call (codeAny_mono (R := CR (L2.CX X.prog X.w) X.stack X.prog X.w H1 s' Q (WE W σ)) ?_ fun rr s2 hq => ?_)
  · refine LamX.run_ofS (CX := L2.CX X.prog X.w) (N := Ng) (ps := [a]) (us := [.ref fa]) (vs := [.ref fa]) lk hcd Sg room I1.env0 (hbi s' [.ref fa] I1.kIn rfl) (.cons rfl .nil) rfl fun hr' => ?_
    have Cg : Ct (cxD X.prog X.w X.K X.mg X.base Ng x st ga cdv X.A X.stack s' H1 (WE W σ)) (fun c d _ H => WE W σ c d H) (j + 1) := ⟨rfl, takes_of rfl rfl rfl rfl, PassesOwn.leaving, hr', C.gua⟩
    refine ⟨_, hder cdv X.A X.stack s' H1 (WE W σ) Cg (fAct 0 fa c' (X.env.qual ++ "<lambda>") G1 (thunk js f g.r)) (fun W' pn xe p1 p2 C' => ?_), ?_⟩
    · have pa := lam_act (W := W') (pn := pn) (xe := xe) (k := j) (p1 := p1) (p2 := p2) (Eg := WE W σ) (Ng := Ng) (qg := x) (sg := defScope st) (g := ga) (cdg := cdv) (i := 0) (a := a) I1 L hf hfn hfr hD hbd C'.tk C'.room C'.gua
        (t := fun E => tG X.K Γ (fun c d _ H => E c d H) (RD X.K Γ) f)
        (fun A outer s H E rm gu => hbody A outer s H E fa c' ⟨rfl, takes_of rfl rfl rfl rfl, PassesOwn.leaving, rm, gu⟩) hN0 hva ha1 ha2
      refine L2.PE.imp pa fun σZ HZ QZ ⟨H0Z, G0Z, GZ, gZ, EZ, rZ, gZ', eZ, qZ⟩ => ?_
      unfold fAct at eZ
      split at eZ
      · rename_i hslot
        obtain ⟨z1, z2, z3⟩ := EZ.fn 0 _ _ _ _ hslot
        refine ⟨z1, z2, ?_⟩
        unfold thunk at eZ
        cases hfe : f ⟨pickS js 0 (relS js g.r), gZ.s⟩ with
        | none => simp only [hfe] at eZ; cases eZ
        | some pr =>
          obtain ⟨rf, gf⟩ := pr
          simp only [hfe] at eZ
          cases eZ
          refine ⟨HZ, GZ, GZ, _, E2.pick js EZ z3, rZ, gf, hfe, ?_⟩
          cases rZ with
          | ok d => exact fun v G' H' gr E' dv => qZ v G' H' gr (EZ.aft E'.toAft E'.st) dv
          | error y => exact fun Cc dd G' H' gr E' hx => qZ Cc dd G' H' gr (EZ.aft E'.toAft E'.st) hx
      · cases eZ
    · obtain ⟨g', hs', hfb⟩ := hm fa c' (X.env.qual ++ "<lambda>") G1 (thunk js f g.r) g.s r s1 hmt
      have hNp : 1 ≤ N := by
        rw [← hNl]
        cases Ng with
        | nil => cases hN0
        | cons _ _ => simp
      have E3 : En X.K Γ H1 G1 G1 H1 (L2.start Ng [.ref fa]) ⟨.fn fa c' (X.env.qual ++ "<lambda>") G1 :: List.replicate (N - 1) .no, g.s⟩ := by
        have only : ∀ (i : Nat) z, (Sl.fn fa c' (X.env.qual ++ "<lambda>") G1 :: List.replicate (N - 1) .no)[i]? = some z → z = .no ∨ (i = 0 ∧ z = .fn fa c' (X.env.qual ++ "<lambda>") G1) := fun i z hz => by
          cases i with
          | zero => simp at hz; exact .inr ⟨rfl, hz.symm⟩
          | succ i =>
            rw [List.getElem?_cons_succ, List.getElem?_replicate] at hz
            split at hz
            · exact .inl (Option.some.inj hz).symm
            · cases hz
        refine ⟨fun _ _ _ z => z, fun _ _ _ z => z, Gr.refl _, E2.sub, E2.gm, E2.st, ?_, fun i d z => ?_, fun i xs z => ?_, fun i j xs ys l z => ?_, E2.tb, E2.gt, fun i f2 c2 q2 G2 z => ?_⟩
        · unfold L2.start
          simp [hNl]
        · rcases only i _ z with z | ⟨_, z⟩ <;> cases z
        · rcases only i _ z with z | ⟨_, z⟩ <;> cases z
        · rcases only i _ z with z | ⟨_, z⟩ <;> cases z
        · rcases only i _ z with z | ⟨rfl, z⟩
          · cases z
          · cases z
            exact ⟨by unfold L2.start; rfl, hco, Gr.refl _⟩
      refine ⟨H1, G1, G1, _, E3, ?_⟩
      have fin : ∀ {σ' : L2.St} {G' H' : Hp}, En X.K Γ H1 G1 G' H' σ' g' → En X.K Γ H0 G0 G' H' σ ⟨relS js g.r, s1⟩ := fun E' => E2.aft E'.toAft (hs' ▸ E'.st)
      rcases hfb with hfb | ⟨rfl, hfb⟩
      · cases r with
        | ok d => exact ⟨.ret d, g', hfb, fun v σ' G' H' gr E' dv => q v G' H' (gr1.trans gr) (fin E') dv⟩
        | error y => exact ⟨.exc y, g', hfb, fun Cc dd σ' G' H' gr E' hx => q Cc dd G' H' (gr1.trans gr) (fin E') hx⟩
      · exact ⟨.nx, g', hfb, fun σ' G' H' gr E' => q .non G' H' (gr1.trans gr) (fin E') .non⟩
  · cases rr with
    | error e => exact passAt C.tk σ pins H1 s' e s2 I1 hq
    | ok fl =>
      cases fl with
      | ret u => exact I1.after hq
      | next => exact hq.elim
      | brk => exact hq.elim
      | cont => exact hq.elim
end
end DE
namespace DE
open PyProof.Rows PySem.Spec PySem L2
open LamX (CodeO TabB Tabs TabS lamEnv lamCx)
/-! ### the end of a law whose text makes lambdas -/
/-- a table of code objects, still empty -/
abbrev noCode : Obj := { cls := .none, data := .fields #[] }
theorem end_coreT {P : Program} {w : World} {K : PySem.W.Frag} {mg mb : Str → Option Value} {k n im : Nat} {fa a : Addr} {fd : FuncData} {fb : Ms} {s₁ : Shared} {items : Array Value} {ns : List Int} {H : Hp} {cs : List (Addr × Addr)} {T : List (Addr × Str)}
    (KX : K.In s₁.heap) (hns : s₁.heap.Ns mainGlobals mg) (hbn : s₁.heap.Ns builtinsNs mb) (hbb : ∀ y : Str, y ≠ "__name__" → mb y = bootBuiltins y) (hlim : s₁.heap.NoLimit) (hgen : s₁.gens = #[]) (hlen : ns.length ≤ 100000) (hr : Room k callerA)
    (bm : ∃ (bm : Addr) (ob : Obj), mg "__builtins__" = some (.ref bm) ∧ bm ≠ builtinsNs ∧ s₁.heap.get? bm = some ob ∧ ob.cls = .type "module" ∧ ob.dict = some builtinsNs ∧ ob.data = .plain)
    (tab : ∀ p ∈ cs, PySem.W.CodeHd s₁.heap p.1 p.2 ∧ s₁.heap.get? p.2 = some noCode) (tabK : ∀ p ∈ cs, K.lookup p.2 = none) (sub : ∀ p ∈ T, ∃ q ∈ cs, q.2 = p.1)
    (hobj : s₁.heap.get? a = some { cls := .type "list", data := .seq items }) (F : ∀ base : Heap, K.In base → base.Ns mainGlobals mg → (∀ p ∈ cs, TabB base mg p.1 p.2) → FnG P w K mg base k fa fd ["script"] (spLaw K T n im fb))
    (bnd : ∀ (s : Shared) (u : Value), BindsTo s fd ⟨[u], []⟩ [("script", u)]) (hfb : goesL fb n im ns)
    (only : ∀ b u, H b = some u → (b = a ∧ ∃ o xs, u = .frz o (.lst xs)) ∨ ((∃ q ∈ cs, q.2 = b) ∧ u = .tbl #[])) (isT : ∀ p ∈ cs, H p.2 = some (.tbl #[])) (hS : SqL K H a (ns.map V.int)) (hok : HOk P w H s₁.heap) (notK : ∀ u, H a = some u → K.lookup a = none) :
    codeAny (model P w) callerA (.call (.ref fa) ⟨[Value.ref a], []⟩) (fun r s' => r = .ok (.ret (.bool true)) ∧ OldK s₁.heap s'.heap ∧ s'.os = s₁.os ∧ AllBare s'.gens) s₁ := by
  have stays : ∀ {b : Addr} {o : Obj}, s₁.heap.get? b = some o → H b = none → (hidT s₁.heap H).get? b = some o := fun z e => hidT_get z e
  have free : ∀ {b : Addr} {o : Obj}, s₁.heap.get? b = some o → o.data ≠ .fields #[] → (∀ xs m, o.data ≠ .seq xs m) → H b = none := fun {b o} z d1 d2 => by
    cases q : H b with
    | none => rfl
    | some u =>
      rcases only b u q with ⟨rfl, _⟩ | ⟨⟨p, hp, rfl⟩, _⟩
      · rw [hobj] at z; cases z; exact absurd rfl (d2 _ _)
      · rw [(tab p hp).2] at z; cases z; exact absurd rfl d1
  have dictFree : ∀ {b : Addr} {o : Obj} {es : Array DictEntry} {ep : Nat}, s₁.heap.get? b = some o → o.data = .dict es ep → H b = none := fun {b o es ep} z e =>
    free z (fun w => by rw [e] at w; cases w) fun xs m w => by rw [e] at w; cases w
  have nsStays : ∀ {b : Addr} {m : Str → Option Value}, s₁.heap.Ns b m → (hidT s₁.heap H).Ns b m := fun ⟨o, es, ep, z, e, more⟩ => ⟨o, es, ep, stays z (dictFree z e), e, more⟩
  have KB : K.In (hidT s₁.heap H) := fun b o z => stays (KX b o z) (by
    cases q : H b with
    | none => rfl
    | some u =>
      rcases only b u q with ⟨rfl, _⟩ | ⟨⟨p, hp, rfl⟩, _⟩
      · rw [notK u q] at z; cases z
      · rw [tabK p hp] at z; cases z)
  have ground : Mod K mg (hidT s₁.heap H) := ⟨KB, nsStays hns, ⟨mb, nsStays hbn, hbb⟩, hlim.elim fun mc z => ⟨mc, nsStays z.1, z.2⟩⟩
  have env : Env0 P w K mg (hidT s₁.heap H) callerA [] s₁ H := ⟨rfl, ground, fun b o z => of_hidT z, Nat.le_of_eq (hidT_size _ _), trivial, fun b z => (nomatch z), hok, .of_eq hgen⟩
  have noG : ∀ {b : Addr} {o : Obj}, s₁.heap.get? b = some o → o.data = .plain → b ≠ mainGlobals := fun {b o} z e w => by
    obtain ⟨o', es, ep, z', e', _⟩ := hns
    rw [← w, z] at z'; cases z'
    rw [e] at e'; cases e'
  have tables : ∀ p ∈ cs, TabB (hidT s₁.heap H) mg p.1 p.2 := fun p hp => by
    obtain ⟨⟨o, us, file, tf, fl, tg, inF, tx, tt, z1, z2, z3, z4, zs⟩, z0⟩ := tab p hp
    refine ⟨⟨o, us, file, tf, fl, tg, inF, tx, tt, stays z1 (free z1 (fun w => ?_) fun xs m w => ?_), z2, z3, z4, zs⟩, ?_, fun w => ?_⟩
    · rw [z3] at w; cases w; simp at z4
    · rw [z3] at w; cases w
    · obtain ⟨b, ob, y1, y2, y3, y4, y5, y6⟩ := bm
      refine ⟨b, ob, y1, y2, noG y3 y6, fun w => ?_, stays y3 (free y3 (fun w => ?_) fun xs m w => ?_), y4, y5, y6⟩
      · rw [w, z0] at y3; cases y3; cases y6
      · rw [y6] at w; cases w
      · rw [y6] at w; cases w
    · obtain ⟨o', es, ep, y, e', _⟩ := hns
      rw [w, z0] at y; cases y; cases e'
  have tabsT : Tabs T H := fun p hp => by
    obtain ⟨q, hq, e⟩ := sub p hp
    rw [← e]
    exact TabS.nil (isT q hq)
  refine codeAny_mono ((F _ KB (nsStays hns) tables).run callerA [] s₁ H ⟨[.ref a], []⟩ [.ref a] [.ref a] (fun v _ => v = .bl true) (fun _ _ _ => False) hr rfl env (bnd s₁ (.ref a)) (.cons rfl .nil) ⟨a, ns, rfl, hS, hlen, tabsT, hfb, fun _ => rfl⟩) fun r s' z => ?_
  match r, z with
  | .error e, z =>
    obtain ⟨_, _, _, _, _, _, _, _, _, _, _, _, no⟩ := z
    exact no.elim
  | .ok (.ret u), ⟨v, H', hos, hbare, hun, hok', hrel, hv⟩ =>
    have hv : v = .bl true := hv
    subst hv
    obtain rfl : u = Value.bool true := hrel
    have grows : ∀ p ∈ cs, ∃ vs : Array Value, s'.heap.get? p.2 = some { cls := .none, data := .fields vs } := fun p hp => by
      obtain ⟨more, z⟩ := hun.tbls p.2 #[] (isT p hp)
      exact ⟨_, hok' p.2 _ z⟩
    have key : ∀ b o, s₁.heap.get? b = some o → (∃ p ∈ cs, p.2 = b) ∨ s'.heap.get? b = some o := fun b o z => by
      cases q : H b with
      | none => exact .inr (hun.keep b o z q (fun y => nomatch y) (fun y => nomatch y))
      | some u =>
        rcases only b u q with ⟨_, ob, xs, rfl⟩ | ⟨h, _⟩
        · have before := (hok b _ q).1
          have behind := (hok' b _ (hun.frzs b ob _ q)).1
          rw [z] at before; cases before
          exact .inr behind
        · exact .inl h
    refine ⟨rfl, ⟨fun b o z => ?_, fun b o z => ?_⟩, hos, hbare⟩
    · rcases key b o z with ⟨p, hp, rfl⟩ | k
      · obtain ⟨more, hm⟩ := grows p hp
        rw [(tab p hp).2] at z
        cases z
        refine .inr (.inl ⟨((tab p hp).1.tab (tab p hp).2).isCodeTable, rfl, #[], more, rfl, ?_⟩)
        rw [Array.empty_append]; exact hm
      · exact .inl k
    · rcases key b o z with ⟨p, hp, rfl⟩ | k
      · obtain ⟨more, hm⟩ := grows p hp
        exact ⟨_, hm⟩
      · exact ⟨o, k⟩
  | .ok .next, z => exact z.elim
  | .ok .brk, z => exact z.elim
  | .ok .cont, z => exact z.elim
theorem end_callT {P : Program} {w : World} {K : PySem.W.Frag} {mg mb : Str → Option Value} {k n im : Nat} {fa a : Addr} {fd : FuncData} {fb : Ms} {s₁ : Shared} {vs : List Value} {ns : List Int} {cs : List (Addr × Addr)} {T : List (Addr × Str)}
    (KX : K.In s₁.heap) (hns : s₁.heap.Ns mainGlobals mg) (hbn : s₁.heap.Ns builtinsNs mb) (hbb : ∀ y : Str, y ≠ "__name__" → mb y = bootBuiltins y) (hlim : s₁.heap.NoLimit) (hgen : s₁.gens = #[]) (hlen : ns.length ≤ 100000) (hr : Room k callerA)
    (bm : ∃ (bm : Addr) (ob : Obj), mg "__builtins__" = some (.ref bm) ∧ bm ≠ builtinsNs ∧ s₁.heap.get? bm = some ob ∧ ob.cls = .type "module" ∧ ob.dict = some builtinsNs ∧ ob.data = .plain)
    (tab : ∀ p ∈ cs, PySem.W.CodeHd s₁.heap p.1 p.2 ∧ s₁.heap.get? p.2 = some noCode) (tabK : ∀ p ∈ cs, K.lookup p.2 = none) (sub : ∀ p ∈ T, ∃ q ∈ cs, q.2 = p.1)
    (hobj : s₁.heap.get? a = some { cls := .type "list", data := .seq vs.toArray }) (hi : IntsAre vs ns) (F : ∀ base : Heap, K.In base → base.Ns mainGlobals mg → (∀ p ∈ cs, TabB base mg p.1 p.2) → FnG P w K mg base k fa fd ["script"] (spLaw K T n im fb))
    (bnd : ∀ (s : Shared) (u : Value), BindsTo s fd ⟨[u], []⟩ [("script", u)]) (hfb : goesL fb n im ns) :
    codeAny (model P w) callerA (.call (.ref fa) ⟨[Value.ref a], []⟩) (fun r s' => r = .ok (.ret (.bool true)) ∧ OldK s₁.heap s'.heap ∧ s'.os = s₁.os ∧ AllBare s'.gens) s₁ := by
  classical
  have rv := vals_ints hi
  have sz : ns.length ≤ sizeLine := sz5 hlen
  have aT : ¬ ∃ q ∈ cs, q.2 = a := fun ⟨q, hq, e⟩ => by
    have z := (tab q hq).2
    rw [e, hobj] at z
    have z' := congrArg Obj.data (Option.some.inj z)
    cases z'
  cases hk : K.lookup a with
  | some o =>
    have z := KX a o hk
    rw [hobj] at z
    cases z
    have at_ : ∀ {b : Addr} {u : HO}, (if ∃ q ∈ cs, q.2 = b then some (HO.tbl #[]) else none) = some u → (∃ q ∈ cs, q.2 = b) ∧ u = .tbl #[] := fun {b u} z => by
      by_cases c : ∃ q ∈ cs, q.2 = b
      · rw [if_pos c] at z; exact ⟨c, (Option.some.inj z).symm⟩
      · rw [if_neg c] at z; cases z
    have hS : SqL K (fun b => if ∃ q ∈ cs, q.2 = b then some (HO.tbl #[]) else none) a (ns.map V.int) := .inr ⟨_, vs.toArray, _, hk, rfl, rfl, rfl, by rw [List.size_toArray, hi.length]; exact sz, by simpa using rv⟩
    refine end_coreT KX hns hbn hbb hlim hgen hlen hr bm tab tabK sub hobj F bnd hfb (fun b u z => .inr (at_ z)) (fun p hp => if_pos ⟨p, hp, rfl⟩) hS (fun b u z => ?_) (fun u z => absurd (at_ z).1 aT)
    obtain ⟨⟨q, hq, rfl⟩, rfl⟩ := at_ z
    exact (tab q hq).2
  | none =>
    have at_ : ∀ {b : Addr} {u : HO}, (if b = a then some (HO.frz { cls := .type "list", data := .seq vs.toArray } (.lst (ns.map V.int))) else if ∃ q ∈ cs, q.2 = b then some (HO.tbl #[]) else none) = some u →
        (b = a ∧ u = .frz { cls := .type "list", data := .seq vs.toArray } (.lst (ns.map V.int))) ∨ ((∃ q ∈ cs, q.2 = b) ∧ u = .tbl #[]) := fun {b u} z => by
      by_cases c : b = a
      · rw [if_pos c] at z; exact .inl ⟨c, (Option.some.inj z).symm⟩
      · rw [if_neg c] at z
        by_cases d : ∃ q ∈ cs, q.2 = b
        · rw [if_pos d] at z; exact .inr ⟨d, (Option.some.inj z).symm⟩
        · rw [if_neg d] at z; cases z
    refine end_coreT (H := fun b => if b = a then some (HO.frz { cls := .type "list", data := .seq vs.toArray } (.lst (ns.map V.int))) else if ∃ q ∈ cs, q.2 = b then some (HO.tbl #[]) else none) KX hns hbn hbb hlim hgen hlen hr bm tab tabK sub hobj F bnd hfb
      (fun b u z => (at_ z).imp (fun q => ⟨q.1, _, _, q.2⟩) id) (fun p hp => ?_) (.inl (.inr ⟨_, if_pos rfl⟩)) (fun b u z => ?_) (fun _ _ => hk)
    · have n : p.2 ≠ a := fun e => aT ⟨p, hp, e⟩
      show (if p.2 = a then _ else _) = _
      rw [if_neg n, if_pos ⟨p, hp, rfl⟩]
    · rcases at_ z with ⟨rfl, rfl⟩ | ⟨⟨q, hq, rfl⟩, rfl⟩
      · exact ⟨hobj, by rw [List.length_map]; exact sz, vs, _, rv, hobj⟩
      · exact (tab q hq).2
/-- what k_head leaves, from the law's program over data; cs: the makers' code objects and tables -/
theorem walk_deT {l : PySem.W.OpenLaw} {k m im : Nat} {q : Program} {loose : List Str} {XP : (Str → Option Value) → Heap → Prop} {YP : World → Heap → Prop} {d : DefRec} {K : Params → PySem.W.Frag} {fb : Ms} (mk : List (Str × DefRec × Addr × Addr × Str))
    (hn : l.most = some 63) (hdf : d.params.defaults = []) (hr : Room k callerA) (hY : ∀ (w : World) (h : Heap), YP w h → (K w.params).In h)
    (hmk : ∀ p ∈ mk, (PyProof.Rows.recsOf q).find? (fun e => e.name == p.1) = some p.2.1 ∧ ∀ w : World, PySem.W.tabIn (K w.params) p.1 = some (p.2.2.1, p.2.2.2.1) ∧ (K w.params).lookup p.2.2.2.1 = none)
    (F : ∀ (w : World) (mg : Str → Option Value) (fa : Addr) (h : Heap), (K w.params).In h → h.Ns mainGlobals mg → mg d.name = some (Value.ref fa) →
      ∃ fd : FuncData, (∀ (s : Shared) (u : Value), BindsTo s fd ⟨[u], []⟩ [("script", u)]) ∧ ∀ base : Heap, (K w.params).In base → base.Ns mainGlobals mg → (∀ p ∈ mk, TabB base mg p.2.2.1 p.2.2.2.1) →
        FnG l.prog w (K w.params) mg base k fa fd ["script"] (spLaw (K w.params) (mk.map fun p => (p.2.2.2.1, p.2.2.2.2)) m im fb))
    (hfb : ∀ ns : List Int, ns.length ≤ 63 → goesL fb m im ns) :
    PySem.W.WalkO q loose XP YP l.row.toRowW d [] (fun g us => PySem.call g us) := by
  refine Att.attach_call hn hdf fun w s₀ s₁ mg mb fa o pm cd doc a vs ns G Y ho hdt hcd hmg hobj hints hlen hg => ?_
  obtain ⟨fd, hb, hF⟩ := F w mg fa _ (hY w _ Y) G.T.g hmg
  refine end_callT (cs := mk.map fun p => (p.2.2.1, p.2.2.2.1)) (hY w _ Y) G.T.g G.T.b G.T.builtins G.T.nolimit hg (by omega) hr G.T.bmain (fun p hp => ?_) (fun p hp => ?_) (fun p hp => ?_) hobj hints (fun base k1 k2 k3 => hF base k1 k2 fun p hp => k3 _ (List.mem_map.mpr ⟨p, hp, rfl⟩)) hb (hfb ns hlen)
  · obtain ⟨r, hr, rfl⟩ := List.mem_map.mp hp
    exact PySem.W.tab_of G.T (hY w _ Y) (hmk r hr).1 ((hmk r hr).2 w).1
  · obtain ⟨r, hr, rfl⟩ := List.mem_map.mp hp
    exact ((hmk r hr).2 w).2
  · obtain ⟨r, hr, rfl⟩ := List.mem_map.mp hp
    exact ⟨_, List.mem_map.mpr ⟨r, hr, rfl⟩, rfl⟩
end DE
namespace DE
open PyProof.Rows PySem.Spec PySem L2
/-! ### a dict of texts that the module holds: X.get(e, d) -/
def kvsOf : List DictEntry → Option (List (Str × Str))
  | [] => some []
  | e :: r => match e.key, e.val, kvsOf r with
    | .str k _, .str v _, some l => some ((k, v) :: l)
    | _, _, _ => none
theorem kvs_find : ∀ {l : List DictEntry} {kvs : List (Str × Str)}, kvsOf l = some kvs → ∀ z : Str, l.any (·.refKey) = false ∧ ((l.find? (·.key.isStr z) = none ∧ kvs.lookup z = none) ∨ ∃ e v t, l.find? (·.key.isStr z) = some e ∧ e.val = .str v t ∧ kvs.lookup z = some v)
  | [], kvs, h, z => by
    cases h
    exact ⟨rfl, .inl ⟨rfl, rfl⟩⟩
  | e :: r, kvs, h, z => by
    unfold kvsOf at h
    split at h
    · rename_i k t v t' l hk hv hl
      cases h
      obtain ⟨a, b⟩ := kvs_find hl z
      refine ⟨by rw [List.any_cons, a]; simp [DictEntry.refKey, hk], ?_⟩
      by_cases c : z = k
      · subst c
        exact .inr ⟨e, v, t', by rw [List.find?_cons]; simp [hk, Value.isStr], hv, by simp [List.lookup]⟩
      · have c1 : e.key.isStr z = false := by simp [hk, Value.isStr]; exact fun w => c w.symm
        have c2 : (z == k) = false := by simpa using c
        rw [List.find?_cons, c1]
        simp only [List.lookup, c2]
        exact b
    · cases h
/-- the dict under its name -/
def CstD (K : PySem.W.Frag) (w : World) (mg : Str → Option Value) (x : Str) (kvs : List (Str × Str)) : Prop := ∃ d es n, mg x = some (.ref d) ∧ KDict K w d es n ∧ kvsOf es.toList = some kvs
def pickKv (kvs : List (Str × Str)) (s : Str) (z : V) : V := match kvs.lookup s with
  | some v => .str v
  | none => z
section
variable {X : Cx} {Γ : Gam} {W : WX} {e f : Expr} {te tf : TE} {x : Str} {p apos cpos : Pos} {kvs : List (Str × Str)}
theorem pe_getK (D : CstD X.K X.w X.mg x kvs) (hg : Gl X x) (he : PE X e te) (hf : PE X f tf) (m : M2 X (.Name x p) "get" apos e f cpos) (hdb : (x == ("__debug__" : Str)) = false := by decide) :
    PE X (.Call (.Attribute (.Name x p) "get" apos) [e, f] [] cpos) (fun σ H Q => te σ H fun y H1 => tf σ H1 fun z H2 => ∃ s, y = .str s ∧ Q (pickKv kvs s z) H2) := by
  obtain ⟨d, es, n, hm, D, hv⟩ := D
  refine ⟨fun pins s σ H Q I h => ?_⟩; have mp : ∀ {s : Shared} {σ : L2.St} {H : Hp}, L2.Inv X pins σ H s → s.heap.MapOf (strKind X.prog X.w) d (fun k => PySem.findBy Value.isStrOf es k) := fun I => PySem.W.mapOf_K (prog := X.prog) (w := X.w) I.kIn D.at_ D.lit
  refine wpAny_Call_method m.base m.few m.line PySem.F.plainAttrs_dict PySem.F.slot_dict_get PySem.F.type_dict_get (ld_glob I hg hm ⟨(mp I).typeIs, fun b q => ?_, ?_⟩ hdb)
  · cases q
    exact ⟨_, I.kIn _ _ D.at_, rfl⟩
  rw [m.trees]
  refine Calls.callWith_builtin rfl (Calls.evalArgs_plain (Calls.spliced_cons (thn (he.run pins s σ H _ I h) fun iv s2 ⟨y, H2, I2, ry, q2⟩ => Calls.spliced_cons (thn (hf.run pins s2 σ H2 _ I2 q2) fun fv s3 ⟨z, H3, I3, rz, q3⟩ => Calls.spliced_nil ?_))))
  obtain ⟨sx, rfl, q3⟩ := q3
  obtain ⟨t, rfl⟩ := ry
  refine call_meetsIn PySem.F.slot_dict_get (mp I3).typeIs PySem.F.entry_dict_get (PySem.F.args_dict_get_3 _ _ _) (meets_dict_get_default (strKind X.prog X.w) d (PySem.strKind_is X.prog X.w sx t) D.low fv) ⟨_, mp I3, ?_⟩
  obtain ⟨hr, hk⟩ := kvs_find hv sx
  have hn : PySem.W.nsIn X.K d sx = some ((es.toList.find? (·.key.isStr sx)).map (·.val)) := by
    unfold PySem.W.nsIn
    rw [D.at_]
    dsimp only
    rcases hk with ⟨hk, _⟩ | ⟨e, v, t', hk, _, _⟩
    · rw [hk]; simp [hr]
    · rw [hk]; rfl
  rw [PySem.W.find_K D.at_ hn]
  unfold pickKv at q3
  rcases hk with ⟨hk, hl⟩ | ⟨e, v, t', hk, hval, hl⟩
  · rw [hl] at q3
    rw [hk]
    exact ⟨z, H3, I3.tok _, rz, q3⟩
  · rw [hl] at q3
    rw [hk]
    refine ⟨.str v, H3, I3.tok _, ?_, q3⟩
    show RelV (.str v) e.val
    rw [hval]
    exact ⟨t', rfl⟩
/-- X.get(e, d) -/
def fGetK (kvs : List (Str × Str)) (fe fd : Mo D) : Mo D := bd fe fun a => bd fd fun b => match a with
  | .str s => match kvs.lookup s with
    | some v => rt (.str v)
    | none => rt b
  | _ => stop
theorem d_getK {fe fd : Mo D} (D : CstD X.K X.w X.mg x kvs) (hg : Gl X x) (he : DX X Γ W e fe) (hf : DX X Γ W f fd) (m : M2 X (.Name x p) "get" apos e f cpos := by exact ⟨rfl, rfl, rfl, rfl⟩) (hdb : (x == ("__debug__" : Str)) = false := by decide) :
    DX X Γ W (.Call (.Attribute (.Name x p) "get" apos) [e, f] [] cpos) (fGetK kvs fe fd) :=
  (pe_getK D hg he hf m hdb).imp fun σ H Q h => h.bind fun H0 G0 a v g1 G1 H1 r1 h1 => (h1.bind (R1 := RD X.K Γ) fun b u g2 G2 H2 gr r2 h2 => by
    split at h2
    · rename_i s
      cases r1
      refine ⟨s, rfl, ?_⟩
      unfold pickKv
      split at h2
      · rename_i v hl
        exact h2.here (.str v)
      · exact h2.here r2
    · exact h2.stop).g
end
/-! ### list * int -/
def pRepL (d e : D) : Mo (List D) := match d, e with
  | .lst xs, .int k => if 0 ≤ k ∧ k ≤ 1000 ∧ xs.length ≤ 100 then rt (List.replicate k.toNat xs).flatten else stop
  | _, _ => stop
def fRepL (f h : Mo D) : Mo (List D) := bd f fun d => bd h fun e => pRepL d e
section
variable {X : Cx} {Γ : Gam} {W : WX} {a b : Expr} {pos : Pos}
theorem d_repL {f h : Mo D} (ha : DX X Γ W a f) (hb : DX X Γ W b h) : DF X Γ W (.BinOp a .Mult b pos) (fRepL f h) :=
  (pe_op op_rep ha hb).imp fun σ H Q hh => hh.bind fun H0 G0 d v g1 G1 H1 r1 h1 => (h1.bind (R1 := RD X.K Γ) fun e u g2 G2 H2 gr r2 h2 => by
    unfold pRepL at h2
    split at h2
    · rename_i xs k
      split at h2
      · rename_i c
        obtain ⟨c0, c1, c2⟩ := c
        obtain ⟨l, vs, rfl, h3, h4⟩ := Dv.lst_inv r1
        cases r2
        have hl := h4.length
        refine ⟨l, k, vs, rfl, rfl, h2.1.sub _ _ (gr _ _ h3), by omega, by omega, ?_, fun p hp => h2.newO hp ((h4.mono gr).rep _)⟩
        have : vs.length * k.toNat ≤ 100 * 1000 := Nat.mul_le_mul (by omega) (by omega)
        exact Nat.le_trans this (by decide)
      · exact h2.stop
    · exact h2.stop).g
end
/-- what a def makes of the function that it calls, by its body -/
def takeM (fb : Mo D → Ms) (N : Nat) : Th → Th := fun th s => match fb (fActU th) ⟨List.replicate N .no, s⟩ with
  | some (.ret d, g) => some (.ok d, g.s)
  | some (.nx, g) => some (.ok .non, g.s)
  | some (.exc x, g) => some (.error x, g.s)
  | _ => none
end DE
namespace DE
open PyProof.Rows PySem.Spec PySem L2
/-! ### x in a list of data -/
def pInD (neg : Bool) (d e : D) : Mo D := match pyd d, pyd e with
  | some p, some (.list ps) => if (SeqAt.shaped p && SeqAt.shaped (.list ps)) = true then rt (.bl (if neg then !(ps.any fun z => PyData.eqv z p) else ps.any fun z => PyData.eqv z p)) else stop
  | _, _ => stop
section
variable {X : Cx} {Γ : Gam} {W : WX} {a b e : Expr} {es : List Expr} {pos : Pos} {k : Nat}
theorem inD_core {neg : Bool} {F : Value → Value → Sem Value} (h : OpR X F (fun x y H Q => ∃ d ds, Dp X.K H x d ∧ Dp X.K H y (.list ds) ∧ SeqAt.shaped d = true ∧ SeqAt.shaped (.list ds) = true ∧ Q (.bl (if neg then !(ds.any fun z => PyData.eqv z d) else ds.any fun z => PyData.eqv z d)) H)) : BinD X Γ W F (pInD neg) := by
  intro pins s σ H x y v u Q I rx ry ⟨H0, G0, G, gg, σ', d, e, dx, dy, q⟩
  unfold pInD at q
  split at q
  · rename_i p ps h1 h2
    split at q
    · rename_i c
      rw [Bool.and_eq_true] at c
      exact h pins s σ H _ _ v u Q I rx ry ⟨p, ps, dx.dp q.1.sub h1, dy.dp q.1.sub h2, c.1, c.2, q.here (.bl _)⟩
    · exact q.stop
  · exact q.stop
theorem units65 (r : Room k X.A) : X.A.units + 65 < cLine := by have := r.un; omega
theorem o_inD (r : Room k X.A) : BinD X Γ W (compareOp .In) (pInD false) := inD_core (op_inD (units65 r))
theorem o_ninD (r : Room k X.A) : BinD X Γ W (compareOp .NotIn) (pInD true) := inD_core (op_notInD (units65 r))
/-! ### min, max, sorted of a list of ints -/
def minL : List Int → Int
  | [] => 0
  | [x] => x
  | x :: xs => if x ≤ minL xs then x else minL xs
def maxL : List Int → Int
  | [] => 0
  | [x] => x
  | x :: xs => if maxL xs ≤ x then x else maxL xs
theorem minL_is : ∀ (xs : List Int), xs ≠ [] → minL xs ∈ xs ∧ ∀ y ∈ xs, minL xs ≤ y
  | [], h => absurd rfl h
  | [x], _ => ⟨by simp [minL], by simp [minL]⟩
  | x :: y :: xs, _ => by
    obtain ⟨h1, h2⟩ := minL_is (y :: xs) (by simp)
    unfold minL
    split
    · rename_i c
      refine ⟨List.mem_cons_self, fun z hz => ?_⟩; rcases List.mem_cons.mp hz with rfl | hz
      · exact Int.le_refl _
      · exact Int.le_trans c (h2 z hz)
    · rename_i c
      refine ⟨List.mem_cons_of_mem _ h1, fun z hz => ?_⟩; rcases List.mem_cons.mp hz with rfl | hz
      · omega
      · exact h2 z hz
theorem maxL_is : ∀ (xs : List Int), xs ≠ [] → maxL xs ∈ xs ∧ ∀ y ∈ xs, y ≤ maxL xs
  | [], h => absurd rfl h
  | [x], _ => ⟨by simp [maxL], by simp [maxL]⟩
  | x :: y :: xs, _ => by
    obtain ⟨h1, h2⟩ := maxL_is (y :: xs) (by simp)
    unfold maxL
    split
    · rename_i c
      refine ⟨List.mem_cons_self, fun z hz => ?_⟩; rcases List.mem_cons.mp hz with rfl | hz
      · exact Int.le_refl _
      · exact Int.le_trans (h2 z hz) c
    · rename_i c
      refine ⟨List.mem_cons_of_mem _ h1, fun z hz => ?_⟩; rcases List.mem_cons.mp hz with rfl | hz
      · omega
      · exact h2 z hz
def insI (x : Int) : (List Int → List Int)
  | [] => [x]
  | y :: ys => if x ≤ y then x :: y :: ys else y :: insI x ys
def sortI : List Int → List Int
  | [] => []
  | x :: xs => insI x (sortI xs)
theorem insI_perm (x : Int) : ∀ ys : List Int, (insI x ys).Perm (x :: ys)
  | [] => .refl _
  | y :: ys => by
    unfold insI
    split
    · exact .refl _
    · exact ((insI_perm x ys).cons y).trans (.swap x y ys)
theorem insI_sorted (x : Int) : ∀ ys : List Int, ys.Pairwise (· ≤ ·) → (insI x ys).Pairwise (· ≤ ·)
  | [], _ => by simp [insI]
  | y :: ys, h => by
    unfold insI; obtain ⟨h1, h2⟩ := List.pairwise_cons.mp h
    split
    · rename_i c
      refine List.pairwise_cons.mpr ⟨fun z hz => ?_, h⟩; rcases List.mem_cons.mp hz with rfl | hz
      · exact c
      · exact Int.le_trans c (h1 z hz)
    · rename_i c
      refine List.pairwise_cons.mpr ⟨fun z hz => ?_, insI_sorted x ys h2⟩
      rcases List.mem_cons.mp ((insI_perm x ys).mem_iff.mp hz) with rfl | hz
      · omega
      · exact h1 z hz
theorem sortI_perm : ∀ xs : List Int, (sortI xs).Perm xs
  | [] => .refl _
  | x :: xs => (insI_perm x (sortI xs)).trans ((sortI_perm xs).cons x)
theorem sortI_sorted : ∀ xs : List Int, (sortI xs).Pairwise (· ≤ ·)
  | [] => .nil
  | x :: xs => insI_sorted x _ (sortI_sorted xs)
theorem sorted_one : ∀ {xs ys : List Int}, xs.Perm ys → xs.Pairwise (· ≤ ·) → ys.Pairwise (· ≤ ·) → xs = ys
  | [], ys, p, _, _ => p.nil_eq
  | x :: xs, [], p, _, _ => absurd p.length_eq (by simp)
  | x :: xs, y :: ys, p, h1, h2 => by
    obtain ⟨a1, a2⟩ := List.pairwise_cons.mp h1
    obtain ⟨b1, b2⟩ := List.pairwise_cons.mp h2
    have e : x = y := by
      have m1 : x ∈ y :: ys := p.mem_iff.mp List.mem_cons_self
      have m2 : y ∈ x :: xs := p.mem_iff.mpr List.mem_cons_self
      rcases List.mem_cons.mp m1 with z | z
      · exact z
      · rcases List.mem_cons.mp m2 with w | w
        · exact w.symm
        · have := b1 x z; have := a1 y w; omega
    subst e
    rw [sorted_one (p.cons_inv) a2 b2]
def fMin (f : Mo D) : Mo D := bd f fun d => match d with
  | .lst xs => match intsOf xs with
    | some (y :: ys) => rt (.int (minL (y :: ys)))
    | _ => stop
  | _ => stop
def fMax (f : Mo D) : Mo D := bd f fun d => match d with
  | .lst xs => match intsOf xs with
    | some (y :: ys) => rt (.int (maxL (y :: ys)))
    | _ => stop
  | _ => stop
def fSorted (f : Mo D) : Mo (List D) := bd f fun d => match d with
  | .lst xs => match intsOf xs with
    | some ys => rt ((sortI ys).map .int)
    | none => stop
  | _ => stop
theorem known_ints {K : PySem.W.Frag} {G H : Hp} {v : V} {xs : List D} {ys : List Int} (h : Dv K Γ G v (.lst xs)) (e : intsOf xs = some ys) (s : Gr G H) : ∃ l, v = .ref l ∧ H l = some (.lst (ys.map V.int)) := by
  obtain ⟨l, vs, rfl, h3, h4⟩ := h.lst_inv
  rw [intsOf_eq e] at h4
  rw [dva_ints' h4] at h3
  exact ⟨l, rfl, s _ _ h3⟩
theorem d_min {x : Str} {p : Pos} {f : Mo D} (hc : X.calm = true) (ha : DX X Γ W e f) (hg : Gl X x) (hm : X.mg x = none) (hv : bootBuiltins x = some (.builtin "min")) (hn : x ≠ "__name__" := by decide) (hdb : (x == ("__debug__" : Str)) = false := by decide)
    (hs : starEach [e] X.env = (false, eval e X.env) :: starEach [] X.env := by rfl) (hpl : (backTo pos (starEach [] X.env)).any (·.1) = false := by rfl) : DX X Γ W (.Call (.Name x p) [e] [] pos) (fMin f) :=
  (pe_callB (cr_min hc) hg hm hv (pa_cons ha pa_nil hs) hn hdb hs hpl).imp fun σ H Q h => h.bind fun H0 G0 d v g1 G1 H1 r1 h1 => by
    split at h1
    · rename_i xs
      split at h1
      · rename_i y ys hi
        obtain ⟨l, rfl, hl⟩ := known_ints r1 hi h1.1.sub
        refine ⟨l, y :: ys, rfl, SqL.of hl, by simp, fun m h2 h3 => ?_⟩
        obtain ⟨k1, k2⟩ := minL_is (y :: ys) (by simp)
        have : m = minL (y :: ys) := by have := h3 _ k1; have := k2 _ h2; omega
        rw [this]
        exact h1.here (.int _)
      · exact h1.stop
    · exact h1.stop
theorem d_max {x : Str} {p : Pos} {f : Mo D} (hc : X.calm = true) (ha : DX X Γ W e f) (hg : Gl X x) (hm : X.mg x = none) (hv : bootBuiltins x = some (.builtin "max")) (hn : x ≠ "__name__" := by decide) (hdb : (x == ("__debug__" : Str)) = false := by decide)
    (hs : starEach [e] X.env = (false, eval e X.env) :: starEach [] X.env := by rfl) (hpl : (backTo pos (starEach [] X.env)).any (·.1) = false := by rfl) : DX X Γ W (.Call (.Name x p) [e] [] pos) (fMax f) :=
  (pe_callB (cr_max hc) hg hm hv (pa_cons ha pa_nil hs) hn hdb hs hpl).imp fun σ H Q h => h.bind fun H0 G0 d v g1 G1 H1 r1 h1 => by
    split at h1
    · rename_i xs
      split at h1
      · rename_i y ys hi
        obtain ⟨l, rfl, hl⟩ := known_ints r1 hi h1.1.sub
        refine ⟨l, y :: ys, rfl, SqL.of hl, by simp, fun m h2 h3 => ?_⟩
        obtain ⟨k1, k2⟩ := maxL_is (y :: ys) (by simp)
        have : m = maxL (y :: ys) := by have := h3 _ k1; have := k2 _ h2; omega
        rw [this]
        exact h1.here (.int _)
      · exact h1.stop
    · exact h1.stop
theorem d_sorted {x : Str} {p : Pos} {f : Mo D} (ha : DX X Γ W e f) (hg : Gl X x) (hm : X.mg x = none) (hv : bootBuiltins x = some (.builtin "sorted")) (hn : x ≠ "__name__" := by decide) (hdb : (x == ("__debug__" : Str)) = false := by decide)
    (hs : starEach [e] X.env = (false, eval e X.env) :: starEach [] X.env := by rfl) (hpl : (backTo pos (starEach [] X.env)).any (·.1) = false := by rfl) : DF X Γ W (.Call (.Name x p) [e] [] pos) (fSorted f) :=
  (pe_callB cr_sortedI hg hm hv (pa_cons ha pa_nil hs) hn hdb hs hpl).imp fun σ H Q h => h.bind fun H0 G0 d v g1 G1 H1 r1 h1 => by
    split at h1
    · rename_i xs
      split at h1
      · rename_i ys hi
        obtain ⟨l, rfl, hl⟩ := known_ints r1 hi h1.1.sub
        refine ⟨l, ys, rfl, SqL.of hl, fun ns p h2 h3 hp => ?_⟩
        have : ns = sortI ys := sorted_one (h2.trans (sortI_perm ys).symm) h3 (sortI_sorted ys)
        rw [this]
        exact h1.newO hp (dva_ints _)
      · exact h1.stop
    · exact h1.stop
/-! ### an item of a list that a name holds, by a number of the text -/
def fIxC (f : Mo (List D)) (i : Int) : Mo D := bd f fun ds => match atI ds i with
  | some d => rt d
  | none => stop
theorem pc_int {i : Int} {j : Nat} {p : Pos} : PE X (.Constant (.int i) j p) (fun σ H Q => Q (.int i) H) := pe_int
theorem pc_neg {i : Int} {j : Nat} {p : Pos} : PE X (.UnaryOp .USub (.Constant (.int i) j p) pos) (fun σ H Q => Q (.int (-i)) H) := (pe_un un_neg pe_int).imp fun σ H Q h => ⟨_, rfl, h⟩
theorem d_ixC {f : Mo (List D)} {i : Int} (ha : DP X Γ W a f) (hb : PE X b (fun σ H Q => Q (.int i) H)) (hs : PlainIx b) : DX X Γ W (.Subscript a b pos) (fIxC f i) :=
  (pe_ix (ix_list.or ix_tup) ha hb hs).imp fun σ H Q h => h.bind fun H0 G0 ds v g1 G1 H1 r1 h1 => by
    obtain ⟨l, vs, rfl, h3, h4⟩ := r1
    split at h1
    · rename_i d hd
      obtain ⟨w, hw, dw⟩ := atI_dv h4 hd
      rcases h3 with h3 | h3
      · exact .inl ⟨l, vs, _, w, rfl, rfl, h3, hw, h1.here dw⟩
      · exact .inr ⟨l, vs, _, w, rfl, rfl, h1.1.sub.sqT h3, hw, h1.here dw⟩
    · exact h1.stop
end
end DE
namespace DE
open PyProof.Rows PySem.Spec PySem L2
/-! ### dict displays with texts as keys -/
def putKD (kvs : List (Key × D)) (k : Key) (d : D) : List (Key × D) := if (kvs.any fun kv => decide (kv.1 = k)) = true then kvs.map (fun kv => if kv.1 = k then (kv.1, d) else kv) else kvs ++ [(k, d)]
def mergeKD (kvs more : List (Key × D)) : List (Key × D) := more.foldl (fun acc kv => putKD acc kv.1 kv.2) kvs
def valD (kvs : List (Key × D)) (k : Key) : Option D := (kvs.find? fun kv => decide (kv.1 = k)).map (·.2)
section
variable {K : PySem.W.Frag} {Γ : Gam} {G : Hp}
theorem DvK.any (k : Key) : ∀ {vs : List (Key × V)} {ds : List (Key × D)}, DvK K Γ G vs ds → (vs.any fun kv => decide (kv.1 = k)) = (ds.any fun kv => decide (kv.1 = k))
  | _, _, .nil => rfl
  | _, _, .cons h t => by simp only [List.any_cons, DvK.any k t]
theorem DvK.snoc {k : Key} {v : V} {d : D} (hv : Dv K Γ G v d) : ∀ {vs : List (Key × V)} {ds : List (Key × D)}, DvK K Γ G vs ds → DvK K Γ G (vs ++ [(k, v)]) (ds ++ [(k, d)])
  | _, _, .nil => .cons hv .nil
  | _, _, .cons h t => .cons h (DvK.snoc hv t)
theorem DvK.over {k : Key} {v : V} {d : D} (hv : Dv K Γ G v d) : ∀ {vs : List (Key × V)} {ds : List (Key × D)}, DvK K Γ G vs ds → DvK K Γ G (vs.map fun kv => if kv.1 = k then (kv.1, v) else kv) (ds.map fun kv => if kv.1 = k then (kv.1, d) else kv)
  | _, _, .nil => .nil
  | _, _, .cons (k := k1) h t => by
    simp only [List.map_cons]
    by_cases c : k1 = k
    · rw [if_pos c, if_pos c]; exact .cons hv (DvK.over hv t)
    · rw [if_neg c, if_neg c]; exact .cons h (DvK.over hv t)
theorem DvK.put {k : Key} {v : V} {d : D} {vs : List (Key × V)} {ds : List (Key × D)} (h : DvK K Γ G vs ds) (hv : Dv K Γ G v d) : DvK K Γ G (putK vs k v) (putKD ds k d) := by
  unfold putK putKD
  rw [h.any k]
  split
  · exact h.over hv
  · exact h.snoc hv
theorem DvK.merge : ∀ {ms : List (Key × V)} {es : List (Key × D)} {vs : List (Key × V)} {ds : List (Key × D)}, DvK K Γ G ms es → DvK K Γ G vs ds → DvK K Γ G (mergeK vs ms) (mergeKD ds es)
  | _, _, _, _, .nil, h => h
  | _, _, vs, ds, .cons (k := k) (v := v) (d := d) h t, h2 => (DvK.merge t (h2.put h) : DvK K Γ G (mergeK (putK vs k v) _) (mergeKD (putKD ds k d) _))
theorem DvK.len : ∀ {vs : List (Key × V)} {ds : List (Key × D)}, DvK K Γ G vs ds → vs.length = ds.length
  | _, _, .nil => rfl
  | _, _, .cons _ t => congrArg Nat.succ (DvK.len t)
theorem DvK.val (k : Key) : ∀ {vs : List (Key × V)} {ds : List (Key × D)}, DvK K Γ G vs ds → (valV vs k = none ∧ valD ds k = none) ∨ ∃ v d, valV vs k = some v ∧ valD ds k = some d ∧ Dv K Γ G v d
  | _, _, .nil => .inl (And.intro rfl rfl)
  | _, _, .cons (k := k1) (v := v) (d := d) h t => by
    by_cases c : k1 = k
    · exact .inr ⟨v, d, by simp [valV, List.find?_cons, c], by simp [valD, List.find?_cons, c], h⟩
    · have a : ∀ {vs : List (Key × V)}, valV ((k1, v) :: vs) k = valV vs k := by simp [valV, List.find?_cons, c]
      have b : ∀ {ds : List (Key × D)}, valD ((k1, d) :: ds) k = valD ds k := by simp [valD, List.find?_cons, c]
      rw [a, b]
      exact DvK.val k t
end
def RK (K : PySem.W.Frag) (Γ : Gam) : Rel (List (V × V)) (List (Key × D)) := fun _ G _ _ _ ps ds => ∃ kvs : List (Key × V), ps = kvs.map (fun kv => (kV kv.1, kv.2)) ∧ DvK K Γ G kvs ds
def fPairs : List (Str × Mo D) → Mo (List (Key × D))
  | [] => rt []
  | (k, f) :: r => bd f fun d => bd (fPairs r) fun ps => rt ((Sum.inr k, d) :: ps)
def fDisp (l : List (Str × Mo D)) : Mo D := bd (fPairs l) fun ps => if ps.length ≤ 15 then rt (.dic (mergeKD [] ps)) else stop
def DPs (X : Cx) (Γ : Gam) (W : WX) (pos : Pos) (keys : List (Option Expr)) (values : List Expr) (f : Mo (List (Key × D))) : Prop :=
  ∃ trs, PPs X pos keys values trs ∧ ∀ σ H Q, tG X.K Γ W (RK X.K Γ) f σ H Q → tPairs trs σ H Q
section
variable {X : Cx} {Γ : Gam} {W : WX} {e : Expr} {pos : Pos} {keys : List (Option Expr)} {values : List Expr}
theorem dps_nil : DPs X Γ W pos [] [] (fPairs []) := ⟨[], pps_nil, fun σ H Q ⟨H0, G0, G, g, h⟩ => h.here ⟨[], rfl, .nil⟩⟩
theorem dps_cons {k : Str} {j : Nat} {p : Pos} {f : Mo D} {l : List (Str × Mo D)} (he : DX X Γ W e f) (hr : DPs X Γ W pos keys values (fPairs l)) : DPs X Γ W pos (some (.Constant (.str k) j p) :: keys) (e :: values) (fPairs ((k, f) :: l)) := by
  obtain ⟨trs, h1, h2⟩ := hr
  refine ⟨_, pps_cons pe_str he h1, fun σ H Q h => ?_⟩
  show tG X.K Γ W (RD X.K Γ) f σ H _
  exact h.bind fun H0 G0 d v g1 G1 H1 r1 h => h2 _ _ _ (h.bind (R1 := RK X.K Γ) fun ds ps g2 G2 H2 gr r2 h => by
    obtain ⟨kvs, rfl, dk⟩ := r2
    exact h.here ⟨(Sum.inr k, v) :: kvs, rfl, .cons (r1.mono gr) dk⟩).g
/-- a new object that stood apart is known from now on -/
theorem En.grow {K : PySem.W.Frag} {H0 G0 G H : Hp} {σ : L2.St} {g : Sg} (E : En K Γ H0 G0 G H σ g) {p : Addr} {o : HO} (g1 : G p = none) (h0 : H0 p = none) (m : p ≠ Γ.M) (sf : Sf H p) (ow : ∀ (i : Nat) xs, g.r[i]? = some (Sl.own xs) → σ[i]? ≠ some (some (V.ref p))) : En K Γ H0 G0 (upd G p o) (upd H p o) σ g := by
  have T := E.touch (o := o) g1 h0 m sf ow
  have gr : Gr G (upd G p o) := Gr.upd g1
  refine ⟨T.base, fun a u h h' => ?_, E.g0.trans gr, fun a u h => ?_, by rw [upd_ne (Ne.symm m)]; exact E.gm, ?_, T.len, fun i d h => ?_, fun i xs h => ?_, T.dis, T.tb, gtU E.gt E.tb sf, fun i f c q G1 h => ?_⟩
  · have : a ≠ p := by rintro rfl; rw [h0] at h; cases h
    rw [upd_ne this]; exact E.gfr a u h h'
  · by_cases c : a = p
    · rw [c, upd_same] at h; rw [c, upd_same]; exact h
    · rw [upd_ne c] at h ⊢; exact E.sub a u h
  · exact T.st.gr gr rfl
  · obtain ⟨v, k1, k2⟩ := E.dat i d h
    exact ⟨v, k1, k2.mono gr⟩
  · obtain ⟨l, vs, k1, k2, k3, k4, k5⟩ := T.own i xs h
    have : l ≠ p := by rintro rfl; exact ow i xs h k1
    exact ⟨l, vs, k1, k2, by rw [upd_ne this]; exact k3, k4, k5.mono gr⟩
  · obtain ⟨k1, k2, k3⟩ := T.fn i f c q G1 h
    exact ⟨k1, k2, k3.trans gr⟩
theorem d_disp {l : List (Str × Mo D)} (h : DPs X Γ W pos keys values (fPairs l)) (hall : keys.all (·.isSome) = true := by rfl) (hl : keys.length = values.length := by rfl) (h0 : keys ≠ [] := by exact List.cons_ne_nil _ _) (h15 : keys.length ≤ 15 := by decide) : DX X Γ W (.Dict keys values pos) (fDisp l) := by
  obtain ⟨trs, hp, ht⟩ := h
  refine (pe_disp hp hall hl h0 h15).imp fun σ H Q ⟨H0, G0, G, g, E, r, g', eq, q⟩ p hpn => ?_
  obtain ⟨om, hM⟩ := E.hm
  have pm : p ≠ Γ.M := Ne.symm (ne_of_none hM hpn)
  have gp : G p = none := by
    cases z : G p with
    | none => rfl
    | some u => rw [E.sub _ _ z] at hpn; cases hpn
  have e0 : H0 p = none := by
    cases z : H0 p with
    | none => rfl
    | some u => obtain ⟨u', z⟩ := E.there z; rw [hpn] at z; cases z
  have E1 := E.newO (o := .dK []) hpn
  have ow : ∀ (i : Nat) xs, g.r[i]? = some (Sl.own xs) → σ[i]? ≠ some (some (V.ref p)) := fun i xs hi hs => by
    obtain ⟨l, _, k1, k2, _⟩ := E.own i xs hi
    rw [hs] at k1; cases k1; rw [k2] at hpn; cases hpn
  obtain ⟨Hr, up, dn, F, back⟩ := E1.rebase
  have hr : Hr p = some (.dK []) := dn p _ upd_same pm ow
  have okp : Γ.Ok p := ⟨pm, (sf_dK (upd_same (H := H) (a := p))).ne_tab E1.tb⟩
  refine ht σ _ _ ⟨Hr, G, G, g, F, ?_⟩
  unfold fDisp bd at eq
  cases hf : fPairs l g with
  | none => rw [hf] at eq; cases eq
  | some w =>
    obtain ⟨r1, g1⟩ := w
    rw [hf] at eq
    cases r1 with
    | error x =>
      cases eq
      exact ⟨.error x, _, rfl, fun C dd G' H' gr E' hx => q C dd G' H' gr (back _ _ _ _ E') hx⟩
    | ok ds =>
      refine ⟨.ok ds, g1, rfl, fun ps G2 H2 gr2 F2 r2 => ?_⟩
      obtain ⟨kvs, rfl, dk⟩ := r2
      dsimp only at eq
      split at eq
      · rename_i hlen
        have h2 : H2 p = some (.dK []) := F2.base p _ okp hr
        have g2 : G2 p = none := F2.gfr p _ hr gp
        have ow2 : ∀ (i : Nat) xs, g1.r[i]? = some (Sl.own xs) → σ[i]? ≠ some (some (V.ref p)) := fun i xs hi hs => by
          obtain ⟨l, _, k1, _, _, k4, _⟩ := F2.own i xs hi
          rw [hs] at k1; cases k1; rw [hr] at k4; cases k4
        cases eq
        refine ⟨h2, kvs, rfl, by rw [dk.len]; exact hlen, ?_⟩
        have E3 := (back _ _ _ _ F2).grow (o := .dK (mergeK [] kvs)) g2 e0 pm (sf_dK h2) ow2
        exact q (.ref p) _ _ (gr2.trans (Gr.upd g2)) E3 (.dic upd_same ((DvK.merge dk .nil).mono (Gr.upd g2)))
      · cases eq
/-! ### what a dict holds -/
def fDget (fd fk fx : Mo D) : Mo D := bd fd fun a => match a with
  | .dic ps => bd fk fun b => bd fx fun c => match b with
    | .str s => match valD ps (Sum.inr s) with
      | some d => rt d
      | none => rt c
    | _ => stop
  | _ => stop
def fDix (fd fk : Mo D) : Mo D := bd fd fun a => bd fk fun b => match a, b with
  | .dic ps, .str s => match valD ps (Sum.inr s) with
    | some d => rt d
    | none => stop
  | _, _ => stop
theorem Dv.dic_inv {K : PySem.W.Frag} {G : Hp} {v : V} {ps : List (Key × D)} (h : Dv K Γ G v (.dic ps)) : ∃ a vs, v = .ref a ∧ G a = some (.dK vs) ∧ DvK K Γ G vs ps := by
  cases h with
  | dic h t => exact ⟨_, _, rfl, h, t⟩
theorem d_dget {o f : Expr} {apos : Pos} {fd fk fx : Mo D} (hu : X.A.units + 1 < cLine) (ho : DX X Γ W o fd) (he : DX X Γ W e fk) (hf : DX X Γ W f fx) (m : M2 X o "get" apos e f pos := by exact ⟨rfl, rfl, rfl, rfl⟩) : DX X Γ W (.Call (.Attribute o "get" apos) [e, f] [] pos) (fDget fd fk fx) :=
  (pe_dget2 hu ho he hf m).imp fun σ H Q h => h.bind fun H0 G0 d v g1 G1 H1 r1 h1 => by
    split at h1
    · rename_i ps
      obtain ⟨a, vs, rfl, hG, dk⟩ := Dv.dic_inv r1
      refine ⟨a, rfl, .inl ⟨vs, .inl (h1.1.sub _ _ hG)⟩, (h1.bind (R1 := RD X.K Γ) fun b y g2 G2 H2 gr2 r2 h2 => (h2.bind (R1 := RD X.K Γ) fun c z g3 G3 H3 gr3 r3 h3 => ?_).g).g⟩
      split at h3
      · rename_i s
        cases r2
        have hG3 : H3 a = some (.dK vs) := h3.1.sub _ _ (gr3 _ _ (gr2 _ _ hG))
        refine ⟨_, .inl ⟨vs, Sum.inr s, .inl hG3, rfl, rfl⟩, ?_⟩
        rcases dk.val (Sum.inr s) with ⟨k1, k2⟩ | ⟨w, d, k1, k2, k3⟩
        · rw [k2] at h3; rw [k1]
          exact h3.here r3
        · rw [k2] at h3; rw [k1]
          exact h3.here ((k3.mono gr2).mono gr3)
      · exact h3.stop
    · exact h1.stop
theorem d_dix {o : Expr} {fd fk : Mo D} (hu : X.A.units + 1 < cLine) (ho : DX X Γ W o fd) (he : DX X Γ W e fk) (hs : NoSl e := by exact fun _ _ => rfl) : DX X Γ W (.Subscript o e pos) (fDix fd fk) :=
  (pe_dget hu ho he hs).imp fun σ H Q h => h.bind fun H0 G0 d v g1 G1 H1 r1 h1 => (h1.bind (R1 := RD X.K Γ) fun b y g2 G2 H2 gr2 r2 h2 => by
    split at h2
    · rename_i ps s
      obtain ⟨a, vs, rfl, hG, dk⟩ := Dv.dic_inv r1
      cases r2
      have hG2 : H2 a = some (.dK vs) := h2.1.sub _ _ (gr2 _ _ hG)
      rcases dk.val (Sum.inr s) with ⟨k1, k2⟩ | ⟨w, d, k1, k2, k3⟩
      · rw [k2] at h2; exact h2.stop
      · rw [k2] at h2
        exact ⟨a, w, rfl, .inl ⟨vs, Sum.inr s, .inl hG2, rfl, k1.symm⟩, h2.here (k3.mono gr2)⟩
    · exact h2.stop).g
end
end DE
namespace DE
open PyProof.Rows PySem.Spec PySem L2
/-! ### a comprehension over range(n) -/
def fCompR (vs : List Nat) (fi : Mo (List D)) (t : Mt) (c : Mo Bool) (e : Mo D) : Mo (List D) := bd fi fun ds => match ds with
  | [.int n] => if n ≤ 100000 ∧ -100000 ≤ n then compF vs t c e (intsD n) else stop
  | _ => stop
theorem intsD_len (n : Int) : (intsD n).length = n.toNat := by unfold intsD; simp
theorem intsD_at {n : Int} {i : Nat} (h : i < n.toNat) : (intsD n).drop i = .int (i : Int) :: (intsD n).drop (i + 1) := by
  have e : (intsD n)[i]? = some (.int (i : Int)) := by
    unfold intsD
    rw [List.getElem?_map, List.getElem?_range h]; rfl
  obtain ⟨hl, e⟩ := List.getElem?_eq_some_iff.mp e
  rw [← e]
  exact List.drop_eq_getElem_cons hl
theorem lcR_read {K : PySem.W.Frag} {Γ : Gam} {W : WX} {fi : Mo (List D)} {t : Mt} {c : Mo Bool} {e : Mo D} {gt : TG} {js vs : List Nat} (hj : ∀ j ∈ js, j ∈ vs)
    (kg : ∀ (v : V) (σ : L2.St) (H : Hp) (Q : L2.St → Hp → Prop) (H0 G0 G : Hp) (g g' : Sg) (d : D), En K Γ H0 G0 G H σ g → Dv K Γ G v d → t d g = some g' → (∀ σ', En K Γ H0 G0 G H σ' g' → (σ'.length = σ.length ∧ ∀ i, i ∉ js → σ'[i]? = σ[i]?) → Q σ' H) → gt v σ H Q)
    {σ : L2.St} {H : Hp} {Q : VK} (h : tG K Γ W (RF K Γ) (fCompR vs fi t c e) σ H Q) : tLc (iRng1 (tG K Γ W (RA K Γ) fi)) gt (tG K Γ Wn RB c) (tG K Γ Wn (RD K Γ) e) vs σ H Q :=
  h.bind fun H0 G0 ds xs g1 G1 H1 r1 h1 => by
    split at h1
    · rename_i n
      split at h1
      · rename_i hn
        obtain ⟨rfl⟩ : xs = [V.int n] := by
          cases r1 with
          | cons a b => cases a; cases b; rfl
        refine ⟨n, rfl, by omega, by omega, fun Dl hD => ?_⟩
        obtain ⟨out, ge, hm, c0, fin⟩ := comp_start h1 hD
        refine lc_range (lo := 0) (n := n.toNat) (fun i H2 => CI K Γ H0 G0 G1 (L2.wipe σ vs) vs t c e out ge Dl ((intsD n).drop i) (intsD n).length H2) c0 (fun i H2 hi C => ?_) (fun H2 C => ?_)
        · rw [intsD_at hi] at C
          have dv : Dv K Γ G1 (.int (0 + (i : Int))) (.int (i : Int)) := by rw [Int.zero_add]; exact .int _
          exact comp_turn hm hj C dv kg
        · have : (intsD n).drop n.toNat = [] := by rw [← intsD_len, List.drop_length]
          rw [this] at C
          exact fin H2 C
      · exact h1.stop
    · exact h1.stop
section
variable {X : Cx} {Γ : Gam} {W : WX} {a b elt tg : Expr} {ifs : List Expr} {scope : Scope} {own : List (Str × Nat)} {pos p2 : Pos}
theorem d_compR {p : Pos} {fi : Mo (List D)} {t : Mt} {c : Mo Bool} {e : Mo D} {gt : TG} {js : List Nat} (hc : X.calm = true) (hN : X.N.Nodup) (hi : DA X Γ W [a] fi) (ok : BlkOk X.N X.env.scope scope own) (hj : ∀ j ∈ js, j ∈ own.map (·.2)) (k : CompOk X Γ elt tg ifs scope gt js t c e) (hg : Gl X "range") (hm : X.mg "range" = none)
    (hs : ∀ x, foldedSetIterable (.Call (.Name "range" p) [a] [] p2) X.env x = pure x := by intro _; rfl) (h1 : starEach [a] X.env = [(false, eval a X.env)] := by rfl) : DF X Γ W (.ListComp elt [⟨tg, .Call (.Name "range" p) [a] [] p2, ifs, 0⟩] scope pos) (fCompR (own.map (·.2)) fi t c e) := by
  have kg := k.sem
  obtain ⟨pg, kt, ke⟩ := k
  exact (pe_lc hc hN (pi_range1 hg hm hi h1) ok (fun s H C cl fp => (pg s H C cl fp).1) kt ke hs).imp fun σ H Q h => lcR_read hj kg h
end
/-! ### a, b = x, [..] and a, b, c = x, y, [..] -/
theorem Fre.set {K : PySem.W.Frag} {Γ : Gam} {H0 G H : Hp} {σ : L2.St} {g : Sg} {u : V} {ys : List D} (h : Fre K Γ H0 G H σ g u ys) (i : Nat) (v : V) (d : D) : Fre K Γ H0 G H (σ.set i (some v)) ⟨g.r.set i (.dat d), g.s⟩ u ys := by
  obtain ⟨p, vs, rfl, q1, q2, q3, q4, q5⟩ := h.at_
  refine ⟨p, vs, rfl, q1, q2, q3, q4, fun l zs hl hs => ?_⟩
  by_cases z : l = i
  · subst z
    have il : l < g.r.length := by have := (List.getElem?_eq_some_iff.mp hl).1; simpa using this
    rw [List.getElem?_set_self il] at hl; cases hl
  · rw [List.getElem?_set_ne (Ne.symm z)] at hl hs
    exact q5 l zs hl hs
def fPar3 (i j l : Nat) (f h : Mo D) (k : Mo (List D)) : Ms := sb f fun d => sb h fun e => sb k fun ys g => some (.nx, ⟨((g.r.set i (.dat d)).set j (.dat e)).set l (.own ys), g.s⟩)
section
variable {X : Cx} {Γ : Gam} {W : WX} {a b c : Expr} {pos pt pt2 px py pz : Pos} {kt k2 : Nat}
theorem s_parDO {i j : Nat} {x y : Str} {f : Mo D} {h : Mo (List D)} (hc : X.calm = true) (hN : X.N.Nodup) (ha : DX X Γ W a f) (hb : DF X Γ W b h) (hi : X.N[i]? = some x := by rfl) (hj : X.N[j]? = some y := by rfl) (hij : i ≠ j := by decide)
    (hx : X.env.scope.names.lookup x = some .local := by rfl) (hy : X.env.scope.names.lookup y = some .local := by rfl) (h1 : starEach [a, b] X.env = (false, eval a X.env) :: starEach [b] X.env := by rfl) (h2 : starEach [b] X.env = (false, eval b X.env) :: starEach [] X.env := by rfl)
    (hw : swappedStores [.Tuple [.Name x px, .Name y py] kt pt] (.Tuple [a, b] k2 pt2) X.env = pure (some [x, y]) := by rfl)
    (hs : swapsWithSole [.Tuple [.Name x px, .Name y py] kt pt] (.Tuple [a, b] k2 pt2) pos.line X.env = pure false := by rfl) : DS_ X Γ W (.Assign [.Tuple [.Name x px, .Name y py] kt pt] (.Tuple [a, b] k2 pt2) pos) (fParDO i j f h) :=
  (ps_par hc hN hi hj hij hx hy (pa_cons ha (pa_cons hb pa_nil h2) h1) hw hs).imp fun Ds σ H hh => hh.bind fun H0 G0 d v g1 G1 H1 r1 t1 => (t1.bind (R1 := RF X.K Γ) fun e u g2 G2 H2 _ gr2 r2 t2 =>
    ⟨v, u, rfl, t2.next rfl (Gr.refl _) ((t2.1.set i (Dv.mono gr2 r1)).setO j (r2.set i v d))⟩).g
theorem s_par3 {i j l : Nat} {x y z : Str} {f h : Mo D} {k : Mo (List D)} (hc : X.calm = true) (hN : X.N.Nodup) (ha : DX X Γ W a f) (hb : DX X Γ W b h) (hk : DF X Γ W c k) (hi : X.N[i]? = some x := by rfl) (hj : X.N[j]? = some y := by rfl) (hl : X.N[l]? = some z := by rfl) (hij : i ≠ j := by decide) (hil : i ≠ l := by decide) (hjl : j ≠ l := by decide)
    (hx : X.env.scope.names.lookup x = some .local := by rfl) (hy : X.env.scope.names.lookup y = some .local := by rfl) (hz : X.env.scope.names.lookup z = some .local := by rfl) (h1 : starEach [a, b, c] X.env = (false, eval a X.env) :: starEach [b, c] X.env := by rfl) (h2 : starEach [b, c] X.env = (false, eval b X.env) :: starEach [c] X.env := by rfl) (h3 : starEach [c] X.env = (false, eval c X.env) :: starEach [] X.env := by rfl)
    (hw : swappedStores [.Tuple [.Name x px, .Name y py, .Name z pz] kt pt] (.Tuple [a, b, c] k2 pt2) X.env = pure (some [x, y, z]) := by rfl)
    (hs : swapsWithSole [.Tuple [.Name x px, .Name y py, .Name z pz] kt pt] (.Tuple [a, b, c] k2 pt2) pos.line X.env = pure false := by rfl) : DS_ X Γ W (.Assign [.Tuple [.Name x px, .Name y py, .Name z pz] kt pt] (.Tuple [a, b, c] k2 pt2) pos) (fPar3 i j l f h k) :=
  (ps_par3 hc hN hi hj hl hij hil hjl hx hy hz (pa_cons ha (pa_cons hb (pa_cons hk pa_nil h3) h2) h1) hw hs).imp fun Ds σ H hh => hh.bind fun H0 G0 d v g1 G1 H1 r1 t1 => (t1.bind (R1 := RD X.K Γ) fun e u g2 G2 H2 _ gr2 r2 t2 => (t2.bind (R1 := RF X.K Γ) fun ys w g3 G3 H3 _ gr3 r3 t3 =>
    ⟨v, u, w, rfl, t3.next rfl (Gr.refl _) (((t3.1.set i ((Dv.mono gr2 r1).mono gr3)).set j (Dv.mono gr3 r2)).setO l ((r3.set i v d).set j u e))⟩).g).g
end
/-! ### constants of the module: tuples of all sorts -/
inductive Cv (K : PySem.W.Frag) : Value → V → D → Prop
  | bl (b : Bool) : Cv K (.bool b) (.bl b) (.bl b)
  | int (i : Int) (t : Tok) : Cv K (.int i t) (.int i) (.int i)
  | str (s : Str) (t : Tok) : Cv K (.str s t) (.str s) (.str s)
  | tup {r : Addr} {od : Option Addr} {it : Array Value} {n : Nat} {sl : Array (Option Value)} {vs : List V} {ds : List D} : K.lookup r = some ⟨.type "tuple", od, .seq it n, sl⟩ → it.size ≤ 1000 → Vals vs it.toList → (∀ Γ G, DvA K Γ G vs ds) → Cv K (.ref r) (.ref r) (.tup ds)
theorem Cv.rel {K : PySem.W.Frag} {u : Value} {v : V} {d : D} (h : Cv K u v d) : RelV v u := by
  cases h with
  | bl b => rfl
  | int i t => exact ⟨t, rfl⟩
  | str s t => exact ⟨t, rfl⟩
  | tup _ _ _ _ => rfl
theorem Cv.dv {K : PySem.W.Frag} {u : Value} {v : V} {d : D} (h : Cv K u v d) (Γ : Gam) (G : Hp) : Dv K Γ G v d := by
  cases h with
  | bl b => exact .bl b
  | int i t => exact .int i
  | str s t => exact .str s
  | tup h1 h2 h3 h4 => exact .tup (.inr ⟨_, _, _, h1, rfl, rfl, Nat.le_trans h2 (by decide), h3⟩) (h4 Γ G)
inductive CvA (K : PySem.W.Frag) : List Value → List D → Prop
  | nil : CvA K [] []
  | cons {u : Value} {v : V} {d : D} {us : List Value} {ds : List D} : Cv K u v d → CvA K us ds → CvA K (u :: us) (d :: ds)
theorem CvA.get {K : PySem.W.Frag} : ∀ {us : List Value} {ds : List D}, CvA K us ds → ∃ vs, Vals vs us ∧ ∀ Γ G, DvA K Γ G vs ds
  | _, _, .nil => ⟨[], .nil, fun _ _ => .nil⟩
  | _, _, .cons h t => by
    obtain ⟨vs, h1, h2⟩ := t.get
    exact ⟨_ :: vs, .cons h.rel h1, fun Γ G => .cons (h.dv Γ G) (h2 Γ G)⟩
theorem Cv.tupA {K : PySem.W.Frag} {r : Addr} {od : Option Addr} {it : Array Value} {n : Nat} {sl : Array (Option Value)} {ds : List D} (h : K.lookup r = some ⟨.type "tuple", od, .seq it n, sl⟩) (hs : it.size ≤ 1000) (ha : CvA K it.toList ds) : Cv K (.ref r) (.ref r) (.tup ds) :=
  let ⟨_, h1, h2⟩ := ha.get; .tup h hs h1 h2
theorem cst_cv {K : PySem.W.Frag} {mg : Str → Option Value} {x : Str} {u : Value} {v : V} {d : D} (hm : mg x = some u) (h : Cv K u v d) : Cst K mg x d := ⟨v, u, hm, h.rel, fun Γ G => h.dv Γ G⟩
end DE
namespace DE
open PyProof.Rows PySem.Spec PySem L2
/-! ### a, b, c, d = x, [..], [..], 0: a tuple is made and taken apart -/
theorem Fre.newO {K : PySem.W.Frag} {Γ : Gam} {H0 G H : Hp} {σ : L2.St} {g : Sg} {u : V} {ys : List D} (h : Fre K Γ H0 G H σ g u ys) {p : Addr} {o : HO} (hp : H p = none) : Fre K Γ H0 G (upd H p o) σ g u ys := by
  obtain ⟨a, vs, rfl, q1, q2, q3, q4, q5⟩ := h.at_
  exact ⟨a, vs, rfl, by rw [upd_ne (ne_of_none q1 hp)]; exact q1, q2, q3, q4, q5⟩
theorem Fre.setO {K : PySem.W.Frag} {Γ : Gam} {H0 G0 G H : Hp} {σ : L2.St} {g : Sg} {u v : V} {xs ys : List D} (E : En K Γ H0 G0 G H σ g) (h : Fre K Γ H0 G H σ g u ys) (i : Nat) (ne : v ≠ u) : Fre K Γ H0 G H (σ.set i (some v)) ⟨g.r.set i (.own xs), g.s⟩ u ys := by
  obtain ⟨p, vs, rfl, q1, q2, q3, q4, q5⟩ := h.at_
  refine ⟨p, vs, rfl, q1, q2, q3, q4, fun l zs hl hs => ?_⟩
  by_cases z : l = i
  · subst z
    have il : l < g.r.length := by have := (List.getElem?_eq_some_iff.mp hl).1; simpa using this
    rw [List.getElem?_set_self (by rw [← E.len]; exact il)] at hs
    exact ne (Option.some.inj (Option.some.inj hs))
  · rw [List.getElem?_set_ne (Ne.symm z)] at hl hs
    exact q5 l zs hl hs
section
variable {Γ : Gam} {W : WX}
theorem par_ownAt {K : PySem.W.Frag} {f h : Mo (List D)} {k : List D → List D → Ms} {Ds : Ends} {σ : L2.St} {H : Hp} {Q : V → V → Hp → Prop} {H0 G0 G : Hp} {g : Sg} (hh : tSt K Γ W (sb f fun xs => sb h (k xs)) H0 G0 G g Ds σ H)
    (hQ : ∀ G2 H2 g2 xs ys v u, Gr G G2 → Fre K Γ H0 G2 H2 σ g2 v xs → Fre K Γ H0 G2 H2 σ g2 u ys → v ≠ u → tSt K Γ W (k xs ys) H0 G0 G2 g2 Ds σ H2 → Q v u H2) :
    tG K Γ W (RF K Γ) f σ H fun v H1 => tG K Γ W (RF K Γ) h σ H1 fun u H2 => Q v u H2 :=
  ⟨H0, G0, G, g, hh.bind fun xs v g1 G1 H1 _ gr1 r1 t1 => by
    obtain ⟨E1, o, g', e, q⟩ := t1
    obtain ⟨p, vs, rfl, p1, p2, p3, p4, p5⟩ := r1.at_
    obtain ⟨Hr, up, dn, F, back⟩ := E1.rebase
    have pm : p ≠ Γ.M := by
      obtain ⟨lm, hM, _⟩ := E1.st
      rintro rfl
      rw [hM] at p1; cases p1
    have hp : Hr p = some (.lst vs) := dn p _ p1 pm fun i zs hi hs => p5 i zs hi hs
    refine ⟨Hr, G1, G1, g1, F, ?_⟩
    unfold sb at e
    cases hf : h g1 with
    | none => (rw [hf] at e); cases e
    | some w =>
      obtain ⟨rr, g2⟩ := w
      rw [hf] at e
      cases rr with
      | error x =>
        cases e
        exact ⟨.error x, _, rfl, fun C dd G' H' gr E' hx => q C dd σ G' H' gr (back _ _ _ _ E') hx⟩
      | ok ys =>
        refine ⟨.ok ys, g2, rfl, fun u G2 H2 gr2 E2 r2 => ?_⟩
        have B2 := back _ _ _ _ E2
        obtain ⟨p', vs', rfl, q1, q2, q3, q4, q5⟩ := r2.at_
        have hpq : p ≠ p' := by rintro rfl; rw [hp] at q3; cases q3
        have h0 : H0 p' = none := by
          cases z : H0 p' with
          | none => rfl
          | some u =>
            exfalso
            have ok' : p' ≠ Γ.M → Γ.Ok p' := fun _ => E2.ok_lst q1
            have pm' : p' ≠ Γ.M := by
              obtain ⟨lm, hM, _⟩ := E2.st
              rintro rfl
              rw [hM] at q1; cases q1
            have a1 := E1.base p' u (ok' pm') z
            have a2 : Hr p' = some u := dn p' u a1 pm' fun i zs hi hs => by
              obtain ⟨l, _, k1, _, _, k4, _⟩ := E1.own i zs hi
              rw [hs] at k1; cases k1; rw [k4] at z; cases z
            rw [q3] at a2; cases a2
        refine hQ G2 H2 g2 xs ys _ _ (gr1.trans gr2) ⟨p, vs, rfl, E2.base p _ (E1.ok_lst p1) hp, E2.gfr p _ hp p2, p3, p4.mono gr2, fun i zs hi hs => ?_⟩ ⟨p', vs', rfl, q1, q2, h0, q4, q5⟩ (fun z => by cases z; exact hpq rfl) ⟨B2, o, g', e, ?_⟩
        · obtain ⟨l, _, k1, _, _, k4, _⟩ := E2.own i zs hi
          rw [hs] at k1; cases k1; rw [hp] at k4; cases k4
        · cases o with
          | nx => exact fun σ2 G3 H3 gr3 => q σ2 G3 H3 (gr2.trans gr3)
          | brk => exact fun σ2 G3 H3 gr3 => q σ2 G3 H3 (gr2.trans gr3)
          | ct => exact fun σ2 G3 H3 gr3 => q σ2 G3 H3 (gr2.trans gr3)
          | ret d2 => exact fun v2 σ2 G3 H3 gr3 => q v2 σ2 G3 H3 (gr2.trans gr3)
          | exc x => exact fun C dd σ2 G3 H3 gr3 => q C dd σ2 G3 H3 (gr2.trans gr3)⟩
end
def fPar4 (i j l q : Nat) (f : Mo D) (h k : Mo (List D)) (n : Int) : Ms := sb f fun d => sb h fun xs => sb k fun ys g => some (.nx, ⟨(((g.r.set i (.dat d)).set j (.own xs)).set l (.own ys)).set q (.dat (.int n)), g.s⟩)
section
variable {X : Cx} {Γ : Gam} {W : WX} {a b c : Expr} {pos pt pt2 px py pz pw pn : Pos} {kt k2 jn : Nat}
theorem s_par4 {i j l q : Nat} {x y z t : Str} {f : Mo D} {h k : Mo (List D)} {n : Int} (hc : X.calm = true) (hN : X.N.Nodup) (ha : DX X Γ W a f) (hb : DF X Γ W b h) (hk : DF X Γ W c k)
    (hi : X.N[i]? = some x := by rfl) (hj : X.N[j]? = some y := by rfl) (hl : X.N[l]? = some z := by rfl) (hq : X.N[q]? = some t := by rfl) (hjl : j ≠ l := by decide)
    (hx : X.env.scope.names.lookup x = some .local := by rfl) (hy : X.env.scope.names.lookup y = some .local := by rfl) (hz : X.env.scope.names.lookup z = some .local := by rfl) (ht : X.env.scope.names.lookup t = some .local := by rfl)
    (h1 : starEach [a, b, c, .Constant (.int n) jn pn] X.env = (false, eval a X.env) :: starEach [b, c, .Constant (.int n) jn pn] X.env := by rfl) (h2 : starEach [b, c, .Constant (.int n) jn pn] X.env = (false, eval b X.env) :: starEach [c, .Constant (.int n) jn pn] X.env := by rfl) (h3 : starEach [c, .Constant (.int n) jn pn] X.env = (false, eval c X.env) :: starEach [.Constant (.int n) jn pn] X.env := by rfl)
    (hw : swappedStores [.Tuple [.Name x px, .Name y py, .Name z pz, .Name t pw] kt pt] (.Tuple [a, b, c, .Constant (.int n) jn pn] k2 pt2) X.env = pure none := by rfl)
    (hs : swapsWithSole [.Tuple [.Name x px, .Name y py, .Name z pz, .Name t pw] kt pt] (.Tuple [a, b, c, .Constant (.int n) jn pn] k2 pt2) pos.line X.env = pure false := by rfl)
    (he : (assignEach [.Tuple [.Name x px, .Name y py, .Name z pz, .Name t pw] kt pt] X.env).map (·.2) = [assign (.Tuple [.Name x px, .Name y py, .Name z pz, .Name t pw] kt pt) X.env] := by rfl)
    (hm : (assignEach [.Name x px, .Name y py, .Name z pz, .Name t pw] X.env).length = 4 := by rfl) (hst : (assignEach [.Name x px, .Name y py, .Name z pz, .Name t pw] X.env).findIdx? (·.1) = none := by rfl) :
    DS_ X Γ W (.Assign [.Tuple [.Name x px, .Name y py, .Name z pz, .Name t pw] kt pt] (.Tuple [a, b, c, .Constant (.int n) jn pn] k2 pt2) pos) (fPar4 i j l q f h k n) :=
  (ps_asg (pe_tup (pa_cons ha (pa_cons hb (pa_cons hk (pa_cons pe_int pa_nil) h3) h2) h1)) (pg_tup hc (pgs_cons (pg_name (i := i) hN hi (.inl hx) (hf := .inr hx)) (pgs_cons (pg_name (i := j) hN hj (.inl hy) (hf := .inr hy)) (pgs_cons (pg_name (i := l) hN hl (.inl hz) (hf := .inr hz)) (pgs_cons (pg_name (i := q) hN hq (.inl ht) (hf := .inr ht)) pgs_nil)))) hm hst) hs hw he).imp fun Ds σ H hh =>
    hh.bind fun H0 G0 d v g1 G1 H1 r1 t1 => by
      refine par_ownAt t1 fun G2 H2 g2 xs ys u w gr2 k1 k2 hne t2 => ?_
      show (_ : List V).length ≤ sizeLine ∧ _
      refine ⟨by show 4 ≤ sizeLine; decide, fun p hp => ⟨p, _, rfl, SqT.of upd_same, rfl, v, _, rfl, u, _, rfl, w, _, rfl, .int n, _, rfl, rfl, ?_⟩⟩
      have E := t2.1.newO (o := .tup [v, u, w, .int n]) hp
      have q1 := (k1.newO (o := .tup [v, u, w, .int n]) hp).set i v d
      have q2 := (k2.newO (o := .tup [v, u, w, .int n]) hp).set i v d
      have E1 := E.set i (Dv.mono gr2 r1)
      exact t2.next rfl (Gr.refl _) (((E1.setO j q1).setO l (q2.setO E1 j hne)).set q (.int n))
end
end DE
namespace DE
open PyProof.Rows PySem.Spec PySem L2
/-! ### evaluating programs over data -/
theorem kb_int_bool : kitB "int" "bool" = some false := by kernel_rfl
theorem kb_bool_bool : kitB "bool" "bool" = some true := by kernel_rfl
theorem kb_int_int : kitB "int" "int" = some true := by kernel_rfl
theorem kb_str_str : kitB "str" "str" = some true := by kernel_rfl
theorem kb_tuple_tuple : kitB "tuple" "tuple" = some true := by kernel_rfl
theorem runB_ret {f : Ms} {N n : Nat} {ds : List D} {s : DS} {d : D} {r : List Sl} {s' : DS} (hn : ds.length = n) (h : f ⟨ds.map .dat ++ List.replicate (N - n) .no, s⟩ = some (.ret d, ⟨r, s'⟩)) : runB f N n ds s = some (.ok d, s') := by
  unfold runB; rw [if_pos hn, h]
theorem runB_exc {f : Ms} {N n : Nat} {ds : List D} {s : DS} {x : Exn} {r : List Sl} {s' : DS} (hn : ds.length = n) (h : f ⟨ds.map .dat ++ List.replicate (N - n) .no, s⟩ = some (.exc x, ⟨r, s'⟩)) : runB f N n ds s = some (.error x, s') := by
  unfold runB; rw [if_pos hn, h]
section
variable {α β : Type} {f : Mo α} {g g1 g2 : Sg} {a : α} {x : Exn}
theorem bd_ok {k : α → Mo β} (h : f g = some (.ok a, g1)) : bd f k g = k a g1 := by unfold bd; rw [h]
theorem bd_er {k : α → Mo β} (h : f g = some (.error x, g1)) : bd f k g = some (.error x, g1) := by unfold bd; rw [h]
theorem sb_ok {k : α → Ms} (h : f g = some (.ok a, g1)) : sb f k g = k a g1 := by unfold sb; rw [h]
theorem sb_er {k : α → Ms} (h : f g = some (.error x, g1)) : sb f k g = some (.exc x, g1) := by unfold sb; rw [h]
end
section
variable {f k t u : Ms} {g g1 g2 : Sg} {d : D} {x : Exn} {c : Mo Bool} {e : Mo D}
theorem seq_nx (h : f g = some (.nx, g1)) : fSeq f k g = k g1 := by unfold fSeq; rw [h]
theorem seq_ret (h : f g = some (.ret d, g1)) : fSeq f k g = some (.ret d, g1) := by unfold fSeq; rw [h]
theorem seq_exc (h : f g = some (.exc x, g1)) : fSeq f k g = some (.exc x, g1) := by unfold fSeq; rw [h]
theorem if_t (h : c g = some (.ok true, g1)) : fIf c t u g = t g1 := by unfold fIf; rw [sb_ok h]; rfl
theorem if_f (h : c g = some (.ok false, g1)) : fIf c t u g = u g1 := by unfold fIf; rw [sb_ok h]; rfl
theorem ret_ok (h : e g = some (.ok d, g1)) : fRet e g = some (.ret d, g1) := by unfold fRet; rw [sb_ok h]; rfl
theorem set_ok {i : Nat} (h : e g = some (.ok d, g1)) : fSet i e g = some (.nx, ⟨g1.r.set i (.dat d), g1.s⟩) := by unfold fSet; rw [sb_ok h]
theorem name_ok {i : Nat} (h : g.r[i]? = some (.dat d)) : fName i g = some (.ok d, g) := by unfold fName; rw [h]
theorem cons_ok {fs : Mo (List D)} {ds : List D} (h1 : e g = some (.ok d, g1)) (h2 : fs g1 = some (.ok ds, g2)) : fCons e fs g = some (.ok (d :: ds), g2) := by unfold fCons; rw [bd_ok h1, bd_ok h2]; rfl
theorem call_ok {n : Nat} {gm : Fd} {fa : Mo (List D)} {ds : List D} {r : Except Exn D} {s' : DS} (h1 : fa g = some (.ok ds, g1)) (h2 : ds.length = n) (h3 : gm ds g1.s = some (r, s')) : fCallN n gm fa g = some (r, ⟨g1.r, s'⟩) := by
  unfold fCallN; rw [bd_ok h1, if_pos h2]; unfold lift; rw [h3]
end
def inW : D → List Str → Bool
  | .str s, ws => ws.contains s
  | _, _ => false
theorem flat_strs : ∀ ws : List Str, flatA (ws.map D.str) = some (ws.map V.str)
  | [] => rfl
  | w :: ws => by simp [flatA, flat1, flat_strs ws]
theorem inV_strs (x : Str) (ws : List Str) : inV (.str x) (ws.map V.str) = ws.contains x := by
  rw [Bool.eq_iff_iff]
  unfold inV
  simp only [List.any_eq_true, List.mem_map, List.contains_iff_mem]
  constructor
  · rintro ⟨_, ⟨w, hw, rfl⟩, e⟩
    have : w = x := by simpa [eqV] using e
    exact this ▸ hw
  · intro h
    exact ⟨_, ⟨x, h, rfl⟩, by simp [eqV]⟩
end DE
namespace DE
open PyProof.Rows PySem.Spec PySem L2
section
variable {α β : Type} {g g1 g2 g3 : Sg} {d d' r : D} {x : Exn} {e f h : Mo D} {b : Bool} {c : Mo Bool}
theorem t_ok (he : e g = some (.ok (.bl b), g1)) : fT e g = some (.ok b, g1) := by unfold fT; rw [bd_ok he]; rfl
theorem not_ok (he : c g = some (.ok b, g1)) : fNot c g = some (.ok (!b), g1) := by unfold fNot; rw [bd_ok he]; rfl
theorem or_t {c' : Mo Bool} (he : c g = some (.ok true, g1)) : fOr c c' g = some (.ok true, g1) := by unfold fOr; rw [bd_ok he]; rfl
theorem or_f {c' : Mo Bool} (he : c g = some (.ok false, g1)) : fOr c c' g = c' g1 := by unfold fOr; rw [bd_ok he]; rfl
theorem and_t {c' : Mo Bool} (he : c g = some (.ok true, g1)) : fAnd c c' g = c' g1 := by unfold fAnd; rw [bd_ok he]; rfl
theorem and_f {c' : Mo Bool} (he : c g = some (.ok false, g1)) : fAnd c c' g = some (.ok false, g1) := by unfold fAnd; rw [bd_ok he]; rfl
theorem andV_t (he : e g = some (.ok (.bl true), g1)) : fAndV e f g = f g1 := by unfold fAndV; rw [bd_ok he]; rfl
theorem andV_f (he : e g = some (.ok (.bl false), g1)) : fAndV e f g = some (.ok (.bl false), g1) := by unfold fAndV; rw [bd_ok he]; rfl
theorem f2_ok {p : D → D → Mo D} (h1 : e g = some (.ok d, g1)) (h2 : f g1 = some (.ok d', g2)) : f2 p e f g = p d d' g2 := by unfold f2; rw [bd_ok h1, bd_ok h2]
theorem ix_ok {i : Int} {cs : List D} (h1 : e g = some (.ok d, g1)) (h2 : f g1 = some (.ok (.int i), g2)) (hs : aSeq d = some cs) (ha : atI cs i = some r) : fIxD e f g = some (.ok r, g2) := by
  unfold fIxD; rw [bd_ok h1, bd_ok h2, hs]; unfold pIx; simp only [ha]; rfl
theorem tup_ok {fs : Mo (List D)} {ds : List D} (h1 : fs g = some (.ok ds, g1)) (hl : ds.length ≤ 100000) : fTup fs g = some (.ok (.tup ds), g1) := by unfold fTup; rw [bd_ok h1, if_pos hl]; rfl
theorem lst_ok {fs : Mo (List D)} {ds : List D} (h1 : fs g = some (.ok ds, g1)) (hl : ds.length ≤ 100000) : fLst fs g = some (.ok ds, g1) := by unfold fLst; rw [bd_ok h1, if_pos hl]; rfl
theorem let_ok {fs : Mo (List D)} {ds : List D} (h1 : fs g = some (.ok ds, g1)) : fLet fs g = some (.ok (.lst ds), g1) := by unfold fLet; rw [bd_ok h1]; rfl
theorem len_ok {fs : Mo (List D)} {ds : List D} (h1 : fs g = some (.ok ds, g1)) : fLen fs g = some (.ok (.int ds.length), g1) := by unfold fLen; rw [bd_ok h1]; rfl
theorem peek_t {i : Nat} {ds : List D} (h1 : g.r[i]? = some (.dat (.tup ds))) : fPeek i g = some (.ok ds, g) := by unfold fPeek; rw [h1]
theorem peek_l {i : Nat} {ds : List D} (h1 : g.r[i]? = some (.dat (.lst ds))) : fPeek i g = some (.ok ds, g) := by unfold fPeek; rw [h1]
theorem peek_o {i : Nat} {ds : List D} (h1 : g.r[i]? = some (.own ds)) : fPeek i g = some (.ok ds, g) := by unfold fPeek; rw [h1]
theorem sl_t {l u : Mo (Option Int)} {lo hi : Option Int} {cs : List D} (h1 : e g = some (.ok (.tup cs), g1)) (h2 : l g1 = some (.ok lo, g2)) (h3 : u g2 = some (.ok hi, g3)) : fSl e l u g = some (.ok (.tup (cutD cs lo hi)), g3) := by
  unfold fSl; rw [bd_ok h1, bd_ok h2, bd_ok h3]; rfl
theorem part_ok {i : Int} (h1 : e g = some (.ok (.int i), g1)) : fPart e g = some (.ok (some i), g1) := by unfold fPart; rw [bd_ok h1]; rfl
theorem exp_ok (h1 : e g = some (.ok d, g1)) : fExp e g = some (.nx, g1) := by unfold fExp; rw [sb_ok h1]; rfl
theorem ifE_t {c : Mo Bool} (h1 : c g = some (.ok true, g1)) : fIfE c e f g = e g1 := by unfold fIfE; rw [bd_ok h1]; rfl
theorem ifE_f {c : Mo Bool} (h1 : c g = some (.ok false, g1)) : fIfE c e f g = f g1 := by unfold fIfE; rw [bd_ok h1]; rfl
theorem asg_ok {t : Mt} (h1 : e g = some (.ok d, g1)) (h2 : t d g1 = some g2) : fAsg e t g = some (.nx, g2) := by unfold fAsg; rw [sb_ok h1]; rw [h2]; rfl
theorem for_ok {t : Mt} {k : Ms} {ds : List D} (h1 : e g = some (.ok d, g1)) (h2 : aSeq d = some ds) : fFor e t k g = loop t k ds g1 := by unfold fFor; rw [sb_ok h1, h2]
theorem forR_ok {fs : Mo (List D)} {t : Mt} {k : Ms} {n : Int} (h1 : fs g = some (.ok [.int n], g1)) (h2 : n ≤ 1000000 ∧ -1000000 ≤ n) : fForR fs t k g = loop t k (intsD n) g1 := by unfold fForR; rw [sb_ok h1]; dsimp only; rw [if_pos h2]
theorem try_exc {fb : Ms} {l : List HSem} (h1 : fb g = some (.exc x, g1)) : fTry fb l g = hdl x l g1 := by unfold fTry; rw [h1]
theorem try_nx {fb : Ms} {l : List HSem} (h1 : fb g = some (.nx, g1)) : fTry fb l g = some (.nx, g1) := by unfold fTry; rw [h1]
end
theorem loop_cons {t : Mt} {b : Ms} {d : D} {ds : List D} {g g1 g2 : Sg} (h1 : t d g = some g1) (h2 : b g1 = some (.nx, g2)) : loop t b (d :: ds) g = loop t b ds g2 := by
  show (match t d g with | none => none | some g1 => match b g1 with | some (.nx, g2) => loop t b ds g2 | some (.ct, g2) => loop t b ds g2 | some (.brk, g2) => some (.nx, g2) | o => o) = _
  rw [h1]; dsimp only; rw [h2]
theorem loop_ret {t : Mt} {b : Ms} {d r : D} {ds : List D} {g g1 g2 : Sg} (h1 : t d g = some g1) (h2 : b g1 = some (.ret r, g2)) : loop t b (d :: ds) g = some (.ret r, g2) := by
  show (match t d g with | none => none | some g1 => match b g1 with | some (.nx, g2) => loop t b ds g2 | some (.ct, g2) => loop t b ds g2 | some (.brk, g2) => some (.nx, g2) | o => o) = _
  rw [h1]; dsimp only; rw [h2]
/-- a loop all of whose turns go on -/
theorem loop_all {t : Mt} {b : Ms} (Q : Sg → Prop) : ∀ {ds : List D} {g : Sg}, (∀ d ∈ ds, ∀ g, Q g → ∃ g1 g2, t d g = some g1 ∧ b g1 = some (.nx, g2) ∧ Q g2) → Q g → ∃ g', loop t b ds g = some (.nx, g') ∧ Q g'
  | [], g, _, q => ⟨g, rfl, q⟩
  | d :: ds, g, h, q => by
    obtain ⟨g1, g2, h1, h2, q2⟩ := h d List.mem_cons_self g q
    rw [loop_cons h1 h2]
    exact loop_all Q (fun d' hd => h d' (List.mem_cons_of_mem _ hd)) q2
/-- .. then one that returns -/
theorem loop_then {t : Mt} {b : Ms} (Q : Sg → Prop) {d r : D} {es : List D} : ∀ {ds : List D} {g : Sg}, (∀ d ∈ ds, ∀ g, Q g → ∃ g1 g2, t d g = some g1 ∧ b g1 = some (.nx, g2) ∧ Q g2) → (∀ g, Q g → ∃ g1 g2, t d g = some g1 ∧ b g1 = some (.ret r, g2) ∧ Q g2) → Q g → ∃ g', loop t b (ds ++ d :: es) g = some (.ret r, g') ∧ Q g'
  | [], g, _, hd, q => by
    obtain ⟨g1, g2, h1, h2, q2⟩ := hd g q
    exact ⟨g2, loop_ret h1 h2, q2⟩
  | a :: ds, g, h, hd, q => by
    obtain ⟨g1, g2, h1, h2, q2⟩ := h a List.mem_cons_self g q
    rw [List.cons_append, loop_cons h1 h2]
    exact loop_then Q (fun d' hd' => h d' (List.mem_cons_of_mem _ hd')) hd q2
theorem atI_nat {α : Type} (cs : List α) (i : Nat) (h : i < cs.length) : atI cs (i : Int) = cs[i]? := by
  unfold atI ixN
  have h1 : (0 : Int) ≤ (i : Int) := by omega
  have h2 : ((i : Int)) < (cs.length : Int) := by omega
  simp [h1, h2, Int.toNat_natCast, h]
theorem intsD_split {n j : Nat} (h : j < n) : intsD (n : Int) = (List.range j).map (fun (i : Nat) => D.int (i : Int)) ++ D.int (j : Int) :: ((List.range (n - j - 1)).map fun i => D.int ((j + 1 + i : Nat) : Int)) := by
  unfold intsD
  rw [Int.toNat_natCast]
  have e : n = j + (1 + (n - j - 1)) := by omega
  conv => lhs; rw [e]
  rw [List.range_add, List.map_append, Nat.add_comm 1, List.range_succ_eq_map]
  simp [Function.comp_def, Nat.add_assoc, Nat.add_comm, Nat.add_left_comm]
theorem cut_take {α : Type} (cs : List α) (i : Nat) (h : i ≤ cs.length) : cutD cs none (some (i : Int)) = cs.take i := by
  unfold cutD
  have e1 : HT.sIx cs.length 0 none = 0 := rfl
  have e2 : HT.sIx cs.length cs.length (some (i : Int)) = i := by
    rw [HT.sIx_nat]; omega
  rw [e1, e2]; simp
end DE
namespace DE
open PyProof.Rows PySem.Spec PySem L2
/-! ### comprehensions, texts, lambdas: equations -/
theorem compL_map {vs : List Nat} {t : Mt} {c : Mo Bool} {e : Mo D} {F : D → D} {S : List Sl} {s : DS} : ∀ (ds : List D), (∀ d ∈ ds, ∃ g1 g2, t d ⟨S, s⟩ = some g1 ∧ c g1 = some (.ok true, g1) ∧ e g1 = some (.ok (F d), g2) ∧ wipeR g2.r vs = S ∧ g2.s = s) → compL vs t c e ds ⟨S, s⟩ = some (ds.map F, ⟨S, s⟩)
  | [], _ => rfl
  | d :: ds, h => by
    obtain ⟨g1, g2, h1, h2, h3, h4, h5⟩ := h d List.mem_cons_self
    have ih := compL_map ds fun d' hd => h d' (List.mem_cons_of_mem _ hd)
    unfold compL
    rw [h1]; dsimp only; rw [h2]; dsimp only; rw [h3]; dsimp only; rw [h4, h5, ih]; rfl
theorem comp_ok {vs : List Nat} {fi : Mo D} {t : Mt} {c : Mo Bool} {e : Mo D} {d : D} {ds es : List D} {g g1 g2 : Sg} (h1 : fi g = some (.ok d, g1)) (h2 : aSeq d = some ds) (h3 : ds.length ≤ 100000) (h4 : compL vs t c e ds ⟨wipeR g1.r vs, g1.s⟩ = some (es, g2)) : fComp vs fi t c e g = some (.ok es, g2) := by
  unfold fComp
  rw [bd_ok h1, h2]
  unfold compF
  dsimp only
  rw [if_pos h3, h4]; rfl
theorem tupOf_ok {f : Mo (List D)} {ds : List D} {g g1 : Sg} (h : f g = some (.ok ds, g1)) : fTupOf f g = some (.ok (.tup ds), g1) := by unfold fTupOf; rw [bd_ok h]; rfl
theorem setO_ok {i : Nat} {f : Mo (List D)} {ds : List D} {g g1 : Sg} (h : f g = some (.ok ds, g1)) : fSetO i f g = some (.nx, ⟨g1.r.set i (.own ds), g1.s⟩) := by unfold fSetO; rw [sb_ok h]
def mapW (kvs : List (Str × Str)) (w : Str) : Str := match kvs.lookup w with
  | some v => v
  | none => w
theorem getK_ok {kvs : List (Str × Str)} {i : Nat} {w : Str} {g : Sg} (h : g.r[i]? = some (.dat (.str w))) : fGetK kvs (fName i) (fName i) g = some (.ok (.str (mapW kvs w)), g) := by
  unfold fGetK
  rw [bd_ok (name_ok h), bd_ok (name_ok h)]
  unfold mapW
  dsimp only
  cases kvs.lookup w <;> rfl
theorem repr_same {A B : Mo D} {d : D} {p : PyData} {g g1 g2 : Sg} (hA : A g = some (.ok d, g1)) (hB : B g1 = some (.ok d, g2)) (hp : pyd d = some p) (hs : showB p = true) : fT (f2 pNe (fRepr A) (fRepr B)) g = some (.ok false, g2) := by
  have r : ∀ {f : Mo D} {g g1 : Sg}, f g = some (.ok d, g1) → fRepr f g = some (.ok (.str p.shown), g1) := fun {f g g1} h => by
    unfold fRepr aRepr
    rw [bd_ok h, hp]
    dsimp only
    rw [if_pos hs]; rfl
  refine t_ok ((f2_ok (r hA) (r hB)).trans ?_)
  unfold pNe
  simp [rt]
theorem ret_er {e : Mo D} {x : Exn} {g g1 : Sg} (h : e g = some (.error x, g1)) : fRet e g = some (.exc x, g1) := sb_er h
theorem asg_er {e : Mo D} {t : Mt} {x : Exn} {g g1 : Sg} (h : e g = some (.error x, g1)) : fAsg e t g = some (.exc x, g1) := sb_er h
end DE
namespace DE
open PyProof.Rows PySem.Spec PySem L2
/-! ### rows of keys and marks -/
abbrev Pr := Int × Str
def prD (p : Pr) : D := .tup [.int p.1, .str p.2]
abbrev rowD (r : List Pr) : List D := r.map prD
def loudP (p : Pr) : Bool := !decide (p.2 = "waits")
abbrev keysOf (r : List Pr) : List Int := r.map (·.1)
theorem compL_on {α : Type} {vs : List Nat} {t : Mt} {c : Mo Bool} {e : Mo D} {E F : α → D} {P : α → Bool} {S : List Sl} {s : DS} : ∀ (l : List α), (∀ x ∈ l, ∃ g1 g2, t (E x) ⟨S, s⟩ = some g1 ∧ c g1 = some (.ok (P x), g2) ∧ (P x = true → ∃ g3, e g2 = some (.ok (F x), g3) ∧ wipeR g3.r vs = S ∧ g3.s = s) ∧ (P x = false → wipeR g2.r vs = S ∧ g2.s = s)) →
    compL vs t c e (l.map E) ⟨S, s⟩ = some ((l.filter P).map F, ⟨S, s⟩)
  | [], _ => rfl
  | x :: l, h => by
    obtain ⟨g1, g2, h1, h2, h3, h4⟩ := h x List.mem_cons_self
    have ih := compL_on l fun y hy => h y (List.mem_cons_of_mem _ hy)
    rw [List.map_cons]
    unfold compL
    rw [h1]; dsimp only; rw [h2]
    cases hp : P x with
    | true =>
      obtain ⟨g3, k1, k2, k3⟩ := h3 hp; rw [List.filter_cons_of_pos hp, List.map_cons]
      try dsimp only
      rw [k1]; dsimp only; rw [k2, k3, ih]; rfl
    | false =>
      obtain ⟨k2, k3⟩ := h4 hp
      rw [List.filter_cons_of_neg (by rw [hp]; exact Bool.false_ne_true)]
      try dsimp only
      rw [k2, k3, ih]
section
variable {g g1 : Sg} {i : Nat} {p : Pr}
theorem pr0 (h : g.r[i]? = some (.dat (prD p))) : fIxD (fName i) (rt (.int 0)) g = some (.ok (.int p.1), g) := ix_ok (name_ok h) rfl rfl rfl
theorem pr1 (h : g.r[i]? = some (.dat (prD p))) : fIxD (fName i) (rt (.int 1)) g = some (.ok (.str p.2), g) := ix_ok (name_ok h) rfl rfl rfl
end
theorem ne_str {e f : Mo D} {a b : Str} {g g1 g2 : Sg} (h1 : e g = some (.ok (.str a), g1)) (h2 : f g1 = some (.ok (.str b), g2)) : fT (f2 pNe e f) g = some (.ok (!decide (a = b)), g2) := t_ok ((f2_ok h1 h2).trans rfl)
theorem eq_str {e f : Mo D} {a b : Str} {g g1 g2 : Sg} (h1 : e g = some (.ok (.str a), g1)) (h2 : f g1 = some (.ok (.str b), g2)) : fT (f2 pEq e f) g = some (.ok (decide (a = b)), g2) := t_ok ((f2_ok h1 h2).trans rfl)
theorem eq_int {e f : Mo D} {a b : Int} {g g1 g2 : Sg} (h1 : e g = some (.ok (.int a), g1)) (h2 : f g1 = some (.ok (.int b), g2)) : fT (f2 pEq e f) g = some (.ok (decide (a = b)), g2) := t_ok ((f2_ok h1 h2).trans rfl)
theorem ne_int {e f : Mo D} {a b : Int} {g g1 g2 : Sg} (h1 : e g = some (.ok (.int a), g1)) (h2 : f g1 = some (.ok (.int b), g2)) : fT (f2 pNe e f) g = some (.ok (!decide (a = b)), g2) := t_ok ((f2_ok h1 h2).trans rfl)
theorem lt_int {e f : Mo D} {a b : Int} {g g1 g2 : Sg} (h1 : e g = some (.ok (.int a), g1)) (h2 : f g1 = some (.ok (.int b), g2)) : fT (f2 pLt e f) g = some (.ok (decide (a < b)), g2) := t_ok ((f2_ok h1 h2).trans rfl)
theorem gt_int {e f : Mo D} {a b : Int} {g g1 g2 : Sg} (h1 : e g = some (.ok (.int a), g1)) (h2 : f g1 = some (.ok (.int b), g2)) : fT (f2 pGt e f) g = some (.ok (decide (b < a)), g2) := t_ok ((f2_ok h1 h2).trans rfl)
/-- a in a sequence of texts -/
theorem in_strs {e f : Mo D} {a : Str} {ws : List Str} {d : D} {neg : Bool} {g g1 g2 : Sg} (h1 : e g = some (.ok (.str a), g1)) (h2 : f g1 = some (.ok d, g2)) (hd : aSeq d = some (ws.map .str)) : fT (f2 (pIn neg) e f) g = some (.ok (if neg then !ws.contains a else ws.contains a), g2) := by
  refine t_ok ((f2_ok h1 h2).trans ?_)
  unfold pIn
  rw [hd]
  simp only [flat1, DE.flat_strs, inV_strs]
  cases neg <;> rfl
theorem flat_ints : ∀ xs : List Int, flatA (xs.map D.int) = some (xs.map V.int)
  | [] => rfl
  | x :: xs => by simp [flatA, flat1, flat_ints xs]
theorem inV_ints (x : Int) (xs : List Int) : inV (.int x) (xs.map V.int) = xs.contains x := by
  rw [Bool.eq_iff_iff]
  unfold inV
  simp only [List.any_eq_true, List.mem_map, List.contains_iff_mem]
  constructor
  · rintro ⟨_, ⟨w, hw, rfl⟩, e⟩
    have : w = x := by simpa [eqV] using e
    exact this ▸ hw
  · intro h
    exact ⟨_, ⟨x, h, rfl⟩, by simp [eqV]⟩
theorem in_ints {e f : Mo D} {a : Int} {xs : List Int} {d : D} {neg : Bool} {g g1 g2 : Sg} (h1 : e g = some (.ok (.int a), g1)) (h2 : f g1 = some (.ok d, g2)) (hd : aSeq d = some (xs.map .int)) : fT (f2 (pIn neg) e f) g = some (.ok (if neg then !xs.contains a else xs.contains a), g2) := by
  refine t_ok ((f2_ok h1 h2).trans ?_)
  unfold pIn
  rw [hd]
  simp only [flat1, flat_ints, inV_ints]
  cases neg <;> rfl
theorem intsOf_map : ∀ xs : List Int, intsOf (xs.map D.int) = some xs
  | [] => rfl
  | x :: xs => by simp [intsOf, intsOf_map xs]
theorem min_ok {f : Mo D} {xs : List Int} {g g1 : Sg} (h : f g = some (.ok (.lst (xs.map .int)), g1)) (hx : xs ≠ []) : fMin f g = some (.ok (.int (minL xs)), g1) := by
  unfold fMin
  rw [bd_ok h]
  dsimp only
  rw [intsOf_map]
  cases xs with
  | nil => exact absurd rfl hx
  | cons x xs => rfl
theorem max_ok {f : Mo D} {xs : List Int} {g g1 : Sg} (h : f g = some (.ok (.lst (xs.map .int)), g1)) (hx : xs ≠ []) : fMax f g = some (.ok (.int (maxL xs)), g1) := by
  unfold fMax
  rw [bd_ok h]
  dsimp only
  rw [intsOf_map]
  cases xs with
  | nil => exact absurd rfl hx
  | cons x xs => rfl
theorem sorted_ok {f : Mo D} {xs : List Int} {g g1 : Sg} (h : f g = some (.ok (.lst (xs.map .int)), g1)) : fSorted f g = some (.ok ((sortI xs).map .int), g1) := by
  unfold fSorted
  rw [bd_ok h]
  dsimp only
  rw [intsOf_map]; rfl
theorem parDD_ok {i j : Nat} {f h : Mo D} {d e : D} {g g1 g2 : Sg} (h1 : f g = some (.ok d, g1)) (h2 : h g1 = some (.ok e, g2)) : fParDD i j f h g = some (.nx, ⟨(g2.r.set i (.dat d)).set j (.dat e), g2.s⟩) := by unfold fParDD; rw [sb_ok h1, sb_ok h2]
theorem dixS {fd fk : Mo D} {ps : List (Key × D)} {s : Str} {d : D} {g g1 g2 : Sg} (h1 : fd g = some (.ok (.dic ps), g1)) (h2 : fk g1 = some (.ok (.str s), g2)) (h3 : valD ps (Sum.inr s) = some d) : fDix fd fk g = some (.ok d, g2) := by
  unfold fDix
  rw [bd_ok h1, bd_ok h2]
  dsimp only
  rw [h3]; rfl
/-- a list cut to its first, its last -/
theorem cut_first {α : Type} (xs : List α) : cutD xs none (some 1) = xs.take 1 := by
  cases xs with
  | nil => rfl
  | cons x xs =>
    have := cut_take (x :: xs) 1 (by simp)
    exact this
theorem cut_last {α : Type} (xs : List α) : cutD xs (some (-1)) none = xs.drop (xs.length - 1) := by
  have e : HT.sIx xs.length 0 (some (-1)) = xs.length - 1 := by
    show (if (-1 : Int) < 0 then ((-1 : Int) + (xs.length : Int)).toNat else min (-1 : Int).toNat xs.length) = _
    rw [if_pos (by decide)]; omega
  unfold cutD
  rw [e]
  exact List.take_of_length_le (by rw [List.length_drop]; exact Nat.le_refl _)
end DE
namespace DE
open PyProof.Rows PySem.Spec PySem L2
/-! ### rows as plain data -/
def MKS : List Str := ["sounds", "kept", "waits"]
def okR (r : List Pr) : Prop := ∀ p ∈ r, p.2 ∈ MKS
def prP (p : Pr) : PyData := .tuple [.int p.1, .str p.2]
theorem okR.tail {p : Pr} {r : List Pr} (h : okR (p :: r)) : okR r := fun q hq => h q (List.mem_cons_of_mem _ hq)
theorem okR.filter {r : List Pr} (h : okR r) (P : Pr → Bool) : okR (r.filter P) := fun p hp => h p (List.mem_filter.mp hp).1
theorem okR.app {r q : List Pr} (h : okR r) (k : okR q) : okR (r ++ q) := fun p hp => (List.mem_append.mp hp).elim (h p) (k p)
theorem pyd_pr (p : Pr) : pyd (prD p) = some (prP p) := rfl
theorem pyd_row : ∀ r : List Pr, pydA (rowD r) = some (r.map prP)
  | [] => rfl
  | p :: r => by
    show pydA (prD p :: rowD r) = _
    unfold pydA
    rw [pyd_pr, pyd_row r]; rfl
theorem mks_ok : ∀ m ∈ MKS, PyData.canLay0 (.str m) = true := by
  unfold MKS
  exact fun m hm => by
    simp only [List.mem_cons, List.not_mem_nil, or_false] at hm; rcases hm with rfl | rfl | rfl <;> kernel_rfl
theorem lay_row : ∀ {r : List Pr}, okR r → PyData.canLayAll0 (r.map prP) = true
  | [], _ => rfl
  | p :: r, h => by
    have := mks_ok p.2 (h p List.mem_cons_self)
    simp only [List.map_cons, prP, PyData.canLayAll0, PyData.canLay0, this, Bool.true_and, Bool.and_true] at *
    rw [this]
    exact lay_row h.tail
theorem dep_row : ∀ r : List Pr, PyData.depthAll (r.map prP) ≤ 1
  | [] => by (simp [PyData.depthAll])
  | p :: r => by
    have := dep_row r
    simp only [List.map_cons, prP, PyData.depthAll, PyData.depth]
    omega
theorem shaped_row {r : List Pr} (h : okR r) : SeqAt.shaped (.list (r.map prP)) = true := by
  unfold SeqAt.shaped
  have := dep_row r
  rw [Bool.and_eq_true, decide_eq_true_eq]
  refine ⟨by simp only [PyData.canLay0]; exact lay_row h, ?_⟩
  simp only [PyData.depth]; omega
theorem shaped_nil : SeqAt.shaped (.list []) = true := by kernel_rfl
theorem shaped_pr {p : Pr} (h : p.2 ∈ MKS) : SeqAt.shaped (prP p) = true := by
  have := mks_ok p.2 h
  unfold SeqAt.shaped prP
  rw [Bool.and_eq_true, decide_eq_true_eq]
  refine ⟨?_, ?_⟩
  · simp only [PyData.canLay0, PyData.canLayAll0, Bool.true_and, Bool.and_true]
    simpa [PyData.canLay0] using this
  · simp only [PyData.depth, PyData.depthAll]; decide
theorem eqv_nil (r : List Pr) : PyData.eqv (.list (r.map prP)) (.list []) = r.isEmpty := by
  cases r with
  | nil => rfl
  | cons p r => rfl
theorem eqv_pr (p q : Pr) : PyData.eqv (prP p) (prP q) = decide (p = q) := by
  obtain ⟨a, b⟩ := p
  obtain ⟨c, d⟩ := q
  have e : PyData.eqv (prP (a, b)) (prP (c, d)) = ((a == c) && ((b == d) && true)) := by kernel_rfl
  rw [e, Bool.and_true, Bool.eq_iff_iff]
  simp
theorem pEqD_row {r : List Pr} (h : okR r) (g : Sg) : pEq (.lst (rowD r)) (.lst []) g = some (.ok (.bl r.isEmpty), g) := by
  show pEqD (.lst (rowD r)) (.lst []) g = _
  have e1 : pyd (.lst (rowD r)) = some (.list (r.map prP)) := by unfold pyd; rw [pyd_row]; rfl
  have e2 : pyd (.lst []) = some (.list []) := rfl
  unfold pEqD
  rw [e1, e2]
  dsimp only
  rw [if_pos (by rw [shaped_row h, shaped_nil]; rfl), eqv_nil]; rfl
theorem pNeD_row {r : List Pr} (h : okR r) (g : Sg) : pNe (.lst (rowD r)) (.lst []) g = some (.ok (.bl (!r.isEmpty)), g) := by
  show pNeD (.lst (rowD r)) (.lst []) g = _
  have e1 : pyd (.lst (rowD r)) = some (.list (r.map prP)) := by unfold pyd; rw [pyd_row]; rfl
  have e2 : pyd (.lst []) = some (.list []) := rfl
  unfold pNeD
  rw [e1, e2]
  dsimp only
  rw [if_pos (by rw [shaped_row h, shaped_nil]; rfl), eqv_nil]; rfl
theorem pNe_pr {p q : Pr} (hp : p.2 ∈ MKS) (hq : q.2 ∈ MKS) (g : Sg) : pNe (prD p) (prD q) g = some (.ok (.bl (!decide (p = q))), g) := by
  show pNeD (prD p) (prD q) g = _
  unfold pNeD
  rw [pyd_pr, pyd_pr]
  dsimp only
  rw [if_pos (by rw [shaped_pr hp, shaped_pr hq]; rfl), eqv_pr]; rfl
theorem any_pr (r : List Pr) (p : Pr) : ((r.map prP).any fun z => PyData.eqv z (prP p)) = r.contains p := by
  rw [List.any_map, Bool.eq_iff_iff]
  simp only [List.any_eq_true, Function.comp_apply, eqv_pr, decide_eq_true_eq, List.contains_iff_mem]
  constructor
  · rintro ⟨q, hq, rfl⟩; exact hq
  · intro h; exact ⟨p, h, rfl⟩
theorem pInD_row {r : List Pr} {p : Pr} (h : okR r) (hp : p.2 ∈ MKS) (g : Sg) : pInD false (prD p) (.lst (rowD r)) g = some (.ok (.bl (r.contains p)), g) := by
  have e1 : pyd (.lst (rowD r)) = some (.list (r.map prP)) := by unfold pyd; rw [pyd_row]; rfl
  unfold pInD
  rw [pyd_pr, e1]
  dsimp only
  rw [if_pos (by rw [shaped_pr hp, shaped_row h]; rfl), any_pr]; rfl
theorem app_cat {f h : Mo D} {xs ys : List D} {g g1 g2 : Sg} (h1 : f g = some (.ok (.lst xs), g1)) (h2 : h g1 = some (.ok (.lst ys), g2)) (hl : xs.length + ys.length ≤ 100000) : fLet (fCat f h) g = some (.ok (.lst (xs ++ ys)), g2) := by
  refine let_ok ?_
  unfold fCat
  rw [bd_ok h1, bd_ok h2]; dsimp only; rw [if_pos hl]; rfl
end DE
namespace K05
open PyProof.Rows PySem.Spec PySem L2 DE
def top (i : Nat) : Stmt := PySem.Challenge.pw_stolenvoices_k05_states_refused.main.body.getD i (.Pass ⟨0, 0, 0, 0⟩)
def c_FILTERS : D := .tup [.str "kept", .str "inner", .str "notlow", .str "nothigh", .str "below", .str "above", .str "under", .str "over"]
def c_ENDS : D := .tup [.str "eldest", .str "latest", .str "lowest", .str "highest", .str "refuse"]
def c_RETURNS : D := .tup [.str "none", .str "eldest", .str "latest", .str "lowest", .str "highest"]
def c_MOST_VOICES : D := .int 8
def c_MOST_CRITERIA : D := .int 6
def c_MOST_KEY : D := .int 87
def c_START : D := .tup [.bl false, .tup []]
def c_MARKS : D := .tup [.str "sounds", .str "kept", .str "waits"]
def tb_BadMachine : List (Str × Bool) := [("BadMachine", true), ("BadState", false)]
def tb_BadState : List (Str × Bool) := [("BadMachine", false), ("BadState", true)]
def tb_VoiceError : List (Str × Bool) := [("BadMachine", true), ("BadState", true)]
def cs_place : List Str := ["BadMachine", "BadState"]
structure Ty (mg : Str → Option Value) : Prop where
  z_int : mg "int" = none
structure Tx (P : Program) (w : World) (K : PySem.W.Frag) (mg : Str → Option Value) (base : Heap) (Γ : Gam) : Prop where
  z_bool : mg "bool" = none
  z_int : mg "int" = none
  z_isinstance : mg "isinstance" = none
  z_len : mg "len" = none
  z_list : mg "list" = none
  z_max : mg "max" = none
  z_min : mg "min" = none
  z_range : mg "range" = none
  z_repr : mg "repr" = none
  z_sorted : mg "sorted" = none
  z_str : mg "str" = none
  z_tuple : mg "tuple" = none
  c_FILTERS : Cst K mg "FILTERS" c_FILTERS
  c_ENDS : Cst K mg "ENDS" c_ENDS
  c_RETURNS : Cst K mg "RETURNS" c_RETURNS
  c_MOST_VOICES : Cst K mg "MOST_VOICES" c_MOST_VOICES
  c_MOST_CRITERIA : Cst K mg "MOST_CRITERIA" c_MOST_CRITERIA
  c_MOST_KEY : Cst K mg "MOST_KEY" c_MOST_KEY
  c_START : Cst K mg "START" c_START
  c_MARKS : Cst K mg "MARKS" c_MARKS
  x_BadMachine : ErrX P w K mg base Γ "BadMachine"
  x_BadState : ErrX P w K mg base Γ "BadState"
  h_BadMachine : HdX K mg Γ "BadMachine" tb_BadMachine
  h_BadState : HdX K mg Γ "BadState" tb_BadState
  h_VoiceError : HdX K mg Γ "VoiceError" tb_VoiceError
  fo_place : FldOk Γ "place" cs_place
  k : ErrK K Γ
section
variable {P : Program} {w : World} {K : PySem.W.Frag} {mg : Str → Option Value} {base : Heap} {Γ : Gam}
/-! ### is_whole -/
abbrev s_is_whole : Stmt := top 11
theorem sc_is_whole : FnScope ["thing", "least", "most"] ["thing", "least", "most"] (defScope s_is_whole) := ⟨rfl, rfl, rfl, by decide +kernel, rfl, by decide +kernel, by decide +kernel⟩
def fb_is_whole : Ms := fSeq (fIf (fOr (fT (fIsi "bool" (fName 0))) (fNot (fT (fIsi "int" (fName 0))))) (fRet (rt (.bl false))) (sOut .nx))
  (fRet (fChain pLe pLe (fName 1) (fName 0) (fName 2)))
def m_is_whole : Fd := runB fb_is_whole 3 3
theorem kf_is_whole {f : Addr} {fd : FuncData} (T : Tx P w K mg base Γ) (F : Fun K "is_whole" "is_whole" s_is_whole f fd) (hm : mg "is_whole" = some (.ref f))  : Kf P w K mg base 1 "is_whole" (dsp K Γ 3 m_is_whole) :=
  kf_of (ps := ["thing", "least", "most"]) (N := ["thing", "least", "most"]) F hm sc_is_whole (F.binds (ps := ["thing", "least", "most"]) fun _ _ _ _ _ _ us hl => match us, hl with | [_, _, _], _ => rfl) (fun cdv A outer s H E C =>
  b_cons (s_if (t_w (w_or (t_val (d_isi (T := "bool") (dv_ 0) (pe_bltn (by rfl) T.z_bool (by decide +kernel) rfl) (by rfl) T.z_isinstance (by decide +kernel))) (w_or1 (t_not (t_val (d_isi (T := "int") (dv_ 0) (pe_bltn (by rfl) T.z_int (by decide +kernel) rfl) (by rfl) T.z_isinstance (by decide +kernel)))))))
  (b_one (s_ret d_bl))
  b_nil)
  (b_one (s_ret (d_chain o_le o_le (dv_ 1) (dv_ 0) (dv_ 2)))))

/-! ### is_word -/
abbrev s_is_word : Stmt := top 12
theorem sc_is_word : FnScope ["thing", "words"] ["thing", "words"] (defScope s_is_word) := ⟨rfl, rfl, rfl, by decide +kernel, rfl, by decide +kernel, by decide +kernel⟩
def fb_is_word : Ms := fRet (fAndV (fIsi "str" (fName 0)) (f2 (pIn false) (fName 0) (fName 1)))
def m_is_word : Fd := runB fb_is_word 2 2
theorem kf_is_word {f : Addr} {fd : FuncData} (T : Tx P w K mg base Γ) (F : Fun K "is_word" "is_word" s_is_word f fd) (hm : mg "is_word" = some (.ref f))  : Kf P w K mg base 1 "is_word" (dsp K Γ 2 m_is_word) :=
  kf_of (ps := ["thing", "words"]) (N := ["thing", "words"]) F hm sc_is_word (F.binds (ps := ["thing", "words"]) fun _ _ _ _ _ _ us hl => match us, hl with | [_, _], _ => rfl) (fun cdv A outer s H E C =>
  b_one (s_ret (d_and (d_isi (T := "str") (dv_ 0) (pe_bltn (by rfl) T.z_str (by decide +kernel) rfl) (by rfl) T.z_isinstance (by decide +kernel)) (d_one (d_cmp o_in (dv_ 0) (dv_ 1) (by rfl))))))

/-! ### is_key -/
abbrev s_is_key : Stmt := top 13
theorem sc_is_key : FnScope ["thing"] ["thing"] (defScope s_is_key) := ⟨rfl, rfl, rfl, by decide +kernel, rfl, by decide +kernel, by decide +kernel⟩
def fb_is_key : Ms := fRet (fCallN 3 m_is_whole (fCons (fName 0) (fCons (rt (.int 0)) (fCons (rt c_MOST_KEY) (rt [])))))
def m_is_key : Fd := runB fb_is_key 1 1
theorem kf_is_key {f : Addr} {fd : FuncData} (T : Tx P w K mg base Γ) (F : Fun K "is_key" "is_key" s_is_key f fd) (hm : mg "is_key" = some (.ref f)) (K_is_whole : Kf P w K mg base 1 "is_whole" (dsp K Γ 3 m_is_whole)) : Kf P w K mg base 2 "is_key" (dsp K Γ 1 m_is_key) :=
  kf_of (ps := ["thing"]) (N := ["thing"]) F hm sc_is_key (F.binds (ps := ["thing"]) fun _ _ _ _ _ _ us hl => match us, hl with | [_], _ => rfl) (fun cdv A outer s H E C =>
  b_one (s_ret (d_callK K_is_whole (by decide) C (by rfl) (da_cons (dv_ 0) (da_cons d_int (da_cons (d_gl T.c_MOST_KEY (by rfl)) da_nil))))))

/-! ### can_stand -/
abbrev s_can_stand : Stmt := top 14
theorem sc_can_stand : FnScope ["criteria", "number", "word"] ["criteria", "number"] (defScope s_can_stand) := ⟨rfl, rfl, rfl, by decide +kernel, rfl, by decide +kernel, by decide +kernel⟩
def fb_can_stand : Ms := fSeq (fSet 2 (fIxD (fName 0) (fName 1)))
  (fSeq (fIf (fT (f2 pEq (fName 1) (f2 pSub (fLen (fPeek 0)) (rt (.int 1))))) (fRet (fCallN 2 m_is_word (fCons (fName 2) (fCons (rt c_ENDS) (rt []))))) (sOut .nx))
  (fRet (fAndV (fCallN 2 m_is_word (fCons (fName 2) (fCons (rt c_FILTERS) (rt [])))) (f2 (pIn true) (fName 2) (fSl (fName 0) (rt none) (fPart (fName 1)))))))
def m_can_stand : Fd := runB fb_can_stand 3 2
theorem kf_can_stand {f : Addr} {fd : FuncData} (T : Tx P w K mg base Γ) (F : Fun K "can_stand" "can_stand" s_can_stand f fd) (hm : mg "can_stand" = some (.ref f)) (K_is_word : Kf P w K mg base 1 "is_word" (dsp K Γ 2 m_is_word)) : Kf P w K mg base 2 "can_stand" (dsp K Γ 2 m_can_stand) :=
  kf_of (ps := ["criteria", "number"]) (N := ["criteria", "number", "word"]) F hm sc_can_stand (F.binds (ps := ["criteria", "number"]) fun _ _ _ _ _ _ us hl => match us, hl with | [_, _], _ => rfl) (fun cdv A outer s H E C =>
  b_cons (s_set 2 sc_can_stand.nd (d_ix (dv_ 0) (dv_ 1) (fun _ _ => rfl)))
  (b_cons (s_if (t_cmp (o_eq C.room.units) (dv_ 1) (d_bin o_sub (d_len (dp_ 0) (by rfl) T.z_len PySem.boot_len) d_int) (nomark _))
  (b_one (s_ret (d_callK K_is_word (by decide) C (by rfl) (da_cons (dv_ 2) (da_cons (d_gl T.c_ENDS (by rfl)) da_nil)))))
  b_nil)
  (b_one (s_ret (d_and (d_callK K_is_word (by decide) C (by rfl) (da_cons (dv_ 2) (da_cons (d_gl T.c_FILTERS (by rfl)) da_nil))) (d_one (d_cmp o_nin (dv_ 2) (d_sl (dv_ 0) do_none (do_some (dv_ 1))) (by rfl))))))))

/-! ### criteria_fault -/
abbrev s_criteria_fault : Stmt := top 15
theorem sc_criteria_fault : FnScope ["criteria", "number"] ["criteria"] (defScope s_criteria_fault) := ⟨rfl, rfl, rfl, by decide +kernel, rfl, by decide +kernel, by decide +kernel⟩
def fb_criteria_fault : Ms := fSeq (fIf (fOr (fNot (fT (fIsi "tuple" (fName 0)))) (fNot (fT (fChain pLe pLe (rt (.int 1)) (fLen (fPeek 0)) (rt c_MOST_CRITERIA))))) (fRet (fTup (fCons (rt (.str "criteria")) (rt [])))) (sOut .nx))
  (fSeq (fForR (fCons (fLen (fPeek 0)) (rt [])) (gN 1) (fIf (fNot (fT (fCallN 2 m_can_stand (fCons (fName 0) (fCons (fName 1) (rt [])))))) (fRet (fTup (fCons (rt (.str "criteria")) (fCons (fName 1) (rt []))))) (sOut .nx)))
  (fRet (rt .non)))
def m_criteria_fault : Fd := runB fb_criteria_fault 2 1
theorem kf_criteria_fault {f : Addr} {fd : FuncData} (T : Tx P w K mg base Γ) (F : Fun K "criteria_fault" "criteria_fault" s_criteria_fault f fd) (hm : mg "criteria_fault" = some (.ref f)) (K_can_stand : Kf P w K mg base 2 "can_stand" (dsp K Γ 2 m_can_stand)) : Kf P w K mg base 3 "criteria_fault" (dsp K Γ 1 m_criteria_fault) :=
  kf_of (ps := ["criteria"]) (N := ["criteria", "number"]) F hm sc_criteria_fault (F.binds (ps := ["criteria"]) fun _ _ _ _ _ _ us hl => match us, hl with | [_], _ => rfl) (fun cdv A outer s H E C =>
  b_cons (s_if (t_w (w_or (t_not (t_val (d_isi (T := "tuple") (dv_ 0) (pe_bltn (by rfl) T.z_tuple (by decide +kernel) rfl) (by rfl) T.z_isinstance (by decide +kernel)))) (w_or1 (t_not (t_chain o_le o_le d_int (d_len (dp_ 0) (by rfl) T.z_len PySem.boot_len) (d_gl T.c_MOST_CRITERIA (by rfl)))))))
  (b_one (s_ret (d_tup (da_cons d_str da_nil))))
  b_nil)
  (b_cons (s_forR C.calm C.pas (da_cons (d_len (dp_ 0) (by rfl) T.z_len PySem.boot_len) da_nil) (g_name 1 sc_criteria_fault.nd)
  (b_one (s_if (t_not (t_val (d_callK K_can_stand (by decide) C (by rfl) (da_cons (dv_ 0) (da_cons (dv_ 1) da_nil)))))
  (b_one (s_ret (d_tup (da_cons d_str (da_cons (dv_ 1) da_nil)))))
  b_nil)) (by rfl) T.z_range)
  (b_one (s_ret d_non))))

/-! ### machine_fault -/
abbrev s_machine_fault : Stmt := top 16
theorem sc_machine_fault : FnScope ["thing", "place", "voices", "criteria", "returning"] ["thing"] (defScope s_machine_fault) := ⟨rfl, rfl, rfl, by decide +kernel, rfl, by decide +kernel, by decide +kernel⟩
def fb_machine_fault : Ms := fSeq (fIf (fOr (fNot (fT (fIsi "tuple" (fName 0)))) (fT (f2 pNe (fLen (fPeek 0)) (rt (.int 3))))) (fRet (fTup (rt []))) (sOut .nx))
  (fSeq (fAsg (fName 0) (gT 3 (gsCons (gN 2) (gsCons (gN 3) (gsCons (gN 4) gsNil)))))
  (fSeq (fIf (fNot (fT (fCallN 3 m_is_whole (fCons (fName 2) (fCons (rt (.int 1)) (fCons (rt c_MOST_VOICES) (rt []))))))) (fRet (fTup (fCons (rt (.str "voices")) (rt [])))) (sOut .nx))
  (fSeq (fSet 1 (fCallN 1 m_criteria_fault (fCons (fName 3) (rt []))))
  (fSeq (fIf (fAnd (fT (f2 pIs (fName 1) (rt .non))) (fNot (fT (fCallN 2 m_is_word (fCons (fName 4) (fCons (rt c_RETURNS) (rt []))))))) (fRet (fTup (fCons (rt (.str "return")) (rt [])))) (sOut .nx))
  (fRet (fName 1))))))
def m_machine_fault : Fd := runB fb_machine_fault 5 1
theorem kf_machine_fault {f : Addr} {fd : FuncData} (T : Tx P w K mg base Γ) (F : Fun K "machine_fault" "machine_fault" s_machine_fault f fd) (hm : mg "machine_fault" = some (.ref f)) (K_is_whole : Kf P w K mg base 1 "is_whole" (dsp K Γ 3 m_is_whole)) (K_is_word : Kf P w K mg base 1 "is_word" (dsp K Γ 2 m_is_word)) (K_criteria_fault : Kf P w K mg base 3 "criteria_fault" (dsp K Γ 1 m_criteria_fault)) : Kf P w K mg base 4 "machine_fault" (dsp K Γ 1 m_machine_fault) :=
  kf_of (ps := ["thing"]) (N := ["thing", "place", "voices", "criteria", "returning"]) F hm sc_machine_fault (F.binds (ps := ["thing"]) fun _ _ _ _ _ _ us hl => match us, hl with | [_], _ => rfl) (fun cdv A outer s H E C =>
  b_cons (s_if (t_w (w_or (t_not (t_val (d_isi (T := "tuple") (dv_ 0) (pe_bltn (by rfl) T.z_tuple (by decide +kernel) rfl) (by rfl) T.z_isinstance (by decide +kernel)))) (w_or1 (t_cmp (o_ne C.room.units) (d_len (dp_ 0) (by rfl) T.z_len PySem.boot_len) d_int (nomark _)))))
  (b_one (s_ret (d_tup da_nil)))
  b_nil)
  (b_cons (s_asg (dv_ 0) (g_tup C.calm (gs_cons (g_name 2 sc_machine_fault.nd) (gs_cons (g_name 3 sc_machine_fault.nd) (gs_cons (g_name 4 sc_machine_fault.nd) gs_nil)))))
  (b_cons (s_if (t_not (t_val (d_callK K_is_whole (by decide) C (by rfl) (da_cons (dv_ 2) (da_cons d_int (da_cons (d_gl T.c_MOST_VOICES (by rfl)) da_nil))))))
  (b_one (s_ret (d_tup (da_cons d_str da_nil))))
  b_nil)
  (b_cons (s_set 1 sc_machine_fault.nd (d_callK K_criteria_fault (by decide) C (by rfl) (da_cons (dv_ 3) da_nil)))
  (b_cons (s_if (t_w (w_and (t_cmp o_is (dv_ 1) d_non (nomark _)) (w_and1 (t_not (t_val (d_callK K_is_word (by decide) C (by rfl) (da_cons (dv_ 4) (da_cons (d_gl T.c_RETURNS (by rfl)) da_nil))))))))
  (b_one (s_ret (d_tup (da_cons d_str da_nil))))
  b_nil)
  (b_one (s_ret (dv_ 1))))))))

/-! ### need_machine -/
abbrev s_need_machine : Stmt := top 17
theorem sc_need_machine : FnScope ["thing", "place"] ["thing"] (defScope s_need_machine) := ⟨rfl, rfl, rfl, by decide +kernel, rfl, by decide +kernel, by decide +kernel⟩
def fb_need_machine : Ms := fSeq (fSet 1 (fCallN 1 m_machine_fault (fCons (fName 0) (rt []))))
  (fSeq (fIf (fT (f2 pNis (fName 1) (rt .non))) (fRaise "BadMachine" (fName 1)) (sOut .nx))
  (fRet (fName 0)))
def m_need_machine : Fd := runB fb_need_machine 2 1
theorem kf_need_machine {f : Addr} {fd : FuncData} (T : Tx P w K mg base Γ) (F : Fun K "need_machine" "need_machine" s_need_machine f fd) (hm : mg "need_machine" = some (.ref f)) (K_machine_fault : Kf P w K mg base 4 "machine_fault" (dsp K Γ 1 m_machine_fault)) : Kf P w K mg base 5 "need_machine" (dsp K Γ 1 m_need_machine) :=
  kf_of (ps := ["thing"]) (N := ["thing", "place"]) F hm sc_need_machine (F.binds (ps := ["thing"]) fun _ _ _ _ _ _ us hl => match us, hl with | [_], _ => rfl) (fun cdv A outer s H E C =>
  b_cons (s_set 1 sc_need_machine.nd (d_callK K_machine_fault (by decide) C (by rfl) (da_cons (dv_ 0) da_nil)))
  (b_cons (s_if (t_cmp o_nis (dv_ 1) d_non (nomark _))
  (b_one (s_raise T.x_BadMachine C (by decide) (by rfl) (dv_ 1)))
  b_nil)
  (b_one (s_ret (dv_ 0)))))

/-! ### is_pair -/
abbrev s_is_pair : Stmt := top 21
theorem sc_is_pair : FnScope ["thing"] ["thing"] (defScope s_is_pair) := ⟨rfl, rfl, rfl, by decide +kernel, rfl, by decide +kernel, by decide +kernel⟩
def fb_is_pair : Ms := fSeq (fIf (fOr (fNot (fT (fIsi "tuple" (fName 0)))) (fT (f2 pNe (fLen (fPeek 0)) (rt (.int 2))))) (fRet (rt (.bl false))) (sOut .nx))
  (fRet (fAndV (fCallN 1 m_is_key (fCons (fIxD (fName 0) (rt (.int 0))) (rt []))) (fCallN 2 m_is_word (fCons (fIxD (fName 0) (rt (.int 1))) (fCons (rt c_MARKS) (rt []))))))
def m_is_pair : Fd := runB fb_is_pair 1 1
theorem kf_is_pair {f : Addr} {fd : FuncData} (T : Tx P w K mg base Γ) (F : Fun K "is_pair" "is_pair" s_is_pair f fd) (hm : mg "is_pair" = some (.ref f)) (K_is_word : Kf P w K mg base 1 "is_word" (dsp K Γ 2 m_is_word)) (K_is_key : Kf P w K mg base 2 "is_key" (dsp K Γ 1 m_is_key)) : Kf P w K mg base 3 "is_pair" (dsp K Γ 1 m_is_pair) :=
  kf_of (ps := ["thing"]) (N := ["thing"]) F hm sc_is_pair (F.binds (ps := ["thing"]) fun _ _ _ _ _ _ us hl => match us, hl with | [_], _ => rfl) (fun cdv A outer s H E C =>
  b_cons (s_if (t_w (w_or (t_not (t_val (d_isi (T := "tuple") (dv_ 0) (pe_bltn (by rfl) T.z_tuple (by decide +kernel) rfl) (by rfl) T.z_isinstance (by decide +kernel)))) (w_or1 (t_cmp (o_ne C.room.units) (d_len (dp_ 0) (by rfl) T.z_len PySem.boot_len) d_int (nomark _)))))
  (b_one (s_ret d_bl))
  b_nil)
  (b_one (s_ret (d_and (d_callK K_is_key (by decide) C (by rfl) (da_cons (d_ix (dv_ 0) d_int (fun _ _ => rfl)) da_nil)) (d_one (d_callK K_is_word (by decide) C (by rfl) (da_cons (d_ix (dv_ 0) d_int (fun _ _ => rfl)) (da_cons (d_gl T.c_MARKS (by rfl)) da_nil))))))))

/-! ### loud_keys -/
abbrev s_loud_keys : Stmt := top 22
theorem sc_loud_keys : FnScope ["row", "key", "mark"] ["row"] (defScope s_loud_keys) := ⟨rfl, rfl, rfl, by decide +kernel, rfl, by decide +kernel, by decide +kernel⟩
def fb_loud_keys : Ms := fRet (fLet (fComp [1, 2] (fName 0) (gT 2 (gsCons (gN 1) (gsCons (gN 2) gsNil))) (fT (f2 pNe (fName 2) (rt (.str "waits")))) (fName 1)))
def m_loud_keys : Fd := runB fb_loud_keys 3 1
theorem kf_loud_keys {f : Addr} {fd : FuncData} (T : Tx P w K mg base Γ) (F : Fun K "loud_keys" "loud_keys" s_loud_keys f fd) (hm : mg "loud_keys" = some (.ref f))  : Kf P w K mg base 1 "loud_keys" (dsp K Γ 1 m_loud_keys) :=
  kf_of (ps := ["row"]) (N := ["row", "key", "mark"]) F hm sc_loud_keys (F.binds (ps := ["row"]) fun _ _ _ _ _ _ us hl => match us, hl with | [_], _ => rfl) (fun cdv A outer s H E C =>
  b_one (s_ret (d_let (d_comp (own := [("key", 1), ("mark", 2)]) (js := ([1] ++ ([2] ++ []))) (gt := (gTup K 2 (gCons (gName 1) (gCons (gName 2) gNil)))) C.calm sc_loud_keys.nd (dv_ 0) (blk_ok (by decide +kernel)) (by decide) ⟨fun _ _ _ _ _ => g_tup (by rfl) (gs_cons (g_name 1 sc_loud_keys.nd) (gs_cons (g_name 2 sc_loud_keys.nd) gs_nil)), fun _ _ _ _ _ => pts_1 (t_cmp (o_ne C.room.units) (dv_ 2) d_str (nomark _)), fun _ _ _ _ _ => dv_ 1⟩))))

/-! ### sound_of -/
abbrev s_sound_of : Stmt := top 23
theorem sc_sound_of : FnScope ["state"] ["state"] (defScope s_sound_of) := ⟨rfl, rfl, rfl, by decide +kernel, rfl, by decide +kernel, by decide +kernel⟩
def fb_sound_of : Ms := fRet (fTupOf (fSorted (fCallN 1 m_loud_keys (fCons (fIxD (fName 0) (rt (.int 1))) (rt [])))))
def m_sound_of : Fd := runB fb_sound_of 1 1
theorem kf_sound_of {f : Addr} {fd : FuncData} (T : Tx P w K mg base Γ) (F : Fun K "sound_of" "sound_of" s_sound_of f fd) (hm : mg "sound_of" = some (.ref f)) (K_loud_keys : Kf P w K mg base 1 "loud_keys" (dsp K Γ 1 m_loud_keys)) : Kf P w K mg base 2 "sound_of" (dsp K Γ 1 m_sound_of) :=
  kf_of (ps := ["state"]) (N := ["state"]) F hm sc_sound_of (F.binds (ps := ["state"]) fun _ _ _ _ _ _ us hl => match us, hl with | [_], _ => rfl) (fun cdv A outer s H E C =>
  b_one (s_ret (d_tuple (d_pk (d_sorted (d_callK K_loud_keys (by decide) C (by rfl) (da_cons (d_ix (dv_ 0) d_int (fun _ _ => rfl)) da_nil)) (by rfl) T.z_sorted (by decide +kernel))) (by rfl) T.z_tuple (by decide +kernel))))

/-! ### can_be_next -/
abbrev s_can_be_next : Stmt := top 24
theorem sc_can_be_next : FnScope ["voices", "pedal", "before", "thing", "key", "mark", "pair"] ["voices", "pedal", "before", "thing"] (defScope s_can_be_next) := ⟨rfl, rfl, rfl, by decide +kernel, rfl, by decide +kernel, by decide +kernel⟩
def fb_can_be_next : Ms := fSeq (fIf (fNot (fT (fCallN 1 m_is_pair (fCons (fName 3) (rt []))))) (fRet (rt (.bl false))) (sOut .nx))
  (fSeq (fAsg (fName 3) (gT 2 (gsCons (gN 4) (gsCons (gN 5) gsNil))))
  (fSeq (fIf (fT (f2 (pIn false) (fName 4) (fLet (fComp [6] (fName 2) (gN 6) ((rt true)) (fIxD (fName 6) (rt (.int 0))))))) (fRet (rt (.bl false))) (sOut .nx))
  (fSeq (fIf (fAnd (fT (f2 pEq (fName 5) (rt (.str "kept")))) (fNot (fT (fName 1)))) (fRet (rt (.bl false))) (sOut .nx))
  (fRet (fOrV (f2 pEq (fName 5) (rt (.str "waits"))) (f2 pLt (fLen (fPk (fCallN 1 m_loud_keys (fCons (fName 2) (rt []))))) (fName 0)))))))
def m_can_be_next : Fd := runB fb_can_be_next 7 4
theorem kf_can_be_next {f : Addr} {fd : FuncData} (T : Tx P w K mg base Γ) (F : Fun K "can_be_next" "can_be_next" s_can_be_next f fd) (hm : mg "can_be_next" = some (.ref f)) (K_is_pair : Kf P w K mg base 3 "is_pair" (dsp K Γ 1 m_is_pair)) (K_loud_keys : Kf P w K mg base 1 "loud_keys" (dsp K Γ 1 m_loud_keys)) : Kf P w K mg base 4 "can_be_next" (dsp K Γ 4 m_can_be_next) :=
  kf_of (ps := ["voices", "pedal", "before", "thing"]) (N := ["voices", "pedal", "before", "thing", "key", "mark", "pair"]) F hm sc_can_be_next (F.binds (ps := ["voices", "pedal", "before", "thing"]) fun _ _ _ _ _ _ us hl => match us, hl with | [_, _, _, _], _ => rfl) (fun cdv A outer s H E C =>
  b_cons (s_if (t_not (t_val (d_callK K_is_pair (by decide) C (by rfl) (da_cons (dv_ 3) da_nil))))
  (b_one (s_ret d_bl))
  b_nil)
  (b_cons (s_asg (dv_ 3) (g_tup C.calm (gs_cons (g_name 4 sc_can_be_next.nd) (gs_cons (g_name 5 sc_can_be_next.nd) gs_nil))))
  (b_cons (s_if (t_cmp o_in (dv_ 4) (d_let (d_comp (own := [("pair", 6)]) (js := [6]) C.calm sc_can_be_next.nd (dv_ 2) (blk_ok (by decide +kernel)) (by decide) ⟨fun _ _ _ _ _ => g_name 6 sc_can_be_next.nd, fun _ _ _ _ _ => pts_yes, fun _ _ _ _ _ => d_ix (dv_ 6) d_int (fun _ _ => rfl)⟩)) (by rfl))
  (b_one (s_ret d_bl))
  b_nil)
  (b_cons (s_if (t_w (w_and (t_cmp (o_eq C.room.units) (dv_ 5) d_str (nomark _)) (w_and1 (t_not (t_val (dv_ 1))))))
  (b_one (s_ret d_bl))
  b_nil)
  (b_one (s_ret (d_or (d_cmp (o_eq C.room.units) (dv_ 5) d_str (nomark _)) (d_one (d_cmp o_lt (d_len (d_pkD (d_callK K_loud_keys (by decide) C (by rfl) (da_cons (dv_ 2) da_nil))) (by rfl) T.z_len PySem.boot_len) (dv_ 0) (nomark _))))))))))

/-! ### row_fault -/
abbrev s_row_fault : Stmt := top 25
theorem sc_row_fault : FnScope ["voices", "pedal", "row", "number"] ["voices", "pedal", "row"] (defScope s_row_fault) := ⟨rfl, rfl, rfl, by decide +kernel, rfl, by decide +kernel, by decide +kernel⟩
def fb_row_fault : Ms := fSeq (fIf (fNot (fT (fIsi "tuple" (fName 2)))) (fRet (fTup (fCons (rt (.str "row")) (rt [])))) (sOut .nx))
  (fSeq (fForR (fCons (fLen (fPeek 2)) (rt [])) (gN 3) (fIf (fNot (fT (fCallN 4 m_can_be_next (fCons (fName 0) (fCons (fName 1) (fCons (fSl (fName 2) (rt none) (fPart (fName 3))) (fCons (fIxD (fName 2) (fName 3)) (rt [])))))))) (fRet (fTup (fCons (rt (.str "row")) (fCons (fName 3) (rt []))))) (sOut .nx)))
  (fRet (rt .non)))
def m_row_fault : Fd := runB fb_row_fault 4 3
theorem kf_row_fault {f : Addr} {fd : FuncData} (T : Tx P w K mg base Γ) (F : Fun K "row_fault" "row_fault" s_row_fault f fd) (hm : mg "row_fault" = some (.ref f)) (K_can_be_next : Kf P w K mg base 4 "can_be_next" (dsp K Γ 4 m_can_be_next)) : Kf P w K mg base 5 "row_fault" (dsp K Γ 3 m_row_fault) :=
  kf_of (ps := ["voices", "pedal", "row"]) (N := ["voices", "pedal", "row", "number"]) F hm sc_row_fault (F.binds (ps := ["voices", "pedal", "row"]) fun _ _ _ _ _ _ us hl => match us, hl with | [_, _, _], _ => rfl) (fun cdv A outer s H E C =>
  b_cons (s_if (t_not (t_val (d_isi (T := "tuple") (dv_ 2) (pe_bltn (by rfl) T.z_tuple (by decide +kernel) rfl) (by rfl) T.z_isinstance (by decide +kernel))))
  (b_one (s_ret (d_tup (da_cons d_str da_nil))))
  b_nil)
  (b_cons (s_forR C.calm C.pas (da_cons (d_len (dp_ 2) (by rfl) T.z_len PySem.boot_len) da_nil) (g_name 3 sc_row_fault.nd)
  (b_one (s_if (t_not (t_val (d_callK K_can_be_next (by decide) C (by rfl) (da_cons (dv_ 0) (da_cons (dv_ 1) (da_cons (d_sl (dv_ 2) do_none (do_some (dv_ 3))) (da_cons (d_ix (dv_ 2) (dv_ 3) (fun _ _ => rfl)) da_nil)))))))
  (b_one (s_ret (d_tup (da_cons d_str (da_cons (dv_ 3) da_nil)))))
  b_nil)) (by rfl) T.z_range)
  (b_one (s_ret d_non))))

/-! ### waits_in_vain -/
abbrev s_waits_in_vain : Stmt := top 26
theorem sc_waits_in_vain : FnScope ["machine", "row", "loud", "voices", "_", "returning"] ["machine", "row"] (defScope s_waits_in_vain) := ⟨rfl, rfl, rfl, by decide +kernel, rfl, by decide +kernel, by decide +kernel⟩
def fb_waits_in_vain : Ms := fSeq (fAsg (fName 0) (gT 3 (gsCons (gN 3) (gsCons (gN 4) (gsCons (gN 5) gsNil)))))
  (fSeq (fSet 2 (fLen (fPk (fCallN 1 m_loud_keys (fCons (fName 1) (rt []))))))
  (fRet (fAndV (f2 pNe (fName 5) (rt (.str "none"))) (fAndV (f2 pLt (fName 2) (fName 3)) (f2 pLt (fName 2) (fLen (fPeek 1)))))))
def m_waits_in_vain : Fd := runB fb_waits_in_vain 6 2
theorem kf_waits_in_vain {f : Addr} {fd : FuncData} (T : Tx P w K mg base Γ) (F : Fun K "waits_in_vain" "waits_in_vain" s_waits_in_vain f fd) (hm : mg "waits_in_vain" = some (.ref f)) (K_loud_keys : Kf P w K mg base 1 "loud_keys" (dsp K Γ 1 m_loud_keys)) : Kf P w K mg base 2 "waits_in_vain" (dsp K Γ 2 m_waits_in_vain) :=
  kf_of (ps := ["machine", "row"]) (N := ["machine", "row", "loud", "voices", "_", "returning"]) F hm sc_waits_in_vain (F.binds (ps := ["machine", "row"]) fun _ _ _ _ _ _ us hl => match us, hl with | [_, _], _ => rfl) (fun cdv A outer s H E C =>
  b_cons (s_asg (dv_ 0) (g_tup C.calm (gs_cons (g_name 3 sc_waits_in_vain.nd) (gs_cons (g_name 4 sc_waits_in_vain.nd) (gs_cons (g_name 5 sc_waits_in_vain.nd) gs_nil)))))
  (b_cons (s_set 2 sc_waits_in_vain.nd (d_len (d_pkD (d_callK K_loud_keys (by decide) C (by rfl) (da_cons (dv_ 1) da_nil))) (by rfl) T.z_len PySem.boot_len))
  (b_one (s_ret (d_and (d_cmp (o_ne C.room.units) (dv_ 5) d_str (nomark _)) (d_and (d_cmp o_lt (dv_ 2) (dv_ 3) (nomark _)) (d_one (d_cmp o_lt (dv_ 2) (d_len (dp_ 1) (by rfl) T.z_len PySem.boot_len) (nomark _)))))))))

/-! ### state_fault -/
abbrev s_state_fault : Stmt := top 27
theorem sc_state_fault : FnScope ["machine", "thing", "place", "pedal", "row"] ["machine", "thing"] (defScope s_state_fault) := ⟨rfl, rfl, rfl, by decide +kernel, rfl, by decide +kernel, by decide +kernel⟩
def fb_state_fault : Ms := fSeq (fIf (fOr (fNot (fT (fIsi "tuple" (fName 1)))) (fT (f2 pNe (fLen (fPeek 1)) (rt (.int 2))))) (fRet (fTup (rt []))) (sOut .nx))
  (fSeq (fAsg (fName 1) (gT 2 (gsCons (gN 3) (gsCons (gN 4) gsNil))))
  (fSeq (fIf (fNot (fT (fIsi "bool" (fName 3)))) (fRet (fTup (fCons (rt (.str "pedal")) (rt [])))) (sOut .nx))
  (fSeq (fSet 2 (fCallN 3 m_row_fault (fCons (fIxD (fName 0) (rt (.int 0))) (fCons (fName 3) (fCons (fName 4) (rt []))))))
  (fSeq (fIf (fAnd (fT (f2 pIs (fName 2) (rt .non))) (fT (fCallN 2 m_waits_in_vain (fCons (fName 0) (fCons (fName 4) (rt [])))))) (fRet (fTup (fCons (rt (.str "waits")) (rt [])))) (sOut .nx))
  (fRet (fName 2))))))
def m_state_fault : Fd := runB fb_state_fault 5 2
theorem kf_state_fault {f : Addr} {fd : FuncData} (T : Tx P w K mg base Γ) (F : Fun K "state_fault" "state_fault" s_state_fault f fd) (hm : mg "state_fault" = some (.ref f)) (K_row_fault : Kf P w K mg base 5 "row_fault" (dsp K Γ 3 m_row_fault)) (K_waits_in_vain : Kf P w K mg base 2 "waits_in_vain" (dsp K Γ 2 m_waits_in_vain)) : Kf P w K mg base 6 "state_fault" (dsp K Γ 2 m_state_fault) :=
  kf_of (ps := ["machine", "thing"]) (N := ["machine", "thing", "place", "pedal", "row"]) F hm sc_state_fault (F.binds (ps := ["machine", "thing"]) fun _ _ _ _ _ _ us hl => match us, hl with | [_, _], _ => rfl) (fun cdv A outer s H E C =>
  b_cons (s_if (t_w (w_or (t_not (t_val (d_isi (T := "tuple") (dv_ 1) (pe_bltn (by rfl) T.z_tuple (by decide +kernel) rfl) (by rfl) T.z_isinstance (by decide +kernel)))) (w_or1 (t_cmp (o_ne C.room.units) (d_len (dp_ 1) (by rfl) T.z_len PySem.boot_len) d_int (nomark _)))))
  (b_one (s_ret (d_tup da_nil)))
  b_nil)
  (b_cons (s_asg (dv_ 1) (g_tup C.calm (gs_cons (g_name 3 sc_state_fault.nd) (gs_cons (g_name 4 sc_state_fault.nd) gs_nil))))
  (b_cons (s_if (t_not (t_val (d_isi (T := "bool") (dv_ 3) (pe_bltn (by rfl) T.z_bool (by decide +kernel) rfl) (by rfl) T.z_isinstance (by decide +kernel))))
  (b_one (s_ret (d_tup (da_cons d_str da_nil))))
  b_nil)
  (b_cons (s_set 2 sc_state_fault.nd (d_callK K_row_fault (by decide) C (by rfl) (da_cons (d_ix (dv_ 0) d_int (fun _ _ => rfl)) (da_cons (dv_ 3) (da_cons (dv_ 4) da_nil)))))
  (b_cons (s_if (t_w (w_and (t_cmp o_is (dv_ 2) d_non (nomark _)) (w_and1 (t_val (d_callK K_waits_in_vain (by decide) C (by rfl) (da_cons (dv_ 0) (da_cons (dv_ 4) da_nil)))))))
  (b_one (s_ret (d_tup (da_cons d_str da_nil))))
  b_nil)
  (b_one (s_ret (dv_ 2))))))))

/-! ### need_state -/
abbrev s_need_state : Stmt := top 28
theorem sc_need_state : FnScope ["machine", "thing", "place"] ["machine", "thing"] (defScope s_need_state) := ⟨rfl, rfl, rfl, by decide +kernel, rfl, by decide +kernel, by decide +kernel⟩
def fb_need_state : Ms := fSeq (fSet 2 (fCallN 2 m_state_fault (fCons (fCallN 1 m_need_machine (fCons (fName 0) (rt []))) (fCons (fName 1) (rt [])))))
  (fSeq (fIf (fT (f2 pNis (fName 2) (rt .non))) (fRaise "BadState" (fName 2)) (sOut .nx))
  (fRet (fName 1)))
def m_need_state : Fd := runB fb_need_state 3 2
theorem kf_need_state {f : Addr} {fd : FuncData} (T : Tx P w K mg base Γ) (F : Fun K "need_state" "need_state" s_need_state f fd) (hm : mg "need_state" = some (.ref f)) (K_need_machine : Kf P w K mg base 5 "need_machine" (dsp K Γ 1 m_need_machine)) (K_state_fault : Kf P w K mg base 6 "state_fault" (dsp K Γ 2 m_state_fault)) : Kf P w K mg base 7 "need_state" (dsp K Γ 2 m_need_state) :=
  kf_of (ps := ["machine", "thing"]) (N := ["machine", "thing", "place"]) F hm sc_need_state (F.binds (ps := ["machine", "thing"]) fun _ _ _ _ _ _ us hl => match us, hl with | [_, _], _ => rfl) (fun cdv A outer s H E C =>
  b_cons (s_set 2 sc_need_state.nd (d_callK K_state_fault (by decide) C (by rfl) (da_cons (d_callK K_need_machine (by decide) C (by rfl) (da_cons (dv_ 0) da_nil)) (da_cons (dv_ 1) da_nil))))
  (b_cons (s_if (t_cmp o_nis (dv_ 2) d_non (nomark _))
  (b_one (s_raise T.x_BadState C (by decide) (by rfl) (dv_ 2)))
  b_nil)
  (b_one (s_ret (dv_ 1)))))

/-! ### is_state -/
abbrev s_is_state : Stmt := top 29
theorem sc_is_state : FnScope ["machine", "thing"] ["machine", "thing"] (defScope s_is_state) := ⟨rfl, rfl, rfl, by decide +kernel, rfl, by decide +kernel, by decide +kernel⟩
def fb_is_state : Ms := fRet (f2 pIs (fCallN 2 m_state_fault (fCons (fCallN 1 m_need_machine (fCons (fName 0) (rt []))) (fCons (fName 1) (rt [])))) (rt .non))
def m_is_state : Fd := runB fb_is_state 2 2
theorem kf_is_state {f : Addr} {fd : FuncData} (T : Tx P w K mg base Γ) (F : Fun K "is_state" "is_state" s_is_state f fd) (hm : mg "is_state" = some (.ref f)) (K_need_machine : Kf P w K mg base 5 "need_machine" (dsp K Γ 1 m_need_machine)) (K_state_fault : Kf P w K mg base 6 "state_fault" (dsp K Γ 2 m_state_fault)) : Kf P w K mg base 7 "is_state" (dsp K Γ 2 m_is_state) :=
  kf_of (ps := ["machine", "thing"]) (N := ["machine", "thing"]) F hm sc_is_state (F.binds (ps := ["machine", "thing"]) fun _ _ _ _ _ _ us hl => match us, hl with | [_, _], _ => rfl) (fun cdv A outer s H E C =>
  b_one (s_ret (d_cmp o_is (d_callK K_state_fault (by decide) C (by rfl) (da_cons (d_callK K_need_machine (by decide) C (by rfl) (da_cons (dv_ 0) da_nil)) (da_cons (dv_ 1) da_nil))) d_non (nomark _))))

/-! ### sound -/
abbrev s_sound : Stmt := top 30
theorem sc_sound : FnScope ["machine", "state"] ["machine", "state"] (defScope s_sound) := ⟨rfl, rfl, rfl, by decide +kernel, rfl, by decide +kernel, by decide +kernel⟩
def fb_sound : Ms := fRet (fCallN 1 m_sound_of (fCons (fCallN 2 m_need_state (fCons (fName 0) (fCons (fName 1) (rt [])))) (rt [])))
def m_sound : Fd := runB fb_sound 2 2
theorem kf_sound {f : Addr} {fd : FuncData} (T : Tx P w K mg base Γ) (F : Fun K "sound" "sound" s_sound f fd) (hm : mg "sound" = some (.ref f)) (K_sound_of : Kf P w K mg base 2 "sound_of" (dsp K Γ 1 m_sound_of)) (K_need_state : Kf P w K mg base 7 "need_state" (dsp K Γ 2 m_need_state)) : Kf P w K mg base 8 "sound" (dsp K Γ 2 m_sound) :=
  kf_of (ps := ["machine", "state"]) (N := ["machine", "state"]) F hm sc_sound (F.binds (ps := ["machine", "state"]) fun _ _ _ _ _ _ us hl => match us, hl with | [_, _], _ => rfl) (fun cdv A outer s H E C =>
  b_one (s_ret (d_callK K_sound_of (by decide) C (by rfl) (da_cons (d_callK K_need_state (by decide) C (by rfl) (da_cons (dv_ 0) (da_cons (dv_ 1) da_nil))) da_nil))))

/-! ### _law_draw -/
abbrev s__law_draw : Stmt := top 33
theorem sc__law_draw : FnScope ["m", "limit", "mixed", "cell"] ["m", "limit"] (defScope s__law_draw) := ⟨rfl, rfl, rfl, by decide +kernel, rfl, by decide +kernel, by decide +kernel⟩
def fb__law_draw : Ms := fSeq (fWhl (fun g => g.s.great.length + 1) (fAnd (fT (f2 pNe (fMg .great (fName 0)) (fLet (fLst (rt []))))) (fT (f2 pEq (fIxD (fMg .great (fName 0)) (rt (.int 0))) (rt (.int 0))))) (fMp .great 0 (fSl (fMg .great (fName 0)) (fPart (rt (.int 1))) (rt none))))
  (fSeq (fIf (fT (f2 pNe (fMg .great (fName 0)) (fLet (fLst (rt []))))) (fSeq (fSet 3 (fIxD (fMg .great (fName 0)) (rt (.int 0))))
  (fSeq (fMp .great 0 (fLet (fCat (fLet (fLst (fCons (f2 pDiv (fName 3) (fName 1)) (rt [])))) (fSl (fMg .great (fName 0)) (fPart (rt (.int 1))) (rt none)))))
  (fRet (f2 pMod (fInt (fName 3)) (fName 1))))) (sOut .nx))
  (fSeq (fMp .turns 0 (f2 pAdd (fMg .turns (fName 0)) (rt (.int 1))))
  (fSeq (fSet 2 (f2 pMod (fInt (f2 pAdd (f2 pAdd (f2 pMul (fMg .seed (fName 0)) (rt (.int 48271))) (f2 pMul (f2 pMul (fMg .turns (fName 0)) (fMg .turns (fName 0))) (rt (.int 16807)))) (fMg .turns (fName 0)))) (rt (.int 2147483647))))
  (fSeq (fSet 2 (f2 pMod (fInt (f2 pAdd (f2 pMul (fName 2) (rt (.int 69621))) (rt (.int 12345)))) (rt (.int 2147483629))))
  (fRet (f2 pMod (f2 pDiv (f2 pMod (fInt (f2 pAdd (f2 pMul (fName 2) (rt (.int 40014))) (fMg .turns (fName 0)))) (rt (.int 2147483563))) (rt (.int 64))) (fName 1)))))))
def m__law_draw : Fd := runB fb__law_draw 4 2
theorem kf__law_draw {f : Addr} {fd : FuncData} (T : Tx P w K mg base Γ) (F : Fun K "_law_draw" "_law_draw" s__law_draw f fd) (hm : mg "_law_draw" = some (.ref f))  : Kf P w K mg base 1 "_law_draw" (dsp K Γ 2 m__law_draw) :=
  kf_of (ps := ["m", "limit"]) (N := ["m", "limit", "mixed", "cell"]) F hm sc__law_draw (F.binds (ps := ["m", "limit"]) fun _ _ _ _ _ _ us hl => match us, hl with | [_, _], _ => rfl) (fun cdv A outer s H E C =>
  b_cons (s_while (fun g => g.s.great.length + 1) C.pas (t_w (w_and (t_cmp (o_ne C.room.units) (d_mget .great (hu_of C.room) (dv_ 0)) (d_let (d_lstO da_nil)) (nomark _)) (w_and1 (t_cmp (o_eq C.room.units) (d_ix (d_mget .great (hu_of C.room) (dv_ 0)) d_int (fun _ _ => rfl)) d_int (nomark _)))))
  (b_one (s_mput .great 0 (hu_of C.room) (dv_ 0) (d_sl (d_mget .great (hu_of C.room) (dv_ 0)) (do_some d_int) do_none))))
  (b_cons (s_if (t_cmp (o_ne C.room.units) (d_mget .great (hu_of C.room) (dv_ 0)) (d_let (d_lstO da_nil)) (nomark _))
  (b_cons (s_set 3 sc__law_draw.nd (d_ix (d_mget .great (hu_of C.room) (dv_ 0)) d_int (fun _ _ => rfl)))
  (b_cons (s_mput .great 0 (hu_of C.room) (dv_ 0) (d_let (d_catO (d_let (d_lstO (da_cons (d_bin o_div (dv_ 3) (dv_ 1)) da_nil))) (d_sl (d_mget .great (hu_of C.room) (dv_ 0)) (do_some d_int) do_none))))
  (b_one (s_ret (d_bin o_mod (d_intOf (dv_ 3) (by rfl) T.z_int (by decide +kernel)) (dv_ 1))))))
  b_nil)
  (b_cons (s_mput .turns 0 (hu_of C.room) (dv_ 0) (d_bin o_add (d_mget .turns (hu_of C.room) (dv_ 0)) d_int))
  (b_cons (s_set 2 sc__law_draw.nd (d_bin o_mod (d_intOf (d_bin o_add (d_bin o_add (d_bin o_mul (d_mget .seed (hu_of C.room) (dv_ 0)) d_int) (d_bin o_mul (d_bin o_mul (d_mget .turns (hu_of C.room) (dv_ 0)) (d_mget .turns (hu_of C.room) (dv_ 0))) d_int)) (d_mget .turns (hu_of C.room) (dv_ 0))) (by rfl) T.z_int (by decide +kernel)) d_int))
  (b_cons (s_set 2 sc__law_draw.nd (d_bin o_mod (d_intOf (d_bin o_add (d_bin o_mul (dv_ 2) d_int) d_int) (by rfl) T.z_int (by decide +kernel)) d_int))
  (b_one (s_ret (d_bin o_mod (d_bin o_div (d_bin o_mod (d_intOf (d_bin o_add (d_bin o_mul (dv_ 2) d_int) (d_mget .turns (hu_of C.room) (dv_ 0))) (by rfl) T.z_int (by decide +kernel)) d_int) d_int) (dv_ 1)))))))))

/-! ### _law_of -/
abbrev s__law_of : Stmt := top 34
theorem sc__law_of : FnScope ["m", "some"] ["m", "some"] (defScope s__law_of) := ⟨rfl, rfl, rfl, by decide +kernel, rfl, by decide +kernel, by decide +kernel⟩
def fb__law_of : Ms := fRet (fIxD (fName 1) (fCallN 2 m__law_draw (fCons (fName 0) (fCons (fLen (fPeek 1)) (rt [])))))
def m__law_of : Fd := runB fb__law_of 2 2
theorem kf__law_of {f : Addr} {fd : FuncData} (T : Tx P w K mg base Γ) (F : Fun K "_law_of" "_law_of" s__law_of f fd) (hm : mg "_law_of" = some (.ref f)) (K__law_draw : Kf P w K mg base 1 "_law_draw" (dsp K Γ 2 m__law_draw)) : Kf P w K mg base 2 "_law_of" (dsp K Γ 2 m__law_of) :=
  kf_of (ps := ["m", "some"]) (N := ["m", "some"]) F hm sc__law_of (F.binds (ps := ["m", "some"]) fun _ _ _ _ _ _ us hl => match us, hl with | [_, _], _ => rfl) (fun cdv A outer s H E C =>
  b_one (s_ret (d_ix (dv_ 1) (d_callK K__law_draw (by decide) C (by rfl) (da_cons (dv_ 0) (da_cons (d_len (dp_ 1) (by rfl) T.z_len PySem.boot_len) da_nil))) (fun _ _ => rfl))))

/-! ### _law_machine -/
abbrev s__law_machine : Stmt := top 35
theorem sc__law_machine : FnScope ["m", "most", "long", "turn", "back", "words", "some"] ["m", "most", "long"] (defScope s__law_machine) := ⟨rfl, rfl, rfl, by decide +kernel, rfl, by decide +kernel, by decide +kernel⟩
def fb__law_machine : Ms := fSeq (fParOO 5 6 (fLst (rt [])) (fLst (fCons (rt (.str "kept")) (fCons (rt (.str "inner")) (fCons (rt (.str "notlow")) (fCons (rt (.str "nothigh")) (fCons (rt (.str "below")) (fCons (rt (.str "above")) (fCons (rt (.str "under")) (fCons (rt (.str "over")) (rt [])))))))))))
  (fSeq (fForR (fCons (fCallN 2 m__law_draw (fCons (fName 0) (fCons (fName 2) (rt [])))) (rt [])) (gN 3) (fExp (fApp 5 (fPopAt 6 (fCallN 2 m__law_draw (fCons (fName 0) (fCons (fLen (fPeek 6)) (rt []))))))))
  (fSeq (fExp (fApp 5 (fCallN 2 m__law_of (fCons (fName 0) (fCons (fLet (fLst (fCons (rt (.str "eldest")) (fCons (rt (.str "latest")) (fCons (rt (.str "lowest")) (fCons (rt (.str "highest")) (fCons (rt (.str "refuse")) (rt [])))))))) (rt []))))))
  (fSeq (fSet 4 (fCallN 2 m__law_of (fCons (fName 0) (fCons (fLet (fLst (fCons (rt (.str "none")) (fCons (rt (.str "eldest")) (fCons (rt (.str "latest")) (fCons (rt (.str "lowest")) (fCons (rt (.str "highest")) (rt [])))))))) (rt [])))))
  (fRet (fTup (fCons (f2 pAdd (rt (.int 1)) (fCallN 2 m__law_draw (fCons (fName 0) (fCons (fName 1) (rt []))))) (fCons (fTupOf (fPeek 5)) (fCons (fName 4) (rt [])))))))))
def m__law_machine : Fd := runB fb__law_machine 7 3
theorem kf__law_machine {f : Addr} {fd : FuncData} (T : Tx P w K mg base Γ) (F : Fun K "_law_machine" "_law_machine" s__law_machine f fd) (hm : mg "_law_machine" = some (.ref f)) (K__law_draw : Kf P w K mg base 1 "_law_draw" (dsp K Γ 2 m__law_draw)) (K__law_of : Kf P w K mg base 2 "_law_of" (dsp K Γ 2 m__law_of)) : Kf P w K mg base 3 "_law_machine" (dsp K Γ 3 m__law_machine) :=
  kf_of (ps := ["m", "most", "long"]) (N := ["m", "most", "long", "turn", "back", "words", "some"]) F hm sc__law_machine (F.binds (ps := ["m", "most", "long"]) fun _ _ _ _ _ _ us hl => match us, hl with | [_, _, _], _ => rfl) (fun cdv A outer s H E C =>
  b_cons (s_parOO (i := 5) (j := 6) C.calm sc__law_machine.nd (d_lstO da_nil) (d_lstO (da_cons d_str (da_cons d_str (da_cons d_str (da_cons d_str (da_cons d_str (da_cons d_str (da_cons d_str (da_cons d_str da_nil))))))))))
  (b_cons (s_forR C.calm C.pas (da_cons (d_callK K__law_draw (by decide) C (by rfl) (da_cons (dv_ 0) (da_cons (dv_ 2) da_nil))) da_nil) (g_name 3 sc__law_machine.nd)
  (b_one (s_exp (d_app 5 (d_popAt 6 (d_callK K__law_draw (by decide) C (by rfl) (da_cons (dv_ 0) (da_cons (d_len (dp_ 6) (by rfl) T.z_len PySem.boot_len) da_nil))))))) (by rfl) T.z_range)
  (b_cons (s_exp (d_app 5 (d_callK K__law_of (by decide) C (by rfl) (da_cons (dv_ 0) (da_cons (d_let (d_lstO (da_cons d_str (da_cons d_str (da_cons d_str (da_cons d_str (da_cons d_str da_nil))))))) da_nil)))))
  (b_cons (s_set 4 sc__law_machine.nd (d_callK K__law_of (by decide) C (by rfl) (da_cons (dv_ 0) (da_cons (d_let (d_lstO (da_cons d_str (da_cons d_str (da_cons d_str (da_cons d_str (da_cons d_str da_nil))))))) da_nil))))
  (b_one (s_ret (d_tup (da_cons (d_bin o_add d_int (d_callK K__law_draw (by decide) C (by rfl) (da_cons (dv_ 0) (da_cons (dv_ 1) da_nil)))) (da_cons (d_tuple (dp_ 5) (by rfl) T.z_tuple (by decide +kernel)) (da_cons (dv_ 4) da_nil))))))))))

/-! ### _law_loud -/
abbrev s__law_loud : Stmt := top 36
theorem sc__law_loud : FnScope ["row", "pair"] ["row"] (defScope s__law_loud) := ⟨rfl, rfl, rfl, by decide +kernel, rfl, by decide +kernel, by decide +kernel⟩
def fb__law_loud : Ms := fRet (fLet (fComp [1] (fName 0) (gN 1) (fT (f2 pNe (fIxD (fName 1) (rt (.int 1))) (rt (.str "waits")))) (fName 1)))
def m__law_loud : Fd := runB fb__law_loud 2 1
theorem kf__law_loud {f : Addr} {fd : FuncData} (T : Tx P w K mg base Γ) (F : Fun K "_law_loud" "_law_loud" s__law_loud f fd) (hm : mg "_law_loud" = some (.ref f))  : Kf P w K mg base 1 "_law_loud" (dsp K Γ 1 m__law_loud) :=
  kf_of (ps := ["row"]) (N := ["row", "pair"]) F hm sc__law_loud (F.binds (ps := ["row"]) fun _ _ _ _ _ _ us hl => match us, hl with | [_], _ => rfl) (fun cdv A outer s H E C =>
  b_one (s_ret (d_let (d_comp (own := [("pair", 1)]) (js := [1]) C.calm sc__law_loud.nd (dv_ 0) (blk_ok (by decide +kernel)) (by decide) ⟨fun _ _ _ _ _ => g_name 1 sc__law_loud.nd, fun _ _ _ _ _ => pts_1 (t_cmp (o_ne C.room.units) (d_ix (dv_ 1) d_int (fun _ _ => rfl)) d_str (nomark _)), fun _ _ _ _ _ => dv_ 1⟩))))

/-! ### _law_sound -/
abbrev s__law_sound : Stmt := top 37
theorem sc__law_sound : FnScope ["state", "pair"] ["state"] (defScope s__law_sound) := ⟨rfl, rfl, rfl, by decide +kernel, rfl, by decide +kernel, by decide +kernel⟩
def fb__law_sound : Ms := fRet (fTupOf (fSorted (fLet (fComp [1] (fCallN 1 m__law_loud (fCons (fIxD (fName 0) (rt (.int 1))) (rt []))) (gN 1) ((rt true)) (fIxD (fName 1) (rt (.int 0)))))))
def m__law_sound : Fd := runB fb__law_sound 2 1
theorem kf__law_sound {f : Addr} {fd : FuncData} (T : Tx P w K mg base Γ) (F : Fun K "_law_sound" "_law_sound" s__law_sound f fd) (hm : mg "_law_sound" = some (.ref f)) (K__law_loud : Kf P w K mg base 1 "_law_loud" (dsp K Γ 1 m__law_loud)) : Kf P w K mg base 2 "_law_sound" (dsp K Γ 1 m__law_sound) :=
  kf_of (ps := ["state"]) (N := ["state", "pair"]) F hm sc__law_sound (F.binds (ps := ["state"]) fun _ _ _ _ _ _ us hl => match us, hl with | [_], _ => rfl) (fun cdv A outer s H E C =>
  b_one (s_ret (d_tuple (d_pk (d_sorted (d_let (d_comp (own := [("pair", 1)]) (js := [1]) C.calm sc__law_sound.nd (d_callK K__law_loud (by decide) C (by rfl) (da_cons (d_ix (dv_ 0) d_int (fun _ _ => rfl)) da_nil)) (blk_ok (by decide +kernel)) (by decide) ⟨fun _ _ _ _ _ => g_name 1 sc__law_sound.nd, fun _ _ _ _ _ => pts_yes, fun _ _ _ _ _ => d_ix (dv_ 1) d_int (fun _ _ => rfl)⟩)) (by rfl) T.z_sorted (by decide +kernel))) (by rfl) T.z_tuple (by decide +kernel))))

/-! ### _law_end -/
abbrev s__law_end : Stmt := top 38
theorem sc__law_end : FnScope ["word", "some", "pair", "heights", "chosen_so"] ["word", "some"] (defScope s__law_end) := ⟨rfl, rfl, rfl, by decide +kernel, rfl, by decide +kernel, by decide +kernel⟩
def fb__law_end : Ms := fSeq (fSetO 3 (fComp [2] (fName 1) (gN 2) ((rt true)) (fIxD (fName 2) (rt (.int 0)))))
  (fSeq (fSet 4 (fDisp [("eldest", fSl (fName 3) (rt none) (fPart (rt (.int 1)))), ("latest", fSl (fName 3) (fPart (fNeg (rt (.int 1)))) (rt none)), ("lowest", fLet (fLst (fCons (fMin (fName 3)) (rt [])))), ("highest", fLet (fLst (fCons (fMax (fName 3)) (rt []))))]))
  (fRet (fDget (fName 4) (fName 0) (fLet (fLst (rt []))))))
def m__law_end : Fd := runB fb__law_end 5 2
theorem kf__law_end {f : Addr} {fd : FuncData} (T : Tx P w K mg base Γ) (F : Fun K "_law_end" "_law_end" s__law_end f fd) (hm : mg "_law_end" = some (.ref f))  : Kf P w K mg base 1 "_law_end" (dsp K Γ 2 m__law_end) :=
  kf_of (ps := ["word", "some"]) (N := ["word", "some", "pair", "heights", "chosen_so"]) F hm sc__law_end (F.binds (ps := ["word", "some"]) fun _ _ _ _ _ _ us hl => match us, hl with | [_, _], _ => rfl) (fun cdv A outer s H E C =>
  b_cons (s_setC (i := 3) (own := [("pair", 2)]) (js := [2]) C.calm sc__law_end.nd rfl rfl (sw_true rfl rfl rfl (by decide +kernel)) (dv_ 1) (blk_ok (by decide +kernel)) (by decide) ⟨fun _ _ _ _ _ => g_name 2 sc__law_end.nd, fun _ _ _ _ _ => pts_yes, fun _ _ _ _ _ => d_ix (dv_ 2) d_int (fun _ _ => rfl)⟩)
  (b_cons (s_set 4 sc__law_end.nd (d_disp (dps_cons (d_sl (dv_ 3) do_none (do_some d_int)) (dps_cons (d_sl (dv_ 3) (do_some (d_neg d_int)) do_none) (dps_cons (d_let (d_lstO (da_cons (d_min C.calm (dv_ 3) (by rfl) T.z_min (by decide +kernel)) da_nil))) (dps_cons (d_let (d_lstO (da_cons (d_max C.calm (dv_ 3) (by rfl) T.z_max (by decide +kernel)) da_nil))) dps_nil))))))
  (b_one (s_ret (d_dget (hu_of C.room) (dv_ 4) (dv_ 0) (d_let (d_lstO da_nil)))))))

/-! ### _law_left -/
abbrev s__law_left : Stmt := top 39
theorem sc__law_left : FnScope ["word", "ringing", "some", "key", "pair", "low", "high", "spared"] ["word", "ringing", "some", "key"] (defScope s__law_left) := ⟨rfl, rfl, rfl, by decide +kernel, rfl, by decide +kernel, by decide +kernel⟩
def fb__law_left : Ms := fSeq (fParDD 5 6 (fMin (fLet (fComp [4] (fName 1) (gN 4) ((rt true)) (fIxD (fName 4) (rt (.int 0)))))) (fMax (fLet (fComp [4] (fName 1) (gN 4) ((rt true)) (fIxD (fName 4) (rt (.int 0)))))))
  (fSeq (fIf (fT (f2 (pIn false) (fName 0) (fTup (fCons (rt (.str "below")) (fCons (rt (.str "under")) (rt [])))))) (fRet (fLet (fComp [4] (fName 2) (gN 4) (fT (f2 pLt (fIxD (fName 4) (rt (.int 0))) (fName 3))) (fName 4)))) (sOut .nx))
  (fSeq (fIf (fT (f2 (pIn false) (fName 0) (fTup (fCons (rt (.str "above")) (fCons (rt (.str "over")) (rt [])))))) (fRet (fLet (fComp [4] (fName 2) (gN 4) (fT (f2 pGt (fIxD (fName 4) (rt (.int 0))) (fName 3))) (fName 4)))) (sOut .nx))
  (fSeq (fSet 7 (fDix (fDisp [("kept", fLet (fLst (rt []))), ("notlow", fLet (fLst (fCons (fName 5) (rt [])))), ("nothigh", fLet (fLst (fCons (fName 6) (rt [])))), ("inner", fLet (fLst (fCons (fName 5) (fCons (fName 6) (rt [])))))]) (fName 0)))
  (fRet (fLet (fComp [4] (fName 2) (gN 4) (fAnd (fT (f2 (pIn true) (fIxD (fName 4) (rt (.int 0))) (fName 7))) (fOr (fT (f2 pNe (fName 0) (rt (.str "kept")))) (fT (f2 pEq (fIxD (fName 4) (rt (.int 1))) (rt (.str "kept")))))) (fName 4)))))))
def m__law_left : Fd := runB fb__law_left 8 4
theorem kf__law_left {f : Addr} {fd : FuncData} (T : Tx P w K mg base Γ) (F : Fun K "_law_left" "_law_left" s__law_left f fd) (hm : mg "_law_left" = some (.ref f))  : Kf P w K mg base 1 "_law_left" (dsp K Γ 4 m__law_left) :=
  kf_of (ps := ["word", "ringing", "some", "key"]) (N := ["word", "ringing", "some", "key", "pair", "low", "high", "spared"]) F hm sc__law_left (F.binds (ps := ["word", "ringing", "some", "key"]) fun _ _ _ _ _ _ us hl => match us, hl with | [_, _, _, _], _ => rfl) (fun cdv A outer s H E C =>
  b_cons (s_parDD (i := 5) (j := 6) C.calm sc__law_left.nd (d_min C.calm (d_let (d_comp (own := [("pair", 4)]) (js := [4]) C.calm sc__law_left.nd (dv_ 1) (blk_ok (by decide +kernel)) (by decide) ⟨fun _ _ _ _ _ => g_name 4 sc__law_left.nd, fun _ _ _ _ _ => pts_yes, fun _ _ _ _ _ => d_ix (dv_ 4) d_int (fun _ _ => rfl)⟩)) (by rfl) T.z_min (by decide +kernel)) (d_max C.calm (d_let (d_comp (own := [("pair", 4)]) (js := [4]) C.calm sc__law_left.nd (dv_ 1) (blk_ok (by decide +kernel)) (by decide) ⟨fun _ _ _ _ _ => g_name 4 sc__law_left.nd, fun _ _ _ _ _ => pts_yes, fun _ _ _ _ _ => d_ix (dv_ 4) d_int (fun _ _ => rfl)⟩)) (by rfl) T.z_max (by decide +kernel)))
  (b_cons (s_if (t_cmp o_in (dv_ 0) (d_tup (da_cons d_str (da_cons d_str da_nil))) (by rfl))
  (b_one (s_ret (d_let (d_comp (own := [("pair", 4)]) (js := [4]) C.calm sc__law_left.nd (dv_ 2) (blk_ok (by decide +kernel)) (by decide) ⟨fun _ _ _ _ _ => g_name 4 sc__law_left.nd, fun _ _ _ _ _ => pts_1 (t_cmp o_lt (d_ix (dv_ 4) d_int (fun _ _ => rfl)) (dv_ 3) (nomark _)), fun _ _ _ _ _ => dv_ 4⟩))))
  b_nil)
  (b_cons (s_if (t_cmp o_in (dv_ 0) (d_tup (da_cons d_str (da_cons d_str da_nil))) (by rfl))
  (b_one (s_ret (d_let (d_comp (own := [("pair", 4)]) (js := [4]) C.calm sc__law_left.nd (dv_ 2) (blk_ok (by decide +kernel)) (by decide) ⟨fun _ _ _ _ _ => g_name 4 sc__law_left.nd, fun _ _ _ _ _ => pts_1 (t_cmp o_gt (d_ix (dv_ 4) d_int (fun _ _ => rfl)) (dv_ 3) (nomark _)), fun _ _ _ _ _ => dv_ 4⟩))))
  b_nil)
  (b_cons (s_set 7 sc__law_left.nd (d_dix (hu_of C.room) (d_disp (dps_cons (d_let (d_lstO da_nil)) (dps_cons (d_let (d_lstO (da_cons (dv_ 5) da_nil))) (dps_cons (d_let (d_lstO (da_cons (dv_ 6) da_nil))) (dps_cons (d_let (d_lstO (da_cons (dv_ 5) (da_cons (dv_ 6) da_nil)))) dps_nil))))) (dv_ 0)))
  (b_one (s_ret (d_let (d_comp (own := [("pair", 4)]) (js := [4]) C.calm sc__law_left.nd (dv_ 2) (blk_ok (by decide +kernel)) (by decide) ⟨fun _ _ _ _ _ => g_name 4 sc__law_left.nd, fun _ _ _ _ _ => pts_1 (t_w (w_and (t_cmp o_nin (d_ix (dv_ 4) d_int (fun _ _ => rfl)) (dv_ 7) (by rfl)) (w_and1 (t_w (w_or (t_cmp (o_ne C.room.units) (dv_ 0) d_str (nomark _)) (w_or1 (t_cmp (o_eq C.room.units) (d_ix (dv_ 4) d_int (fun _ _ => rfl)) d_str (nomark _)))))))), fun _ _ _ _ _ => dv_ 4⟩))))))))

/-! ### _law_taken -/
abbrev s__law_taken : Stmt := top 40
theorem sc__law_taken : FnScope ["machine", "row", "key", "ringing", "some", "word", "left"] ["machine", "row", "key"] (defScope s__law_taken) := ⟨rfl, rfl, rfl, by decide +kernel, rfl, by decide +kernel, by decide +kernel⟩
def fb__law_taken : Ms := fSeq (fSet 3 (fCallN 1 m__law_loud (fCons (fName 1) (rt []))))
  (fSeq (fIf (fT (f2 pLt (fLen (fPeek 3)) (fIxD (fName 0) (rt (.int 0))))) (fRet (fLet (fLst (rt [])))) (sOut .nx))
  (fSeq (fSet 4 (fName 3))
  (fSeq (fFor (fSl (fIxD (fName 0) (rt (.int 1))) (rt none) (fPart (fNeg (rt (.int 1))))) (gN 5) (fSeq (fSet 6 (fCallN 4 m__law_left (fCons (fName 5) (fCons (fName 3) (fCons (fName 4) (fCons (fName 2) (rt [])))))))
  (fSeq (fIf (fAnd (fT (f2 pEq (fName 6) (fLet (fLst (rt []))))) (fT (f2 (pIn false) (fName 5) (fTup (fCons (rt (.str "under")) (fCons (rt (.str "over")) (rt []))))))) (fRet (fLet (fLst (rt [])))) (sOut .nx))
  (fSet 4 (fIfE (fT (f2 pNe (fName 6) (fLet (fLst (rt []))))) (fName 6) (fName 4))))))
  (fRet (fCallN 2 m__law_end (fCons (fIxD (fIxD (fName 0) (rt (.int 1))) (fNeg (rt (.int 1)))) (fCons (fName 4) (rt []))))))))
def m__law_taken : Fd := runB fb__law_taken 7 3
theorem kf__law_taken {f : Addr} {fd : FuncData} (T : Tx P w K mg base Γ) (F : Fun K "_law_taken" "_law_taken" s__law_taken f fd) (hm : mg "_law_taken" = some (.ref f)) (K__law_loud : Kf P w K mg base 1 "_law_loud" (dsp K Γ 1 m__law_loud)) (K__law_end : Kf P w K mg base 1 "_law_end" (dsp K Γ 2 m__law_end)) (K__law_left : Kf P w K mg base 1 "_law_left" (dsp K Γ 4 m__law_left)) : Kf P w K mg base 2 "_law_taken" (dsp K Γ 3 m__law_taken) :=
  kf_of (ps := ["machine", "row", "key"]) (N := ["machine", "row", "key", "ringing", "some", "word", "left"]) F hm sc__law_taken (F.binds (ps := ["machine", "row", "key"]) fun _ _ _ _ _ _ us hl => match us, hl with | [_, _, _], _ => rfl) (fun cdv A outer s H E C =>
  b_cons (s_set 3 sc__law_taken.nd (d_callK K__law_loud (by decide) C (by rfl) (da_cons (dv_ 1) da_nil)))
  (b_cons (s_if (t_cmp o_lt (d_len (dp_ 3) (by rfl) T.z_len PySem.boot_len) (d_ix (dv_ 0) d_int (fun _ _ => rfl)) (nomark _))
  (b_one (s_ret (d_let (d_lstO da_nil))))
  b_nil)
  (b_cons (s_set 4 sc__law_taken.nd (dv_ 3))
  (b_cons (s_for C.calm C.pas (d_sl (d_ix (dv_ 0) d_int (fun _ _ => rfl)) do_none (do_some (d_neg d_int))) (g_name 5 sc__law_taken.nd)
  (b_cons (s_set 6 sc__law_taken.nd (d_callK K__law_left (by decide) C (by rfl) (da_cons (dv_ 5) (da_cons (dv_ 3) (da_cons (dv_ 4) (da_cons (dv_ 2) da_nil))))))
  (b_cons (s_if (t_w (w_and (t_cmp (o_eq C.room.units) (dv_ 6) (d_let (d_lstO da_nil)) (nomark _)) (w_and1 (t_cmp o_in (dv_ 5) (d_tup (da_cons d_str (da_cons d_str da_nil))) (by rfl)))))
  (b_one (s_ret (d_let (d_lstO da_nil))))
  b_nil)
  (b_one (s_set 4 sc__law_taken.nd (d_ifE (t_cmp (o_ne C.room.units) (dv_ 6) (d_let (d_lstO da_nil)) (nomark _)) (dv_ 6) (dv_ 4)))))))
  (b_one (s_ret (d_callK K__law_end (by decide) C (by rfl) (da_cons (d_ix (d_ix (dv_ 0) d_int (fun _ _ => rfl)) (d_neg d_int) (fun _ _ => rfl)) (da_cons (dv_ 4) da_nil)))))))))

/-! ### _law_marked -/
abbrev s__law_marked : Stmt := top 41
theorem sc__law_marked : FnScope ["row", "key", "mark", "one"] ["row", "key", "mark"] (defScope s__law_marked) := ⟨rfl, rfl, rfl, by decide +kernel, rfl, by decide +kernel, by decide +kernel⟩
def fb__law_marked : Ms := fRet (fLet (fComp [3] (fName 0) (gN 3) ((rt true)) (fIfE (fT (f2 pEq (fIxD (fName 3) (rt (.int 0))) (fName 1))) (fTup (fCons (fIxD (fName 3) (rt (.int 0))) (fCons (fName 2) (rt [])))) (fName 3))))
def m__law_marked : Fd := runB fb__law_marked 4 3
theorem kf__law_marked {f : Addr} {fd : FuncData} (T : Tx P w K mg base Γ) (F : Fun K "_law_marked" "_law_marked" s__law_marked f fd) (hm : mg "_law_marked" = some (.ref f))  : Kf P w K mg base 1 "_law_marked" (dsp K Γ 3 m__law_marked) :=
  kf_of (ps := ["row", "key", "mark"]) (N := ["row", "key", "mark", "one"]) F hm sc__law_marked (F.binds (ps := ["row", "key", "mark"]) fun _ _ _ _ _ _ us hl => match us, hl with | [_, _, _], _ => rfl) (fun cdv A outer s H E C =>
  b_one (s_ret (d_let (d_comp (own := [("one", 3)]) (js := [3]) C.calm sc__law_marked.nd (dv_ 0) (blk_ok (by decide +kernel)) (by decide) ⟨fun _ _ _ _ _ => g_name 3 sc__law_marked.nd, fun _ _ _ _ _ => pts_yes, fun _ _ _ _ _ => d_ifE (t_cmp (o_eq C.room.units) (d_ix (dv_ 3) d_int (fun _ _ => rfl)) (dv_ 1) (nomark _)) (d_tup (da_cons (d_ix (dv_ 3) d_int (fun _ _ => rfl)) (da_cons (dv_ 2) da_nil))) (dv_ 3)⟩))))

/-! ### _law_filled -/
abbrev s__law_filled : Stmt := top 42
theorem sc__law_filled : FnScope ["machine", "row", "found", "turn", "pair", "waiting"] ["machine", "row"] (defScope s__law_filled) := ⟨rfl, rfl, rfl, by decide +kernel, rfl, by decide +kernel, by decide +kernel⟩
def fb__law_filled : Ms := fSeq (fSetO 2 (fLst (rt [])))
  (fSeq (fForR (fCons (fLen (fPeek 1)) (rt [])) (gN 3) (fSeq (fSetO 5 (fComp [4] (fName 1) (gN 4) (fT (f2 pEq (fIxD (fName 4) (rt (.int 1))) (rt (.str "waits")))) (fName 4)))
  (fIf (fAnd (fT (f2 pNe (fIxD (fName 0) (rt (.int 2))) (rt (.str "none")))) (fAnd (fT (f2 pNe (fName 5) (fLet (fLst (rt []))))) (fT (f2 pLt (fLen (fPk (fCallN 1 m__law_loud (fCons (fName 1) (rt []))))) (fIxD (fName 0) (rt (.int 0))))))) (fSeq (fExp (fApp 2 (fIxD (fCallN 2 m__law_end (fCons (fIxD (fName 0) (rt (.int 2))) (fCons (fName 5) (rt [])))) (rt (.int 0)))))
  (fSet 1 (fCallN 3 m__law_marked (fCons (fName 1) (fCons (fIxC (fPeek 2) (-1)) (fCons (rt (.str "sounds")) (rt []))))))) (sOut .nx))))
  (fRet (fTup (fCons (fName 1) (fCons (fName 2) (rt []))))))
def m__law_filled : Fd := runB fb__law_filled 6 2
theorem kf__law_filled {f : Addr} {fd : FuncData} (T : Tx P w K mg base Γ) (F : Fun K "_law_filled" "_law_filled" s__law_filled f fd) (hm : mg "_law_filled" = some (.ref f)) (K__law_loud : Kf P w K mg base 1 "_law_loud" (dsp K Γ 1 m__law_loud)) (K__law_end : Kf P w K mg base 1 "_law_end" (dsp K Γ 2 m__law_end)) (K__law_marked : Kf P w K mg base 1 "_law_marked" (dsp K Γ 3 m__law_marked)) : Kf P w K mg base 2 "_law_filled" (dsp K Γ 2 m__law_filled) :=
  kf_of (ps := ["machine", "row"]) (N := ["machine", "row", "found", "turn", "pair", "waiting"]) F hm sc__law_filled (F.binds (ps := ["machine", "row"]) fun _ _ _ _ _ _ us hl => match us, hl with | [_, _], _ => rfl) (fun cdv A outer s H E C =>
  b_cons (s_setO 2 sc__law_filled.nd (d_lstO da_nil))
  (b_cons (s_forR C.calm C.pas (da_cons (d_len (dp_ 1) (by rfl) T.z_len PySem.boot_len) da_nil) (g_name 3 sc__law_filled.nd)
  (b_cons (s_setC (i := 5) (own := [("pair", 4)]) (js := [4]) C.calm sc__law_filled.nd rfl rfl (sw_true rfl rfl rfl (by decide +kernel)) (dv_ 1) (blk_ok (by decide +kernel)) (by decide) ⟨fun _ _ _ _ _ => g_name 4 sc__law_filled.nd, fun _ _ _ _ _ => pts_1 (t_cmp (o_eq C.room.units) (d_ix (dv_ 4) d_int (fun _ _ => rfl)) d_str (nomark _)), fun _ _ _ _ _ => dv_ 4⟩)
  (b_one (s_if (t_w (w_and (t_cmp (o_ne C.room.units) (d_ix (dv_ 0) d_int (fun _ _ => rfl)) d_str (nomark _)) (w_and (t_cmp (o_ne C.room.units) (dv_ 5) (d_let (d_lstO da_nil)) (nomark _)) (w_and1 (t_cmp o_lt (d_len (d_pkD (d_callK K__law_loud (by decide) C (by rfl) (da_cons (dv_ 1) da_nil))) (by rfl) T.z_len PySem.boot_len) (d_ix (dv_ 0) d_int (fun _ _ => rfl)) (nomark _))))))
  (b_cons (s_exp (d_app 2 (d_ix (d_callK K__law_end (by decide) C (by rfl) (da_cons (d_ix (dv_ 0) d_int (fun _ _ => rfl)) (da_cons (dv_ 5) da_nil))) d_int (fun _ _ => rfl))))
  (b_one (s_set 1 sc__law_filled.nd (d_callK K__law_marked (by decide) C (by rfl) (da_cons (dv_ 1) (da_cons (d_ixC (dp_ 2) pc_neg (fun _ _ => rfl)) (da_cons d_str da_nil)))))))
  b_nil))) (by rfl) T.z_range)
  (b_one (s_ret (d_tup (da_cons (dv_ 1) (da_cons (dv_ 2) da_nil)))))))

/-! ### _law_gone_down -/
abbrev s__law_gone_down : Stmt := top 43
theorem sc__law_gone_down : FnScope ["machine", "row", "key", "pair", "taken", "rest"] ["machine", "row", "key"] (defScope s__law_gone_down) := ⟨rfl, rfl, rfl, by decide +kernel, rfl, by decide +kernel, by decide +kernel⟩
def fb__law_gone_down : Ms := fSeq (fIf (fT (f2 (pInD false) (fTup (fCons (fName 2) (fCons (rt (.str "kept")) (rt [])))) (fName 1))) (fRet (fTup (fCons (fLet (fCat (fLet (fComp [3] (fName 1) (gN 3) (fT (f2 pNe (fIxD (fName 3) (rt (.int 0))) (fName 2))) (fName 3))) (fLet (fLst (fCons (fTup (fCons (fName 2) (fCons (rt (.str "sounds")) (rt [])))) (rt [])))))) (fCons (fLet (fLst (fCons (fTup (fCons (rt (.str "again")) (fCons (fName 2) (rt [])))) (rt [])))) (rt []))))) (sOut .nx))
  (fSeq (fIf (fT (f2 pLt (fLen (fPk (fCallN 1 m__law_loud (fCons (fName 1) (rt []))))) (fIxD (fName 0) (rt (.int 0))))) (fRet (fTup (fCons (fLet (fCat (fName 1) (fLet (fLst (fCons (fTup (fCons (fName 2) (fCons (rt (.str "sounds")) (rt [])))) (rt [])))))) (fCons (fLet (fLst (fCons (fTup (fCons (rt (.str "begin")) (fCons (fName 2) (rt [])))) (rt [])))) (rt []))))) (sOut .nx))
  (fSeq (fSet 4 (fCallN 3 m__law_taken (fCons (fName 0) (fCons (fName 1) (fCons (fName 2) (rt []))))))
  (fSeq (fIf (fT (f2 pEq (fName 4) (fLet (fLst (rt []))))) (fRet (fTup (fCons (fLet (fCat (fName 1) (fLet (fLst (fCons (fTup (fCons (fName 2) (fCons (rt (.str "waits")) (rt [])))) (rt [])))))) (fCons (fLet (fLst (fCons (fTup (fCons (rt (.str "refuse")) (fCons (fName 2) (rt [])))) (rt [])))) (rt []))))) (sOut .nx))
  (fSeq (fSetO 5 (fComp [3] (fName 1) (gN 3) (fT (f2 pNe (fName 3) (fTup (fCons (fIxD (fName 4) (rt (.int 0))) (fCons (rt (.str "kept")) (rt [])))))) (fName 3)))
  (fRet (fTup (fCons (fLet (fCat (fCallN 3 m__law_marked (fCons (fName 5) (fCons (fIxD (fName 4) (rt (.int 0))) (fCons (rt (.str "waits")) (rt []))))) (fLet (fLst (fCons (fTup (fCons (fName 2) (fCons (rt (.str "sounds")) (rt [])))) (rt [])))))) (fCons (fLet (fLst (fCons (fTup (fCons (rt (.str "cut")) (fCons (fIxD (fName 4) (rt (.int 0))) (rt [])))) (fCons (fTup (fCons (rt (.str "begin")) (fCons (fName 2) (rt [])))) (rt []))))) (rt [])))))))))
def m__law_gone_down : Fd := runB fb__law_gone_down 6 3
theorem kf__law_gone_down {f : Addr} {fd : FuncData} (T : Tx P w K mg base Γ) (F : Fun K "_law_gone_down" "_law_gone_down" s__law_gone_down f fd) (hm : mg "_law_gone_down" = some (.ref f)) (K__law_loud : Kf P w K mg base 1 "_law_loud" (dsp K Γ 1 m__law_loud)) (K__law_taken : Kf P w K mg base 2 "_law_taken" (dsp K Γ 3 m__law_taken)) (K__law_marked : Kf P w K mg base 1 "_law_marked" (dsp K Γ 3 m__law_marked)) : Kf P w K mg base 3 "_law_gone_down" (dsp K Γ 3 m__law_gone_down) :=
  kf_of (ps := ["machine", "row", "key"]) (N := ["machine", "row", "key", "pair", "taken", "rest"]) F hm sc__law_gone_down (F.binds (ps := ["machine", "row", "key"]) fun _ _ _ _ _ _ us hl => match us, hl with | [_, _, _], _ => rfl) (fun cdv A outer s H E C =>
  b_cons (s_if (t_cmp (o_inD C.room) (d_tup (da_cons (dv_ 2) (da_cons d_str da_nil))) (dv_ 1) (by rfl))
  (b_one (s_ret (d_tup (da_cons (d_let (d_catO (d_let (d_comp (own := [("pair", 3)]) (js := [3]) C.calm sc__law_gone_down.nd (dv_ 1) (blk_ok (by decide +kernel)) (by decide) ⟨fun _ _ _ _ _ => g_name 3 sc__law_gone_down.nd, fun _ _ _ _ _ => pts_1 (t_cmp (o_ne C.room.units) (d_ix (dv_ 3) d_int (fun _ _ => rfl)) (dv_ 2) (nomark _)), fun _ _ _ _ _ => dv_ 3⟩)) (d_let (d_lstO (da_cons (d_tup (da_cons (dv_ 2) (da_cons d_str da_nil))) da_nil))))) (da_cons (d_let (d_lstO (da_cons (d_tup (da_cons d_str (da_cons (dv_ 2) da_nil))) da_nil))) da_nil)))))
  b_nil)
  (b_cons (s_if (t_cmp o_lt (d_len (d_pkD (d_callK K__law_loud (by decide) C (by rfl) (da_cons (dv_ 1) da_nil))) (by rfl) T.z_len PySem.boot_len) (d_ix (dv_ 0) d_int (fun _ _ => rfl)) (nomark _))
  (b_one (s_ret (d_tup (da_cons (d_let (d_catO (dv_ 1) (d_let (d_lstO (da_cons (d_tup (da_cons (dv_ 2) (da_cons d_str da_nil))) da_nil))))) (da_cons (d_let (d_lstO (da_cons (d_tup (da_cons d_str (da_cons (dv_ 2) da_nil))) da_nil))) da_nil)))))
  b_nil)
  (b_cons (s_set 4 sc__law_gone_down.nd (d_callK K__law_taken (by decide) C (by rfl) (da_cons (dv_ 0) (da_cons (dv_ 1) (da_cons (dv_ 2) da_nil)))))
  (b_cons (s_if (t_cmp (o_eq C.room.units) (dv_ 4) (d_let (d_lstO da_nil)) (nomark _))
  (b_one (s_ret (d_tup (da_cons (d_let (d_catO (dv_ 1) (d_let (d_lstO (da_cons (d_tup (da_cons (dv_ 2) (da_cons d_str da_nil))) da_nil))))) (da_cons (d_let (d_lstO (da_cons (d_tup (da_cons d_str (da_cons (dv_ 2) da_nil))) da_nil))) da_nil)))))
  b_nil)
  (b_cons (s_setC (i := 5) (own := [("pair", 3)]) (js := [3]) C.calm sc__law_gone_down.nd rfl rfl (sw_true rfl rfl rfl (by decide +kernel)) (dv_ 1) (blk_ok (by decide +kernel)) (by decide) ⟨fun _ _ _ _ _ => g_name 3 sc__law_gone_down.nd, fun _ _ _ _ _ => pts_1 (t_cmp (o_ne C.room.units) (dv_ 3) (d_tup (da_cons (d_ix (dv_ 4) d_int (fun _ _ => rfl)) (da_cons d_str da_nil))) (nomark _)), fun _ _ _ _ _ => dv_ 3⟩)
  (b_one (s_ret (d_tup (da_cons (d_let (d_catO (d_callK K__law_marked (by decide) C (by rfl) (da_cons (dv_ 5) (da_cons (d_ix (dv_ 4) d_int (fun _ _ => rfl)) (da_cons d_str da_nil)))) (d_let (d_lstO (da_cons (d_tup (da_cons (dv_ 2) (da_cons d_str da_nil))) da_nil))))) (da_cons (d_let (d_lstO (da_cons (d_tup (da_cons d_str (da_cons (d_ix (dv_ 4) d_int (fun _ _ => rfl)) da_nil))) (da_cons (d_tup (da_cons d_str (da_cons (dv_ 2) da_nil))) da_nil)))) da_nil))))))))))

/-! ### _law_stepped -/
abbrev s__law_stepped : Stmt := top 44
theorem sc__law_stepped : FnScope ["machine", "state", "event", "foot", "row", "deeds_so", "pair", "gone", "back", "key"] ["machine", "state", "event"] (defScope s__law_stepped) := ⟨rfl, rfl, rfl, by decide +kernel, rfl, by decide +kernel, by decide +kernel⟩
def fb__law_stepped : Ms := fSeq (fParDD 3 4 (fIxD (fName 1) (rt (.int 0))) (fLet (bd (fPk (fIxD (fName 1) (rt (.int 1)))) rt)))
  (fSeq (fIf (fT (f2 pEq (fIxD (fName 2) (rt (.int 0))) (rt (.str "press")))) (fRet (fTup (fCons (fTup (fCons (rt (.bl true)) (fCons (fIxD (fName 1) (rt (.int 1))) (rt [])))) (fCons (fTup (rt [])) (rt []))))) (sOut .nx))
  (fSeq (fIf (fT (f2 pEq (fIxD (fName 2) (rt (.int 0))) (rt (.str "down")))) (fSeq (fAsg (fCallN 3 m__law_gone_down (fCons (fName 0) (fCons (fName 4) (fCons (fIxD (fName 2) (rt (.int 1))) (rt []))))) (gT 2 (gsCons (gN 4) (gsCons (gN 5) gsNil))))
  (fRet (fTup (fCons (fTup (fCons (fName 3) (fCons (fTupOf (fPeek 4)) (rt [])))) (fCons (fTupOf (fPeek 5)) (rt [])))))) (sOut .nx))
  (fSeq (fIf (fAnd (fT (f2 pEq (fIxD (fName 2) (rt (.int 0))) (rt (.str "up")))) (fT (f2 (pInD false) (fTup (fCons (fIxD (fName 2) (rt (.int 1))) (fCons (rt (.str "waits")) (rt [])))) (fName 4)))) (fRet (fTup (fCons (fTup (fCons (fName 3) (fCons (fTupOf (fComp [6] (fName 4) (gN 6) (fT (f2 pNe (fIxD (fName 6) (rt (.int 0))) (fIxD (fName 2) (rt (.int 1))))) (fName 6))) (rt [])))) (fCons (fTup (fCons (fTup (fCons (rt (.str "leave")) (fCons (fIxD (fName 2) (rt (.int 1))) (rt [])))) (rt []))) (rt []))))) (sOut .nx))
  (fSeq (fIf (fAnd (fT (f2 pEq (fIxD (fName 2) (rt (.int 0))) (rt (.str "up")))) (fT (fName 3))) (fRet (fTup (fCons (fTup (fCons (fName 3) (fCons (fTupOf (fPk (fCallN 3 m__law_marked (fCons (fName 4) (fCons (fIxD (fName 2) (rt (.int 1))) (fCons (rt (.str "kept")) (rt []))))))) (rt [])))) (fCons (fTup (fCons (fTup (fCons (rt (.str "keep")) (fCons (fIxD (fName 2) (rt (.int 1))) (rt [])))) (rt []))) (rt []))))) (sOut .nx))
  (fSeq (fSet 7 (fIfE (fT (f2 pEq (fIxD (fName 2) (rt (.int 0))) (rt (.str "lift")))) (fLet (fComp [6] (fName 4) (gN 6) (fT (f2 pEq (fIxD (fName 6) (rt (.int 1))) (rt (.str "kept")))) (fIxD (fName 6) (rt (.int 0))))) (fLet (fLst (fCons (fIxD (fName 2) (rt (.int 1))) (rt []))))))
  (fSeq (fAsg (fCallN 2 m__law_filled (fCons (fName 0) (fCons (fLet (fComp [6] (fName 4) (gN 6) (fT (f2 (pIn true) (fIxD (fName 6) (rt (.int 0))) (fName 7))) (fName 6))) (rt [])))) (gT 2 (gsCons (gN 4) (gsCons (gN 8) gsNil))))
  (fRet (fTup (fCons (fTup (fCons (rt (.bl false)) (fCons (fTupOf (fPeek 4)) (rt [])))) (fCons (fTupOf (fCat (fLet (fComp [9] (fName 7) (gN 9) ((rt true)) (fTup (fCons (rt (.str "end")) (fCons (fName 9) (rt [])))))) (fLet (fComp [9] (fName 8) (gN 9) ((rt true)) (fTup (fCons (rt (.str "back")) (fCons (fName 9) (rt [])))))))) (rt [])))))))))))
def m__law_stepped : Fd := runB fb__law_stepped 10 3
theorem kf__law_stepped {f : Addr} {fd : FuncData} (T : Tx P w K mg base Γ) (F : Fun K "_law_stepped" "_law_stepped" s__law_stepped f fd) (hm : mg "_law_stepped" = some (.ref f)) (K__law_marked : Kf P w K mg base 1 "_law_marked" (dsp K Γ 3 m__law_marked)) (K__law_filled : Kf P w K mg base 2 "_law_filled" (dsp K Γ 2 m__law_filled)) (K__law_gone_down : Kf P w K mg base 3 "_law_gone_down" (dsp K Γ 3 m__law_gone_down)) : Kf P w K mg base 4 "_law_stepped" (dsp K Γ 3 m__law_stepped) :=
  kf_of (ps := ["machine", "state", "event"]) (N := ["machine", "state", "event", "foot", "row", "deeds_so", "pair", "gone", "back", "key"]) F hm sc__law_stepped (F.binds (ps := ["machine", "state", "event"]) fun _ _ _ _ _ _ us hl => match us, hl with | [_, _, _], _ => rfl) (fun cdv A outer s H E C =>
  b_cons (s_parDD (i := 3) (j := 4) C.calm sc__law_stepped.nd (d_ix (dv_ 1) d_int (fun _ _ => rfl)) (d_let (d_list (d_pkD (d_ix (dv_ 1) d_int (fun _ _ => rfl))) (by rfl) T.z_list (by decide +kernel))))
  (b_cons (s_if (t_cmp (o_eq C.room.units) (d_ix (dv_ 2) d_int (fun _ _ => rfl)) d_str (nomark _))
  (b_one (s_ret (d_tup (da_cons (d_tup (da_cons d_bl (da_cons (d_ix (dv_ 1) d_int (fun _ _ => rfl)) da_nil))) (da_cons (d_tup da_nil) da_nil)))))
  b_nil)
  (b_cons (s_if (t_cmp (o_eq C.room.units) (d_ix (dv_ 2) d_int (fun _ _ => rfl)) d_str (nomark _))
  (b_cons (s_asg (d_callK K__law_gone_down (by decide) C (by rfl) (da_cons (dv_ 0) (da_cons (dv_ 4) (da_cons (d_ix (dv_ 2) d_int (fun _ _ => rfl)) da_nil)))) (g_tup C.calm (gs_cons (g_name 4 sc__law_stepped.nd) (gs_cons (g_name 5 sc__law_stepped.nd) gs_nil))))
  (b_one (s_ret (d_tup (da_cons (d_tup (da_cons (dv_ 3) (da_cons (d_tuple (dp_ 4) (by rfl) T.z_tuple (by decide +kernel)) da_nil))) (da_cons (d_tuple (dp_ 5) (by rfl) T.z_tuple (by decide +kernel)) da_nil))))))
  b_nil)
  (b_cons (s_if (t_w (w_and (t_cmp (o_eq C.room.units) (d_ix (dv_ 2) d_int (fun _ _ => rfl)) d_str (nomark _)) (w_and1 (t_cmp (o_inD C.room) (d_tup (da_cons (d_ix (dv_ 2) d_int (fun _ _ => rfl)) (da_cons d_str da_nil))) (dv_ 4) (by rfl)))))
  (b_one (s_ret (d_tup (da_cons (d_tup (da_cons (dv_ 3) (da_cons (d_tuple (d_pk (d_comp (own := [("pair", 6)]) (js := [6]) C.calm sc__law_stepped.nd (dv_ 4) (blk_ok (by decide +kernel)) (by decide) ⟨fun _ _ _ _ _ => g_name 6 sc__law_stepped.nd, fun _ _ _ _ _ => pts_1 (t_cmp (o_ne C.room.units) (d_ix (dv_ 6) d_int (fun _ _ => rfl)) (d_ix (dv_ 2) d_int (fun _ _ => rfl)) (nomark _)), fun _ _ _ _ _ => dv_ 6⟩)) (by rfl) T.z_tuple (by decide +kernel)) da_nil))) (da_cons (d_tup (da_cons (d_tup (da_cons d_str (da_cons (d_ix (dv_ 2) d_int (fun _ _ => rfl)) da_nil))) da_nil)) da_nil)))))
  b_nil)
  (b_cons (s_if (t_w (w_and (t_cmp (o_eq C.room.units) (d_ix (dv_ 2) d_int (fun _ _ => rfl)) d_str (nomark _)) (w_and1 (t_val (dv_ 3)))))
  (b_one (s_ret (d_tup (da_cons (d_tup (da_cons (dv_ 3) (da_cons (d_tuple (d_pkD (d_callK K__law_marked (by decide) C (by rfl) (da_cons (dv_ 4) (da_cons (d_ix (dv_ 2) d_int (fun _ _ => rfl)) (da_cons d_str da_nil))))) (by rfl) T.z_tuple (by decide +kernel)) da_nil))) (da_cons (d_tup (da_cons (d_tup (da_cons d_str (da_cons (d_ix (dv_ 2) d_int (fun _ _ => rfl)) da_nil))) da_nil)) da_nil)))))
  b_nil)
  (b_cons (s_set 7 sc__law_stepped.nd (d_ifE (t_cmp (o_eq C.room.units) (d_ix (dv_ 2) d_int (fun _ _ => rfl)) d_str (nomark _)) (d_let (d_comp (own := [("pair", 6)]) (js := [6]) C.calm sc__law_stepped.nd (dv_ 4) (blk_ok (by decide +kernel)) (by decide) ⟨fun _ _ _ _ _ => g_name 6 sc__law_stepped.nd, fun _ _ _ _ _ => pts_1 (t_cmp (o_eq C.room.units) (d_ix (dv_ 6) d_int (fun _ _ => rfl)) d_str (nomark _)), fun _ _ _ _ _ => d_ix (dv_ 6) d_int (fun _ _ => rfl)⟩)) (d_let (d_lstO (da_cons (d_ix (dv_ 2) d_int (fun _ _ => rfl)) da_nil)))))
  (b_cons (s_asg (d_callK K__law_filled (by decide) C (by rfl) (da_cons (dv_ 0) (da_cons (d_let (d_comp (own := [("pair", 6)]) (js := [6]) C.calm sc__law_stepped.nd (dv_ 4) (blk_ok (by decide +kernel)) (by decide) ⟨fun _ _ _ _ _ => g_name 6 sc__law_stepped.nd, fun _ _ _ _ _ => pts_1 (t_cmp o_nin (d_ix (dv_ 6) d_int (fun _ _ => rfl)) (dv_ 7) (by rfl)), fun _ _ _ _ _ => dv_ 6⟩)) da_nil))) (g_tup C.calm (gs_cons (g_name 4 sc__law_stepped.nd) (gs_cons (g_name 8 sc__law_stepped.nd) gs_nil))))
  (b_one (s_ret (d_tup (da_cons (d_tup (da_cons d_bl (da_cons (d_tuple (dp_ 4) (by rfl) T.z_tuple (by decide +kernel)) da_nil))) (da_cons (d_tuple (d_pk (d_catO (d_let (d_comp (own := [("key", 9)]) (js := [9]) C.calm sc__law_stepped.nd (dv_ 7) (blk_ok (by decide +kernel)) (by decide) ⟨fun _ _ _ _ _ => g_name 9 sc__law_stepped.nd, fun _ _ _ _ _ => pts_yes, fun _ _ _ _ _ => d_tup (da_cons d_str (da_cons (dv_ 9) da_nil))⟩)) (d_let (d_comp (own := [("key", 9)]) (js := [9]) C.calm sc__law_stepped.nd (dv_ 8) (blk_ok (by decide +kernel)) (by decide) ⟨fun _ _ _ _ _ => g_name 9 sc__law_stepped.nd, fun _ _ _ _ _ => pts_yes, fun _ _ _ _ _ => d_tup (da_cons d_str (da_cons (dv_ 9) da_nil))⟩)))) (by rfl) T.z_tuple (by decide +kernel)) da_nil))))))))))))

/-! ### _law_play -/
abbrev s__law_play : Stmt := top 45
theorem sc__law_play : FnScope ["m", "choice_so", "many", "foot", "down", "is_pressed", "found", "turn", "key", "one"] ["m", "choice_so", "many", "foot"] (defScope s__law_play) := ⟨rfl, rfl, rfl, by decide +kernel, rfl, by decide +kernel, by decide +kernel⟩
def fb__law_play : Ms := fSeq (fPar3 4 5 6 (fLet (fLst (rt []))) (rt (.bl false)) (fLst (rt [])))
  (fSeq (fForR (fCons (fName 2) (rt [])) (gN 7) (fIf (fAnd (fT (fName 3)) (fT (f2 pEq (fCallN 2 m__law_draw (fCons (fName 0) (fCons (rt (.int 5)) (rt [])))) (rt (.int 0))))) (fSeq (fExp (fApp 6 (fIfE (fT (fName 5)) (fTup (fCons (rt (.str "lift")) (rt []))) (fTup (fCons (rt (.str "press")) (rt []))))))
  (fSet 5 (fNotV (fName 5)))) (fSeq (fSet 8 (fCallN 2 m__law_of (fCons (fName 0) (fCons (fName 1) (rt [])))))
  (fIf (fT (f2 (pIn false) (fName 8) (fName 4))) (fSeq (fSetO 4 (fComp [9] (fName 4) (gN 9) (fT (f2 pNe (fName 9) (fName 8))) (fName 9)))
  (fExp (fApp 6 (fTup (fCons (rt (.str "up")) (fCons (fName 8) (rt []))))))) (fSeq (fSet 4 (fLet (fCat (fName 4) (fLet (fLst (fCons (fName 8) (rt [])))))))
  (fExp (fApp 6 (fTup (fCons (rt (.str "down")) (fCons (fName 8) (rt [])))))))))))
  (fRet (fTupOf (fPeek 6))))
def m__law_play : Fd := runB fb__law_play 10 4
theorem kf__law_play {f : Addr} {fd : FuncData} (T : Tx P w K mg base Γ) (F : Fun K "_law_play" "_law_play" s__law_play f fd) (hm : mg "_law_play" = some (.ref f)) (K__law_draw : Kf P w K mg base 1 "_law_draw" (dsp K Γ 2 m__law_draw)) (K__law_of : Kf P w K mg base 2 "_law_of" (dsp K Γ 2 m__law_of)) : Kf P w K mg base 3 "_law_play" (dsp K Γ 4 m__law_play) :=
  kf_of (ps := ["m", "choice_so", "many", "foot"]) (N := ["m", "choice_so", "many", "foot", "down", "is_pressed", "found", "turn", "key", "one"]) F hm sc__law_play (F.binds (ps := ["m", "choice_so", "many", "foot"]) fun _ _ _ _ _ _ us hl => match us, hl with | [_, _, _, _], _ => rfl) (fun cdv A outer s H E C =>
  b_cons (s_par3 (i := 4) (j := 5) (l := 6) C.calm sc__law_play.nd (d_let (d_lstO da_nil)) d_bl (d_lstO da_nil))
  (b_cons (s_forR C.calm C.pas (da_cons (dv_ 2) da_nil) (g_name 7 sc__law_play.nd)
  (b_one (s_if (t_w (w_and (t_val (dv_ 3)) (w_and1 (t_cmp (o_eq C.room.units) (d_callK K__law_draw (by decide) C (by rfl) (da_cons (dv_ 0) (da_cons d_int da_nil))) d_int (nomark _)))))
  (b_cons (s_exp (d_app 6 (d_ifE (t_val (dv_ 5)) (d_tup (da_cons d_str da_nil)) (d_tup (da_cons d_str da_nil)))))
  (b_one (s_set 5 sc__law_play.nd (d_not (dv_ 5)))))
  (b_cons (s_set 8 sc__law_play.nd (d_callK K__law_of (by decide) C (by rfl) (da_cons (dv_ 0) (da_cons (dv_ 1) da_nil))))
  (b_one (s_if (t_cmp o_in (dv_ 8) (dv_ 4) (by rfl))
  (b_cons (s_setC (i := 4) (own := [("one", 9)]) (js := [9]) C.calm sc__law_play.nd rfl rfl (sw_true rfl rfl rfl (by decide +kernel)) (dv_ 4) (blk_ok (by decide +kernel)) (by decide) ⟨fun _ _ _ _ _ => g_name 9 sc__law_play.nd, fun _ _ _ _ _ => pts_1 (t_cmp (o_ne C.room.units) (dv_ 9) (dv_ 8) (nomark _)), fun _ _ _ _ _ => dv_ 9⟩)
  (b_one (s_exp (d_app 6 (d_tup (da_cons d_str (da_cons (dv_ 8) da_nil)))))))
  (b_cons (s_set 4 sc__law_play.nd (d_let (d_catO (dv_ 4) (d_let (d_lstO (da_cons (dv_ 8) da_nil))))))
  (b_one (s_exp (d_app 6 (d_tup (da_cons d_str (da_cons (dv_ 8) da_nil)))))))))))) (by rfl) T.z_range)
  (b_one (s_ret (d_tuple (dp_ 6) (by rfl) T.z_tuple (by decide +kernel))))))

/-! ### _law_state -/
abbrev s__law_state : Stmt := top 46
theorem sc__law_state : FnScope ["m", "machine", "choice_so", "state", "event"] ["m", "machine", "choice_so"] (defScope s__law_state) := ⟨rfl, rfl, rfl, by decide +kernel, rfl, by decide +kernel, by decide +kernel⟩
def fb__law_state : Ms := fSeq (fSet 3 (fTup (fCons (rt (.bl false)) (fCons (fTup (rt [])) (rt [])))))
  (fSeq (fFor (fCallN 4 m__law_play (fCons (fName 0) (fCons (fName 2) (fCons (fCallN 2 m__law_draw (fCons (fName 0) (fCons (rt (.int 16)) (rt [])))) (fCons (rt (.bl true)) (rt [])))))) (gN 4) (fSet 3 (fIxD (fCallN 3 m__law_stepped (fCons (fName 1) (fCons (fName 3) (fCons (fName 4) (rt []))))) (rt (.int 0)))))
  (fRet (fName 3)))
def m__law_state : Fd := runB fb__law_state 5 3
theorem kf__law_state {f : Addr} {fd : FuncData} (T : Tx P w K mg base Γ) (F : Fun K "_law_state" "_law_state" s__law_state f fd) (hm : mg "_law_state" = some (.ref f)) (K__law_draw : Kf P w K mg base 1 "_law_draw" (dsp K Γ 2 m__law_draw)) (K__law_stepped : Kf P w K mg base 4 "_law_stepped" (dsp K Γ 3 m__law_stepped)) (K__law_play : Kf P w K mg base 3 "_law_play" (dsp K Γ 4 m__law_play)) : Kf P w K mg base 5 "_law_state" (dsp K Γ 3 m__law_state) :=
  kf_of (ps := ["m", "machine", "choice_so"]) (N := ["m", "machine", "choice_so", "state", "event"]) F hm sc__law_state (F.binds (ps := ["m", "machine", "choice_so"]) fun _ _ _ _ _ _ us hl => match us, hl with | [_, _, _], _ => rfl) (fun cdv A outer s H E C =>
  b_cons (s_set 3 sc__law_state.nd (d_tup (da_cons d_bl (da_cons (d_tup da_nil) da_nil))))
  (b_cons (s_for C.calm C.pas (d_callK K__law_play (by decide) C (by rfl) (da_cons (dv_ 0) (da_cons (dv_ 2) (da_cons (d_callK K__law_draw (by decide) C (by rfl) (da_cons (dv_ 0) (da_cons d_int da_nil))) (da_cons d_bl da_nil))))) (g_name 4 sc__law_state.nd)
  (b_one (s_set 3 sc__law_state.nd (d_ix (d_callK K__law_stepped (by decide) C (by rfl) (da_cons (dv_ 1) (da_cons (dv_ 3) (da_cons (dv_ 4) da_nil)))) d_int (fun _ _ => rfl)))))
  (b_one (s_ret (dv_ 3)))))

/-! ### _law_free -/
abbrev s__law_free : Stmt := top 47
theorem sc__law_free : FnScope ["m", "machine", "choice_so", "turn", "foot", "row", "left", "many", "key", "mark"] ["m", "machine", "choice_so"] (defScope s__law_free) := ⟨rfl, rfl, rfl, by decide +kernel, rfl, by decide +kernel, by decide +kernel⟩
def fb__law_free : Ms := fSeq (fPar4 4 5 6 7 (f2 pEq (fCallN 2 m__law_draw (fCons (fName 0) (fCons (rt (.int 2)) (rt [])))) (rt (.int 0))) (fLst (rt [])) (bd (fPeek 2) rt) 0)
  (fSeq (fForR (fCons (fCallN 2 m__law_draw (fCons (fName 0) (fCons (f2 pAdd (fLen (fPeek 2)) (rt (.int 1))) (rt [])))) (rt [])) (gN 3) (fSeq (fSet 8 (fPopAt 6 (fCallN 2 m__law_draw (fCons (fName 0) (fCons (fLen (fPeek 6)) (rt []))))))
  (fSeq (fSet 9 (fCallN 2 m__law_of (fCons (fName 0) (fCons (fSl (fLet (fLst (fCons (rt (.str "sounds")) (fCons (rt (.str "waits")) (fCons (rt (.str "kept")) (rt [])))))) (rt none) (fPart (f2 pAdd (rt (.int 2)) (fInt (fName 4))))) (rt [])))))
  (fSeq (fSet 9 (fIfE (fT (f2 pLt (fName 7) (fIxD (fName 1) (rt (.int 0))))) (fName 9) (rt (.str "waits"))))
  (fSeq (fSet 7 (f2 pAdd (fName 7) (fInt (f2 pNe (fName 9) (rt (.str "waits"))))))
  (fExp (fApp 5 (fTup (fCons (fName 8) (fCons (fName 9) (rt [])))))))))))
  (fRet (fTup (fCons (fName 4) (fCons (fTupOf (fPk (fIxD (fCallN 2 m__law_filled (fCons (fName 1) (fCons (fName 5) (rt [])))) (rt (.int 0))))) (rt []))))))
def m__law_free : Fd := runB fb__law_free 10 3
theorem kf__law_free {f : Addr} {fd : FuncData} (T : Tx P w K mg base Γ) (F : Fun K "_law_free" "_law_free" s__law_free f fd) (hm : mg "_law_free" = some (.ref f)) (K__law_draw : Kf P w K mg base 1 "_law_draw" (dsp K Γ 2 m__law_draw)) (K__law_of : Kf P w K mg base 2 "_law_of" (dsp K Γ 2 m__law_of)) (K__law_filled : Kf P w K mg base 2 "_law_filled" (dsp K Γ 2 m__law_filled)) : Kf P w K mg base 3 "_law_free" (dsp K Γ 3 m__law_free) :=
  kf_of (ps := ["m", "machine", "choice_so"]) (N := ["m", "machine", "choice_so", "turn", "foot", "row", "left", "many", "key", "mark"]) F hm sc__law_free (F.binds (ps := ["m", "machine", "choice_so"]) fun _ _ _ _ _ _ us hl => match us, hl with | [_, _, _], _ => rfl) (fun cdv A outer s H E C =>
  b_cons (s_par4 (i := 4) (j := 5) (l := 6) (q := 7) C.calm sc__law_free.nd (d_cmp (o_eq C.room.units) (d_callK K__law_draw (by decide) C (by rfl) (da_cons (dv_ 0) (da_cons d_int da_nil))) d_int (nomark _)) (d_lstO da_nil) (d_list (dp_ 2) (by rfl) T.z_list (by decide +kernel)))
  (b_cons (s_forR C.calm C.pas (da_cons (d_callK K__law_draw (by decide) C (by rfl) (da_cons (dv_ 0) (da_cons (d_bin o_add (d_len (dp_ 2) (by rfl) T.z_len PySem.boot_len) d_int) da_nil))) da_nil) (g_name 3 sc__law_free.nd)
  (b_cons (s_set 8 sc__law_free.nd (d_popAt 6 (d_callK K__law_draw (by decide) C (by rfl) (da_cons (dv_ 0) (da_cons (d_len (dp_ 6) (by rfl) T.z_len PySem.boot_len) da_nil)))))
  (b_cons (s_set 9 sc__law_free.nd (d_callK K__law_of (by decide) C (by rfl) (da_cons (dv_ 0) (da_cons (d_sl (d_let (d_lstO (da_cons d_str (da_cons d_str (da_cons d_str da_nil))))) do_none (do_some (d_bin o_add d_int (d_intOf (dv_ 4) (by rfl) T.z_int (by decide +kernel))))) da_nil))))
  (b_cons (s_set 9 sc__law_free.nd (d_ifE (t_cmp o_lt (dv_ 7) (d_ix (dv_ 1) d_int (fun _ _ => rfl)) (nomark _)) (dv_ 9) d_str))
  (b_cons (s_set 7 sc__law_free.nd (d_bin o_add (dv_ 7) (d_intOf (d_cmp (o_ne C.room.units) (dv_ 9) d_str (nomark _)) (by rfl) T.z_int (by decide +kernel))))
  (b_one (s_exp (d_app 5 (d_tup (da_cons (dv_ 8) (da_cons (dv_ 9) da_nil)))))))))) (by rfl) T.z_range)
  (b_one (s_ret (d_tup (da_cons (dv_ 4) (da_cons (d_tuple (d_pkD (d_ix (d_callK K__law_filled (by decide) C (by rfl) (da_cons (dv_ 1) (da_cons (dv_ 5) da_nil))) d_int (fun _ _ => rfl))) (by rfl) T.z_tuple (by decide +kernel)) da_nil)))))))

/-! ### _law_said -/
abbrev s__law_said : Stmt := top 48
theorem sc__law_said : FnScope ["call", "e", "is_other", "caught", "found"] ["call"] (defScope s__law_said) := ⟨rfl, rfl, rfl, by decide +kernel, rfl, by decide +kernel, by decide +kernel⟩
def fb__law_said (act : Mo D) : Ms := fSeq (fParDD 3 4 (rt .non) (fLet (fLst (rt []))))
  (fSeq (fTry (fSet 4 (fLet (fLst (fCons act (rt []))))) [⟨tb_VoiceError, some 1, fSet 3 (fName 1)⟩])
  (fSeq (fIf (fT (f2 pIs (fName 3) (rt .non))) (fRet (fName 4)) (sOut .nx))
  (fSeq (fSet 2 (fOrV (fIsE tb_BadMachine (fName 3)) (fNotV (fIsE tb_BadState (fName 3)))))
  (fRet (fIfE (fT (fName 2)) (fLet (fLst (fCons (rt (.str "other")) (rt [])))) (fLet (fLst (fCons (rt (.str "refused")) (fCons (fFld cs_place (fName 3)) (rt []))))))))))
def mt__law_said : Th → Th := takeM fb__law_said 5
theorem kf__law_said {f : Addr} {fd : FuncData} (T : Tx P w K mg base Γ) (F : Fun K "_law_said" "_law_said" s__law_said f fd) (hm : mg "_law_said" = some (.ref f))  : KfT P w K mg base 30 "_law_said" Γ 5 fb__law_said :=
  ⟨f, s__law_said, fd, ["call", "e", "is_other", "caught", "found"], "call", F, sc__law_said, rfl, rfl, (by first | exact Or.inl rfl | exact Or.inr (Or.inl rfl)), by decide, by decide, hm, F.kp, F.binds (ps := ["call"]) fun _ _ _ _ _ _ us hl => match us, hl with | [_], _ => rfl, fun cdv A outer s H E C act hact =>
  b_cons (s_parDD (i := 3) (j := 4) C.calm sc__law_said.nd d_non (d_let (d_lstO da_nil)))
  (b_cons (s_try rfl rfl rfl sc__law_said.nd C (fun W' pn xe C => b_one (s_set 4 sc__law_said.nd (d_let (d_lstO (da_cons (hact _ _ _ _ _ C) da_nil))))) (.as_ T.h_VoiceError (by rfl) rfl rfl (fun _ _ => b_one (s_set 3 sc__law_said.nd (dv_ 1))) .nil (by decide)))
  (b_cons (s_if (t_cmp o_is (dv_ 3) d_non (nomark _))
  (b_one (s_ret (dv_ 4)))
  b_nil)
  (b_cons (s_set 2 sc__law_said.nd (d_or (d_isE T.k T.h_BadMachine (by rfl) (dv_ 3) (by rfl) T.z_isinstance (by decide +kernel)) (d_one (d_not (d_isE T.k T.h_BadState (by rfl) (dv_ 3) (by rfl) T.z_isinstance (by decide +kernel))))))
  (b_one (s_ret (d_ifE (t_val (dv_ 2)) (d_let (d_lstO (da_cons d_str da_nil))) (d_let (d_lstO (da_cons d_str (da_cons (d_fld T.k T.fo_place (dv_ 3)) da_nil))))))))))⟩

/-! ### _law_bent -/
abbrev s__law_bent : Stmt := top 49
theorem sc__law_bent : FnScope ["m", "machine", "state", "pedal", "row", "odd", "found", "at", "some", "many", "pair", "k", "more"] ["m", "machine", "state"] (defScope s__law_bent) := ⟨rfl, rfl, rfl, by decide +kernel, rfl, by decide +kernel, by decide +kernel⟩
def fb__law_bent : Ms := fSeq (fAsg (fName 2) (gT 2 (gsCons (gN 3) (gsCons (gN 4) gsNil))))
  (fSeq (fSetO 6 (fComp [5] (fTup (fCons (rt .non) (fCons (rt (.int 0)) (fCons (rt (.int 1)) (fCons (rt (.str "True")) (fCons (fTup (fCons (rt (.bl true)) (rt []))) (fCons (fLet (fLst (rt []))) (rt [])))))))) (gN 5) ((rt true)) (fTup (fCons (fTup (fCons (fName 5) (fCons (fName 4) (rt [])))) (fCons (fTup (fCons (rt (.str "pedal")) (rt []))) (rt []))))))
  (fSeq (fSetO 6 (fCat (fName 6) (fLet (fComp [5] (fTup (fCons (rt .non) (fCons (fLet (bd (fPeek 4) rt)) (fCons (rt (.str "sounds")) (fCons (rt (.int 5)) (fCons (rt (.dic [])) (fCons (rt (.bl true)) (rt [])))))))) (gN 5) ((rt true)) (fTup (fCons (fTup (fCons (fName 3) (fCons (fName 5) (rt [])))) (fCons (fTup (fCons (rt (.str "row")) (rt []))) (rt []))))))))
  (fSeq (fSet 7 (fCallN 2 m__law_draw (fCons (fName 0) (fCons (f2 pAdd (fLen (fPeek 4)) (rt (.int 1))) (rt [])))))
  (fSeq (fSet 8 (fLet (fLst (fCons (rt .non) (fCons (rt (.int 5)) (fCons (rt (.str "kept")) (fCons (fTup (rt [])) (fCons (fTup (fCons (rt (.int 5)) (rt []))) (fCons (fTup (fCons (rt (.int 90)) (rt []))) (fCons (fTup (fCons (rt (.int 5)) (fCons (rt (.str "sounds")) (fCons (rt (.int 1)) (rt []))))) (fCons (fLet (fLst (fCons (rt (.int 5)) (fCons (rt (.str "sounds")) (rt []))))) (fCons (fTup (fCons (rt (.int 5)) (fCons (rt (.str "Sounds")) (rt [])))) (fCons (fTup (fCons (rt (.int 5)) (fCons (rt .non) (rt [])))) (fCons (fTup (fCons (rt (.str "5")) (fCons (rt (.str "kept")) (rt [])))) (rt [])))))))))))))))
  (fSeq (fSet 8 (fLet (fCat (fName 8) (fLet (fLst (fCons (fTup (fCons (rt (.int 5)) (fCons (fLet (fLst (fCons (rt (.str "sounds")) (rt [])))) (rt [])))) (fCons (fTup (fCons (rt (.int 5)) (fCons (rt (.dic [])) (rt [])))) (fCons (fTup (fCons (fLet (fLst (fCons (rt (.int 5)) (rt [])))) (fCons (rt (.str "sounds")) (rt [])))) (fCons (fTup (fCons (rt (.dic [])) (fCons (rt (.str "waits")) (rt [])))) (rt []))))))))))
  (fSeq (fFor (fName 8) (gN 5) (fExp (fApp 6 (fTup (fCons (fTup (fCons (fName 3) (fCons (f2 pAdd (f2 pAdd (fSl (fName 4) (rt none) (fPart (fName 7))) (fTup (fCons (fName 5) (rt [])))) (fSl (fName 4) (fPart (fName 7)) (rt none))) (rt [])))) (fCons (fTup (fCons (rt (.str "row")) (fCons (fName 7) (rt [])))) (rt [])))))))
  (fSeq (fFor (fTup (fCons (fNeg (rt (.int 1))) (fCons (rt (.int 88)) (fCons (rt (.bl true)) (fCons (rt .non) (fCons (f2 pPow (rt (.int 10)) (rt (.int 30))) (rt []))))))) (gN 5) (fExp (fApp 6 (fTup (fCons (fTup (fCons (fName 3) (fCons (f2 pAdd (f2 pAdd (fSl (fName 4) (rt none) (fPart (fName 7))) (fTup (fCons (fTup (fCons (fName 5) (fCons (rt (.str "waits")) (rt [])))) (rt [])))) (fSl (fName 4) (fPart (fName 7)) (rt none))) (rt [])))) (fCons (fTup (fCons (rt (.str "row")) (fCons (fName 7) (rt [])))) (rt [])))))))
  (fSeq (fSet 9 (fLen (fPk (fCallN 1 m__law_loud (fCons (fName 4) (rt []))))))
  (fSeq (fFor (fSl (fName 4) (rt none) (fPart (rt (.int 1)))) (gN 10) (fExp (fApp 6 (fTup (fCons (fTup (fCons (fName 3) (fCons (f2 pAdd (fName 4) (fTup (fCons (fTup (fCons (fIxD (fName 10) (rt (.int 0))) (fCons (rt (.str "waits")) (rt [])))) (rt [])))) (rt [])))) (fCons (fTup (fCons (rt (.str "row")) (fCons (fLen (fPeek 4)) (rt [])))) (rt [])))))))
  (fSeq (fIf (fNot (fT (fName 3))) (fExp (fApp 6 (fTup (fCons (fTup (fCons (fName 3) (fCons (f2 pAdd (fName 4) (fTup (fCons (fTup (fCons (rt (.int 80)) (fCons (rt (.str "kept")) (rt [])))) (rt [])))) (rt [])))) (fCons (fTup (fCons (rt (.str "row")) (fCons (fLen (fPeek 4)) (rt [])))) (rt [])))))) (sOut .nx))
  (fSeq (fSet 12 (fTupOf (fCompR [11] (fCons (f2 pAdd (f2 pSub (fIxD (fName 1) (rt (.int 0))) (fName 9)) (rt (.int 1))) (rt [])) (gN 11) ((rt true)) (fTup (fCons (f2 pAdd (rt (.int 30)) (fName 11)) (fCons (rt (.str "sounds")) (rt [])))))))
  (fSeq (fExp (fApp 6 (fTup (fCons (fTup (fCons (fName 3) (fCons (f2 pAdd (fName 4) (fName 12)) (rt [])))) (fCons (fTup (fCons (rt (.str "row")) (fCons (f2 pSub (f2 pAdd (fLen (fPeek 4)) (fIxD (fName 1) (rt (.int 0)))) (fName 9)) (rt [])))) (rt []))))))
  (fSeq (fIf (fT (f2 pNeX (fIxD (fName 1) (rt (.int 2))) (rt (.str "none")))) (fExp (fApp 6 (fTup (fCons (fTup (fCons (fName 3) (fCons (fTup (fCons (fTup (fCons (rt (.int 81)) (fCons (rt (.str "waits")) (rt [])))) (rt []))) (rt [])))) (fCons (fTup (fCons (rt (.str "waits")) (rt []))) (rt [])))))) (sOut .nx))
  (fRet (fName 6)))))))))))))))
def m__law_bent : Fd := runB fb__law_bent 13 3
theorem kf__law_bent {f : Addr} {fd : FuncData} (T : Tx P w K mg base Γ) (F : Fun K "_law_bent" "_law_bent" s__law_bent f fd) (hm : mg "_law_bent" = some (.ref f)) (K__law_draw : Kf P w K mg base 1 "_law_draw" (dsp K Γ 2 m__law_draw)) (K__law_loud : Kf P w K mg base 1 "_law_loud" (dsp K Γ 1 m__law_loud)) : Kf P w K mg base 2 "_law_bent" (dsp K Γ 3 m__law_bent) :=
  kf_of (ps := ["m", "machine", "state"]) (N := ["m", "machine", "state", "pedal", "row", "odd", "found", "at", "some", "many", "pair", "k", "more"]) F hm sc__law_bent (F.binds (ps := ["m", "machine", "state"]) fun _ _ _ _ _ _ us hl => match us, hl with | [_, _, _], _ => rfl) (fun cdv A outer s H E C =>
  b_cons (s_asg (dv_ 2) (g_tup C.calm (gs_cons (g_name 3 sc__law_bent.nd) (gs_cons (g_name 4 sc__law_bent.nd) gs_nil))))
  (b_cons (s_setC (i := 6) (own := [("odd", 5)]) (js := [5]) C.calm sc__law_bent.nd rfl rfl (sw_true rfl rfl rfl (by decide +kernel)) (d_tup (da_cons d_non (da_cons d_int (da_cons d_int (da_cons d_str (da_cons (d_tup (da_cons d_bl da_nil)) (da_cons (d_let (d_lstO da_nil)) da_nil))))))) (blk_ok (by decide +kernel)) (by decide) ⟨fun _ _ _ _ _ => g_name 5 sc__law_bent.nd, fun _ _ _ _ _ => pts_yes, fun _ _ _ _ _ => d_tup (da_cons (d_tup (da_cons (dv_ 5) (da_cons (dv_ 4) da_nil))) (da_cons (d_tup (da_cons d_str da_nil)) da_nil))⟩)
  (b_cons (s_setO 6 sc__law_bent.nd (d_catO (dv_ 6) (d_let (d_comp (own := [("odd", 5)]) (js := [5]) C.calm sc__law_bent.nd (d_tup (da_cons d_non (da_cons (d_let (d_list (dp_ 4) (by rfl) T.z_list (by decide +kernel))) (da_cons d_str (da_cons d_int (da_cons d_dic0 (da_cons d_bl da_nil))))))) (blk_ok (by decide +kernel)) (by decide) ⟨fun _ _ _ _ _ => g_name 5 sc__law_bent.nd, fun _ _ _ _ _ => pts_yes, fun _ _ _ _ _ => d_tup (da_cons (d_tup (da_cons (dv_ 3) (da_cons (dv_ 5) da_nil))) (da_cons (d_tup (da_cons d_str da_nil)) da_nil))⟩))))
  (b_cons (s_set 7 sc__law_bent.nd (d_callK K__law_draw (by decide) C (by rfl) (da_cons (dv_ 0) (da_cons (d_bin o_add (d_len (dp_ 4) (by rfl) T.z_len PySem.boot_len) d_int) da_nil))))
  (b_cons (s_set 8 sc__law_bent.nd (d_let (d_lstO (da_cons d_non (da_cons d_int (da_cons d_str (da_cons (d_tup da_nil) (da_cons (d_tup (da_cons d_int da_nil)) (da_cons (d_tup (da_cons d_int da_nil)) (da_cons (d_tup (da_cons d_int (da_cons d_str (da_cons d_int da_nil)))) (da_cons (d_let (d_lstO (da_cons d_int (da_cons d_str da_nil)))) (da_cons (d_tup (da_cons d_int (da_cons d_str da_nil))) (da_cons (d_tup (da_cons d_int (da_cons d_non da_nil))) (da_cons (d_tup (da_cons d_str (da_cons d_str da_nil))) da_nil))))))))))))))
  (b_cons (s_set 8 sc__law_bent.nd (d_let (d_catO (dv_ 8) (d_let (d_lstO (da_cons (d_tup (da_cons d_int (da_cons (d_let (d_lstO (da_cons d_str da_nil))) da_nil))) (da_cons (d_tup (da_cons d_int (da_cons d_dic0 da_nil))) (da_cons (d_tup (da_cons (d_let (d_lstO (da_cons d_int da_nil))) (da_cons d_str da_nil))) (da_cons (d_tup (da_cons d_dic0 (da_cons d_str da_nil))) da_nil)))))))))
  (b_cons (s_for C.calm C.pas (dv_ 8) (g_name 5 sc__law_bent.nd)
  (b_one (s_exp (d_app 6 (d_tup (da_cons (d_tup (da_cons (dv_ 3) (da_cons (d_bin o_add (d_bin o_add (d_sl (dv_ 4) do_none (do_some (dv_ 7))) (d_tup (da_cons (dv_ 5) da_nil))) (d_sl (dv_ 4) (do_some (dv_ 7)) do_none)) da_nil))) (da_cons (d_tup (da_cons d_str (da_cons (dv_ 7) da_nil))) da_nil)))))))
  (b_cons (s_for C.calm C.pas (d_tup (da_cons (d_neg d_int) (da_cons d_int (da_cons d_bl (da_cons d_non (da_cons (d_bin o_pow d_int d_int) da_nil)))))) (g_name 5 sc__law_bent.nd)
  (b_one (s_exp (d_app 6 (d_tup (da_cons (d_tup (da_cons (dv_ 3) (da_cons (d_bin o_add (d_bin o_add (d_sl (dv_ 4) do_none (do_some (dv_ 7))) (d_tup (da_cons (d_tup (da_cons (dv_ 5) (da_cons d_str da_nil))) da_nil))) (d_sl (dv_ 4) (do_some (dv_ 7)) do_none)) da_nil))) (da_cons (d_tup (da_cons d_str (da_cons (dv_ 7) da_nil))) da_nil)))))))
  (b_cons (s_set 9 sc__law_bent.nd (d_len (d_pkD (d_callK K__law_loud (by decide) C (by rfl) (da_cons (dv_ 4) da_nil))) (by rfl) T.z_len PySem.boot_len))
  (b_cons (s_for C.calm C.pas (d_sl (dv_ 4) do_none (do_some d_int)) (g_name 10 sc__law_bent.nd)
  (b_one (s_exp (d_app 6 (d_tup (da_cons (d_tup (da_cons (dv_ 3) (da_cons (d_bin o_add (dv_ 4) (d_tup (da_cons (d_tup (da_cons (d_ix (dv_ 10) d_int (fun _ _ => rfl)) (da_cons d_str da_nil))) da_nil))) da_nil))) (da_cons (d_tup (da_cons d_str (da_cons (d_len (dp_ 4) (by rfl) T.z_len PySem.boot_len) da_nil))) da_nil)))))))
  (b_cons (s_if (t_not (t_val (dv_ 3)))
  (b_one (s_exp (d_app 6 (d_tup (da_cons (d_tup (da_cons (dv_ 3) (da_cons (d_bin o_add (dv_ 4) (d_tup (da_cons (d_tup (da_cons d_int (da_cons d_str da_nil))) da_nil))) da_nil))) (da_cons (d_tup (da_cons d_str (da_cons (d_len (dp_ 4) (by rfl) T.z_len PySem.boot_len) da_nil))) da_nil))))))
  b_nil)
  (b_cons (s_set 12 sc__law_bent.nd (d_tuple (d_pk (d_compR (own := [("k", 11)]) (js := [11]) C.calm sc__law_bent.nd (da_cons (d_bin o_add (d_bin o_sub (d_ix (dv_ 1) d_int (fun _ _ => rfl)) (dv_ 9)) d_int) da_nil) (blk_ok (by decide +kernel)) (by decide) ⟨fun _ _ _ _ _ => g_name 11 sc__law_bent.nd, fun _ _ _ _ _ => pts_yes, fun _ _ _ _ _ => d_tup (da_cons (d_bin o_add d_int (dv_ 11)) (da_cons d_str da_nil))⟩ (by rfl) T.z_range)) (by rfl) T.z_tuple (by decide +kernel)))
  (b_cons (s_exp (d_app 6 (d_tup (da_cons (d_tup (da_cons (dv_ 3) (da_cons (d_bin o_add (dv_ 4) (dv_ 12)) da_nil))) (da_cons (d_tup (da_cons d_str (da_cons (d_bin o_sub (d_bin o_add (d_len (dp_ 4) (by rfl) T.z_len PySem.boot_len) (d_ix (dv_ 1) d_int (fun _ _ => rfl))) (dv_ 9)) da_nil))) da_nil)))))
  (b_cons (s_if (t_cmp (o_nex C.room.units) (d_ix (dv_ 1) d_int (fun _ _ => rfl)) d_str (nomark _))
  (b_one (s_exp (d_app 6 (d_tup (da_cons (d_tup (da_cons (dv_ 3) (da_cons (d_tup (da_cons (d_tup (da_cons d_int (da_cons d_str da_nil))) da_nil)) da_nil))) (da_cons (d_tup (da_cons d_str da_nil)) da_nil))))))
  b_nil)
  (b_one (s_ret (dv_ 6)))))))))))))))))

/-! ### _law_begun -/
abbrev s__law_begun : Stmt := top 32
theorem sc__law_begun : FnScope ["script", "seed", "cell"] ["script"] (defScope s__law_begun) := ⟨rfl, rfl, rfl, by decide +kernel, rfl, by decide +kernel, by decide +kernel⟩
theorem kf__law_begun {f : Addr} {fd : FuncData} (T : Ty mg) (F : Fun K "_law_begun" "_law_begun" s__law_begun f fd) (hm : mg "_law_begun" = some (.ref f)) : Kf P w K mg base 1 "_law_begun" (spBeg K) := by
  refine ⟨f, fd, ["script"], fnG_of F sc__law_begun (fun vs H Q E h => ?_) (fun cdv A outer s H vs Q E C h => ⟨tBeg K, ?_, ?_⟩), hm, F.kp, F.binds (ps := ["script"]) fun _ _ _ _ _ _ us hl => match us, hl with | [_], _ => rfl⟩
  · obtain ⟨l, ns, rfl, _⟩ := h; rfl
  · exact pss_cons (ps_set (i := 1) sc__law_begun.nd rfl (.inl rfl) pe_int) (pss_cons (ps_for C.pas C.calm (pi_list (pe_var (i := 0) rfl (.inl rfl))) (pg_name (i := 2) sc__law_begun.nd rfl (.inl rfl)) (pss_one (ps_set (i := 1) sc__law_begun.nd rfl (.inl rfl) (pe_op op_mod (pe_callTy call_int1 (by rfl) T.z_int (by decide +kernel) (pa_cons (pe_op op_add (pe_op op_add (pe_op op_mul (pe_var (i := 1) rfl (.inl rfl)) pe_int) (pe_op op_mod (pe_callTy call_int1 (by rfl) T.z_int (by decide +kernel) (pa_cons (pe_var (i := 2) rfl (.inl rfl)) pa_nil)) pe_int)) pe_int) pa_nil)) pe_int))))
      (pss_one (ps_ret (pe_disp (pps_cons pe_str (pe_lc (own := [("cell", 2)]) (g := gName 2) (te := tVar 2) C.calm sc__law_begun.nd (pi_list (pe_var (i := 0) rfl (.inl rfl))) (blk_ok (by decide +kernel)) (fun _ _ _ _ _ => (g_name (Γ := ⟨0, fun _ => none, []⟩) 2 sc__law_begun.nd).1) (fun _ _ _ _ _ => pts_one (pt_cmpR op_ge (pe_var (i := 2) rfl (.inl rfl)) (pe_op op_pow pe_int pe_int) (nomark _))) (fun _ _ _ _ _ => pe_var (i := 2) rfl (.inl rfl))) (pps_cons pe_str (pe_var (i := 1) rfl (.inl rfl)) (pps_cons pe_str pe_int pps_nil))) rfl rfl (by intro z; cases z) (by decide)))))
  · obtain ⟨l, ns, rfl, hl, hn, q⟩ := h
    exact beg_run rfl rfl hl hn q

/-! ### law -/
abbrev s_law : Stmt := top 50
theorem sc_law : FnScope ["script", "m", "turn", "choice", "odd", "some", "place", "found", "own", "machine", "other", "state", "thing"] ["script"] (defScope s_law) := ⟨rfl, rfl, rfl, by decide +kernel, rfl, by decide +kernel, by decide +kernel⟩
def fb_law : Ms := fSeq (fForR (fCons (rt (.int 3)) (rt [])) (gN 2) (fSeq (fSet 9 (fCallN 3 m__law_machine (fCons (fName 1) (fCons (fIxD (fLet (fLst (fCons (rt (.int 1)) (fCons (rt (.int 2)) (fCons (rt (.int 8)) (rt [])))))) (fName 2)) (fCons (rt (.int 4)) (rt []))))))
  (fSeq (fSet 3 (fSl (fLet (fLst (fCons (rt (.int 0)) (fCons (rt (.int 3)) (fCons (rt (.int 4)) (fCons (rt (.int 7)) (fCons (rt (.int 12)) (fCons (rt (.int 87)) (rt []))))))))) (rt none) (fPart (f2 pAdd (rt (.int 2)) (fCallN 2 m__law_draw (fCons (fName 1) (fCons (rt (.int 5)) (rt []))))))))
  (fSeq (fSet 11 (fCallN 3 m__law_state (fCons (fName 1) (fCons (fName 9) (fCons (fName 3) (rt []))))))
  (fSeq (fSet 10 (fCallN 3 m__law_free (fCons (fName 1) (fCons (fName 9) (fCons (fLet (fLst (fCons (rt (.int 0)) (fCons (rt (.int 3)) (fCons (rt (.int 4)) (fCons (rt (.int 7)) (fCons (rt (.int 12)) (fCons (rt (.int 16)) (fCons (rt (.int 17)) (fCons (rt (.int 19)) (fCons (rt (.int 22)) (fCons (rt (.int 87)) (rt []))))))))))))) (rt []))))))
  (fSeq (fIf (fOr (fT (f2 pNe (fRepr (fLam [9, 10] mt__law_said (fCallN 2 m_need_state (fCons (fName 9) (fCons (fName 10) (rt [])))))) (fRepr (fLet (fLst (fCons (fName 10) (rt []))))))) (fT (f2 pNis (fCallN 2 m_is_state (fCons (fName 9) (fCons (fName 10) (rt [])))) (rt (.bl true))))) (fRet (rt (.bl false))) (sOut .nx))
  (fSeq (fIf (fT (f2 pNe (fRepr (fCallN 2 m_sound (fCons (fName 9) (fCons (fName 10) (rt []))))) (fRepr (fCallN 1 m__law_sound (fCons (fName 10) (rt [])))))) (fRet (rt (.bl false))) (sOut .nx))
  (fSeq (fIf (fOr (fT (f2 pNe (fRepr (fLam [9, 11] mt__law_said (fCallN 2 m_need_state (fCons (fName 9) (fCons (fName 11) (rt [])))))) (fRepr (fLet (fLst (fCons (fName 11) (rt []))))))) (fT (f2 pNis (fCallN 2 m_is_state (fCons (fName 9) (fCons (fName 11) (rt [])))) (rt (.bl true))))) (fRet (rt (.bl false))) (sOut .nx))
  (fSeq (fIf (fT (f2 pNe (fRepr (fCallN 2 m_sound (fCons (fName 9) (fCons (fName 11) (rt []))))) (fRepr (fCallN 1 m__law_sound (fCons (fName 11) (rt [])))))) (fRet (rt (.bl false))) (sOut .nx))
  (fSeq (fSetO 5 (fComp [4] (fTup (fCons (rt .non) (fCons (fTup (rt [])) (fCons (fSl (fName 11) (rt none) (fPart (rt (.int 1)))) (fCons (f2 pAdd (fName 11) (fTup (fCons (rt (.int 0)) (rt [])))) (fCons (fLet (bd (fPeek 11) rt)) (fCons (rt (.int 5)) (fCons (rt (.dic [])) (rt []))))))))) (gN 4) ((rt true)) (fTup (fCons (fName 4) (fCons (fTup (rt [])) (rt []))))))
  (fFor (fLet (fCat (fName 5) (fCallN 3 m__law_bent (fCons (fName 1) (fCons (fName 9) (fCons (fName 11) (rt []))))))) (gT 2 (gsCons (gN 12) (gsCons (gN 6) gsNil))) (fSeq (fSet 7 (fLet (fLst (fCons (fLam [9, 12] mt__law_said (fCallN 2 m_need_state (fCons (fName 9) (fCons (fName 12) (rt []))))) (fCons (fLam [9, 12] mt__law_said (fCallN 2 m_sound (fCons (fName 9) (fCons (fName 12) (rt []))))) (rt []))))))
  (fIf (fOr (fT (f2 pNe (fName 7) (fLet (fRepL (fLet (fLst (fCons (fLet (fLst (fCons (rt (.str "refused")) (fCons (fName 6) (rt []))))) (rt [])))) (rt (.int 2)))))) (fT (f2 pNis (fCallN 2 m_is_state (fCons (fName 9) (fCons (fName 12) (rt [])))) (rt (.bl false))))) (fRet (rt (.bl false))) (sOut .nx))))))))))))))
  (fSeq (fSet 8 (fTup (fCons (rt (.bl false)) (fCons (fTup (fCons (fTup (fCons (rt (.int 3)) (fCons (rt (.str "sounds")) (rt [])))) (fCons (fTup (fCons (rt (.int 5)) (fCons (rt (.str "waits")) (rt [])))) (rt [])))) (rt [])))))
  (fSeq (fIf (fOr (fT (f2 pNis (fCallN 2 m_is_state (fCons (fTup (fCons (rt (.int 1)) (fCons (fTup (fCons (rt (.str "eldest")) (rt []))) (fCons (rt (.str "latest")) (rt []))))) (fCons (fName 8) (rt [])))) (rt (.bl true)))) (fT (f2 pNe (fCallN 2 m_sound (fCons (fTup (fCons (rt (.int 1)) (fCons (fTup (fCons (rt (.str "eldest")) (rt []))) (fCons (rt (.str "latest")) (rt []))))) (fCons (fName 8) (rt [])))) (fTup (fCons (rt (.int 3)) (rt [])))))) (fRet (rt (.bl false))) (sOut .nx))
  (fRet (fAndV (f2 pEq (rt c_START) (fTup (fCons (rt (.bl false)) (fCons (fTup (rt [])) (rt []))))) (f2 pEqE (fCallN 2 m_sound (fCons (fName 9) (fCons (rt c_START) (rt [])))) (fTup (rt [])))))))
theorem fn_law {cl : Str → Option (Addr × Str)} {tl : List (Addr × Str)} {f ca tp : Addr} {fd : FuncData} (T : ∀ M, Tx P w K mg base ⟨M, cl, tl⟩) (F : Fun K "law" "law" s_law f fd) (K__law_begun : Kf P w K mg base 1 "_law_begun" (spBeg K)) (K_need_state : ∀ M, Kf P w K mg base 7 "need_state" (dsp K ⟨M, cl, tl⟩ 2 m_need_state)) (K_is_state : ∀ M, Kf P w K mg base 7 "is_state" (dsp K ⟨M, cl, tl⟩ 2 m_is_state)) (K_sound : ∀ M, Kf P w K mg base 8 "sound" (dsp K ⟨M, cl, tl⟩ 2 m_sound)) (K__law_draw : ∀ M, Kf P w K mg base 1 "_law_draw" (dsp K ⟨M, cl, tl⟩ 2 m__law_draw)) (K__law_machine : ∀ M, Kf P w K mg base 3 "_law_machine" (dsp K ⟨M, cl, tl⟩ 3 m__law_machine)) (K__law_sound : ∀ M, Kf P w K mg base 2 "_law_sound" (dsp K ⟨M, cl, tl⟩ 1 m__law_sound)) (K__law_state : ∀ M, Kf P w K mg base 5 "_law_state" (dsp K ⟨M, cl, tl⟩ 3 m__law_state)) (K__law_free : ∀ M, Kf P w K mg base 3 "_law_free" (dsp K ⟨M, cl, tl⟩ 3 m__law_free)) (K__law_said : ∀ M, KfT P w K mg base 30 "_law_said" ⟨M, cl, tl⟩ 5 fb__law_said) (hG__law_said : GivesTh fb__law_said 5 mt__law_said) (K__law_bent : ∀ M, Kf P w K mg base 2 "_law_bent" (dsp K ⟨M, cl, tl⟩ 3 m__law_bent)) (hcd : fd.code = .ref ca) (TB : LamX.TabB base mg ca tp) (hlT : (tp, (("law" : Str) ++ ".<locals>.") ++ "<lambda>") ∈ tl) (hlU : ∀ p ∈ tl, p.1 = tp → p.2 = (("law" : Str) ++ ".<locals>.") ++ "<lambda>") : FnG P w K mg base 33 f fd ["script"] (spLaw K tl 13 1 fb_law) :=
  law_fnC (N := ["script", "m", "turn", "choice", "odd", "some", "place", "found", "own", "machine", "other", "state", "thing"]) (im := 1) F sc_law rfl (by decide) (by decide) (fun cdv A outer s H E C => ps_set (i := 1) sc_law.nd rfl (.inl rfl) (pe_callKs K__law_begun (by decide) C (by rfl) (pa_cons (pe_var (i := 0) rfl (.inl rfl)) pa_nil)))
    (fun M cdv A outer s H E hcv C => have hcC := hcv.symm.trans hcd
  b_cons (s_forR C.calm C.pas (da_cons d_int da_nil) (g_name 2 sc_law.nd)
  (b_cons (s_set 9 sc_law.nd (d_callK (K__law_machine M) (by decide) C (by rfl) (da_cons (dv_ 1) (da_cons (d_ix (d_let (d_lstO (da_cons d_int (da_cons d_int (da_cons d_int da_nil))))) (dv_ 2) (fun _ _ => rfl)) (da_cons d_int da_nil)))))
  (b_cons (s_set 3 sc_law.nd (d_sl (d_let (d_lstO (da_cons d_int (da_cons d_int (da_cons d_int (da_cons d_int (da_cons d_int (da_cons d_int da_nil)))))))) do_none (do_some (d_bin o_add d_int (d_callK (K__law_draw M) (by decide) C (by rfl) (da_cons (dv_ 1) (da_cons d_int da_nil)))))))
  (b_cons (s_set 11 sc_law.nd (d_callK (K__law_state M) (by decide) C (by rfl) (da_cons (dv_ 1) (da_cons (dv_ 9) (da_cons (dv_ 3) da_nil)))))
  (b_cons (s_set 10 sc_law.nd (d_callK (K__law_free M) (by decide) C (by rfl) (da_cons (dv_ 1) (da_cons (dv_ 9) (da_cons (d_let (d_lstO (da_cons d_int (da_cons d_int (da_cons d_int (da_cons d_int (da_cons d_int (da_cons d_int (da_cons d_int (da_cons d_int (da_cons d_int (da_cons d_int da_nil)))))))))))) da_nil)))))
  (b_cons (s_if (t_w (w_or (t_cmp (o_ne C.room.units) (d_repr C (d_lam [9, 10] (K__law_said M) (by decide) C hG__law_said (by rfl) (lam_make0 TB hcC hlT hlU (lamN_by (N := ["script", "m", "turn", "choice", "odd", "some", "place", "found", "own", "machine", "other", "state", "thing"]) (sc := defScope s_law) (by decide +kernel)) (by rfl) (fun _ _ _ _ _ _ => rfl)) ⟨_, hlT⟩ (lamN_by (N := ["script", "m", "turn", "choice", "odd", "some", "place", "found", "own", "machine", "other", "state", "thing"]) (sc := defScope s_law) (by decide +kernel)) (fun A outer s H E fa ca C => d_callK (K_need_state M) (by decide) C (by rfl) (da_cons (dv_ 9) (da_cons (dv_ 10) da_nil)))) (by rfl) (T M).z_repr (by decide +kernel)) (d_repr C (d_let (d_lstO (da_cons (dv_ 10) da_nil))) (by rfl) (T M).z_repr (by decide +kernel)) (nomark _)) (w_or1 (t_cmp o_nis (d_callK (K_is_state M) (by decide) C (by rfl) (da_cons (dv_ 9) (da_cons (dv_ 10) da_nil))) d_bl (nomark _)))))
  (b_one (s_ret d_bl))
  b_nil)
  (b_cons (s_if (t_cmp (o_ne C.room.units) (d_repr C (d_callK (K_sound M) (by decide) C (by rfl) (da_cons (dv_ 9) (da_cons (dv_ 10) da_nil))) (by rfl) (T M).z_repr (by decide +kernel)) (d_repr C (d_callK (K__law_sound M) (by decide) C (by rfl) (da_cons (dv_ 10) da_nil)) (by rfl) (T M).z_repr (by decide +kernel)) (nomark _))
  (b_one (s_ret d_bl))
  b_nil)
  (b_cons (s_if (t_w (w_or (t_cmp (o_ne C.room.units) (d_repr C (d_lam [9, 11] (K__law_said M) (by decide) C hG__law_said (by rfl) (lam_make0 TB hcC hlT hlU (lamN_by (N := ["script", "m", "turn", "choice", "odd", "some", "place", "found", "own", "machine", "other", "state", "thing"]) (sc := defScope s_law) (by decide +kernel)) (by rfl) (fun _ _ _ _ _ _ => rfl)) ⟨_, hlT⟩ (lamN_by (N := ["script", "m", "turn", "choice", "odd", "some", "place", "found", "own", "machine", "other", "state", "thing"]) (sc := defScope s_law) (by decide +kernel)) (fun A outer s H E fa ca C => d_callK (K_need_state M) (by decide) C (by rfl) (da_cons (dv_ 9) (da_cons (dv_ 11) da_nil)))) (by rfl) (T M).z_repr (by decide +kernel)) (d_repr C (d_let (d_lstO (da_cons (dv_ 11) da_nil))) (by rfl) (T M).z_repr (by decide +kernel)) (nomark _)) (w_or1 (t_cmp o_nis (d_callK (K_is_state M) (by decide) C (by rfl) (da_cons (dv_ 9) (da_cons (dv_ 11) da_nil))) d_bl (nomark _)))))
  (b_one (s_ret d_bl))
  b_nil)
  (b_cons (s_if (t_cmp (o_ne C.room.units) (d_repr C (d_callK (K_sound M) (by decide) C (by rfl) (da_cons (dv_ 9) (da_cons (dv_ 11) da_nil))) (by rfl) (T M).z_repr (by decide +kernel)) (d_repr C (d_callK (K__law_sound M) (by decide) C (by rfl) (da_cons (dv_ 11) da_nil)) (by rfl) (T M).z_repr (by decide +kernel)) (nomark _))
  (b_one (s_ret d_bl))
  b_nil)
  (b_cons (s_setC (i := 5) (own := [("odd", 4)]) (js := [4]) C.calm sc_law.nd rfl rfl (sw_true rfl rfl rfl (by decide +kernel)) (d_tup (da_cons d_non (da_cons (d_tup da_nil) (da_cons (d_sl (dv_ 11) do_none (do_some d_int)) (da_cons (d_bin o_add (dv_ 11) (d_tup (da_cons d_int da_nil))) (da_cons (d_let (d_list (dp_ 11) (by rfl) (T M).z_list (by decide +kernel))) (da_cons d_int (da_cons d_dic0 da_nil)))))))) (blk_ok (by decide +kernel)) (by decide) ⟨fun _ _ _ _ _ => g_name 4 sc_law.nd, fun _ _ _ _ _ => pts_yes, fun _ _ _ _ _ => d_tup (da_cons (dv_ 4) (da_cons (d_tup da_nil) da_nil))⟩)
  (b_one (s_for C.calm C.pas (d_let (d_catO (dv_ 5) (d_callK (K__law_bent M) (by decide) C (by rfl) (da_cons (dv_ 1) (da_cons (dv_ 9) (da_cons (dv_ 11) da_nil)))))) (g_tup C.calm (gs_cons (g_name 12 sc_law.nd) (gs_cons (g_name 6 sc_law.nd) gs_nil)))
  (b_cons (s_set 7 sc_law.nd (d_let (d_lstO (da_cons (d_lam [9, 12] (K__law_said M) (by decide) C hG__law_said (by rfl) (lam_make0 TB hcC hlT hlU (lamN_by (N := ["script", "m", "turn", "choice", "odd", "some", "place", "found", "own", "machine", "other", "state", "thing"]) (sc := defScope s_law) (by decide +kernel)) (by rfl) (fun _ _ _ _ _ _ => rfl)) ⟨_, hlT⟩ (lamN_by (N := ["script", "m", "turn", "choice", "odd", "some", "place", "found", "own", "machine", "other", "state", "thing"]) (sc := defScope s_law) (by decide +kernel)) (fun A outer s H E fa ca C => d_callK (K_need_state M) (by decide) C (by rfl) (da_cons (dv_ 9) (da_cons (dv_ 12) da_nil)))) (da_cons (d_lam [9, 12] (K__law_said M) (by decide) C hG__law_said (by rfl) (lam_make1 (i := 0) (y := "at") TB hcC hlT hlU (lamN_by (N := ["script", "m", "turn", "choice", "odd", "some", "place", "found", "own", "machine", "other", "state", "thing"]) (sc := defScope s_law) (by decide +kernel)) (by rfl) (by rfl) (by rfl) (fun _ _ _ _ _ _ _ => ⟨_, rfl, fun _ => rfl⟩)) ⟨_, hlT⟩ (lamN_by (N := ["script", "m", "turn", "choice", "odd", "some", "place", "found", "own", "machine", "other", "state", "thing"]) (sc := defScope s_law) (by decide +kernel)) (fun A outer s H E fa ca C => d_callK (K_sound M) (by decide) C (by rfl) (da_cons (dv_ 9) (da_cons (dv_ 12) da_nil)))) da_nil)))))
  (b_one (s_if (t_w (w_or (t_cmp (o_ne C.room.units) (dv_ 7) (d_let (d_repL (d_let (d_lstO (da_cons (d_let (d_lstO (da_cons d_str (da_cons (dv_ 6) da_nil)))) da_nil))) d_int)) (nomark _)) (w_or1 (t_cmp o_nis (d_callK (K_is_state M) (by decide) C (by rfl) (da_cons (dv_ 9) (da_cons (dv_ 12) da_nil))) d_bl (nomark _)))))
  (b_one (s_ret d_bl))
  b_nil)))))))))))))) (by rfl) (T M).z_range)
  (b_cons (s_set 8 sc_law.nd (d_tup (da_cons d_bl (da_cons (d_tup (da_cons (d_tup (da_cons d_int (da_cons d_str da_nil))) (da_cons (d_tup (da_cons d_int (da_cons d_str da_nil))) da_nil))) da_nil))))
  (b_cons (s_if (t_w (w_or (t_cmp o_nis (d_callK (K_is_state M) (by decide) C (by rfl) (da_cons (d_tup (da_cons d_int (da_cons (d_tup (da_cons d_str da_nil)) (da_cons d_str da_nil)))) (da_cons (dv_ 8) da_nil))) d_bl (nomark _)) (w_or1 (t_cmp (o_ne C.room.units) (d_callK (K_sound M) (by decide) C (by rfl) (da_cons (d_tup (da_cons d_int (da_cons (d_tup (da_cons d_str da_nil)) (da_cons d_str da_nil)))) (da_cons (dv_ 8) da_nil))) (d_tup (da_cons d_int da_nil)) (nomark _)))))
  (b_one (s_ret d_bl))
  b_nil)
  (b_one (s_ret (d_and (d_cmp (o_eq C.room.units) (d_gl (T M).c_START (by rfl)) (d_tup (da_cons d_bl (da_cons (d_tup da_nil) da_nil))) (nomark _)) (d_one (d_cmp (o_eqE C.room.units) (d_callK (K_sound M) (by decide) C (by rfl) (da_cons (dv_ 9) (da_cons (d_gl (T M).c_START (by rfl)) da_nil))) (d_tup da_nil) (nomark _)))))))))

end
end K05
namespace K05
open PyProof.Rows PySem.Spec PySem L2 DE
/-! ### what a call comes to, told -/
section
variable {act : Mo D} {z : Sl} {s s1 : DS}
abbrev zS (z c f : Sl) : List Sl := [z, .no, .no, c, f]
theorem said_ok {d : D} (h : act ⟨zS z (.dat .non) (.dat (.lst [])), s⟩ = some (.ok d, ⟨zS z (.dat .non) (.dat (.lst [])), s1⟩)) : fb__law_said act ⟨zS z .no .no, s⟩ = some (.ret (.lst [d]), ⟨zS z (.dat .non) (.dat (.lst [d])), s1⟩) := by
  unfold fb__law_said
  refine (seq_nx (g1 := ⟨zS z (.dat .non) (.dat (.lst [])), s⟩) rfl).trans ?_
  refine (seq_nx (g1 := ⟨zS z (.dat .non) (.dat (.lst [d])), s1⟩) (try_nx (set_ok (i := 4) (g1 := ⟨zS z (.dat .non) (.dat (.lst [])), s1⟩) (let_ok (lst_ok (ds := [d]) (cons_ok (fs := rt []) (g2 := ⟨zS z (.dat .non) (.dat (.lst [])), s1⟩) h rfl) (by show 1 ≤ 100000; decide)))))).trans ?_
  rfl
abbrev sRest : Ms := fSeq (fIf (fT (f2 pIs (fName 3) (rt .non))) (fRet (fName 4)) (sOut .nx))
  (fSeq (fSet 2 (fOrV (fIsE tb_BadMachine (fName 3)) (fNotV (fIsE tb_BadState (fName 3)))))
  (fRet (fIfE (fT (fName 2)) (fLet (fLst (fCons (rt (.str "other")) (rt [])))) (fLet (fLst (fCons (rt (.str "refused")) (fCons (fFld cs_place (fName 3)) (rt []))))))))
theorem said_tr {x : Exn} (h : act ⟨zS z (.dat .non) (.dat (.lst [])), s⟩ = some (.error x, ⟨zS z (.dat .non) (.dat (.lst [])), s1⟩)) : fb__law_said act ⟨zS z .no .no, s⟩ =
    fSeq (fun _ => hdl x [⟨tb_VoiceError, some 1, fSet 3 (fName 1)⟩] ⟨zS z (.dat .non) (.dat (.lst [])), s1⟩) sRest ⟨zS z (.dat .non) (.dat (.lst [])), s⟩ := by
  unfold fb__law_said
  refine (seq_nx (g1 := ⟨zS z (.dat .non) (.dat (.lst [])), s⟩) rfl).trans ?_
  show fSeq _ sRest _ = _
  unfold fSeq
  rw [try_exc (x := x) (g1 := ⟨zS z (.dat .non) (.dat (.lst [])), s1⟩)]
  unfold fSet
  refine sb_er ?_
  unfold fLet
  refine bd_er ?_
  unfold fLst
  refine bd_er ?_
  unfold fCons
  exact bd_er h
theorem said_er {v : D} (h : act ⟨zS z (.dat .non) (.dat (.lst [])), s⟩ = some (.error ⟨"BadState", v⟩, ⟨zS z (.dat .non) (.dat (.lst [])), s1⟩)) : fb__law_said act ⟨zS z .no .no, s⟩ = some (.ret (.lst [.str "refused", v]), ⟨[z, .no, .dat (.bl false), .dat (.exc "BadState" v), .dat (.lst [])], s1⟩) := by
  rw [said_tr h]
  kernel_rfl
theorem said_em {v : D} (h : act ⟨zS z (.dat .non) (.dat (.lst [])), s⟩ = some (.error ⟨"BadMachine", v⟩, ⟨zS z (.dat .non) (.dat (.lst [])), s1⟩)) : fb__law_said act ⟨zS z .no .no, s⟩ = some (.ret (.lst [.str "other"]), ⟨[z, .no, .dat (.bl true), .dat (.exc "BadMachine" v), .dat (.lst [])], s1⟩) := by
  rw [said_tr h]
  kernel_rfl
theorem said_no {x : Exn} (h1 : x.c ≠ "BadMachine") (h2 : x.c ≠ "BadState") (h : act ⟨zS z (.dat .non) (.dat (.lst [])), s⟩ = some (.error x, ⟨zS z (.dat .non) (.dat (.lst [])), s1⟩)) : fb__law_said act ⟨zS z .no .no, s⟩ = none := by
  rw [said_tr h]
  have e : tb_VoiceError.lookup x.c = none := by
    have e1 : (x.c == ("BadMachine" : Str)) = false := by simpa using h1
    have e2 : (x.c == ("BadState" : Str)) = false := by simpa using h2
    simp [tb_VoiceError, List.lookup, e1, e2]
  unfold fSeq hdl
  rw [e]; rfl
theorem said_st (h : act ⟨zS z (.dat .non) (.dat (.lst [])), s⟩ = none) : fb__law_said act ⟨zS z .no .no, s⟩ = none := by
  unfold fb__law_said
  refine (seq_nx (g1 := ⟨zS z (.dat .non) (.dat (.lst [])), s⟩) rfl).trans ?_
  unfold fSeq fTry fSet sb fLet bd fLst bd fCons bd
  simp [h]
end
def saidR : Except Exn D → Option D
  | .ok d => some (.lst [d])
  | .error x => if x.c = "BadState" then some (.lst [.str "refused", x.v]) else if x.c = "BadMachine" then some (.lst [.str "other"]) else none
theorem sr_er (v : D) : saidR (.error ⟨"BadState", v⟩) = some (.lst [.str "refused", v]) := by unfold saidR; exact if_pos rfl
theorem sr_em (v : D) : saidR (.error ⟨"BadMachine", v⟩) = some (.lst [.str "other"]) := by unfold saidR; exact (if_neg (show ¬ ("BadMachine" : Str) = "BadState" by decide)).trans (if_pos rfl)
theorem said_any {act : Mo D} {z : Sl} {th : Th} (h : ∀ r s, act ⟨z :: r, s⟩ = match th s with | some (x, s') => some (x, ⟨z :: r, s'⟩) | none => none) (s : DS) :
    (fb__law_said act ⟨zS z .no .no, s⟩ = none ∧ (∀ r s', th s = some (r, s') → saidR r = none)) ∨ ∃ r s' d g, th s = some (r, s') ∧ saidR r = some d ∧ g.s = s' ∧ fb__law_said act ⟨zS z .no .no, s⟩ = some (.ret d, g) := by
  have h0 := h [.no, .no, .dat .non, .dat (.lst [])] s
  cases ht : th s with
  | none => rw [ht] at h0; exact .inl ⟨said_st h0, fun r s' z => by cases z⟩
  | some p =>
    obtain ⟨r, s1⟩ := p
    rw [ht] at h0
    cases r with
    | ok d => exact .inr ⟨_, _, _, _, rfl, rfl, rfl, said_ok h0⟩
    | error x =>
      obtain ⟨c, v⟩ := x
      by_cases hc : c = "BadState"
      · subst hc
        exact .inr ⟨_, _, .lst [.str "refused", v], _, rfl, sr_er v, rfl, said_er h0⟩
      by_cases hm : c = "BadMachine"
      · subst hm
        exact .inr ⟨_, _, .lst [.str "other"], _, rfl, sr_em v, rfl, said_em h0⟩
      · refine .inl ⟨said_no hm hc h0, fun r s' z => ?_⟩
        cases z
        exact (if_neg hc).trans (if_neg hm)
def takeR : Option (Out × Sg) → Option (Except Exn D × DS)
  | some (.ret d, g) => some (.ok d, g.s)
  | some (.nx, g) => some (.ok .non, g.s)
  | some (.exc x, g) => some (.error x, g.s)
  | _ => none
theorem mt_said {th : Th} {s s' : DS} {r : Except Exn D} {d : D} (h : th s = some (r, s')) (hd : saidR r = some d) : mt__law_said th s = some (.ok d, s') := by
  rcases said_any (act := fActU th) (z := .no) (th := th) (fun r s => rfl) s with ⟨_, n⟩ | ⟨r2, s2, d2, g, e1, e2, e3, e4⟩
  · rw [n _ _ h] at hd; cases hd
  · rw [h] at e1
    cases e1
    rw [hd] at e2
    cases e2
    show takeR (fb__law_said (fActU th) ⟨zS .no .no .no, s⟩) = _
    rw [e4, ← e3]; rfl
theorem gv__law_said : GivesTh fb__law_said 5 mt__law_said := by
  intro f c q G1 th s r s' h
  have hU := said_any (act := fActU th) (z := .no) (th := th) (fun r s => rfl) s
  have hA := said_any (act := fAct 0 f c q G1 th) (z := .fn f c q G1) (th := th) (fun r s => by unfold fAct; exact if_pos rfl) s
  have h' : takeR (fb__law_said (fActU th) ⟨zS .no .no .no, s⟩) = some (r, s') := h
  rcases hU with ⟨e, _⟩ | ⟨r2, s2, d2, g, e1, e2, e3, e4⟩
  · rw [e] at h'; cases h'
  · rw [e4] at h'
    cases h'
    rcases hA with ⟨_, n⟩ | ⟨r3, s3, d3, g3, f1, f2, f3, f4⟩
    · rw [n _ _ e1] at e2; cases e2
    · rw [e1] at f1
      cases f1
      rw [e2] at f2
      cases f2
      exact ⟨g3, by rw [f3, e3], .inl f4⟩
end K05
namespace K05
open PyProof.Rows PySem.Spec PySem L2 DE
def FIL : List Str := ["kept", "inner", "notlow", "nothigh", "below", "above", "under", "over"]
def END_ : List Str := ["eldest", "latest", "lowest", "highest", "refuse"]
def RET_ : List Str := ["none", "eldest", "latest", "lowest", "highest"]
theorem is_word_ok (d : D) (ws : List Str) (s : DS) (h : isExc d = false) : m_is_word [d, .tup (ws.map .str)] s = some (.ok (.bl (inW d ws)), s) := by
  cases d with
  | str x =>
    refine runB_ret (r := [.dat (.str x), .dat (.tup (ws.map .str))]) rfl (ret_ok ?_)
    rw [andV_t (g1 := ⟨[.dat (.str x), .dat (.tup (ws.map .str))], s⟩) (by kernel_rfl)]
    rw [f2_ok (name_ok rfl) (name_ok rfl)]
    unfold pIn
    simp only [aSeq, flat1, DE.flat_strs, inV_strs, inW]
    rfl
  | exc c w => cases h
  | scr ns => cases h
  | fn x => cases h
  | _ => kernel_rfl
theorem isw (i : Nat) (c : D) (ws : List Str) (hc : c = .tup (ws.map .str)) {d : D} {g : Sg} (h : g.r[i]? = some (.dat d)) (hd : isExc d = false) : fCallN 2 m_is_word (fCons (fName i) (fCons (rt c) (rt []))) g = some (.ok (.bl (inW d ws)), g) := by
  have e := is_word_ok d ws g.s hd
  rw [← hc] at e
  exact call_ok (ds := [d, c]) (g1 := g) (cons_ok (name_ok h) (cons_ok rfl rfl)) rfl e
theorem chain_ok {p q : D → D → Mo D} {f h j : Mo D} {g g1 g2 g3 : Sg} {a b c : D} {t : Bool} {r : D} (h1 : f g = some (.ok a, g1)) (h2 : h g1 = some (.ok b, g2)) (h3 : p a b g2 = some (.ok (.bl t), g2)) (h4 : t = true → j g2 = some (.ok c, g3) ∧ q b c g3 = some (.ok r, g3)) (h5 : t = false → r = .bl false ∧ g3 = g2) :
    fChain p q f h j g = some (.ok r, g3) := by
  unfold fChain
  rw [bd_ok h1, bd_ok h2, bd_ok h3]
  cases t with
  | true => obtain ⟨h6, h7⟩ := h4 rfl; show bd j _ g2 = _; rw [bd_ok h6]; exact h7
  | false => obtain ⟨rfl, rfl⟩ := h5 rfl; rfl
theorem is_whole_ok (i lo hi : Int) (s : DS) : m_is_whole [.int i, .int lo, .int hi] s = some (.ok (.bl (decide (lo ≤ i) && decide (i ≤ hi))), s) := by
  refine runB_ret (r := [.dat (.int i), .dat (.int lo), .dat (.int hi)]) rfl ?_
  unfold fb_is_whole
  rw [seq_nx (g1 := ⟨[.dat (.int i), .dat (.int lo), .dat (.int hi)], s⟩) (by kernel_rfl)]
  refine ret_ok (chain_ok (t := decide (lo ≤ i)) (g2 := ⟨[.dat (.int i), .dat (.int lo), .dat (.int hi)], s⟩) (name_ok rfl) (name_ok rfl) rfl (c := .int hi) (fun z => ⟨name_ok rfl, by rw [z]; rfl⟩) (fun z => ⟨by rw [z]; rfl, rfl⟩))
theorem pEq_ii (a b : Int) (g : Sg) : pEq (.int a) (.int b) g = some (.ok (.bl (decide (a = b))), g) := rfl
/-- the test whether i is the last place -/
theorem last_ok {cs : List D} {i : Nat} {d : D} (s : DS) : fT (f2 pEq (fName 1) (f2 pSub (fLen (fPeek 0)) (rt (.int 1)))) ⟨[.dat (.tup cs), .dat (.int (i : Int)), .dat d], s⟩ = some (.ok (decide ((i : Int) = (cs.length : Int) - 1)), ⟨[.dat (.tup cs), .dat (.int (i : Int)), .dat d], s⟩) := by
  refine t_ok ?_
  rw [f2_ok (name_ok rfl) (g2 := ⟨[.dat (.tup cs), .dat (.int (i : Int)), .dat d], s⟩) (d' := .int ((cs.length : Int) - 1)) (by rw [f2_ok (len_ok (peek_t rfl)) rfl]; rfl)]
  rfl
theorem can_last {cs : List D} {i : Nat} {d : D} (s : DS) (h : cs[i]? = some d) (hd : isExc d = false) (hl : i + 1 = cs.length) : m_can_stand [.tup cs, .int (i : Int)] s = some (.ok (.bl (inW d END_)), s) := by
  have hi : i < cs.length := by omega
  refine runB_ret (r := [.dat (.tup cs), .dat (.int (i : Int)), .dat d]) rfl ?_
  unfold fb_can_stand
  rw [seq_nx (set_ok (ix_ok (name_ok rfl) (name_ok rfl) rfl ((atI_nat cs i hi).trans h)))]
  refine seq_ret ?_
  have e := last_ok (cs := cs) (i := i) (d := d) s
  rw [decide_eq_true (by omega)] at e
  exact (if_t e).trans (ret_ok (isw 2 c_ENDS END_ rfl rfl hd))
theorem can_first {cs : List D} {i : Nat} {d : D} (s : DS) (h : cs[i]? = some d) (hd : isExc d = false) (hl : i + 1 < cs.length) (hw : inW d FIL = false) : m_can_stand [.tup cs, .int (i : Int)] s = some (.ok (.bl false), s) := by
  have hi : i < cs.length := by omega
  refine runB_ret (r := [.dat (.tup cs), .dat (.int (i : Int)), .dat d]) rfl ?_
  unfold fb_can_stand
  rw [seq_nx (set_ok (ix_ok (name_ok rfl) (name_ok rfl) rfl ((atI_nat cs i hi).trans h)))]
  have e := last_ok (cs := cs) (i := i) (d := d) s
  rw [decide_eq_false (by omega)] at e
  rw [seq_nx (if_f e)]
  have e2 := isw 2 c_FILTERS FIL rfl (d := d) (g := ⟨[.dat (.tup cs), .dat (.int (i : Int)), .dat d], s⟩) rfl hd
  rw [hw] at e2
  exact ret_ok (andV_f e2)
theorem can_inner {cs : List D} {i : Nat} {x : Str} {ws : List Str} (s : DS) (h : cs[i]? = some (.str x)) (hl : i + 1 < cs.length) (hw : FIL.contains x = true) (ht : cs.take i = ws.map .str) : m_can_stand [.tup cs, .int (i : Int)] s = some (.ok (.bl (!ws.contains x)), s) := by
  have hi : i < cs.length := by omega
  refine runB_ret (r := [.dat (.tup cs), .dat (.int (i : Int)), .dat (.str x)]) rfl ?_
  unfold fb_can_stand
  rw [seq_nx (set_ok (ix_ok (name_ok rfl) (name_ok rfl) rfl ((atI_nat cs i hi).trans h)))]
  have e := last_ok (cs := cs) (i := i) (d := .str x) s
  rw [decide_eq_false (by omega)] at e
  rw [seq_nx (if_f e)]
  have e2 := isw 2 c_FILTERS FIL rfl (d := .str x) (g := ⟨[.dat (.tup cs), .dat (.int (i : Int)), .dat (.str x)], s⟩) rfl rfl
  rw [show inW (.str x) FIL = true from hw] at e2
  refine ret_ok ?_
  rw [andV_t e2]
  rw [f2_ok (d := .str x) (d' := .tup (cutD cs none (some (i : Int)))) (g1 := ⟨[.dat (.tup cs), .dat (.int (i : Int)), .dat (.str x)], s⟩) (g2 := ⟨[.dat (.tup cs), .dat (.int (i : Int)), .dat (.str x)], s⟩) (name_ok rfl) (sl_t (g1 := ⟨[.dat (.tup cs), .dat (.int (i : Int)), .dat (.str x)], s⟩) (g2 := ⟨[.dat (.tup cs), .dat (.int (i : Int)), .dat (.str x)], s⟩) (name_ok rfl) rfl (part_ok (name_ok rfl)))]
  rw [cut_take cs i (by omega), ht]
  unfold pIn
  simp only [aSeq, flat1, DE.flat_strs, inV_strs, if_true]
  rfl
theorem len_test (cs : List D) (s : DS) : fOr (fNot (fT (fIsi "tuple" (fName 0)))) (fNot (fT (fChain pLe pLe (rt (.int 1)) (fLen (fPeek 0)) (rt c_MOST_CRITERIA)))) ⟨[.dat (.tup cs), .no], s⟩ = some (.ok (!(decide ((1 : Int) ≤ cs.length) && decide ((cs.length : Int) ≤ 6))), ⟨[.dat (.tup cs), .no], s⟩) := by
  rw [or_f (g1 := ⟨[.dat (.tup cs), .no], s⟩) (by kernel_rfl)]
  refine not_ok (t_ok (chain_ok (t := decide ((1 : Int) ≤ cs.length)) (g2 := ⟨[.dat (.tup cs), .no], s⟩) rfl (len_ok (peek_t rfl)) rfl (c := c_MOST_CRITERIA) (fun z => ⟨rfl, by rw [z]; rfl⟩) (fun z => ⟨by rw [z]; rfl, rfl⟩)))
theorem crit_len {cs : List D} (s : DS) (h : cs.length = 0 ∨ 6 < cs.length) : m_criteria_fault [.tup cs] s = some (.ok (.tup [.str "criteria"]), s) := by
  refine runB_ret (r := [.dat (.tup cs), .no]) rfl ?_
  unfold fb_criteria_fault
  have e := len_test cs s
  have c : (!(decide ((1 : Int) ≤ cs.length) && decide ((cs.length : Int) ≤ 6))) = true := by
    rcases h with h | h
    · rw [decide_eq_false (by omega)]; rfl
    · rw [decide_eq_false (p := (cs.length : Int) ≤ 6) (by omega), Bool.and_false]; rfl
  rw [c] at e
  refine seq_ret ((if_t e).trans ?_)
  rfl
abbrev critB : Ms := fIf (fNot (fT (fCallN 2 m_can_stand (fCons (fName 0) (fCons (fName 1) (rt [])))))) (fRet (fTup (fCons (rt (.str "criteria")) (fCons (fName 1) (rt []))))) (sOut .nx)
def AtC (cs : List D) (s : DS) (g : Sg) : Prop := ∃ x, g = ⟨[.dat (.tup cs), x], s⟩
theorem crit_turn {cs : List D} {s : DS} {i : Nat} {b : Bool} {g : Sg} (h : m_can_stand [.tup cs, .int (i : Int)] s = some (.ok (.bl b), s)) (q : AtC cs s g) :
    gN 1 (.int (i : Int)) g = some ⟨[.dat (.tup cs), .dat (.int (i : Int))], s⟩ ∧ critB ⟨[.dat (.tup cs), .dat (.int (i : Int))], s⟩ = (if b = true then some (.nx, ⟨[.dat (.tup cs), .dat (.int (i : Int))], s⟩) else some (.ret (.tup [.str "criteria", .int (i : Int)]), ⟨[.dat (.tup cs), .dat (.int (i : Int))], s⟩)) := by
  obtain ⟨x, rfl⟩ := q
  refine ⟨rfl, ?_⟩
  have e : fNot (fT (fCallN 2 m_can_stand (fCons (fName 0) (fCons (fName 1) (rt []))))) ⟨[.dat (.tup cs), .dat (.int (i : Int))], s⟩ = some (.ok (!b), ⟨[.dat (.tup cs), .dat (.int (i : Int))], s⟩) :=
    not_ok (t_ok (call_ok (ds := [.tup cs, .int (i : Int)]) (g1 := ⟨[.dat (.tup cs), .dat (.int (i : Int))], s⟩) (cons_ok (name_ok rfl) (cons_ok (name_ok rfl) rfl)) rfl h))
  cases b with
  | true => exact if_f e
  | false => exact if_t e
theorem crit_pre {cs : List D} (s : DS) (h1 : 1 ≤ cs.length) (h6 : cs.length ≤ 6) : fb_criteria_fault ⟨[.dat (.tup cs), .no], s⟩ = fSeq (loop (gN 1) critB (intsD (cs.length : Int))) (fRet (rt .non)) ⟨[.dat (.tup cs), .no], s⟩ := by
  unfold fb_criteria_fault
  have e := len_test cs s
  rw [decide_eq_true (by omega), decide_eq_true (p := (cs.length : Int) ≤ 6) (by omega)] at e
  rw [seq_nx (if_f e)]
  unfold fSeq
  rw [forR_ok (n := (cs.length : Int)) (g1 := ⟨[.dat (.tup cs), .no], s⟩) (cons_ok (len_ok (peek_t rfl)) rfl) (by omega)]
theorem crit_none {cs : List D} (s : DS) (h1 : 1 ≤ cs.length) (h6 : cs.length ≤ 6) (h : ∀ i, i < cs.length → m_can_stand [.tup cs, .int (i : Int)] s = some (.ok (.bl true), s)) : m_criteria_fault [.tup cs] s = some (.ok .non, s) := by
  obtain ⟨g', e, x, rfl⟩ := loop_all (t := gN 1) (b := critB) (AtC cs s) (ds := intsD (cs.length : Int)) (g := ⟨[.dat (.tup cs), .no], s⟩) (fun d hd g q => by
    unfold intsD at hd
    obtain ⟨i, hi, rfl⟩ := List.mem_map.mp hd
    rw [List.mem_range, Int.toNat_natCast] at hi
    obtain ⟨a, b⟩ := crit_turn (h i hi) q
    exact ⟨_, _, a, b, _, rfl⟩) ⟨_, rfl⟩
  refine runB_ret (r := [.dat (.tup cs), x]) rfl ?_
  refine (crit_pre s h1 h6).trans ?_
  rw [seq_nx e]; rfl
theorem crit_at {cs : List D} (s : DS) (h6 : cs.length ≤ 6) {j : Nat} (hj : j < cs.length) (h : ∀ i, i < j → m_can_stand [.tup cs, .int (i : Int)] s = some (.ok (.bl true), s)) (hf : m_can_stand [.tup cs, .int (j : Int)] s = some (.ok (.bl false), s)) :
    m_criteria_fault [.tup cs] s = some (.ok (.tup [.str "criteria", .int (j : Int)]), s) := by
  obtain ⟨g', e, x, rfl⟩ := loop_then (t := gN 1) (b := critB) (AtC cs s) (d := .int (j : Int)) (r := .tup [.str "criteria", .int (j : Int)]) (es := (List.range (cs.length - j - 1)).map fun i => D.int ((j + 1 + i : Nat) : Int)) (ds := (List.range j).map fun (i : Nat) => D.int (i : Int)) (g := ⟨[.dat (.tup cs), .no], s⟩) (fun d hd g q => by
    obtain ⟨i, hi, rfl⟩ := List.mem_map.mp hd
    rw [List.mem_range] at hi
    obtain ⟨a, b⟩ := crit_turn (h i hi) q
    exact ⟨_, _, a, b, _, rfl⟩) (fun g q => by
    obtain ⟨a, b⟩ := crit_turn hf q
    exact ⟨_, _, a, b, _, rfl⟩) ⟨_, rfl⟩
  rw [← intsD_split hj] at e
  refine runB_ret (r := [.dat (.tup cs), x]) rfl ?_
  refine (crit_pre s (by omega) h6).trans ?_
  exact seq_ret e
/-- a machine's parts -/
theorem mach {k : Int} {c b r : D} (s : DS) (hk : 1 ≤ k ∧ k ≤ 8) (hc : m_criteria_fault [c] s = some (.ok r, s)) (hr : r = .non ∨ ∃ xs, r = .tup xs) (hb : isExc b = false) :
    m_machine_fault [.tup [.int k, c, b]] s = some (.ok (if DE.isNon r = true then (if inW b RET_ = true then .non else .tup [.str "return"]) else r), s) := by
  have G : ∀ x, m_is_whole [.int k, .int 1, c_MOST_VOICES] x = some (.ok (.bl true), x) := fun x => by
    have e := is_whole_ok k 1 8 x
    rw [decide_eq_true hk.1, decide_eq_true hk.2] at e
    exact e
  have e1 : fNot (fT (fCallN 3 m_is_whole (fCons (fName 2) (fCons (rt (.int 1)) (fCons (rt c_MOST_VOICES) (rt [])))))) ⟨[.dat (.tup [.int k, c, b]), .no, .dat (.int k), .dat c, .dat b], s⟩ = some (.ok false, ⟨[.dat (.tup [.int k, c, b]), .no, .dat (.int k), .dat c, .dat b], s⟩) :=
    not_ok (t_ok (call_ok (ds := [.int k, .int 1, c_MOST_VOICES]) (g1 := ⟨[.dat (.tup [.int k, c, b]), .no, .dat (.int k), .dat c, .dat b], s⟩) (cons_ok (name_ok rfl) (cons_ok rfl (cons_ok rfl rfl))) rfl (G s)))
  have e2 : fCallN 1 m_criteria_fault (fCons (fName 3) (rt [])) ⟨[.dat (.tup [.int k, c, b]), .no, .dat (.int k), .dat c, .dat b], s⟩ = some (.ok r, ⟨[.dat (.tup [.int k, c, b]), .no, .dat (.int k), .dat c, .dat b], s⟩) :=
    call_ok (ds := [c]) (g1 := ⟨[.dat (.tup [.int k, c, b]), .no, .dat (.int k), .dat c, .dat b], s⟩) (cons_ok (name_ok rfl) rfl) rfl hc
  refine runB_ret (r := [.dat (.tup [.int k, c, b]), .dat r, .dat (.int k), .dat c, .dat b]) rfl ?_
  unfold fb_machine_fault
  rw [seq_nx (g1 := ⟨[.dat (.tup [.int k, c, b]), .no, .no, .no, .no], s⟩) (by kernel_rfl)]
  rw [seq_nx (g1 := ⟨[.dat (.tup [.int k, c, b]), .no, .dat (.int k), .dat c, .dat b], s⟩) (by kernel_rfl)]
  rw [seq_nx (if_f e1)]
  refine (seq_nx (g1 := ⟨[.dat (.tup [.int k, c, b]), .dat r, .dat (.int k), .dat c, .dat b], s⟩) (set_ok e2)).trans ?_
  have e3 := isw 4 c_RETURNS RET_ rfl (d := b) (g := ⟨[.dat (.tup [.int k, c, b]), .dat r, .dat (.int k), .dat c, .dat b], s⟩) rfl hb
  have e4 : fT (f2 pIs (fName 1) (rt .non)) ⟨[.dat (.tup [.int k, c, b]), .dat r, .dat (.int k), .dat c, .dat b], s⟩ = some (.ok (DE.isNon r), ⟨[.dat (.tup [.int k, c, b]), .dat r, .dat (.int k), .dat c, .dat b], s⟩) := t_ok ((f2_ok (name_ok rfl) rfl).trans rfl)
  cases hn : DE.isNon r with
  | true =>
    rw [hn] at e4
    cases hw : inW b RET_ with
    | true =>
      rw [hw] at e3
      have e5 : fIf _ _ _ _ = _ := if_f (t := fRet (fTup (fCons (rt (.str "return")) (rt [])))) (u := sOut .nx) ((and_t e4).trans (not_ok (t_ok e3)))
      rw [seq_nx e5]
      have : r = .non := by cases r <;> simp [DE.isNon] at hn; rfl
      subst this
      rfl
    | false =>
      rw [hw] at e3
      have e5 : fIf _ _ _ _ = _ := if_t (t := fRet (fTup (fCons (rt (.str "return")) (rt [])))) (u := sOut .nx) ((and_t e4).trans (not_ok (t_ok e3)))
      rw [seq_ret e5]
      rfl
  | false =>
    rw [hn] at e4
    have e5 : fIf _ _ _ _ = _ := if_f (t := fRet (fTup (fCons (rt (.str "return")) (rt [])))) (u := sOut .nx) (and_f (c' := fNot (fT (fCallN 2 m_is_word (fCons (fName 4) (fCons (rt c_RETURNS) (rt [])))))) e4)
    rw [seq_nx e5]
    rfl
theorem need_ok {t : D} (s : DS) (h : m_machine_fault [t] s = some (.ok .non, s)) : m_need_machine [t] s = some (.ok t, s) := by
  have e : fCallN 1 m_machine_fault (fCons (fName 0) (rt [])) ⟨[.dat t, .no], s⟩ = some (.ok .non, ⟨[.dat t, .no], s⟩) := call_ok (ds := [t]) (g1 := ⟨[.dat t, .no], s⟩) (cons_ok (name_ok rfl) rfl) rfl h
  refine runB_ret (r := [.dat t, .dat .non]) rfl ?_
  unfold fb_need_machine
  refine (seq_nx (g1 := ⟨[.dat t, .dat .non], s⟩) (set_ok e)).trans ?_
  kernel_rfl
theorem need_no {t : D} {xs : List D} (s : DS) (h : m_machine_fault [t] s = some (.ok (.tup xs), s)) : m_need_machine [t] s = some (.error ⟨"BadMachine", .tup xs⟩, s) := by
  have e : fCallN 1 m_machine_fault (fCons (fName 0) (rt [])) ⟨[.dat t, .no], s⟩ = some (.ok (.tup xs), ⟨[.dat t, .no], s⟩) := call_ok (ds := [t]) (g1 := ⟨[.dat t, .no], s⟩) (cons_ok (name_ok rfl) rfl) rfl h
  refine runB_exc (r := [.dat t, .dat (.tup xs)]) rfl ?_
  unfold fb_need_machine
  refine (seq_nx (g1 := ⟨[.dat t, .dat (.tup xs)], s⟩) (set_ok e)).trans ?_
  kernel_rfl
/-! ### good criteria -/
structure Crit (ws : List Str) (e : Str) : Prop where
  len : ws.length ≤ 5
  nd : ws.Nodup
  fil : ∀ w ∈ ws, FIL.contains w = true
  en : END_.contains e = true
abbrev csOf (ws : List Str) (e : Str) : List D := (ws ++ [e]).map D.str
theorem cs_len (ws : List Str) (e : Str) : (csOf ws e).length = ws.length + 1 := by simp
theorem crit_can {ws : List Str} {e : Str} (C : Crit ws e) (s : DS) (i : Nat) (hi : i < ws.length + 1) : m_can_stand [.tup (csOf ws e), .int (i : Int)] s = some (.ok (.bl true), s) := by
  by_cases c : i = ws.length
  · subst c
    have e1 : (csOf ws e)[ws.length]? = some (.str e) := by simp
    rw [can_last s e1 rfl (by rw [cs_len])]
    rw [show inW (.str e) END_ = true from C.en]
  · have hi' : i < ws.length := by omega
    have e1 : (csOf ws e)[i]? = some (.str ws[i]) := by
      show ((ws ++ [e]).map D.str)[i]? = _
      rw [List.getElem?_map, List.getElem?_append_left hi', List.getElem?_eq_getElem hi']; rfl
    have e2 : (csOf ws e).take i = (ws.take i).map .str := by
      rw [← List.map_take, List.take_append_of_le_length (by omega)]
    rw [can_inner s e1 (by rw [cs_len]; omega) (C.fil _ (List.getElem_mem hi')) e2]
    have : (ws.take i).contains ws[i] = false := by
      rw [Bool.eq_false_iff]
      intro z
      rw [List.contains_iff_mem] at z
      obtain ⟨j, hj, ej⟩ := List.getElem_of_mem z
      rw [List.length_take] at hj
      rw [List.getElem_take] at ej
      have := (List.getElem_inj C.nd).mp ej
      omega
    rw [this]; rfl
theorem crit_good {ws : List Str} {e : Str} (C : Crit ws e) (s : DS) : m_criteria_fault [.tup (csOf ws e)] s = some (.ok .non, s) :=
  crit_none s (by rw [cs_len]; omega) (by rw [cs_len]; have := C.len; omega) fun i hi => crit_can C s i (by rw [cs_len] at hi; exact hi)
end K05
namespace K05
open PyProof.Rows PySem.Spec PySem L2 DE
/-! ### the draws -/
theorem pyd_ints : ∀ xs : List Int, pydA (xs.map D.int) = some (xs.map PyData.int)
  | [] => rfl
  | x :: xs => by simp [pydA, pyd, pyd_ints xs]
theorem lay_ints : ∀ xs : List Int, PyData.canLayAll0 (xs.map PyData.int) = true
  | [] => rfl
  | x :: xs => by simp [PyData.canLayAll0, PyData.canLay0, lay_ints xs]
theorem dep_ints : ∀ xs : List Int, PyData.depthAll (xs.map PyData.int) = 0
  | [] => rfl
  | x :: xs => by simp [PyData.depthAll, PyData.depth, dep_ints xs]
theorem ne_nil (xs : List Int) (g : Sg) : pNe (.lst (xs.map D.int)) (.lst []) g = some (.ok (.bl (!xs.isEmpty)), g) := by
  show pNeD (.lst (xs.map D.int)) (.lst []) g = _
  have e1 : pyd (.lst (xs.map D.int)) = some (.list (xs.map PyData.int)) := by simp [pyd, pyd_ints]
  have e2 : pyd (.lst []) = some (.list []) := rfl
  unfold pNeD
  rw [e1, e2]
  have s1 : (SeqAt.shaped (.list (xs.map PyData.int)) && SeqAt.shaped (.list [])) = true := by
    have : SeqAt.shaped (.list []) = true := by kernel_rfl
    rw [this, Bool.and_true]
    unfold SeqAt.shaped
    simp [PyData.canLay0, lay_ints, PyData.depth, dep_ints]
  dsimp only
  rw [if_pos s1]
  cases xs with
  | nil => rfl
  | cons x xs => rfl
theorem mg_ok {g : Sg} (h : g.r[0]? = some (.dat .m)) : fMg .great (fName 0) g = some (.ok (.lst (g.s.great.map D.int)), g) := by
  unfold fMg; rw [bd_ok (name_ok h)]
theorem mt_ok {g : Sg} (h : g.r[0]? = some (.dat .m)) : fMg .turns (fName 0) g = some (.ok (.int g.s.turns), g) := by
  unfold fMg; rw [bd_ok (name_ok h)]
theorem ms_ok {g : Sg} (h : g.r[0]? = some (.dat .m)) : fMg .seed (fName 0) g = some (.ok (.int g.s.seed), g) := by
  unfold fMg; rw [bd_ok (name_ok h)]
theorem ints_of : ∀ xs : List Int, intsOf (xs.map D.int) = some xs
  | [] => rfl
  | x :: xs => by simp [intsOf, ints_of xs]
theorem mpG_ok {e : Mo D} {g g1 : Sg} {xs : List Int} (h : e g = some (.ok (.lst (xs.map D.int)), g1)) (h0 : g1.r[0]? = some (.dat .m)) : fMp .great 0 e g = some (.nx, ⟨g1.r, { g1.s with great := xs }⟩) := by
  unfold fMp; rw [sb_ok h, sb_ok (name_ok h0)]; dsimp only; rw [ints_of]
theorem mpT_ok {e : Mo D} {g g1 : Sg} {n : Int} (h : e g = some (.ok (.int n), g1)) (h0 : g1.r[0]? = some (.dat .m)) : fMp .turns 0 e g = some (.nx, ⟨g1.r, { g1.s with turns := n }⟩) := by
  unfold fMp; rw [sb_ok h, sb_ok (name_ok h0)]
theorem hasGreat {g : Sg} (h : g.r[0]? = some (.dat .m)) : fT (f2 pNe (fMg .great (fName 0)) (fLet (fLst (rt [])))) g = some (.ok (!g.s.great.isEmpty), g) :=
  t_ok ((f2_ok (g1 := g) (g2 := g) (d' := .lst []) (mg_ok h) rfl).trans (ne_nil _ _))
abbrev dC : Mo Bool := fAnd (fT (f2 pNe (fMg .great (fName 0)) (fLet (fLst (rt []))))) (fT (f2 pEq (fIxD (fMg .great (fName 0)) (rt (.int 0))) (rt (.int 0))))
abbrev dB : Ms := fMp .great 0 (fSl (fMg .great (fName 0)) (fPart (rt (.int 1))) (rt none))
theorem slL_ok {e : Mo D} {l u : Mo (Option Int)} {lo hi : Option Int} {cs : List D} {g g1 g2 g3 : Sg} (h1 : e g = some (.ok (.lst cs), g1)) (h2 : l g1 = some (.ok lo, g2)) (h3 : u g2 = some (.ok hi, g3)) : fSl e l u g = some (.ok (.lst (cutD cs lo hi)), g3) := by
  unfold fSl; rw [bd_ok h1, bd_ok h2, bd_ok h3]; rfl
theorem cut_tail (x : Int) (xs : List Int) : cutD ((x :: xs).map D.int) (some 1) none = xs.map D.int := by
  unfold DE.cutD
  have e1 : HT.sIx ((x :: xs).map D.int).length 0 (some 1) = 1 := by
    rw [show (1 : Int) = ((1 : Nat) : Int) from rfl, HT.sIx_nat]; simp
  have e2 : HT.sIx ((x :: xs).map D.int).length ((x :: xs).map D.int).length none = xs.length + 1 := by simp [HT.sIx]
  rw [e1, e2]
  simp; exact List.take_of_length_le (by simp)
theorem tail_ok {g : Sg} (h : g.r[0]? = some (.dat .m)) {x : Int} {xs : List Int} (hx : g.s.great = x :: xs) : fSl (fMg .great (fName 0)) (fPart (rt (.int 1))) (rt none) g = some (.ok (.lst (xs.map D.int)), g) := by
  have e := slL_ok (e := fMg .great (fName 0)) (l := fPart (rt (.int 1))) (u := rt none) (g := g) (g1 := g) (g2 := g) (g3 := g) (mg_ok h) rfl rfl
  rw [hx, cut_tail] at e
  exact e
theorem head_ok {g : Sg} (h : g.r[0]? = some (.dat .m)) {x : Int} {xs : List Int} (hx : g.s.great = x :: xs) : fIxD (fMg .great (fName 0)) (rt (.int 0)) g = some (.ok (.int x), g) :=
  ix_ok (i := ((0 : Nat) : Int)) (g1 := g) (mg_ok h) rfl rfl (by rw [hx]; exact (atI_nat _ 0 (by simp)).trans rfl)
theorem loop_draw (r : List Sl) (s : DS) (h0 : r[0]? = some (.dat .m)) : ∀ (k : Nat) (xs : List Int), xs.length < k → ∃ ys, ys.length ≤ xs.length ∧ whl dC dB k ⟨r, { s with great := xs }⟩ = some (.nx, ⟨r, { s with great := ys }⟩)
  | 0, xs, h => by omega
  | k + 1, xs, h => by
    have hg := hasGreat (g := ⟨r, { s with great := xs }⟩) h0
    cases xs with
    | nil =>
      refine ⟨[], Nat.le_refl _, ?_⟩
      show sb dC _ _ = _
      rw [sb_ok (and_f hg)]; rfl
    | cons x xs =>
      have e2 : fT (f2 pEq (fIxD (fMg .great (fName 0)) (rt (.int 0))) (rt (.int 0))) ⟨r, { s with great := x :: xs }⟩ = some (.ok (decide (x = 0)), ⟨r, { s with great := x :: xs }⟩) := t_ok ((f2_ok (head_ok h0 rfl) rfl).trans rfl)
      have e3 : dC ⟨r, { s with great := x :: xs }⟩ = some (.ok (decide (x = 0)), ⟨r, { s with great := x :: xs }⟩) := (and_t hg).trans e2
      by_cases c : x = 0
      · rw [decide_eq_true c] at e3
        obtain ⟨ys, hy, e⟩ := loop_draw r s h0 k xs (by simp at h; omega)
        refine ⟨ys, by simp; omega, ?_⟩
        show sb dC _ _ = _
        rw [sb_ok e3]
        have e4 : dB ⟨r, { s with great := x :: xs }⟩ = some (.nx, ⟨r, { s with great := xs }⟩) := mpG_ok (tail_ok h0 rfl) h0
        show (match dB ⟨r, { s with great := x :: xs }⟩ with | some (.nx, g2) => whl dC dB k g2 | some (.ct, g2) => whl dC dB k g2 | some (.brk, g2) => some (.nx, g2) | o => o) = _
        rw [e4]; exact e
      · rw [decide_eq_false c] at e3
        refine ⟨x :: xs, Nat.le_refl _, ?_⟩
        show sb dC _ _ = _
        rw [sb_ok e3]; rfl
structure Good (k : Nat) (s : DS) : Prop where
  lo : 0 ≤ s.turns
  hi : s.turns + k < 2 ^ 60
  gr : s.great.length ≤ 1000
theorem Good.mono {j k : Nat} {s : DS} (h : Good k s) (hj : j ≤ k) : Good j s := ⟨h.lo, by have := h.hi; omega, h.gr⟩
theorem mul_r {a b : Int} (g : Sg) (h : b.natAbs < 2 ^ 60) : pMul (.int a) (.int b) g = some (.ok (.int (a * b)), g) := by
  show (if (decide (a.natAbs < 2 ^ 60) || decide (b.natAbs < 2 ^ 60)) = true then rt (D.int (a * b)) else stop) g = _
  rw [decide_eq_true h, Bool.or_true, if_pos rfl]; rfl
theorem mod_r {a b : Int} (g : Sg) (h : 0 < b) : pMod (.int a) (.int b) g = some (.ok (.int (a % b)), g) := by
  show (if decide (0 < b) = true then rt (D.int (a % b)) else stop) g = _
  rw [decide_eq_true h, if_pos rfl]; rfl
theorem div_r {a b : Int} (g : Sg) (h : 0 < b) (h2 : b < 2 ^ 29) : pDiv (.int a) (.int b) g = some (.ok (.int (a / b)), g) := by
  show (if (decide (0 < b) && decide (b < 2 ^ 29)) = true then rt (D.int (a / b)) else stop) g = _
  rw [decide_eq_true h, decide_eq_true h2]; rfl
theorem int_ok {e : Mo D} {g g1 : Sg} {i : Int} (h : e g = some (.ok (.int i), g1)) : fInt e g = some (.ok (.int i), g1) := by unfold fInt; rw [bd_ok h]; rfl
theorem cat_ok {e f : Mo D} {g g1 g2 : Sg} {xs ys : List D} (h1 : e g = some (.ok (.lst xs), g1)) (h2 : f g1 = some (.ok (.lst ys), g2)) (hl : xs.length + ys.length ≤ 100000) : fCat e f g = some (.ok (xs ++ ys), g2) := by
  unfold fCat; rw [bd_ok h1, bd_ok h2]; dsimp only; rw [if_pos hl]; rfl
theorem draw_ok {n : Int} (hn : 1 ≤ n) (hn2 : n < 2 ^ 29) {k : Nat} {s : DS} (h : Good (k + 1) s) : ∃ r s', m__law_draw [.m, .int n] s = some (.ok (.int r), s') ∧ 0 ≤ r ∧ r < n ∧ Good k s' := by
  obtain ⟨ys, hy, e1⟩ := loop_draw [.dat .m, .dat (.int n), .no, .no] s rfl (s.great.length + 1) s.great (Nat.lt_succ_self _)
  have e1 : fWhl (fun g => g.s.great.length + 1) dC dB ⟨[.dat .m, .dat (.int n), .no, .no], s⟩ = some (.nx, ⟨[.dat .m, .dat (.int n), .no, .no], { s with great := ys }⟩) := e1
  have hl : ys.length ≤ 1000 := Nat.le_trans hy h.gr
  have hg := hasGreat (g := ⟨[.dat .m, .dat (.int n), .no, .no], { s with great := ys }⟩) rfl
  cases ys with
  | cons x xs =>
    refine ⟨x % n, { s with great := x / n :: xs }, ?_, Int.emod_nonneg _ (by omega), Int.emod_lt_of_pos _ (by omega), ⟨h.lo, by have := h.hi; show s.turns + k < _; omega, by simpa using hl⟩⟩
    refine runB_ret (r := [.dat .m, .dat (.int n), .no, .dat (.int x)]) rfl ?_
    unfold fb__law_draw
    refine (seq_nx e1).trans ?_
    refine seq_ret ((if_t hg).trans ?_)
    refine (seq_nx (g1 := ⟨[.dat .m, .dat (.int n), .no, .dat (.int x)], { s with great := x :: xs }⟩) (set_ok (head_ok rfl rfl))).trans ?_
    have e2 : fMp .great 0 (fLet (fCat (fLet (fLst (fCons (f2 pDiv (fName 3) (fName 1)) (rt [])))) (fSl (fMg .great (fName 0)) (fPart (rt (.int 1))) (rt none)))) ⟨[.dat .m, .dat (.int n), .no, .dat (.int x)], { s with great := x :: xs }⟩ = some (.nx, ⟨[.dat .m, .dat (.int n), .no, .dat (.int x)], { s with great := x / n :: xs }⟩) :=
      mpG_ok (xs := x / n :: xs) (g1 := ⟨[.dat .m, .dat (.int n), .no, .dat (.int x)], { s with great := x :: xs }⟩) (let_ok (cat_ok (xs := [.int (x / n)]) (let_ok (lst_ok (cons_ok ((f2_ok (name_ok rfl) (name_ok rfl)).trans (div_r _ (by omega) hn2)) rfl) (by show 1 ≤ 100000; decide))) (tail_ok rfl rfl) (by simp at hl ⊢; omega))) rfl
    rw [seq_nx e2]
    exact ret_ok ((f2_ok (int_ok (name_ok rfl)) (name_ok rfl)).trans (mod_r _ (by omega)))
  | nil =>
    have ht : s.turns + 1 < 2 ^ 60 := by have := h.hi; omega
    have hlo := h.lo
    obtain ⟨t, ht'⟩ : ∃ t, t = s.turns + 1 := ⟨_, rfl⟩
    obtain ⟨m1, hm1⟩ : ∃ m1, m1 = (s.seed * 48271 + t * t * 16807 + t) % 2147483647 := ⟨_, rfl⟩
    obtain ⟨m2, hm2⟩ : ∃ m2, m2 = (m1 * 69621 + 12345) % 2147483629 := ⟨_, rfl⟩
    refine ⟨(m2 * 40014 + t) % 2147483563 / 64 % n, { s with great := [], turns := t }, ?_, Int.emod_nonneg _ (by omega), Int.emod_lt_of_pos _ (by omega), ⟨by show 0 ≤ t; omega, by have := h.hi; show t + k < _; omega, by simp⟩⟩
    have nt : t.natAbs < 2 ^ 60 := by omega
    refine runB_ret (r := [.dat .m, .dat (.int n), .dat (.int m2), .no]) rfl ?_
    unfold fb__law_draw
    refine (seq_nx e1).trans ?_
    refine (seq_nx (if_f hg)).trans ?_
    have e2 : fMp .turns 0 (f2 pAdd (fMg .turns (fName 0)) (rt (.int 1))) ⟨[.dat .m, .dat (.int n), .no, .no], { s with great := [] }⟩ = some (.nx, ⟨[.dat .m, .dat (.int n), .no, .no], { s with great := [], turns := t }⟩) := by
      rw [ht']
      exact mpT_ok (g1 := ⟨[.dat .m, .dat (.int n), .no, .no], { s with great := [] }⟩) ((f2_ok (mt_ok rfl) rfl).trans rfl) rfl
    refine (seq_nx e2).trans ?_
    have tt : ∀ (r : List Sl) (h0 : r[0]? = some (.dat .m)), fMg .turns (fName 0) ⟨r, { s with great := [], turns := t }⟩ = some (.ok (.int t), ⟨r, { s with great := [], turns := t }⟩) := fun r h0 => mt_ok h0
    have e3 : fSet 2 (f2 pMod (fInt (f2 pAdd (f2 pAdd (f2 pMul (fMg .seed (fName 0)) (rt (.int 48271))) (f2 pMul (f2 pMul (fMg .turns (fName 0)) (fMg .turns (fName 0))) (rt (.int 16807)))) (fMg .turns (fName 0)))) (rt (.int 2147483647))) ⟨[.dat .m, .dat (.int n), .no, .no], { s with great := [], turns := t }⟩ = some (.nx, ⟨[.dat .m, .dat (.int n), .dat (.int m1), .no], { s with great := [], turns := t }⟩) := by
      rw [hm1]
      refine set_ok (g1 := ⟨[.dat .m, .dat (.int n), .no, .no], { s with great := [], turns := t }⟩) ?_
      refine (f2_ok (int_ok (i := s.seed * 48271 + t * t * 16807 + t) (g1 := ⟨[.dat .m, .dat (.int n), .no, .no], { s with great := [], turns := t }⟩) ?_) rfl).trans (mod_r _ (by decide))
      refine (f2_ok (d := .int (s.seed * 48271 + t * t * 16807)) (g1 := ⟨[.dat .m, .dat (.int n), .no, .no], { s with great := [], turns := t }⟩) ?_ (tt _ rfl)).trans rfl
      refine (f2_ok (d := .int (s.seed * 48271)) (d' := .int (t * t * 16807)) (g1 := ⟨[.dat .m, .dat (.int n), .no, .no], { s with great := [], turns := t }⟩) (g2 := ⟨[.dat .m, .dat (.int n), .no, .no], { s with great := [], turns := t }⟩) ?_ ?_).trans rfl
      · exact (f2_ok (ms_ok rfl) rfl).trans (mul_r _ (by decide))
      · refine (f2_ok (d := .int (t * t)) (g1 := ⟨[.dat .m, .dat (.int n), .no, .no], { s with great := [], turns := t }⟩) ?_ rfl).trans (mul_r _ (by decide))
        exact (f2_ok (tt _ rfl) (tt _ rfl)).trans (mul_r _ nt)
    refine (seq_nx e3).trans ?_
    have e4 : fSet 2 (f2 pMod (fInt (f2 pAdd (f2 pMul (fName 2) (rt (.int 69621))) (rt (.int 12345)))) (rt (.int 2147483629))) ⟨[.dat .m, .dat (.int n), .dat (.int m1), .no], { s with great := [], turns := t }⟩ = some (.nx, ⟨[.dat .m, .dat (.int n), .dat (.int m2), .no], { s with great := [], turns := t }⟩) := by
      rw [hm2]
      refine set_ok (g1 := ⟨[.dat .m, .dat (.int n), .dat (.int m1), .no], { s with great := [], turns := t }⟩) ?_
      refine (f2_ok (int_ok (i := m1 * 69621 + 12345) (g1 := ⟨[.dat .m, .dat (.int n), .dat (.int m1), .no], { s with great := [], turns := t }⟩) ?_) rfl).trans (mod_r _ (by decide))
      refine (f2_ok (d := .int (m1 * 69621)) (g1 := ⟨[.dat .m, .dat (.int n), .dat (.int m1), .no], { s with great := [], turns := t }⟩) ((f2_ok (name_ok rfl) rfl).trans (mul_r _ (by decide))) rfl).trans rfl
    refine (seq_nx e4).trans (ret_ok ?_)
    refine (f2_ok (d := .int ((m2 * 40014 + t) % 2147483563 / 64)) (g1 := ⟨[.dat .m, .dat (.int n), .dat (.int m2), .no], { s with great := [], turns := t }⟩) ?_ (name_ok rfl)).trans (mod_r _ (by omega))
    refine (f2_ok (d := .int ((m2 * 40014 + t) % 2147483563)) (g1 := ⟨[.dat .m, .dat (.int n), .dat (.int m2), .no], { s with great := [], turns := t }⟩) ?_ rfl).trans (div_r _ (by decide) (by decide))
    refine (f2_ok (int_ok (i := m2 * 40014 + t) (g1 := ⟨[.dat .m, .dat (.int n), .dat (.int m2), .no], { s with great := [], turns := t }⟩) ?_) rfl).trans (mod_r _ (by decide))
    exact (f2_ok (d := .int (m2 * 40014)) (g1 := ⟨[.dat .m, .dat (.int n), .dat (.int m2), .no], { s with great := [], turns := t }⟩) ((f2_ok (name_ok rfl) rfl).trans (mul_r _ (by decide))) (tt _ rfl)).trans rfl
/-- one of some -/
theorem of_ok {xs : List D} (h1 : 1 ≤ xs.length) (h2 : xs.length < 2 ^ 29) {k : Nat} {s : DS} (h : Good (k + 1) s) : ∃ d s', m__law_of [.m, .lst xs] s = some (.ok d, s') ∧ d ∈ xs ∧ Good k s' := by
  obtain ⟨r, s', e, lo, hi, g⟩ := draw_ok (n := (xs.length : Int)) (by omega) (by omega) h
  obtain ⟨j, rfl⟩ : ∃ j : Nat, r = (j : Int) := ⟨r.toNat, by omega⟩
  have hj : j < xs.length := by omega
  refine ⟨xs[j], s', ?_, List.getElem_mem hj, g⟩
  refine runB_ret (r := [.dat .m, .dat (.lst xs)]) rfl (ret_ok ?_)
  exact ix_ok (g1 := ⟨[.dat .m, .dat (.lst xs)], s⟩) (g2 := ⟨[.dat .m, .dat (.lst xs)], s'⟩) (name_ok rfl) (call_ok (ds := [.m, .int (xs.length : Int)]) (g1 := ⟨[.dat .m, .dat (.lst xs)], s⟩) (cons_ok (name_ok rfl) (cons_ok (len_ok (peek_l rfl)) rfl)) rfl e) rfl ((atI_nat xs j hj).trans (List.getElem?_eq_getElem hj))
end K05
namespace K05
open PyProof.Rows PySem.Spec PySem L2 DE
/-! ### a machine is drawn -/
theorem map_erase {α β : Type} (f : α → β) : ∀ (l : List α) (j : Nat), (l.map f).eraseIdx j = (l.eraseIdx j).map f
  | [], _ => by simp
  | a :: l, 0 => by simp
  | a :: l, j + 1 => by simp [map_erase f l j]
theorem erase_perm {α : Type} : ∀ (l : List α) (j : Nat) (h : j < l.length), (l[j] :: l.eraseIdx j).Perm l
  | [], _, h => by simp at h
  | a :: l, 0, _ => List.Perm.refl _
  | a :: l, j + 1, h => by
    have ih := erase_perm l j (by simpa using h)
    simp only [List.getElem_cons_succ, List.eraseIdx_cons_succ]
    exact (List.Perm.swap _ _ _).trans (List.Perm.cons a ih)
theorem popAt_ok {i : Nat} {e : Mo D} {g g1 : Sg} {xs0 xs : List D} {j : Nat} {y : D} (h0 : g.r[i]? = some (.own xs0)) (h : e g = some (.ok (.int (j : Int)), g1)) (h1 : g1.r[i]? = some (.own xs)) (hj : j < 100000) (hy : xs[j]? = some y) :
    fPopAt i e g = some (.ok y, ⟨g1.r.set i (.own (xs.eraseIdx j)), g1.s⟩) := by
  unfold fPopAt
  rw [h0]
  show bd e _ g = _
  rw [bd_ok h]
  simp only [h1]
  rw [if_pos (by omega), Int.toNat_natCast, hy]
theorem app_ok {i : Nat} {e : Mo D} {g g1 : Sg} {xs0 xs : List D} {d : D} (h0 : g.r[i]? = some (.own xs0)) (h : e g = some (.ok d, g1)) (h1 : g1.r[i]? = some (.own xs)) (hl : xs.length < 100000) :
    fApp i e g = some (.ok .non, ⟨g1.r.set i (.own (xs ++ [d])), g1.s⟩) := by
  unfold fApp
  rw [h0]
  show bd e _ g = _
  rw [bd_ok h]
  simp only [h1]
  rw [if_pos hl]
abbrev mB : Ms := fExp (fApp 5 (fPopAt 6 (fCallN 2 m__law_draw (fCons (fName 0) (fCons (fLen (fPeek 6)) (rt []))))))
def mS (A B : Int) (x : Sl) (b : Sl) (ws so : List Str) : List Sl := [.dat .m, .dat (.int A), .dat (.int B), x, b, .own (ws.map .str), .own (so.map .str)]
theorem mach_loop {A B : Int} : ∀ (is : List D) (k : Nat) (x : Sl) (ws so : List Str) (s : DS), is.length + 1 ≤ so.length → so.length ≤ 8 → ws.length ≤ 1000 → (ws ++ so).Perm FIL → Good (k + is.length) s →
    ∃ x' ws' so' s', loop (gN 3) mB is ⟨mS A B x .no ws so, s⟩ = some (.nx, ⟨mS A B x' .no ws' so', s'⟩) ∧ ws'.length = ws.length + is.length ∧ (ws' ++ so').Perm FIL ∧ Good k s'
  | [], k, x, ws, so, s, _, _, _, p, g => ⟨x, ws, so, s, rfl, rfl, p, g⟩
  | d :: is, k, x, ws, so, s, h1, h8, hw, p, g => by
    obtain ⟨r, s1, e, lo, hi, g1⟩ := draw_ok (n := (so.length : Int)) (k := k + is.length) (by simp at h1; omega) (by omega) (by rw [Nat.add_assoc]; exact g)
    obtain ⟨j, rfl⟩ : ∃ j : Nat, r = (j : Int) := ⟨r.toNat, by omega⟩
    have hj : j < so.length := by omega
    have e1 : fCallN 2 m__law_draw (fCons (fName 0) (fCons (fLen (fPeek 6)) (rt []))) ⟨mS A B (.dat d) .no ws so, s⟩ = some (.ok (.int (j : Int)), ⟨mS A B (.dat d) .no ws so, s1⟩) :=
      call_ok (ds := [.m, .int (so.length : Int)]) (g1 := ⟨mS A B (.dat d) .no ws so, s⟩) (cons_ok (name_ok rfl) (cons_ok ((len_ok (peek_o (ds := so.map .str) rfl)).trans (by rw [List.length_map])) rfl)) rfl e
    have e2 := popAt_ok (i := 6) (g := ⟨mS A B (.dat d) .no ws so, s⟩) rfl e1 rfl (by omega) (y := .str so[j]) (by rw [List.getElem?_map, List.getElem?_eq_getElem hj]; rfl)
    have e3 := app_ok (i := 5) (g := ⟨mS A B (.dat d) .no ws so, s⟩) rfl e2 rfl (by rw [List.length_map]; omega)
    have e4 : mB ⟨mS A B (.dat d) .no ws so, s⟩ = some (.nx, ⟨mS A B (.dat d) .no (ws ++ [so[j]]) (so.eraseIdx j), s1⟩) := by
      refine (exp_ok e3).trans ?_
      have a : (so.map D.str).eraseIdx j = (so.eraseIdx j).map .str := map_erase D.str so j
      rw [a]
      unfold mS
      simp
    have hp : ((ws ++ [so[j]]) ++ so.eraseIdx j).Perm FIL := by
      refine List.Perm.trans ?_ p
      rw [List.append_assoc]
      exact List.Perm.append_left ws (erase_perm so j hj)
    have le : (so.eraseIdx j).length = so.length - 1 := by rw [List.length_eraseIdx]; simp [hj]
    obtain ⟨x', ws', so', s', f1, f2, f3, f4⟩ := mach_loop is k (.dat d) (ws ++ [so[j]]) (so.eraseIdx j) s1 (by rw [le]; simp at h1; omega) (by rw [le]; omega) (by simp at h1 ⊢; have := p.length_eq; simp at this; have : FIL.length = 8 := rfl; omega) hp g1
    refine ⟨x', ws', so', s', ?_, ?_, f3, f4⟩
    · rw [loop_cons (g1 := ⟨mS A B (.dat d) .no ws so, s⟩) rfl e4]; exact f1
    · rw [f2]; simp; omega
theorem fil_nd : FIL.Nodup := by decide
theorem machine_ok {A B : Int} (hA : 1 ≤ A) (hA2 : A ≤ 1000) (hB : 1 ≤ B) (hB2 : B ≤ 6) {k : Nat} {s : DS} (g : Good (k + B.toNat + 3) s) : ∃ (v : Int) (ws : List Str) (e b : Str) (s' : DS), m__law_machine [.m, .int A, .int B] s = some (.ok (.tup [.int v, .tup (csOf ws e), .str b]), s') ∧ 1 ≤ v ∧ v ≤ A ∧ Crit ws e ∧ RET_.contains b = true ∧ Good k s' := by
  obtain ⟨n, s1, d1, lo, hi, g1⟩ := draw_ok (n := B) (k := k + B.toNat + 2) (by omega) (by omega) g
  obtain ⟨j, rfl⟩ : ∃ j : Nat, n = (j : Int) := ⟨n.toNat, by omega⟩
  have lj : (intsD (j : Int)).length = j := by unfold intsD; simp
  obtain ⟨x, ws, so, s2, e2, l2, p2, g2⟩ := mach_loop (intsD (j : Int)) (k + 3) .no [] FIL s1 (by rw [lj]; have : FIL.length = 8 := rfl; omega) (by decide) (by simp) (List.Perm.refl _) (g1.mono (by rw [lj]; omega))
  obtain ⟨de, s3, e3, m3, g3⟩ := of_ok (xs := END_.map D.str) (k := k + 2) (by decide) (by decide) g2
  obtain ⟨e, he, rfl⟩ := List.mem_map.mp m3
  obtain ⟨db, s4, e4, m4, g4⟩ := of_ok (xs := RET_.map D.str) (k := k + 1) (by decide) (by decide) g3
  obtain ⟨b, hb, rfl⟩ := List.mem_map.mp m4
  obtain ⟨v, s5, d5, lo5, hi5, g5⟩ := draw_ok (n := A) (k := k) (by omega) (by omega) g4
  have nd : (ws ++ so).Nodup := p2.nodup_iff.mpr fil_nd
  rw [lj] at l2
  have l2 : ws.length = j := by simpa using l2
  refine ⟨1 + v, ws, e, b, s5, ?_, by omega, by omega, ⟨by omega, (List.nodup_append.mp nd).1, fun w hw => ?_, ?_⟩, ?_, g5⟩
  · refine runB_ret (r := mS A B x (.dat (.str b)) (ws ++ [e]) so) rfl ?_
    unfold fb__law_machine
    refine (seq_nx (g1 := ⟨mS A B .no .no [] FIL, s⟩) (by kernel_rfl)).trans ?_
    have f1 : fCons (fCallN 2 m__law_draw (fCons (fName 0) (fCons (fName 2) (rt [])))) (rt []) ⟨mS A B .no .no [] FIL, s⟩ = some (.ok [.int (j : Int)], ⟨mS A B .no .no [] FIL, s1⟩) :=
      cons_ok (call_ok (ds := [.m, .int B]) (g1 := ⟨mS A B .no .no [] FIL, s⟩) (cons_ok (name_ok rfl) (cons_ok (name_ok rfl) rfl)) rfl d1) rfl
    refine (seq_nx ((forR_ok f1 (by omega)).trans e2)).trans ?_
    have f2 : fExp (fApp 5 (fCallN 2 m__law_of (fCons (fName 0) (fCons (fLet (fLst (fCons (rt (.str "eldest")) (fCons (rt (.str "latest")) (fCons (rt (.str "lowest")) (fCons (rt (.str "highest")) (fCons (rt (.str "refuse")) (rt [])))))))) (rt []))))) ⟨mS A B x .no ws so, s2⟩ = some (.nx, ⟨mS A B x .no (ws ++ [e]) so, s3⟩) := by
      refine (exp_ok (app_ok (i := 5) (g := ⟨mS A B x .no ws so, s2⟩) rfl (call_ok (ds := [.m, .lst (END_.map .str)]) (g1 := ⟨mS A B x .no ws so, s2⟩) (cons_ok (name_ok rfl) rfl) rfl e3) rfl (by rw [List.length_map]; omega))).trans ?_
      unfold mS
      simp
    refine (seq_nx f2).trans ?_
    have f3 : fSet 4 (fCallN 2 m__law_of (fCons (fName 0) (fCons (fLet (fLst (fCons (rt (.str "none")) (fCons (rt (.str "eldest")) (fCons (rt (.str "latest")) (fCons (rt (.str "lowest")) (fCons (rt (.str "highest")) (rt [])))))))) (rt [])))) ⟨mS A B x .no (ws ++ [e]) so, s3⟩ = some (.nx, ⟨mS A B x (.dat (.str b)) (ws ++ [e]) so, s4⟩) :=
      set_ok (g1 := ⟨mS A B x .no (ws ++ [e]) so, s4⟩) (call_ok (ds := [.m, .lst (RET_.map .str)]) (g1 := ⟨mS A B x .no (ws ++ [e]) so, s3⟩) (cons_ok (name_ok rfl) rfl) rfl e4)
    refine (seq_nx f3).trans (ret_ok ?_)
    refine tup_ok (ds := [.int (1 + v), .tup (csOf ws e), .str b]) ?_ (by show 3 ≤ 100000; decide)
    refine cons_ok (g1 := ⟨mS A B x (.dat (.str b)) (ws ++ [e]) so, s5⟩) ((f2_ok (g2 := ⟨mS A B x (.dat (.str b)) (ws ++ [e]) so, s5⟩) rfl (call_ok (ds := [.m, .int A]) (g1 := ⟨mS A B x (.dat (.str b)) (ws ++ [e]) so, s4⟩) (cons_ok (name_ok rfl) (cons_ok (name_ok rfl) rfl)) rfl d5)).trans rfl) ?_
    refine cons_ok (g1 := ⟨mS A B x (.dat (.str b)) (ws ++ [e]) so, s5⟩) ?_ (cons_ok (name_ok rfl) rfl)
    unfold fTupOf
    rw [bd_ok (peek_o (ds := (ws ++ [e]).map .str) rfl)]; rfl
  · have : w ∈ FIL := p2.mem_iff.mp (List.mem_append_left _ hw)
    simpa using this
  · simpa using he
  · simpa using hb
end K05
namespace K05
open PyProof.Rows PySem.Spec PySem L2 DE
/-! ### the law's own helpers on rows -/
theorem row_len (r : List Pr) : (rowD r).length = r.length := List.length_map _
theorem loud_ok {a : D} {r : List Pr} (h : aSeq a = some (rowD r)) (hl : r.length ≤ 1000) (s : DS) : m__law_loud [a] s = some (.ok (.lst (rowD (r.filter loudP))), s) := by
  refine runB_ret (r := [.dat a, .no]) rfl (ret_ok (let_ok ?_))
  have c := compL_on (vs := [1]) (t := gN 1) (c := fT (f2 pNe (fIxD (fName 1) (rt (.int 1))) (rt (.str "waits")))) (e := fName 1) (E := prD) (F := prD) (P := loudP) (S := [.dat a, .no]) (s := s) r fun p _ =>
    ⟨⟨[.dat a, .dat (prD p)], s⟩, ⟨[.dat a, .dat (prD p)], s⟩, rfl, ne_str (pr1 rfl) rfl, fun _ => ⟨⟨[.dat a, .dat (prD p)], s⟩, name_ok rfl, rfl, rfl⟩, fun _ => ⟨rfl, rfl⟩⟩
  exact comp_ok (g1 := ⟨[.dat a, .no], s⟩) (name_ok rfl) h (by rw [row_len]; omega) c
theorem sound_ok {p a : D} {r : List Pr} (h : aSeq a = some (rowD r)) (hl : r.length ≤ 1000) (s : DS) : m__law_sound [.tup [p, a]] s = some (.ok (.tup ((sortI (keysOf (r.filter loudP))).map .int)), s) := by
  refine runB_ret (r := [.dat (.tup [p, a]), .no]) rfl (ret_ok (tupOf_ok (sorted_ok (let_ok ?_))))
  have c1 : fCallN 1 m__law_loud (fCons (fIxD (fName 0) (rt (.int 1))) (rt [])) ⟨[.dat (.tup [p, a]), .no], s⟩ = some (.ok (.lst (rowD (r.filter loudP))), ⟨[.dat (.tup [p, a]), .no], s⟩) :=
    call_ok (ds := [a]) (g1 := ⟨[.dat (.tup [p, a]), .no], s⟩) (cons_ok (ix_ok (name_ok rfl) rfl rfl rfl) rfl) rfl (loud_ok h hl s)
  have c := compL_on (vs := [1]) (t := gN 1) (c := rt true) (e := fIxD (fName 1) (rt (.int 0))) (E := prD) (F := fun p : Pr => D.int p.1) (P := fun _ => true) (S := [.dat (.tup [p, a]), .no]) (s := s) (r.filter loudP) fun q _ =>
    ⟨⟨[.dat (.tup [p, a]), .dat (prD q)], s⟩, ⟨[.dat (.tup [p, a]), .dat (prD q)], s⟩, rfl, rfl, fun _ => ⟨⟨[.dat (.tup [p, a]), .dat (prD q)], s⟩, pr0 rfl, rfl, rfl⟩, fun z => by cases z⟩
  rw [List.filter_eq_self.mpr fun _ _ => rfl] at c
  have := comp_ok (g1 := ⟨[.dat (.tup [p, a]), .no], s⟩) c1 rfl (by have := List.length_filter_le loudP r; rw [row_len]; omega) c
  rw [show (r.filter loudP).map (fun p : Pr => D.int p.1) = (keysOf (r.filter loudP)).map D.int by simp] at this
  exact this
def endL (w : Str) (hs : List Int) : List Int := if w = "eldest" then hs.take 1 else if w = "latest" then hs.drop (hs.length - 1) else if w = "lowest" then [minL hs] else if w = "highest" then [maxL hs] else []
theorem heights (i j : Nat) {S S1 : List Sl} {s : DS} {r : List Pr} (hS : S[i]? = some (.dat (.lst (rowD r)))) (hl : r.length ≤ 1000) (hw : wipeR S [j] = S) (hj : ∀ p : Pr, (S.set j (.dat (prD p)))[j]? = some (.dat (prD p))) (hb : ∀ p : Pr, wipeR (S.set j (.dat (prD p))) [j] = S) :
    fComp [j] (fName i) (gN j) (rt true) (fIxD (fName j) (rt (.int 0))) ⟨S, s⟩ = some (.ok ((keysOf r).map .int), ⟨S, s⟩) := by
  have c := compL_on (vs := [j]) (t := gN j) (c := rt true) (e := fIxD (fName j) (rt (.int 0))) (E := prD) (F := fun p : Pr => D.int p.1) (P := fun _ => true) (S := S) (s := s) r fun q _ =>
    ⟨⟨S.set j (.dat (prD q)), s⟩, ⟨S.set j (.dat (prD q)), s⟩, rfl, rfl, fun _ => ⟨⟨S.set j (.dat (prD q)), s⟩, pr0 (hj q), hb q, rfl⟩, fun z => by cases z⟩
  rw [List.filter_eq_self.mpr fun _ _ => rfl] at c
  have k := comp_ok (vs := [j]) (fi := fName i) (t := gN j) (c := rt true) (e := fIxD (fName j) (rt (.int 0))) (g := ⟨S, s⟩) (g1 := ⟨S, s⟩) (g2 := ⟨S, s⟩) (ds := rowD r) (name_ok hS) rfl (by rw [row_len]; omega) (by show compL _ _ _ _ _ ⟨wipeR S [j], s⟩ = _; rw [hw]; exact c)
  rw [show r.map (fun p : Pr => D.int p.1) = (keysOf r).map D.int by simp] at k
  exact k
theorem end_ok (w : Str) {r : List Pr} (hr : r ≠ []) (hl : r.length ≤ 1000) (s : DS) : m__law_end [.str w, .lst (rowD r)] s = some (.ok (.lst ((endL w (keysOf r)).map .int)), s) := by
  obtain ⟨hs, ehs⟩ : ∃ hs, hs = keysOf r := ⟨_, rfl⟩
  have hne : hs ≠ [] := by rw [ehs]; simpa using hr
  have c := heights 1 2 (S := [.dat (.str w), .dat (.lst (rowD r)), .no, .no, .no]) (S1 := []) (s := s) (r := r) rfl hl rfl (fun _ => rfl) (fun _ => rfl)
  rw [← ehs] at c ⊢
  obtain ⟨g, hg⟩ : ∃ g : Sg, g = ⟨[.dat (.str w), .dat (.lst (rowD r)), .no, .dat (.lst (hs.map .int)), .no], s⟩ := ⟨_, rfl⟩
  obtain ⟨g0, hg0⟩ : ∃ g : Sg, g = ⟨[.dat (.str w), .dat (.lst (rowD r)), .no, .own (hs.map .int), .no], s⟩ := ⟨_, rfl⟩
  have n0 : fName 3 g0 = some (.ok (.lst (hs.map .int)), g) := by rw [hg0, hg]; rfl
  have n3 : fName 3 g = some (.ok (.lst (hs.map .int)), g) := by rw [hg]; exact name_ok rfl
  have d1 : fSl (fName 3) (rt none) (fPart (rt (.int 1))) g0 = some (.ok (.lst ((hs.take 1).map .int)), g) := by
    unfold fSl
    rw [bd_ok n0, bd_ok (show rt none g = some (.ok none, g) from rfl), bd_ok (show fPart (rt (.int 1)) g = some (.ok (some 1), g) from rfl)]
    dsimp only
    rw [cut_first, ← List.map_take]; rfl
  have d2 : fSl (fName 3) (fPart (fNeg (rt (.int 1)))) (rt none) g = some (.ok (.lst ((hs.drop (hs.length - 1)).map .int)), g) := by
    unfold fSl
    rw [bd_ok n3, bd_ok (show fPart (fNeg (rt (.int 1))) g = some (.ok (some (-1)), g) from rfl), bd_ok (show rt none g = some (.ok none, g) from rfl)]
    dsimp only
    rw [cut_last, List.length_map, ← List.map_drop]; rfl
  have d3 : fLet (fLst (fCons (fMin (fName 3)) (rt []))) g = some (.ok (.lst [.int (minL hs)]), g) := let_ok (lst_ok (ds := [.int (minL hs)]) (cons_ok (min_ok n3 hne) rfl) (by show 1 ≤ 100000; decide))
  have d4 : fLet (fLst (fCons (fMax (fName 3)) (rt []))) g = some (.ok (.lst [.int (maxL hs)]), g) := let_ok (lst_ok (ds := [.int (maxL hs)]) (cons_ok (max_ok n3 hne) rfl) (by show 1 ≤ 100000; decide))
  obtain ⟨ps, eps⟩ : ∃ ps : List (Key × D), ps = ([(Sum.inr "eldest", .lst ((hs.take 1).map .int)), (Sum.inr "latest", .lst ((hs.drop (hs.length - 1)).map .int)), (Sum.inr "lowest", .lst [.int (minL hs)]), (Sum.inr "highest", .lst [.int (maxL hs)])] : List (Key × D)) := ⟨_, rfl⟩
  have dd : fDisp [("eldest", fSl (fName 3) (rt none) (fPart (rt (.int 1)))), ("latest", fSl (fName 3) (fPart (fNeg (rt (.int 1)))) (rt none)), ("lowest", fLet (fLst (fCons (fMin (fName 3)) (rt [])))), ("highest", fLet (fLst (fCons (fMax (fName 3)) (rt []))))] g0 = some (.ok (.dic ps), g) := by
    unfold fDisp fPairs fPairs fPairs fPairs fPairs
    simp only [bd, d1, d2, d3, d4, rt]
    rw [eps]; rfl
  have dv : valD ps (Sum.inr w) = if w = "eldest" then some (D.lst ((hs.take 1).map .int)) else if w = "latest" then some (D.lst ((hs.drop (hs.length - 1)).map .int)) else if w = "lowest" then some (D.lst [.int (minL hs)]) else if w = "highest" then some (D.lst [.int (maxL hs)]) else none := by
    rw [eps]
    unfold valD
    by_cases c1 : w = "eldest"
    · subst c1; rfl
    by_cases c2 : w = "latest"
    · subst c2; rfl
    by_cases c3 : w = "lowest"
    · subst c3; rfl
    by_cases c4 : w = "highest"
    · subst c4; rfl
    rw [if_neg c1, if_neg c2, if_neg c3, if_neg c4]
    have n1 : ¬ ("eldest" : Str) = w := fun z => c1 z.symm
    have n2 : ¬ ("latest" : Str) = w := fun z => c2 z.symm
    have n3 : ¬ ("lowest" : Str) = w := fun z => c3 z.symm
    have n4 : ¬ ("highest" : Str) = w := fun z => c4 z.symm
    simp [List.find?_cons, n1, n2, n3, n4]
  refine runB_ret (r := [.dat (.str w), .dat (.lst (rowD r)), .no, .dat (.lst (hs.map .int)), .dat (.dic ps)]) rfl ?_
  unfold fb__law_end
  refine (seq_nx (g1 := g0) ((setO_ok c).trans (by rw [hg0]; rfl))).trans ?_
  refine (seq_nx (g1 := ⟨[.dat (.str w), .dat (.lst (rowD r)), .no, .dat (.lst (hs.map .int)), .dat (.dic ps)], s⟩) ((set_ok dd).trans (by rw [hg]; rfl))).trans ?_
  refine ret_ok ?_
  unfold fDget
  rw [bd_ok (name_ok rfl)]
  dsimp only
  rw [bd_ok (name_ok rfl), bd_ok (show fLet (fLst (rt [])) _ = some (.ok (.lst []), _) from rfl)]
  dsimp only
  rw [dv]
  unfold endL
  by_cases c1 : w = "eldest"
  · rw [if_pos c1, if_pos c1]; rfl
  rw [if_neg c1, if_neg c1]
  by_cases c2 : w = "latest"
  · rw [if_pos c2, if_pos c2]; rfl
  rw [if_neg c2, if_neg c2]
  by_cases c3 : w = "lowest"
  · rw [if_pos c3, if_pos c3]; rfl
  rw [if_neg c3, if_neg c3]
  by_cases c4 : w = "highest"
  · rw [if_pos c4, if_pos c4]; rfl
  rw [if_neg c4, if_neg c4]; rfl
end K05
namespace K05
open PyProof.Rows PySem.Spec PySem L2 DE
/-! ### the narrowing, the marks -/
def sparedL (w : Str) (ring : List Pr) : List Int := if w = "kept" then [] else if w = "notlow" then [minL (keysOf ring)] else if w = "nothigh" then [maxL (keysOf ring)] else [minL (keysOf ring), maxL (keysOf ring)]
def leftL (w : Str) (ring some : List Pr) (key : Int) : List Pr :=
  if w = "below" ∨ w = "under" then some.filter (fun p => decide (p.1 < key))
  else if w = "above" ∨ w = "over" then some.filter (fun p => decide (key < p.1))
  else some.filter (fun p => !(sparedL w ring).contains p.1 && (!decide (w = "kept") || decide (p.2 = "kept")))
theorem contains2 (a b w : Str) : ([a, b] : List Str).contains w = decide (w = a ∨ w = b) := by
  rw [Bool.eq_iff_iff]; simp
section
variable {S : List Sl} {s : DS} {r : List Pr} {i j : Nat}
/-- a comprehension that keeps some pairs -/
theorem keep (c : Mo Bool) (P : Pr → Bool) (hi : S[i]? = some (.dat (.lst (rowD r)))) (hl : r.length ≤ 1000) (hw : wipeR S [j] = S) (hj : ∀ p : Pr, (S.set j (.dat (prD p)))[j]? = some (.dat (prD p))) (hb : ∀ p : Pr, wipeR (S.set j (.dat (prD p))) [j] = S)
    (hc : ∀ p ∈ r, c ⟨S.set j (.dat (prD p)), s⟩ = some (.ok (P p), ⟨S.set j (.dat (prD p)), s⟩)) : fComp [j] (fName i) (gN j) c (fName j) ⟨S, s⟩ = some (.ok (rowD (r.filter P)), ⟨S, s⟩) := by
  have k := compL_on (vs := [j]) (t := gN j) (c := c) (e := fName j) (E := prD) (F := prD) (P := P) (S := S) (s := s) r fun q hq =>
    ⟨⟨S.set j (.dat (prD q)), s⟩, ⟨S.set j (.dat (prD q)), s⟩, rfl, hc q hq, fun _ => ⟨⟨S.set j (.dat (prD q)), s⟩, name_ok (hj q), hb q, rfl⟩, fun _ => ⟨hb q, rfl⟩⟩
  exact comp_ok (vs := [j]) (g := ⟨S, s⟩) (g1 := ⟨S, s⟩) (ds := rowD r) (name_ok hi) rfl (by rw [row_len]; omega) (by show compL _ _ _ _ _ ⟨wipeR S [j], s⟩ = _; rw [hw]; exact k)
end
theorem left_ok {w : Str} (hwf : w ∈ FIL) {ring some_ : List Pr} (hr : ring ≠ []) (h1 : ring.length ≤ 1000) (h2 : some_.length ≤ 1000) (key : Int) (s : DS) :
    m__law_left [.str w, .lst (rowD ring), .lst (rowD some_), .int key] s = some (.ok (.lst (rowD (leftL w ring some_ key))), s) := by
  have hne : keysOf ring ≠ [] := by simpa using hr
  obtain ⟨lo, elo⟩ : ∃ x, x = minL (keysOf ring) := ⟨_, rfl⟩
  obtain ⟨hi, ehi⟩ : ∃ x, x = maxL (keysOf ring) := ⟨_, rfl⟩
  obtain ⟨S0, hS0⟩ : ∃ S : List Sl, S = [.dat (.str w), .dat (.lst (rowD ring)), .dat (.lst (rowD some_)), .dat (.int key), .no, .no, .no, .no] := ⟨_, rfl⟩
  obtain ⟨S1, hS1⟩ : ∃ S : List Sl, S = [.dat (.str w), .dat (.lst (rowD ring)), .dat (.lst (rowD some_)), .dat (.int key), .no, .dat (.int lo), .dat (.int hi), .no] := ⟨_, rfl⟩
  have hs := heights 1 4 (S := S0) (S1 := []) (s := s) (r := ring) (by rw [hS0]; rfl) h1 (by rw [hS0]; rfl) (fun _ => by rw [hS0]; rfl) (fun _ => by rw [hS0]; rfl)
  have b1 : fParDD 5 6 (fMin (fLet (fComp [4] (fName 1) (gN 4) (rt true) (fIxD (fName 4) (rt (.int 0)))))) (fMax (fLet (fComp [4] (fName 1) (gN 4) (rt true) (fIxD (fName 4) (rt (.int 0)))))) ⟨S0, s⟩ = some (.nx, ⟨S1, s⟩) :=
    (parDD_ok (min_ok (let_ok hs) hne) (max_ok (let_ok hs) hne)).trans (by rw [hS0, hS1, elo, ehi]; rfl)
  have n0 : fName 0 ⟨S1, s⟩ = some (.ok (.str w), ⟨S1, s⟩) := by rw [hS1]; exact name_ok rfl
  have i1 : fT (f2 (pIn false) (fName 0) (fTup (fCons (rt (.str "below")) (fCons (rt (.str "under")) (rt []))))) ⟨S1, s⟩ = some (.ok (decide (w = "below" ∨ w = "under")), ⟨S1, s⟩) :=
    (in_strs (ws := ["below", "under"]) (neg := false) n0 rfl rfl).trans (by rw [contains2]; rfl)
  have i2 : fT (f2 (pIn false) (fName 0) (fTup (fCons (rt (.str "above")) (fCons (rt (.str "over")) (rt []))))) ⟨S1, s⟩ = some (.ok (decide (w = "above" ∨ w = "over")), ⟨S1, s⟩) :=
    (in_strs (ws := ["above", "over"]) (neg := false) n0 rfl rfl).trans (by rw [contains2]; rfl)
  have k1 := keep (S := S1) (s := s) (r := some_) (i := 2) (j := 4) (fT (f2 pLt (fIxD (fName 4) (rt (.int 0))) (fName 3))) (fun p => decide (p.1 < key)) (by rw [hS1]; rfl) h2 (by rw [hS1]; rfl) (fun _ => by rw [hS1]; rfl) (fun _ => by rw [hS1]; rfl)
    (fun p _ => lt_int (pr0 (p := p) (by rw [hS1]; rfl)) (name_ok (by rw [hS1]; rfl)))
  have k2 := keep (S := S1) (s := s) (r := some_) (i := 2) (j := 4) (fT (f2 pGt (fIxD (fName 4) (rt (.int 0))) (fName 3))) (fun p => decide (key < p.1)) (by rw [hS1]; rfl) h2 (by rw [hS1]; rfl) (fun _ => by rw [hS1]; rfl) (fun _ => by rw [hS1]; rfl)
    (fun p _ => gt_int (pr0 (p := p) (by rw [hS1]; rfl)) (name_ok (by rw [hS1]; rfl)))
  unfold leftL
  by_cases c1 : w = "below" ∨ w = "under"
  · rw [if_pos c1]
    rw [decide_eq_true c1] at i1
    refine runB_ret (r := S1) rfl ?_
    refine (congrArg (fun x => fb__law_left ⟨x, s⟩) (show _ = S0 by rw [hS0]; rfl)).trans ?_
    unfold fb__law_left
    refine (seq_nx b1).trans ?_
    exact seq_ret ((if_t i1).trans (ret_ok (let_ok k1)))
  rw [if_neg c1]
  rw [decide_eq_false c1] at i1
  by_cases c2 : w = "above" ∨ w = "over"
  · rw [if_pos c2]
    rw [decide_eq_true c2] at i2
    refine runB_ret (r := S1) rfl ?_
    refine (congrArg (fun x => fb__law_left ⟨x, s⟩) (show _ = S0 by rw [hS0]; rfl)).trans ?_
    unfold fb__law_left
    refine (seq_nx b1).trans ?_
    exact (seq_nx ((if_f i1).trans rfl)).trans (seq_ret ((if_t i2).trans (ret_ok (let_ok k2))))
  rw [if_neg c2]
  rw [decide_eq_false c2] at i2
  obtain ⟨sp, esp⟩ : ∃ x, x = sparedL w ring := ⟨_, rfl⟩
  obtain ⟨S2, hS2⟩ : ∃ S : List Sl, S = [.dat (.str w), .dat (.lst (rowD ring)), .dat (.lst (rowD some_)), .dat (.int key), .no, .dat (.int lo), .dat (.int hi), .dat (.lst (sp.map .int))] := ⟨_, rfl⟩
  have b2 : fSet 7 (fDix (fDisp [("kept", fLet (fLst (rt []))), ("notlow", fLet (fLst (fCons (fName 5) (rt [])))), ("nothigh", fLet (fLst (fCons (fName 6) (rt [])))), ("inner", fLet (fLst (fCons (fName 5) (fCons (fName 6) (rt [])))))]) (fName 0)) ⟨S1, s⟩ = some (.nx, ⟨S2, s⟩) := by
    have dd : fDisp [("kept", fLet (fLst (rt []))), ("notlow", fLet (fLst (fCons (fName 5) (rt [])))), ("nothigh", fLet (fLst (fCons (fName 6) (rt [])))), ("inner", fLet (fLst (fCons (fName 5) (fCons (fName 6) (rt [])))))] ⟨S1, s⟩ =
        some (.ok (.dic [(Sum.inr "kept", .lst []), (Sum.inr "notlow", .lst [.int lo]), (Sum.inr "nothigh", .lst [.int hi]), (Sum.inr "inner", .lst [.int lo, .int hi])]), ⟨S1, s⟩) := by rw [hS1]; kernel_rfl
    have hv : valD [(Sum.inr "kept", .lst []), (Sum.inr "notlow", .lst [.int lo]), (Sum.inr "nothigh", .lst [.int hi]), (Sum.inr "inner", .lst [.int lo, .int hi])] (Sum.inr w) = some (.lst (sp.map .int)) := by
      rw [esp]
      unfold FIL at hwf
      simp only [List.mem_cons, List.not_mem_nil, or_false] at hwf
      rcases hwf with rfl | rfl | rfl | rfl | rfl | rfl | rfl | rfl
      · rfl
      · rw [elo, ehi]; rfl
      · rw [elo]; rfl
      · rw [ehi]; rfl
      · exact absurd (.inl rfl) c1
      · exact absurd (.inl rfl) c2
      · exact absurd (.inr rfl) c1
      · exact absurd (.inr rfl) c2
    exact (set_ok (dixS dd n0 hv)).trans (by rw [hS1, hS2]; rfl)
  have k3 := keep (S := S2) (s := s) (r := some_) (i := 2) (j := 4) (fAnd (fT (f2 (pIn true) (fIxD (fName 4) (rt (.int 0))) (fName 7))) (fOr (fT (f2 pNe (fName 0) (rt (.str "kept")))) (fT (f2 pEq (fIxD (fName 4) (rt (.int 1))) (rt (.str "kept"))))))
    (fun p => !sp.contains p.1 && (!decide (w = "kept") || decide (p.2 = "kept"))) (by rw [hS2]; rfl) h2 (by rw [hS2]; rfl) (fun _ => by rw [hS2]; rfl) (fun _ => by rw [hS2]; rfl)
    (fun p _ => by
      have a1 := in_ints (neg := true) (xs := sp) (pr0 (p := p) (i := 4) (g := ⟨S2.set 4 (.dat (prD p)), s⟩) (by rw [hS2]; rfl)) (name_ok (i := 7) (d := .lst (sp.map .int)) (by rw [hS2]; rfl)) rfl
      have a2 := ne_str (f := rt (.str "kept")) (b := "kept") (name_ok (i := 0) (d := .str w) (g := ⟨S2.set 4 (.dat (prD p)), s⟩) (by rw [hS2]; rfl)) rfl
      have a3 := eq_str (f := rt (.str "kept")) (b := "kept") (pr1 (p := p) (i := 4) (g := ⟨S2.set 4 (.dat (prD p)), s⟩) (by rw [hS2]; rfl)) rfl
      cases h1 : sp.contains p.1 with
      | true => rw [h1] at a1; exact and_f a1
      | false =>
        rw [h1] at a1
        refine (and_t a1).trans ?_
        cases h2 : decide (w = "kept") with
        | false => rw [h2] at a2; exact or_t a2
        | true => rw [h2] at a2; exact (or_f a2).trans a3)
  refine runB_ret (r := S2) rfl ?_
  refine (congrArg (fun x => fb__law_left ⟨x, s⟩) (show _ = S0 by rw [hS0]; rfl)).trans ?_
  unfold fb__law_left
  refine (seq_nx b1).trans ?_
  refine (seq_nx ((if_f i1).trans rfl)).trans ((seq_nx ((if_f i2).trans rfl)).trans ((seq_nx b2).trans (ret_ok (let_ok ?_))))
  rw [← esp]
  exact k3
end K05
namespace K05
open PyProof.Rows PySem.Spec PySem L2 DE
/-! ### who is taken -/
def narrowL (ring : List Pr) (key : Int) : List Str → List Pr → Option (List Pr)
  | [], cur => some cur
  | w :: ws, cur => if (leftL w ring cur key).isEmpty = true ∧ (w = "under" ∨ w = "over") then none else narrowL ring key ws (if (leftL w ring cur key).isEmpty = true then cur else leftL w ring cur key)
def takenL (v : Int) (ws : List Str) (e : Str) (row : List Pr) (key : Int) : List Int :=
  if ((row.filter loudP).length : Int) < v then [] else match narrowL (row.filter loudP) key ws (row.filter loudP) with
    | none => []
    | some cur => endL e (keysOf cur)
theorem leftL_len (w : Str) (ring some_ : List Pr) (key : Int) : (leftL w ring some_ key).length ≤ some_.length := by
  unfold leftL
  split
  · exact List.length_filter_le _ _
  · split <;> exact List.length_filter_le _ _
theorem leftL_ok {w : Str} {ring some_ : List Pr} {key : Int} (h : okR some_) : okR (leftL w ring some_ key) := by
  unfold leftL
  split
  · exact h.filter _
  · split <;> exact h.filter _
theorem leftL_sub {w : Str} {ring some_ : List Pr} {key : Int} {p : Pr} (h : p ∈ leftL w ring some_ key) : p ∈ some_ := by
  unfold leftL at h
  split at h
  · exact (List.mem_filter.mp h).1
  · split at h <;> exact (List.mem_filter.mp h).1
abbrev tB : Ms := fSeq (fSet 6 (fCallN 4 m__law_left (fCons (fName 5) (fCons (fName 3) (fCons (fName 4) (fCons (fName 2) (rt [])))))))
  (fSeq (fIf (fAnd (fT (f2 pEq (fName 6) (fLet (fLst (rt []))))) (fT (f2 (pIn false) (fName 5) (fTup (fCons (rt (.str "under")) (fCons (rt (.str "over")) (rt []))))))) (fRet (fLet (fLst (rt [])))) (sOut .nx))
  (fSet 4 (fIfE (fT (f2 pNe (fName 6) (fLet (fLst (rt []))))) (fName 6) (fName 4))))
abbrev tS (M R : D) (key : Int) (ring cur : List Pr) (w l : Sl) : List Sl := [.dat M, .dat R, .dat (.int key), .dat (.lst (rowD ring)), .dat (.lst (rowD cur)), w, l]
theorem taken_turn {M R : D} {key : Int} {ring cur : List Pr} {w : Str} {l : Sl} {s : DS} (hw : w ∈ FIL) (hr : ring ≠ []) (h1 : ring.length ≤ 1000) (h2 : cur.length ≤ 1000) (ok : okR cur) :
    tB ⟨tS M R key ring cur (.dat (.str w)) l, s⟩ = if (leftL w ring cur key).isEmpty = true ∧ (w = "under" ∨ w = "over") then some (.ret (.lst []), ⟨tS M R key ring cur (.dat (.str w)) (.dat (.lst (rowD (leftL w ring cur key)))), s⟩)
      else some (.nx, ⟨tS M R key ring (if (leftL w ring cur key).isEmpty = true then cur else leftL w ring cur key) (.dat (.str w)) (.dat (.lst (rowD (leftL w ring cur key)))), s⟩) := by
  obtain ⟨L, eL⟩ : ∃ L, L = leftL w ring cur key := ⟨_, rfl⟩
  have okL : okR L := by rw [eL]; exact leftL_ok ok
  have c1 : fSet 6 (fCallN 4 m__law_left (fCons (fName 5) (fCons (fName 3) (fCons (fName 4) (fCons (fName 2) (rt [])))))) ⟨tS M R key ring cur (.dat (.str w)) l, s⟩ = some (.nx, ⟨tS M R key ring cur (.dat (.str w)) (.dat (.lst (rowD L))), s⟩) :=
    set_ok (g1 := ⟨tS M R key ring cur (.dat (.str w)) l, s⟩) (call_ok (ds := [.str w, .lst (rowD ring), .lst (rowD cur), .int key]) (g1 := ⟨tS M R key ring cur (.dat (.str w)) l, s⟩) (cons_ok (name_ok rfl) (cons_ok (name_ok rfl) (cons_ok (name_ok rfl) (cons_ok (name_ok rfl) rfl)))) rfl (by rw [eL]; exact left_ok hw hr h1 h2 key s))
  obtain ⟨g, hg⟩ : ∃ g : Sg, g = ⟨tS M R key ring cur (.dat (.str w)) (.dat (.lst (rowD L))), s⟩ := ⟨_, rfl⟩
  have n6 : fName 6 g = some (.ok (.lst (rowD L)), g) := by rw [hg]; exact name_ok rfl
  have n5 : fName 5 g = some (.ok (.str w), g) := by rw [hg]; exact name_ok rfl
  have n4 : fName 4 g = some (.ok (.lst (rowD cur)), g) := by rw [hg]; exact name_ok rfl
  have t1 : fT (f2 pEq (fName 6) (fLet (fLst (rt [])))) g = some (.ok L.isEmpty, g) := t_ok ((f2_ok (d' := .lst []) (g2 := g) n6 rfl).trans (pEqD_row okL g))
  have t2 : fT (f2 (pIn false) (fName 5) (fTup (fCons (rt (.str "under")) (fCons (rt (.str "over")) (rt []))))) g = some (.ok (decide (w = "under" ∨ w = "over")), g) := (in_strs (ws := ["under", "over"]) (neg := false) n5 rfl rfl).trans (by rw [contains2]; rfl)
  have t3 : fT (f2 pNe (fName 6) (fLet (fLst (rt [])))) g = some (.ok (!L.isEmpty), g) := t_ok ((f2_ok (d' := .lst []) (g2 := g) n6 rfl).trans (pNeD_row okL g))
  rw [← eL]
  refine (seq_nx c1).trans ?_
  rw [← hg]
  have last : fSet 4 (fIfE (fT (f2 pNe (fName 6) (fLet (fLst (rt []))))) (fName 6) (fName 4)) g = some (.nx, ⟨tS M R key ring (if L.isEmpty = true then cur else L) (.dat (.str w)) (.dat (.lst (rowD L))), s⟩) := by
    cases hE : L.isEmpty with
    | true =>
      rw [hE] at t3
      rw [if_pos rfl]
      exact (set_ok ((ifE_f t3).trans n4)).trans (by rw [hg]; rfl)
    | false =>
      rw [hE] at t3
      rw [if_neg Bool.false_ne_true]; exact (set_ok ((ifE_t t3).trans n6)).trans (by rw [hg]; rfl)
  cases hE : L.isEmpty with
  | true =>
    rw [hE] at t1 last
    by_cases c : w = "under" ∨ w = "over"
    · rw [if_pos ⟨rfl, c⟩]
      rw [decide_eq_true c] at t2
      exact seq_ret ((if_t ((and_t t1).trans t2)).trans rfl)
    · rw [if_neg (fun z => c z.2)]
      rw [decide_eq_false c] at t2
      exact (seq_nx ((if_f ((and_t t1).trans t2)).trans rfl)).trans last
  | false =>
    rw [hE] at t1 last
    rw [if_neg (fun z => Bool.false_ne_true z.1)]
    exact (seq_nx ((if_f (and_f t1)).trans rfl)).trans last
theorem taken_loop {M R : D} {key : Int} {ring : List Pr} {s : DS} (hr : ring ≠ []) (h1 : ring.length ≤ 1000) : ∀ (ws : List Str) (cur : List Pr) (w l : Sl), (∀ x ∈ ws, x ∈ FIL) → cur.length ≤ 1000 → okR cur →
    ∃ (w' : List Sl) (l' : Sl × Sl), loop (gN 5) tB (ws.map .str) ⟨tS M R key ring cur w l, s⟩ = match narrowL ring key ws cur with
      | none => some (.ret (.lst []), ⟨w', s⟩)
      | some cur' => some (.nx, ⟨tS M R key ring cur' l'.1 l'.2, s⟩)
  | [], cur, w, l, _, _, _ => ⟨[], (w, l), rfl⟩
  | x :: ws, cur, w, l, hw, h2, ok => by
    have t := taken_turn (M := M) (R := R) (key := key) (ring := ring) (cur := cur) (w := x) (l := l) (s := s) (hw x List.mem_cons_self) hr h1 h2 ok
    unfold narrowL
    by_cases c : (leftL x ring cur key).isEmpty = true ∧ (x = "under" ∨ x = "over")
    · rw [if_pos c] at t ⊢
      exact ⟨_, (w, l), loop_ret (g1 := ⟨tS M R key ring cur (.dat (.str x)) l, s⟩) rfl t⟩
    · rw [if_neg c] at t ⊢
      obtain ⟨w', l', e⟩ := taken_loop hr h1 ws (if (leftL x ring cur key).isEmpty = true then cur else leftL x ring cur key) (.dat (.str x)) (.dat (.lst (rowD (leftL x ring cur key)))) (fun y hy => hw y (List.mem_cons_of_mem _ hy))
        (by have := leftL_len x ring cur key; split <;> omega) (by split; exact ok; exact leftL_ok ok)
      exact ⟨w', l', (loop_cons (g1 := ⟨tS M R key ring cur (.dat (.str x)) l, s⟩) rfl t).trans e⟩
theorem narrow_ne {ring : List Pr} {key : Int} : ∀ (ws : List Str) (cur : List Pr) {r : List Pr}, cur ≠ [] → narrowL ring key ws cur = some r → r ≠ [] ∧ r.length ≤ cur.length ∧ ∀ p ∈ r, p ∈ cur
  | [], cur, r, h, e => by cases e; exact ⟨h, Nat.le_refl _, fun _ z => z⟩
  | w :: ws, cur, r, h, e => by
    unfold narrowL at e
    split at e
    · cases e
    · have len := leftL_len w ring cur key
      by_cases c : (leftL w ring cur key).isEmpty = true
      · rw [if_pos c] at e
        exact narrow_ne ws cur h e
      · rw [if_neg c] at e
        obtain ⟨a, b, d⟩ := narrow_ne ws _ (fun z => c (by rw [z]; rfl)) e
        exact ⟨a, by omega, fun p hp => leftL_sub (d p hp)⟩
theorem taken_ok {v : Int} {ws : List Str} {e b : Str} {R : D} {row : List Pr} (hR : aSeq R = some (rowD row)) (hl : row.length ≤ 1000) (ok : okR row) (hv : 1 ≤ v) (hw : ∀ x ∈ ws, x ∈ FIL) (hwl : ws.length ≤ 1000) (key : Int) (s : DS) :
    m__law_taken [.tup [.int v, .tup (csOf ws e), .str b], R, .int key] s = some (.ok (.lst ((takenL v ws e row key).map .int)), s) := by
  obtain ⟨M, hM⟩ : ∃ M, M = D.tup [.int v, .tup (csOf ws e), .str b] := ⟨_, rfl⟩
  obtain ⟨ring, hring⟩ : ∃ r, r = row.filter loudP := ⟨_, rfl⟩
  have lr : ring.length ≤ 1000 := by rw [hring]; exact Nat.le_trans (List.length_filter_le _ _) hl
  have okr : okR ring := by rw [hring]; exact ok.filter _
  rw [← hM]
  unfold takenL
  rw [← hring]
  have c1 : fSet 3 (fCallN 1 m__law_loud (fCons (fName 1) (rt []))) ⟨[.dat M, .dat R, .dat (.int key), .no, .no, .no, .no], s⟩ = some (.nx, ⟨[.dat M, .dat R, .dat (.int key), .dat (.lst (rowD ring)), .no, .no, .no], s⟩) :=
    set_ok (g1 := ⟨[.dat M, .dat R, .dat (.int key), .no, .no, .no, .no], s⟩) (call_ok (ds := [R]) (g1 := ⟨[.dat M, .dat R, .dat (.int key), .no, .no, .no, .no], s⟩) (cons_ok (name_ok rfl) rfl) rfl (by rw [hring]; exact loud_ok hR hl s))
  have t1 : fT (f2 pLt (fLen (fPeek 3)) (fIxD (fName 0) (rt (.int 0)))) ⟨[.dat M, .dat R, .dat (.int key), .dat (.lst (rowD ring)), .no, .no, .no], s⟩ = some (.ok (decide ((ring.length : Int) < v)), ⟨[.dat M, .dat R, .dat (.int key), .dat (.lst (rowD ring)), .no, .no, .no], s⟩) := by
    have := lt_int (e := fLen (fPeek 3)) (f := fIxD (fName 0) (rt (.int 0))) (g := ⟨[.dat M, .dat R, .dat (.int key), .dat (.lst (rowD ring)), .no, .no, .no], s⟩) (g2 := ⟨[.dat M, .dat R, .dat (.int key), .dat (.lst (rowD ring)), .no, .no, .no], s⟩) (len_ok (peek_l rfl)) (ix_ok (i := 0) (r := .int v) (name_ok (d := M) rfl) rfl (by rw [hM]; rfl) rfl)
    rw [row_len] at this
    exact this
  by_cases c : (ring.length : Int) < v
  · rw [if_pos c]
    rw [decide_eq_true c] at t1
    refine runB_ret (r := [.dat M, .dat R, .dat (.int key), .dat (.lst (rowD ring)), .no, .no, .no]) rfl ?_
    unfold fb__law_taken
    exact (seq_nx c1).trans (seq_ret ((if_t t1).trans rfl))
  · rw [if_neg c]
    rw [decide_eq_false c] at t1
    have hr : ring ≠ [] := by rintro rfl; exact c (by show ((0 : Nat) : Int) < v; omega)
    obtain ⟨w', l', el⟩ := taken_loop (M := M) (R := R) (key := key) (s := s) hr lr ws ring .no .no hw lr okr
    have c4 : fSet 4 (fName 3) ⟨[.dat M, .dat R, .dat (.int key), .dat (.lst (rowD ring)), .no, .no, .no], s⟩ = some (.nx, ⟨tS M R key ring ring .no .no, s⟩) := set_ok (name_ok rfl)
    have cw : fSl (fIxD (fName 0) (rt (.int 1))) (rt none) (fPart (fNeg (rt (.int 1)))) ⟨tS M R key ring ring .no .no, s⟩ = some (.ok (.tup (ws.map .str)), ⟨tS M R key ring ring .no .no, s⟩) := by
      have := sl_t (e := fIxD (fName 0) (rt (.int 1))) (l := rt none) (u := fPart (fNeg (rt (.int 1)))) (g := ⟨tS M R key ring ring .no .no, s⟩) (lo := none) (hi := some (-1)) (ix_ok (i := 1) (r := .tup (csOf ws e)) (name_ok (d := M) rfl) rfl (by rw [hM]; rfl) rfl) rfl rfl
      rw [this]
      have e1 : DE.cutD (csOf ws e) none (some (-1)) = ws.map .str := by
        have l := cs_len ws e
        have : HT.sIx (csOf ws e).length (csOf ws e).length (some (-1)) = ws.length := by
          show (if (-1 : Int) < 0 then ((-1 : Int) + ((csOf ws e).length : Int)).toNat else min (-1 : Int).toNat (csOf ws e).length) = _
          rw [if_pos (by decide), l]; omega
        unfold DE.cutD
        rw [this]
        show ((csOf ws e).drop 0).take (ws.length - 0) = _
        simp
      rw [e1]
    have fl := for_ok (t := gN 5) (k := tB) cw rfl
    cases hn : narrowL ring key ws ring with
    | none =>
      rw [hn] at el
      refine runB_ret (r := w') rfl ?_
      unfold fb__law_taken
      exact (seq_nx c1).trans ((seq_nx ((if_f t1).trans rfl)).trans ((seq_nx c4).trans (seq_ret (fl.trans el))))
    | some cur =>
      rw [hn] at el
      obtain ⟨a1, a2, a3⟩ := narrow_ne ws ring hr hn
      refine runB_ret (r := tS M R key ring cur l'.1 l'.2) rfl ?_
      unfold fb__law_taken
      refine (seq_nx c1).trans ((seq_nx ((if_f t1).trans rfl)).trans ((seq_nx c4).trans ((seq_nx (fl.trans el)).trans (ret_ok ?_))))
      refine call_ok (ds := [.str e, .lst (rowD cur)]) (g1 := ⟨tS M R key ring cur l'.1 l'.2, s⟩) (cons_ok ?_ (cons_ok (name_ok rfl) rfl)) rfl (end_ok e a1 (by omega) s)
      refine ix_ok (i := -1) (d := .tup (csOf ws e)) (cs := csOf ws e) (ix_ok (i := 1) (r := .tup (csOf ws e)) (name_ok (d := M) rfl) rfl (by rw [hM]; rfl) rfl) rfl rfl ?_
      unfold atI ixN
      rw [if_neg (by decide), if_pos (by rw [cs_len]; omega), cs_len]
      show (csOf ws e)[((-1 : Int) + ((ws.length + 1 : Nat) : Int)).toNat]? = _
      rw [show ((-1 : Int) + ((ws.length + 1 : Nat) : Int)).toNat = ws.length by omega]
      simp
end K05
namespace K05
open PyProof.Rows PySem.Spec PySem L2 DE
/-! ### other marks, the return -/
def markP (key : Int) (mark : Str) (p : Pr) : Pr := if p.1 = key then (p.1, mark) else p
abbrev markL (r : List Pr) (key : Int) (mark : Str) : List Pr := r.map (markP key mark)
theorem seq_row {a : D} {r : List Pr} (h : a = .lst (rowD r) ∨ a = .tup (rowD r)) : aSeq a = some (rowD r) := by rcases h with rfl | rfl <;> rfl
theorem marked_ok {a : D} {r : List Pr} {key : Int} {mark : Str} (h : aSeq a = some (rowD r)) (hl : r.length ≤ 1000) (s : DS) : m__law_marked [a, .int key, .str mark] s = some (.ok (.lst (rowD (markL r key mark))), s) := by
  refine runB_ret (r := [.dat a, .dat (.int key), .dat (.str mark), .no]) rfl (ret_ok (let_ok ?_))
  have c := compL_on (vs := [3]) (t := gN 3) (c := rt true) (e := fIfE (fT (f2 pEq (fIxD (fName 3) (rt (.int 0))) (fName 1))) (fTup (fCons (fIxD (fName 3) (rt (.int 0))) (fCons (fName 2) (rt [])))) (fName 3)) (E := prD) (F := fun p => prD (markP key mark p)) (P := fun _ => true) (S := [.dat a, .dat (.int key), .dat (.str mark), .no]) (s := s) r fun p _ =>
    ⟨⟨[.dat a, .dat (.int key), .dat (.str mark), .dat (prD p)], s⟩, ⟨[.dat a, .dat (.int key), .dat (.str mark), .dat (prD p)], s⟩, rfl, rfl, fun _ => ⟨⟨[.dat a, .dat (.int key), .dat (.str mark), .dat (prD p)], s⟩, (by
      have t := eq_int (f := fName 1) (pr0 (p := p) (i := 3) (g := ⟨[.dat a, .dat (.int key), .dat (.str mark), .dat (prD p)], s⟩) rfl) (name_ok rfl)
      by_cases k : p.1 = key
      · rw [decide_eq_true k] at t
        refine (ifE_t t).trans ?_
        unfold markP
        rw [if_pos k]
        exact tup_ok (ds := [.int p.1, .str mark]) (cons_ok (pr0 rfl) (cons_ok (name_ok rfl) rfl)) (by show 2 ≤ 100000; decide)
      · rw [decide_eq_false k] at t
        refine (ifE_f t).trans ?_
        unfold markP
        rw [if_neg k]
        exact name_ok rfl), rfl, rfl⟩, fun z => by cases z⟩
  rw [List.filter_eq_self.mpr fun _ _ => rfl] at c
  have := comp_ok (fi := fName 0) (g := ⟨[.dat a, .dat (.int key), .dat (.str mark), .no], s⟩) (g1 := ⟨[.dat a, .dat (.int key), .dat (.str mark), .no], s⟩) (name_ok rfl) h (by rw [row_len]; omega) c
  rw [show r.map (fun p => prD (markP key mark p)) = rowD (markL r key mark) by simp] at this
  exact this
def waitP (p : Pr) : Bool := decide (p.2 = "waits")
theorem okR_mark {r : List Pr} (h : okR r) (key : Int) {mark : Str} (hm : mark ∈ MKS) : okR (markL r key mark) := by
  intro p hp
  obtain ⟨q, hq, rfl⟩ := List.mem_map.mp hp; unfold markP
  split
  · exact hm
  · exact h q hq
def backL (b : Str) (r : List Pr) : Int := (endL b (keysOf (r.filter waitP))).headD 0
abbrev goesB (v : Int) (b : Str) (r : List Pr) : Prop := b ≠ "none" ∧ r.filter waitP ≠ [] ∧ ((r.filter loudP).length : Int) < v
instance (v : Int) (b : Str) (r : List Pr) : Decidable (goesB v b r) := inferInstanceAs (Decidable (_ ∧ _ ∧ _))
def fillL (v : Int) (b : Str) : Nat → List Pr → List Int → List Pr × List Int
  | 0, r, f => (r, f)
  | n + 1, r, f => if goesB v b r then fillL v b n (markL r (backL b r) "sounds") (f ++ [backL b r]) else fillL v b n r f
theorem end_ne {b : Str} (hb : b ∈ RET_) (hn : b ≠ "none") {xs : List Int} (hx : xs ≠ []) : endL b xs = (endL b xs).headD 0 :: (endL b xs).tail := by
  have : endL b xs ≠ [] := by
    unfold RET_ at hb; simp only [List.mem_cons, List.not_mem_nil, or_false] at hb
    cases xs with
    | nil => exact absurd rfl hx
    | cons x xs =>
      rcases hb with rfl | rfl | rfl | rfl | rfl
      · exact absurd rfl hn
      · show List.take 1 (x :: xs) ≠ []; simp
      · show List.drop _ (x :: xs) ≠ []; simp
      · show [minL (x :: xs)] ≠ []; simp
      · show [maxL (x :: xs)] ≠ []; simp
  cases h : endL b xs with
  | nil => exact absurd h this
  | cons y ys => rfl
abbrev fB : Ms := fSeq (fSetO 5 (fComp [4] (fName 1) (gN 4) (fT (f2 pEq (fIxD (fName 4) (rt (.int 1))) (rt (.str "waits")))) (fName 4)))
  (fIf (fAnd (fT (f2 pNe (fIxD (fName 0) (rt (.int 2))) (rt (.str "none")))) (fAnd (fT (f2 pNe (fName 5) (fLet (fLst (rt []))))) (fT (f2 pLt (fLen (fPk (fCallN 1 m__law_loud (fCons (fName 1) (rt []))))) (fIxD (fName 0) (rt (.int 0))))))) (fSeq (fExp (fApp 2 (fIxD (fCallN 2 m__law_end (fCons (fIxD (fName 0) (rt (.int 2))) (fCons (fName 5) (rt [])))) (rt (.int 0)))))
  (fSet 1 (fCallN 3 m__law_marked (fCons (fName 1) (fCons (fIxC (fPeek 2) (-1)) (fCons (rt (.str "sounds")) (rt []))))))) (sOut .nx))
abbrev fS (M : D) (r : List Pr) (f : List Int) (t w : Sl) : List Sl := [.dat M, .dat (.lst (rowD r)), .own (f.map .int), t, .no, w]
theorem ixC_last {i : Nat} {g : Sg} {xs : List D} {d : D} (h : g.r[i]? = some (.own (xs ++ [d]))) : fIxC (fPeek i) (-1) g = some (.ok d, g) := by
  unfold fIxC
  rw [bd_ok (peek_o h)]
  have : atI (xs ++ [d]) (-1) = some d := by
    unfold atI ixN
    rw [if_neg (by decide), if_pos (by simp; omega)]
    rw [show ((-1 : Int) + ((xs ++ [d]).length : Int)).toNat = xs.length by simp; omega]
    simp
  rw [this]; rfl
theorem fill_turn {v : Int} {C : D} {b : Str} (hb : b ∈ RET_) {r : List Pr} {f : List Int} {t w : Sl} {s : DS} (ok : okR r) (hl : r.length ≤ 1000) (hf : f.length ≤ 10000) :
    ∃ w', fB ⟨fS (.tup [.int v, C, .str b]) r f t w, s⟩ = some (.nx, ⟨if goesB v b r then fS (.tup [.int v, C, .str b]) (markL r (backL b r) "sounds") (f ++ [backL b r]) t w' else fS (.tup [.int v, C, .str b]) r f t w', s⟩) := by
  obtain ⟨M, hM⟩ : ∃ M, M = D.tup [.int v, C, .str b] := ⟨_, rfl⟩
  rw [← hM]
  obtain ⟨W, hW⟩ : ∃ W, W = r.filter waitP := ⟨_, rfl⟩
  have okW : okR W := by rw [hW]; exact ok.filter _
  have k1 : fComp [4] (fName 1) (gN 4) (fT (f2 pEq (fIxD (fName 4) (rt (.int 1))) (rt (.str "waits")))) (fName 4) ⟨fS M r f t w, s⟩ = some (.ok (rowD W), ⟨fS M r f t w, s⟩) := by
    rw [hW]
    exact keep (S := fS M r f t w) (s := s) (r := r) (i := 1) (j := 4) (fT (f2 pEq (fIxD (fName 4) (rt (.int 1))) (rt (.str "waits")))) waitP rfl hl rfl (fun _ => rfl) (fun _ => rfl) (fun p _ => eq_str (pr1 rfl) rfl)
  obtain ⟨g0, hg0⟩ : ∃ g : Sg, g = ⟨fS M r f t (.own (rowD W)), s⟩ := ⟨_, rfl⟩
  obtain ⟨g, hg⟩ : ∃ g : Sg, g = ⟨fS M r f t (.dat (.lst (rowD W))), s⟩ := ⟨_, rfl⟩
  have c1 : fSetO 5 (fComp [4] (fName 1) (gN 4) (fT (f2 pEq (fIxD (fName 4) (rt (.int 1))) (rt (.str "waits")))) (fName 4)) ⟨fS M r f t w, s⟩ = some (.nx, g0) := (setO_ok k1).trans (by rw [hg0]; rfl)
  have m2 : ∀ w : Sl, fIxD (fName 0) (rt (.int 2)) ⟨fS M r f t w, s⟩ = some (.ok (.str b), ⟨fS M r f t w, s⟩) := fun w => ix_ok (i := 2) (name_ok (d := M) rfl) rfl (by rw [hM]; rfl) rfl
  have t1 : fT (f2 pNe (fIxD (fName 0) (rt (.int 2))) (rt (.str "none"))) g0 = some (.ok (!decide (b = "none")), g0) := by rw [hg0]; exact ne_str (m2 _) rfl
  have n5 : fName 5 g0 = some (.ok (.lst (rowD W)), g) := by rw [hg0, hg]; rfl
  have t2 : fT (f2 pNe (fName 5) (fLet (fLst (rt [])))) g0 = some (.ok (!W.isEmpty), g) := t_ok ((f2_ok (d' := .lst []) (g2 := g) n5 rfl).trans (pNeD_row okW g))
  have t3 : fT (f2 pLt (fLen (fPk (fCallN 1 m__law_loud (fCons (fName 1) (rt []))))) (fIxD (fName 0) (rt (.int 0)))) g = some (.ok (decide (((r.filter loudP).length : Int) < v)), g) := by
    have c : fCallN 1 m__law_loud (fCons (fName 1) (rt [])) g = some (.ok (.lst (rowD (r.filter loudP))), g) := by
      rw [hg]
      exact call_ok (ds := [.lst (rowD r)]) (g1 := ⟨fS M r f t (.dat (.lst (rowD W))), s⟩) (cons_ok (name_ok rfl) rfl) rfl (loud_ok rfl hl s)
    have p : fPk (fCallN 1 m__law_loud (fCons (fName 1) (rt []))) g = some (.ok (rowD (r.filter loudP)), g) := by unfold fPk; rw [bd_ok c]; rfl
    have i0 : fIxD (fName 0) (rt (.int 0)) g = some (.ok (.int v), g) := by rw [hg]; exact ix_ok (i := 0) (name_ok (d := M) rfl) rfl (by rw [hM]; rfl) rfl
    have := lt_int (len_ok p) i0
    rw [row_len] at this
    exact this
  by_cases c : goesB v b r
  · obtain ⟨b1, b2, b3⟩ := c
    refine ⟨.dat (.lst (rowD W)), ?_⟩
    rw [if_pos ⟨b1, b2, b3⟩]
    rw [← hW] at b2
    rw [decide_eq_false b1] at t1
    rw [show W.isEmpty = false by cases W with | nil => exact absurd rfl b2 | cons a l => rfl] at t2
    rw [decide_eq_true b3] at t3
    refine (seq_nx c1).trans ((if_t ((and_t t1).trans ((and_t t2).trans t3))).trans ?_)
    have e1 : fIxD (fCallN 2 m__law_end (fCons (fIxD (fName 0) (rt (.int 2))) (fCons (fName 5) (rt [])))) (rt (.int 0)) g = some (.ok (.int (backL b r)), g) := by
      have e := end_ok b (r := W) b2 (by rw [hW]; exact Nat.le_trans (List.length_filter_le _ _) hl) s
      have ne := end_ne hb b1 (xs := keysOf W) (by simpa using b2)
      have : backL b r = (endL b (keysOf W)).headD 0 := by unfold backL; rw [hW]
      rw [this]
      rw [hg]
      generalize hq : endL b (keysOf W) = q at e ne ⊢
      refine ix_ok (i := 0) (d := .lst (q.map .int)) (cs := q.map .int) (call_ok (ds := [.str b, .lst (rowD W)]) (g1 := ⟨fS M r f t (.dat (.lst (rowD W))), s⟩) (cons_ok (m2 _) (cons_ok (name_ok rfl) rfl)) rfl e) rfl rfl ?_
      cases q with
      | nil => cases ne
      | cons y ys => exact (atI_nat (D.int y :: ys.map D.int) 0 (by simp)).trans rfl
    have e2 := app_ok (i := 2) (xs0 := f.map .int) (xs := f.map .int) (by rw [hg]; rfl) e1 (by rw [hg]; rfl) (by rw [List.length_map]; omega)
    refine (seq_nx (exp_ok e2)).trans ?_
    have e3 : (⟨g.r.set 2 (.own (f.map D.int ++ [.int (backL b r)])), g.s⟩ : Sg) = ⟨[.dat M, .dat (.lst (rowD r)), .own (f.map D.int ++ [.int (backL b r)]), t, .no, .dat (.lst (rowD W))], s⟩ := by rw [hg]; rfl
    rw [e3]
    refine (set_ok (call_ok (ds := [.lst (rowD r), .int (backL b r), .str "sounds"]) (g1 := ⟨[.dat M, .dat (.lst (rowD r)), .own (f.map D.int ++ [.int (backL b r)]), t, .no, .dat (.lst (rowD W))], s⟩) (cons_ok (name_ok rfl) (cons_ok (ixC_last rfl) (cons_ok rfl rfl))) rfl (marked_ok rfl hl s))).trans ?_
    show some (_, _) = _
    simp
  · by_cases b1 : b = "none"
    · refine ⟨.own (rowD W), ?_⟩
      rw [if_neg c]
      rw [decide_eq_true b1] at t1
      exact (seq_nx c1).trans ((if_f (and_f t1)).trans (by rw [hg0]; rfl))
    · refine ⟨.dat (.lst (rowD W)), ?_⟩
      rw [if_neg c]
      rw [decide_eq_false b1] at t1
      refine (seq_nx c1).trans ((if_f (g1 := g) ((and_t t1).trans ?_)).trans (by rw [hg]; rfl))
      cases hE : W.isEmpty with
      | true => rw [hE] at t2; exact and_f t2
      | false =>
        rw [hE] at t2
        refine (and_t t2).trans (t3.trans ?_)
        rw [decide_eq_false (fun z => c ⟨b1, ⟨by (rw [← hW]; intro q; rw [q] at hE; cases hE), z⟩⟩)]
theorem fill_loop {v : Int} {C : D} {b : Str} (hb : b ∈ RET_) {s : DS} : ∀ (is : List D) (r : List Pr) (f : List Int) (t w : Sl), okR r → r.length ≤ 1000 → f.length + is.length ≤ 10000 →
    ∃ t' w', loop (gN 3) fB is ⟨fS (.tup [.int v, C, .str b]) r f t w, s⟩ = some (.nx, ⟨fS (.tup [.int v, C, .str b]) (fillL v b is.length r f).1 (fillL v b is.length r f).2 t' w', s⟩)
  | [], r, f, t, w, _, _, _ => ⟨t, w, rfl⟩
  | d :: is, r, f, t, w, ok, hl, hf => by
    obtain ⟨w', e⟩ := fill_turn (v := v) (C := C) hb (t := .dat d) (w := w) (s := s) ok hl (f := f) (by simp at hf; omega)
    rw [show fillL v b (d :: is).length r f = if goesB v b r then fillL v b is.length (markL r (backL b r) "sounds") (f ++ [backL b r]) else fillL v b is.length r f from rfl]
    by_cases c : goesB v b r
    · rw [if_pos c] at e ⊢
      obtain ⟨t', w'', e'⟩ := fill_loop hb is (markL r (backL b r) "sounds") (f ++ [backL b r]) (.dat d) w' (okR_mark ok _ (by decide)) (by rw [List.length_map]; exact hl) (by simp at hf ⊢; omega)
      exact ⟨t', w'', (loop_cons (g1 := ⟨fS (.tup [.int v, C, .str b]) r f (.dat d) w, s⟩) rfl e).trans e'⟩
    · rw [if_neg c] at e ⊢
      obtain ⟨t', w'', e'⟩ := fill_loop hb is r f (.dat d) w' ok hl (by simp at hf ⊢; omega)
      exact ⟨t', w'', (loop_cons (g1 := ⟨fS (.tup [.int v, C, .str b]) r f (.dat d) w, s⟩) rfl e).trans e'⟩
theorem intsD_length (n : Nat) : (intsD (n : Int)).length = n := by unfold intsD; simp
theorem filled_ok {v : Int} {C : D} {b : Str} (hb : b ∈ RET_) {r : List Pr} (ok : okR r) (hl : r.length ≤ 1000) (s : DS) :
    m__law_filled [.tup [.int v, C, .str b], .lst (rowD r)] s = some (.ok (.tup [.lst (rowD (fillL v b r.length r []).1), .lst ((fillL v b r.length r []).2.map .int)]), s) := by
  obtain ⟨t', w', e⟩ := fill_loop (v := v) (C := C) (s := s) hb (intsD (r.length : Int)) r [] .no .no ok hl (by rw [intsD_length]; simp; omega)
  rw [intsD_length] at e
  obtain ⟨r', hr⟩ : ∃ x, x = (fillL v b r.length r []).1 := ⟨_, rfl⟩
  obtain ⟨f', hf⟩ : ∃ x, x = (fillL v b r.length r []).2 := ⟨_, rfl⟩
  rw [← hr, ← hf] at e ⊢
  refine runB_ret (r := [.dat (.tup [.int v, C, .str b]), .dat (.lst (rowD r')), .dat (.lst (f'.map .int)), t', .no, w']) rfl ?_
  unfold fb__law_filled
  refine (seq_nx (g1 := ⟨fS (.tup [.int v, C, .str b]) r [] .no .no, s⟩) rfl).trans ?_
  refine (seq_nx ((forR_ok (n := (r.length : Int)) (g1 := ⟨fS (.tup [.int v, C, .str b]) r [] .no .no, s⟩) (cons_ok ((len_ok (peek_l (ds := rowD r) rfl)).trans (by rw [row_len])) rfl) (by omega)).trans e)).trans ?_
  refine ret_ok (tup_ok (ds := [.lst (rowD r'), .lst (f'.map .int)]) (cons_ok (name_ok rfl) (cons_ok ?_ rfl)) (by show 2 ≤ 100000; decide))
  rfl
end K05
namespace K05
open PyProof.Rows PySem.Spec PySem L2 DE
/-! ### the steps -/
theorem eq_nil (xs : List Int) (g : Sg) : pEq (.lst (xs.map D.int)) (.lst []) g = some (.ok (.bl xs.isEmpty), g) := by
  show pEqD (.lst (xs.map D.int)) (.lst []) g = _
  have e1 : pyd (.lst (xs.map D.int)) = some (.list (xs.map PyData.int)) := by simp [pyd, pyd_ints]
  have e2 : pyd (.lst []) = some (.list []) := rfl
  unfold pEqD
  rw [e1, e2]
  have s1 : (SeqAt.shaped (.list (xs.map PyData.int)) && SeqAt.shaped (.list [])) = true := by
    have : SeqAt.shaped (.list []) = true := by kernel_rfl
    rw [this, Bool.and_true]
    unfold SeqAt.shaped
    simp [PyData.canLay0, lay_ints, PyData.depth, dep_ints]
  dsimp only
  rw [if_pos s1]
  cases xs with
  | nil => rfl
  | cons x xs => rfl
abbrev pr (k : Int) (m : Str) : Pr := (k, m)
def downL (v : Int) (ws : List Str) (e : Str) (r : List Pr) (key : Int) : List Pr :=
  if r.contains (pr key "kept") = true then r.filter (fun p => !decide (p.1 = key)) ++ [(pr key "sounds")]
  else if ((r.filter loudP).length : Int) < v then r ++ [(pr key "sounds")]
  else match takenL v ws e r key with
    | [] => r ++ [(pr key "waits")]
    | k :: _ => markL (r.filter fun p => !decide (p = (pr k "kept"))) k "waits" ++ [(pr key "sounds")]
def downD (v : Int) (ws : List Str) (e : Str) (r : List Pr) (key : Int) : List (Str × Int) :=
  if r.contains (pr key "kept") = true then [("again", key)]
  else if ((r.filter loudP).length : Int) < v then [("begin", key)]
  else match takenL v ws e r key with
    | [] => [("refuse", key)]
    | k :: _ => [("cut", k), ("begin", key)]
abbrev ddD (l : List (Str × Int)) : List D := l.map fun p => .tup [.str p.1, .int p.2]
theorem pair_ok {f h : Mo D} {g : Sg} {xs ys : List D} (h1 : f g = some (.ok (.lst xs), g)) (h2 : h g = some (.ok (.lst ys), g)) : fTup (fCons f (fCons h (rt []))) g = some (.ok (.tup [.lst xs, .lst ys]), g) := tup_ok (ds := [.lst xs, .lst ys]) (cons_ok h1 (cons_ok h2 rfl)) (by show 2 ≤ 100000; decide)
theorem gone_ok {v : Int} {ws : List Str} {e b : Str} {r : List Pr} (hl : r.length ≤ 900) (ok : okR r) (hv : 1 ≤ v) (hw : ∀ x ∈ ws, x ∈ FIL) (hwl : ws.length ≤ 1000) (key : Int) (s : DS) :
    m__law_gone_down [.tup [.int v, .tup (csOf ws e), .str b], .lst (rowD r), .int key] s = some (.ok (.tup [.lst (rowD (downL v ws e r key)), .lst (ddD (downD v ws e r key))]), s) := by
  obtain ⟨M, hM⟩ : ∃ M, M = D.tup [.int v, .tup (csOf ws e), .str b] := ⟨_, rfl⟩
  have tk := taken_ok (v := v) (ws := ws) (e := e) (b := b) (R := .lst (rowD r)) (row := r) rfl (by omega) ok hv hw hwl key s
  rw [← hM] at tk ⊢
  obtain ⟨T, hT⟩ : ∃ T, T = takenL v ws e r key := ⟨_, rfl⟩
  rw [← hT] at tk
  unfold downL downD
  rw [← hT]
  obtain ⟨S, hS⟩ : ∃ S : List Sl, S = [.dat M, .dat (.lst (rowD r)), .dat (.int key), .no, .no, .no] := ⟨_, rfl⟩
  have t1 : fT (f2 (pInD false) (fTup (fCons (fName 2) (fCons (rt (.str "kept")) (rt [])))) (fName 1)) ⟨S, s⟩ = some (.ok (r.contains (pr key "kept")), ⟨S, s⟩) := by
    rw [hS]
    exact t_ok ((f2_ok (d := prD (pr key "kept")) (d' := .lst (rowD r)) (g2 := ⟨[.dat M, .dat (.lst (rowD r)), .dat (.int key), .no, .no, .no], s⟩) (tup_ok (ds := [.int key, .str "kept"]) (cons_ok (name_ok rfl) (cons_ok rfl rfl)) (by show 2 ≤ 100000; decide)) (name_ok rfl)).trans (pInD_row ok (show ("kept" : Str) ∈ MKS by decide) _))
  have one : ∀ (w : Str) (S' : List Sl), S'[2]? = some (.dat (.int key)) → fLet (fLst (fCons (fTup (fCons (fName 2) (fCons (rt (.str w)) (rt [])))) (rt []))) ⟨S', s⟩ = some (.ok (.lst (rowD [(pr key w)])), ⟨S', s⟩) := fun w S' h =>
    let_ok (lst_ok (ds := [prD (pr key w)]) (cons_ok (tup_ok (ds := [.int key, .str w]) (cons_ok (name_ok h) (cons_ok rfl rfl)) (by show 2 ≤ 100000; decide)) rfl) (by show 1 ≤ 100000; decide))
  have cat : ∀ {f h : Mo D} {a c : List Pr} {S' : List Sl}, f ⟨S', s⟩ = some (.ok (.lst (rowD a)), ⟨S', s⟩) → h ⟨S', s⟩ = some (.ok (.lst (rowD c)), ⟨S', s⟩) → a.length + c.length ≤ 1000 → fLet (fCat f h) ⟨S', s⟩ = some (.ok (.lst (rowD (a ++ c))), ⟨S', s⟩) := fun h1 h2 h3 => by
    have := app_cat h1 h2 (by rw [row_len, row_len]; omega)
    rw [this]
    simp
  by_cases c1 : r.contains (pr key "kept") = true
  · rw [if_pos c1, if_pos c1]
    rw [c1] at t1
    have k1 := keep (S := S) (s := s) (r := r) (i := 1) (j := 3) (fT (f2 pNe (fIxD (fName 3) (rt (.int 0))) (fName 2))) (fun p => !decide (p.1 = key)) (by rw [hS]; rfl) (by omega) (by rw [hS]; rfl) (fun _ => by rw [hS]; rfl) (fun _ => by rw [hS]; rfl)
      (fun p _ => ne_int (pr0 (p := p) (by rw [hS]; rfl)) (name_ok (by rw [hS]; rfl)))
    refine runB_ret (r := S) rfl ?_
    refine (congrArg (fun x => fb__law_gone_down ⟨x, s⟩) (show _ = S by rw [hS]; rfl)).trans ?_
    unfold fb__law_gone_down
    refine seq_ret ((if_t t1).trans (ret_ok (pair_ok (cat (let_ok k1) (one _ _ (by rw [hS]; rfl)) ?_) (by rw [hS]; kernel_rfl))))
    have := List.length_filter_le (fun p : Pr => !decide (p.1 = key)) r
    simp; omega
  rw [if_neg c1, if_neg c1]
  rw [Bool.eq_false_iff.mpr c1] at t1
  have n1 : fName 1 ⟨S, s⟩ = some (.ok (.lst (rowD r)), ⟨S, s⟩) := by rw [hS]; exact name_ok rfl
  have t2 : fT (f2 pLt (fLen (fPk (fCallN 1 m__law_loud (fCons (fName 1) (rt []))))) (fIxD (fName 0) (rt (.int 0)))) ⟨S, s⟩ = some (.ok (decide (((r.filter loudP).length : Int) < v)), ⟨S, s⟩) := by
    have c : fCallN 1 m__law_loud (fCons (fName 1) (rt [])) ⟨S, s⟩ = some (.ok (.lst (rowD (r.filter loudP))), ⟨S, s⟩) := call_ok (ds := [.lst (rowD r)]) (g1 := ⟨S, s⟩) (cons_ok n1 rfl) rfl (loud_ok rfl (by omega) s)
    have p : fPk (fCallN 1 m__law_loud (fCons (fName 1) (rt []))) ⟨S, s⟩ = some (.ok (rowD (r.filter loudP)), ⟨S, s⟩) := by unfold fPk; rw [bd_ok c]; rfl
    have i0 : fIxD (fName 0) (rt (.int 0)) ⟨S, s⟩ = some (.ok (.int v), ⟨S, s⟩) := by rw [hS]; exact ix_ok (i := 0) (name_ok (d := M) rfl) rfl (by rw [hM]; rfl) rfl
    have := lt_int (len_ok p) i0
    rw [row_len] at this
    exact this
  by_cases c2 : ((r.filter loudP).length : Int) < v
  · rw [if_pos c2, if_pos c2]
    rw [decide_eq_true c2] at t2
    refine runB_ret (r := S) rfl ?_
    refine (congrArg (fun x => fb__law_gone_down ⟨x, s⟩) (show _ = S by rw [hS]; rfl)).trans ?_
    unfold fb__law_gone_down
    exact (seq_nx ((if_f t1).trans rfl)).trans (seq_ret ((if_t t2).trans (ret_ok (pair_ok (cat n1 (one _ _ (by rw [hS]; rfl)) (by simp; omega)) (by rw [hS]; kernel_rfl)))))
  rw [if_neg c2, if_neg c2]
  rw [decide_eq_false c2] at t2
  obtain ⟨S4, hS4⟩ : ∃ S : List Sl, S = [.dat M, .dat (.lst (rowD r)), .dat (.int key), .no, .dat (.lst (T.map .int)), .no] := ⟨_, rfl⟩
  have c4 : fSet 4 (fCallN 3 m__law_taken (fCons (fName 0) (fCons (fName 1) (fCons (fName 2) (rt []))))) ⟨S, s⟩ = some (.nx, ⟨S4, s⟩) :=
    (set_ok (g1 := ⟨S, s⟩) (call_ok (ds := [M, .lst (rowD r), .int key]) (g1 := ⟨S, s⟩) (cons_ok (name_ok (by rw [hS]; rfl)) (cons_ok n1 (cons_ok (name_ok (by rw [hS]; rfl)) rfl))) rfl tk)).trans (by rw [hS, hS4]; rfl)
  have t3 : fT (f2 pEq (fName 4) (fLet (fLst (rt [])))) ⟨S4, s⟩ = some (.ok T.isEmpty, ⟨S4, s⟩) := t_ok ((f2_ok (d := .lst (T.map .int)) (d' := .lst []) (g2 := ⟨S4, s⟩) (name_ok (by rw [hS4]; rfl)) rfl).trans (eq_nil T _))
  cases T with
  | nil =>
    refine runB_ret (r := S4) rfl ?_
    refine (congrArg (fun x => fb__law_gone_down ⟨x, s⟩) (show _ = S by rw [hS]; rfl)).trans ?_
    unfold fb__law_gone_down
    exact (seq_nx ((if_f t1).trans rfl)).trans ((seq_nx ((if_f t2).trans rfl)).trans ((seq_nx c4).trans (seq_ret ((if_t t3).trans (ret_ok (pair_ok (cat (a := r) (S' := S4) (name_ok (by rw [hS4]; rfl)) (one _ _ (by rw [hS4]; rfl)) (by simp; omega)) (by rw [hS4]; kernel_rfl)))))))
  | cons k T =>
    obtain ⟨R, hR⟩ : ∃ R, R = r.filter (fun p => !decide (p = (pr k "kept"))) := ⟨_, rfl⟩
    dsimp only
    rw [← hR]
    have lR : R.length ≤ 900 := by rw [hR]; exact Nat.le_trans (List.length_filter_le _ _) hl
    have i4 : ∀ S' : List Sl, S'[4]? = some (.dat (.lst ((k :: T).map .int))) → fIxD (fName 4) (rt (.int 0)) ⟨S', s⟩ = some (.ok (.int k), ⟨S', s⟩) := fun S' h => ix_ok (i := 0) (cs := D.int k :: T.map .int) (name_ok h) rfl rfl ((atI_nat (D.int k :: T.map .int) 0 (by simp)).trans rfl)
    have k5 := keep (S := S4) (s := s) (r := r) (i := 1) (j := 3) (fT (f2 pNe (fName 3) (fTup (fCons (fIxD (fName 4) (rt (.int 0))) (fCons (rt (.str "kept")) (rt [])))))) (fun p => !decide (p = (pr k "kept"))) (by rw [hS4]; rfl) (by omega) (by rw [hS4]; rfl) (fun _ => by rw [hS4]; rfl) (fun _ => by rw [hS4]; rfl)
      (fun p hp => t_ok ((f2_ok (d := prD p) (d' := prD (pr k "kept")) (name_ok (by rw [hS4]; rfl)) (tup_ok (ds := [.int k, .str "kept"]) (cons_ok (i4 _ (by rw [hS4]; rfl)) (cons_ok rfl rfl)) (by show 2 ≤ 100000; decide))).trans (pNe_pr (ok p hp) (show ("kept" : Str) ∈ MKS by decide) _)))
    rw [← hR] at k5
    obtain ⟨S5, hS5⟩ : ∃ S : List Sl, S = [.dat M, .dat (.lst (rowD r)), .dat (.int key), .no, .dat (.lst ((k :: T).map .int)), .own (rowD R)] := ⟨_, rfl⟩
    obtain ⟨S6, hS6⟩ : ∃ S : List Sl, S = [.dat M, .dat (.lst (rowD r)), .dat (.int key), .no, .dat (.lst ((k :: T).map .int)), .dat (.lst (rowD R))] := ⟨_, rfl⟩
    refine runB_ret (r := S6) rfl ?_
    refine (congrArg (fun x => fb__law_gone_down ⟨x, s⟩) (show _ = S by rw [hS]; rfl)).trans ?_
    unfold fb__law_gone_down
    refine (seq_nx ((if_f t1).trans rfl)).trans ((seq_nx ((if_f t2).trans rfl)).trans ((seq_nx c4).trans ((seq_nx ((if_f t3).trans rfl)).trans ((seq_nx (g1 := ⟨S5, s⟩) ((setO_ok k5).trans (by rw [hS4, hS5]; rfl))).trans (ret_ok ?_)))))
    have n5 : fName 5 ⟨S5, s⟩ = some (.ok (.lst (rowD R)), ⟨S6, s⟩) := by rw [hS5, hS6]; rfl
    have m5 : fCallN 3 m__law_marked (fCons (fName 5) (fCons (fIxD (fName 4) (rt (.int 0))) (fCons (rt (.str "waits")) (rt [])))) ⟨S5, s⟩ = some (.ok (.lst (rowD (markL R k "waits"))), ⟨S6, s⟩) :=
      call_ok (ds := [.lst (rowD R), .int k, .str "waits"]) (g1 := ⟨S6, s⟩) (cons_ok n5 (cons_ok (i4 _ (by rw [hS6]; rfl)) (cons_ok rfl rfl))) rfl (marked_ok rfl (by omega) s)
    have a5 := app_cat m5 (one "sounds" S6 (by rw [hS6]; rfl)) (by rw [row_len, row_len, List.length_map]; simp; omega)
    have h8 : fLet (fLst (fCons (fTup (fCons (rt (.str "cut")) (fCons (fIxD (fName 4) (rt (.int 0))) (rt [])))) (fCons (fTup (fCons (rt (.str "begin")) (fCons (fName 2) (rt [])))) (rt [])))) ⟨S6, s⟩ = some (.ok (.lst [.tup [.str "cut", .int k], .tup [.str "begin", .int key]]), ⟨S6, s⟩) := by
      rw [hS6]
      exact let_ok (lst_ok (ds := [.tup [.str "cut", .int k], .tup [.str "begin", .int key]]) (cons_ok (tup_ok (ds := [.str "cut", .int k]) (cons_ok rfl (cons_ok (i4 _ rfl) rfl)) (by show 2 ≤ 100000; decide)) (cons_ok (tup_ok (ds := [.str "begin", .int key]) (cons_ok rfl (cons_ok (name_ok rfl) rfl)) (by show 2 ≤ 100000; decide)) rfl)) (by show 2 ≤ 100000; decide))
    have a6 := a5.trans (show _ = some (.ok (.lst (rowD (markL R k "waits" ++ [pr key "sounds"]))), (⟨S6, s⟩ : Sg)) by rw [show rowD (markL R k "waits" ++ [pr key "sounds"]) = rowD (markL R k "waits") ++ rowD [pr key "sounds"] from List.map_append])
    exact tup_ok (cons_ok a6 (cons_ok h8 rfl)) (by show 2 ≤ 100000; decide)
end K05
namespace K05
open PyProof.Rows PySem.Spec PySem L2 DE
inductive Ev where | press | lift | up (k : Int) | down (k : Int)
def evD : Ev → D
  | .press => .tup [.str "press"]
  | .lift => .tup [.str "lift"]
  | .up k => .tup [.str "up", .int k]
  | .down k => .tup [.str "down", .int k]
abbrev stD (f : Bool) (r : List Pr) : D := .tup [.bl f, .tup (rowD r)]
abbrev lessL (r : List Pr) (gone : List Int) : List Pr := r.filter fun p => !gone.contains p.1
def keptP (p : Pr) : Bool := decide (p.2 = "kept")
def backR (v : Int) (b : Str) (r : List Pr) (gone : List Int) : List Pr := (fillL v b (lessL r gone).length (lessL r gone) []).1
def stepL (v : Int) (ws : List Str) (e b : Str) : Bool × List Pr → Ev → Bool × List Pr
  | (f, r), .press => (true, r)
  | (f, r), .down k => (f, downL v ws e r k)
  | (f, r), .up k => if r.contains (pr k "waits") = true then (f, r.filter fun p => !decide (p.1 = k)) else if f = true then (f, markL r k "kept") else (false, backR v b r [k])
  | (f, r), .lift => (false, backR v b r (keysOf (r.filter keptP)))
def backB (v : Int) (b : Str) (r : List Pr) (gone : List Int) : List Int := (fillL v b (lessL r gone).length (lessL r gone) []).2
abbrev endB (gone back : List Int) : List (Str × Int) := gone.map (fun x => (("end" : Str), x)) ++ back.map (fun x => (("back" : Str), x))
def deedsL (v : Int) (ws : List Str) (e b : Str) : Bool × List Pr → Ev → List (Str × Int)
  | _, .press => []
  | (_, r), .down k => downD v ws e r k
  | (f, r), .up k => if r.contains (pr k "waits") = true then [("leave", k)] else if f = true then [("keep", k)] else endB [k] (backB v b r [k])
  | (_, r), .lift => endB (keysOf (r.filter keptP)) (backB v b r (keysOf (r.filter keptP)))
abbrev evS (M : D) (f : Bool) (r : List Pr) (ev : D) (r4 : D) (s7 s8 : Sl) : List Sl := [.dat M, .dat (stD f r), .dat ev, .dat (.bl f), .dat r4, .no, .no, s7, s8, .no]
abbrev b0 : Ms := fParDD 3 4 (fIxD (fName 1) (rt (.int 0))) (fLet (bd (fPk (fIxD (fName 1) (rt (.int 1)))) rt))
theorem step0 (M : D) (f : Bool) (r : List Pr) (ev : D) (s : DS) : b0 ⟨[.dat M, .dat (stD f r), .dat ev, .no, .no, .no, .no, .no, .no, .no], s⟩ = some (.nx, ⟨evS M f r ev (.lst (rowD r)) .no .no, s⟩) := rfl
theorem res_ok {f : Mo D} {h : Mo (List D)} {g : Sg} {b : Bool} {xs : List D} {e : Mo D} {d : D} {g2 : Sg} (h1 : f g = some (.ok (.bl b), g)) (h2 : h g = some (.ok xs, g)) (h3 : e g = some (.ok d, g2)) : fTup (fCons (fTup (fCons f (fCons (fTupOf h) (rt [])))) (fCons e (rt []))) g = some (.ok (.tup [.tup [.bl b, .tup xs], d]), g2) :=
  tup_ok (ds := [.tup [.bl b, .tup xs], d]) (cons_ok (tup_ok (ds := [.bl b, .tup xs]) (cons_ok h1 (cons_ok (tupOf_ok h2) rfl)) (by show 2 ≤ 100000; decide)) (cons_ok h3 rfl)) (by show 2 ≤ 100000; decide)
/-- what is left behind keys that are gone, filled again -/
theorem refill_ok {v : Int} {C : D} {b : Str} (hb : b ∈ RET_) {f : Bool} {r : List Pr} (hl : r.length ≤ 900) (ok : okR r) {ev : D} {gone : List Int} (hg : gone.length ≤ 900) (s : DS) :
    ∃ (g : Sg), g.s = s ∧ fSeq (fAsg (fCallN 2 m__law_filled (fCons (fName 0) (fCons (fLet (fComp [6] (fName 4) (gN 6) (fT (f2 (pIn true) (fIxD (fName 6) (rt (.int 0))) (fName 7))) (fName 6))) (rt [])))) (gT 2 (gsCons (gN 4) (gsCons (gN 8) gsNil))))
      (fRet (fTup (fCons (fTup (fCons (rt (.bl false)) (fCons (fTupOf (fPeek 4)) (rt [])))) (fCons (fTupOf (fCat (fLet (fComp [9] (fName 7) (gN 9) ((rt true)) (fTup (fCons (rt (.str "end")) (fCons (fName 9) (rt [])))))) (fLet (fComp [9] (fName 8) (gN 9) ((rt true)) (fTup (fCons (rt (.str "back")) (fCons (fName 9) (rt [])))))))) (rt [])))))
      ⟨evS (.tup [.int v, C, .str b]) f r ev (.lst (rowD r)) (.dat (.lst (gone.map .int))) .no, s⟩ = some (.ret (.tup [stD false (backR v b r gone), .tup (ddD (endB gone (backB v b r gone)))]), g) := by
  obtain ⟨M, hM⟩ : ∃ M, M = D.tup [.int v, C, .str b] := ⟨_, rfl⟩
  have fo := filled_ok (v := v) (C := C) hb (r := lessL r gone) (ok.filter _) (by have := List.length_filter_le (fun p : Pr => !gone.contains p.1) r; show (List.filter _ r).length ≤ _; omega) s
  rw [← hM] at fo ⊢
  obtain ⟨bk, hbk⟩ : ∃ x, x = (fillL v b (lessL r gone).length (lessL r gone) []).2 := ⟨_, rfl⟩
  have eR : (fillL v b (lessL r gone).length (lessL r gone) []).1 = backR v b r gone := rfl
  rw [eR, ← hbk] at fo
  have eB : backB v b r gone = bk := hbk.symm
  rw [eB, show ddD (endB gone bk) = gone.map (fun x => D.tup [.str "end", .int x]) ++ bk.map (fun x => D.tup [.str "back", .int x]) by unfold ddD endB; rw [List.map_append, List.map_map, List.map_map]; rfl]
  have lbk : bk.length ≤ 900 := by
    have : ∀ (n : Nat) (q : List Pr) (f : List Int), (fillL v b n q f).2.length ≤ f.length + n := by
      intro n
      induction n with
      | zero => intro q f; exact Nat.le_refl _
      | succ n ih =>
        intro q f
        unfold fillL
        split
        · have := ih (markL q (backL b q) "sounds") (f ++ [backL b q]); simp at this; omega
        · have := ih q f; omega
    have h1 := this (lessL r gone).length (lessL r gone) []
    have h2 := List.length_filter_le (fun p : Pr => !gone.contains p.1) r
    rw [hbk]
    simp at h1
    exact Nat.le_trans h1 (Nat.le_trans h2 hl)
  have k := keep (S := evS M f r ev (.lst (rowD r)) (.dat (.lst (gone.map .int))) .no) (s := s) (r := r) (i := 4) (j := 6) (fT (f2 (pIn true) (fIxD (fName 6) (rt (.int 0))) (fName 7))) (fun p => !gone.contains p.1) rfl (by omega) rfl (fun _ => rfl) (fun _ => rfl)
    (fun p _ => in_ints (neg := true) (xs := gone) (pr0 (p := p) rfl) (name_ok rfl) rfl)
  have c1 : fAsg (fCallN 2 m__law_filled (fCons (fName 0) (fCons (fLet (fComp [6] (fName 4) (gN 6) (fT (f2 (pIn true) (fIxD (fName 6) (rt (.int 0))) (fName 7))) (fName 6))) (rt [])))) (gT 2 (gsCons (gN 4) (gsCons (gN 8) gsNil))) ⟨evS M f r ev (.lst (rowD r)) (.dat (.lst (gone.map .int))) .no, s⟩ =
      some (.nx, ⟨evS M f r ev (.lst (rowD (backR v b r gone))) (.dat (.lst (gone.map .int))) (.dat (.lst (bk.map .int))), s⟩) :=
    asg_ok (g1 := ⟨evS M f r ev (.lst (rowD r)) (.dat (.lst (gone.map .int))) .no, s⟩) (call_ok (ds := [M, .lst (rowD (lessL r gone))]) (g1 := ⟨evS M f r ev (.lst (rowD r)) (.dat (.lst (gone.map .int))) .no, s⟩) (cons_ok (name_ok rfl) (cons_ok (let_ok k) rfl)) rfl fo) rfl
  obtain ⟨S, hS⟩ : ∃ S, S = evS M f r ev (.lst (rowD (backR v b r gone))) (.dat (.lst (gone.map .int))) (.dat (.lst (bk.map .int))) := ⟨_, rfl⟩
  rw [← hS] at c1
  have lst : ∀ (i : Nat) (w : Str) (xs : List Int), S[i]? = some (.dat (.lst (xs.map .int))) → xs.length ≤ 1000 → fLet (fComp [9] (fName i) (gN 9) (rt true) (fTup (fCons (rt (.str w)) (fCons (fName 9) (rt []))))) ⟨S, s⟩ = some (.ok (.lst (xs.map fun x => D.tup [.str w, .int x])), ⟨S, s⟩) := fun i w xs h hx => by
    have c := compL_on (vs := [9]) (t := gN 9) (c := rt true) (e := fTup (fCons (rt (.str w)) (fCons (fName 9) (rt [])))) (E := D.int) (F := fun x : Int => D.tup [.str w, .int x]) (P := fun _ => true) (S := S) (s := s) xs fun q _ =>
      ⟨⟨S.set 9 (.dat (.int q)), s⟩, ⟨S.set 9 (.dat (.int q)), s⟩, rfl, rfl, fun _ => ⟨⟨S.set 9 (.dat (.int q)), s⟩, tup_ok (ds := [.str w, .int q]) (cons_ok rfl (cons_ok (name_ok (by rw [hS]; rfl)) rfl)) (by show 2 ≤ 100000; decide), by rw [hS]; rfl, rfl⟩, fun z => by cases z⟩
    rw [List.filter_eq_self.mpr fun _ _ => rfl] at c
    exact let_ok (comp_ok (vs := [9]) (fi := fName i) (t := gN 9) (g := ⟨S, s⟩) (g1 := ⟨S, s⟩) (name_ok h) rfl (by rw [List.length_map]; omega) (by show compL _ _ _ _ _ ⟨wipeR S [9], s⟩ = _; rw [show wipeR S [9] = S by rw [hS]; rfl]; exact c))
  have e9 : fCat (fLet (fComp [9] (fName 7) (gN 9) ((rt true)) (fTup (fCons (rt (.str "end")) (fCons (fName 9) (rt [])))))) (fLet (fComp [9] (fName 8) (gN 9) ((rt true)) (fTup (fCons (rt (.str "back")) (fCons (fName 9) (rt [])))))) ⟨S, s⟩ = some (.ok (gone.map (fun x => D.tup [.str "end", .int x]) ++ bk.map (fun x => D.tup [.str "back", .int x])), ⟨S, s⟩) := by
    unfold fCat
    rw [bd_ok (lst 7 "end" gone (by rw [hS]; rfl) (by omega)), bd_ok (lst 8 "back" bk (by rw [hS]; rfl) (by omega))]
    dsimp only
    rw [if_pos (by simp; omega)]; rfl
  exact ⟨⟨S, s⟩, rfl, (seq_nx c1).trans (ret_ok (res_ok rfl (peek_l (by rw [hS]; rfl)) (tupOf_ok e9)))⟩
theorem step_ok {v : Int} {ws : List Str} {e b : Str} (hb : b ∈ RET_) {f : Bool} {r : List Pr} (hl : r.length ≤ 900) (ok : okR r) (hv : 1 ≤ v) (hw : ∀ x ∈ ws, x ∈ FIL) (hwl : ws.length ≤ 1000) (ev : Ev) (s : DS) :
    m__law_stepped [.tup [.int v, .tup (csOf ws e), .str b], stD f r, evD ev] s = some (.ok (.tup [stD (stepL v ws e b (f, r) ev).1 (stepL v ws e b (f, r) ev).2, .tup (ddD (deedsL v ws e b (f, r) ev))]), s) := by
  obtain ⟨M, hM⟩ : ∃ M, M = D.tup [.int v, .tup (csOf ws e), .str b] := ⟨_, rfl⟩
  rw [← hM]
  cases ev with
  | press => kernel_rfl
  | down k =>
    have go := gone_ok (v := v) (ws := ws) (e := e) (b := b) hl ok hv hw hwl k s
    rw [← hM] at go
    rw [show deedsL v ws e b (f, r) (.down k) = downD v ws e r k from rfl, show (stepL v ws e b (f, r) (.down k)) = (f, downL v ws e r k) from rfl]
    obtain ⟨ds, hds⟩ : ∃ ds, ds = ddD (downD v ws e r k) := ⟨_, rfl⟩
    rw [← hds] at go ⊢
    refine (runB_ret (r := [.dat M, .dat (stD f r), .dat (evD (.down k)), .dat (.bl f), .dat (.lst (rowD (downL v ws e r k))), .dat (.lst ds), .no, .no, .no, .no]) rfl ?_)
    unfold fb__law_stepped
    refine (seq_nx (step0 M f r _ s)).trans ((seq_nx (g1 := ⟨evS M f r (evD (.down k)) (.lst (rowD r)) .no .no, s⟩) (by kernel_rfl)).trans (seq_ret ((if_t (g1 := ⟨evS M f r (evD (.down k)) (.lst (rowD r)) .no .no, s⟩) (by kernel_rfl)).trans ?_)))
    refine (seq_nx (asg_ok (d := .tup [.lst (rowD (downL v ws e r k)), .lst ds]) (g1 := ⟨evS M f r (evD (.down k)) (.lst (rowD r)) .no .no, s⟩) (g2 := ⟨[.dat M, .dat (stD f r), .dat (evD (.down k)), .dat (.bl f), .dat (.lst (rowD (downL v ws e r k))), .dat (.lst ds), .no, .no, .no, .no], s⟩) (call_ok (ds := [M, .lst (rowD r), .int k]) (g1 := ⟨evS M f r (evD (.down k)) (.lst (rowD r)) .no .no, s⟩) (by kernel_rfl) rfl go) rfl)).trans ?_
    exact ret_ok (res_ok (name_ok rfl) (peek_l rfl) (tupOf_ok (peek_l rfl)))
  | lift =>
    obtain ⟨S, hS⟩ : ∃ S, S = evS M f r (evD .lift) (.lst (rowD r)) .no .no := ⟨_, rfl⟩
    have hk : (keysOf (r.filter keptP)).length ≤ 900 := by rw [List.length_map]; exact Nat.le_trans (List.length_filter_le _ _) hl
    obtain ⟨g, hs, tl⟩ := refill_ok (v := v) (C := .tup (csOf ws e)) hb (f := f) hl ok (ev := evD .lift) hk s
    rw [← hM] at tl
    obtain ⟨gr, gs⟩ := g
    have hs : s = gs := hs.symm
    subst hs
    refine runB_ret (r := gr) rfl ?_
    unfold fb__law_stepped
    have e1 := step0 M f r (evD .lift) s
    rw [← hS] at e1
    refine (seq_nx e1).trans ((seq_nx (g1 := ⟨S, s⟩) (by rw [hS]; kernel_rfl)).trans ((seq_nx (g1 := ⟨S, s⟩) (by rw [hS]; kernel_rfl)).trans ((seq_nx (g1 := ⟨S, s⟩) (by rw [hS]; kernel_rfl)).trans ((seq_nx (g1 := ⟨S, s⟩) (by rw [hS]; kernel_rfl)).trans ?_))))
    have c := compL_on (vs := [6]) (t := gN 6) (c := fT (f2 pEq (fIxD (fName 6) (rt (.int 1))) (rt (.str "kept")))) (e := fIxD (fName 6) (rt (.int 0))) (E := prD) (F := fun p : Pr => D.int p.1) (P := keptP) (S := S) (s := s) r fun q _ =>
      ⟨⟨S.set 6 (.dat (prD q)), s⟩, ⟨S.set 6 (.dat (prD q)), s⟩, rfl, eq_str (pr1 (by rw [hS]; rfl)) rfl, fun _ => ⟨⟨S.set 6 (.dat (prD q)), s⟩, pr0 (by rw [hS]; rfl), by rw [hS]; rfl, rfl⟩, fun _ => ⟨by rw [hS]; rfl, rfl⟩⟩
    have k := comp_ok (vs := [6]) (fi := fName 4) (t := gN 6) (g := ⟨S, s⟩) (g1 := ⟨S, s⟩) (ds := rowD r) (name_ok (d := .lst (rowD r)) (by rw [hS]; rfl)) rfl (by rw [row_len]; omega) (by show compL _ _ _ _ _ ⟨wipeR S [6], s⟩ = _; rw [show wipeR S [6] = S by rw [hS]; rfl]; exact c)
    rw [show (r.filter keptP).map (fun p : Pr => D.int p.1) = (keysOf (r.filter keptP)).map D.int by simp] at k
    have c7 : fSet 7 (fIfE (fT (f2 pEq (fIxD (fName 2) (rt (.int 0))) (rt (.str "lift")))) (fLet (fComp [6] (fName 4) (gN 6) (fT (f2 pEq (fIxD (fName 6) (rt (.int 1))) (rt (.str "kept")))) (fIxD (fName 6) (rt (.int 0))))) (fLet (fLst (fCons (fIxD (fName 2) (rt (.int 1))) (rt []))))) ⟨S, s⟩ =
        some (.nx, ⟨evS M f r (evD .lift) (.lst (rowD r)) (.dat (.lst ((keysOf (r.filter keptP)).map .int))) .no, s⟩) :=
      (set_ok ((ifE_t (g1 := ⟨S, s⟩) (by rw [hS]; kernel_rfl)).trans (let_ok k))).trans (by rw [hS]; rfl)
    exact (seq_nx c7).trans tl
  | up k =>
    obtain ⟨S, hS⟩ : ∃ S, S = evS M f r (evD (.up k)) (.lst (rowD r)) .no .no := ⟨_, rfl⟩
    have e1 := step0 M f r (evD (.up k)) s
    rw [← hS] at e1
    have i1 : ∀ S' : List Sl, S'[2]? = some (.dat (evD (.up k))) → fIxD (fName 2) (rt (.int 1)) ⟨S', s⟩ = some (.ok (.int k), ⟨S', s⟩) := fun S' h => ix_ok (i := 1) (name_ok h) rfl rfl rfl
    have t1 : fT (f2 pEq (fIxD (fName 2) (rt (.int 0))) (rt (.str "up"))) ⟨S, s⟩ = some (.ok true, ⟨S, s⟩) := by rw [hS]; kernel_rfl
    have t2 : fT (f2 (pInD false) (fTup (fCons (fIxD (fName 2) (rt (.int 1))) (fCons (rt (.str "waits")) (rt [])))) (fName 4)) ⟨S, s⟩ = some (.ok (r.contains (pr k "waits")), ⟨S, s⟩) :=
      t_ok ((f2_ok (d := prD (pr k "waits")) (d' := .lst (rowD r)) (g2 := ⟨S, s⟩) (tup_ok (ds := [.int k, .str "waits"]) (cons_ok (i1 S (by rw [hS]; rfl)) (cons_ok rfl rfl)) (by show 2 ≤ 100000; decide)) (name_ok (by rw [hS]; rfl))).trans (pInD_row ok (show ("waits" : Str) ∈ MKS by decide) _))
    by_cases c1 : r.contains (pr k "waits") = true
    · rw [c1] at t2
      have k1 := keep (S := S) (s := s) (r := r) (i := 4) (j := 6) (fT (f2 pNe (fIxD (fName 6) (rt (.int 0))) (fIxD (fName 2) (rt (.int 1))))) (fun p => !decide (p.1 = k)) (by rw [hS]; rfl) (by omega) (by rw [hS]; rfl) (fun _ => by rw [hS]; rfl) (fun _ => by rw [hS]; rfl)
        (fun p _ => ne_int (pr0 (p := p) (by rw [hS]; rfl)) (i1 _ (by rw [hS]; rfl)))
      rw [show stepL v ws e b (f, r) (.up k) = (f, r.filter fun p => !decide (p.1 = k)) from if_pos c1, show deedsL v ws e b (f, r) (.up k) = [(("leave" : Str), k)] from if_pos c1]
      refine runB_ret (r := S) rfl ?_
      unfold fb__law_stepped
      refine (seq_nx e1).trans ((seq_nx (g1 := ⟨S, s⟩) (by rw [hS]; kernel_rfl)).trans ((seq_nx (g1 := ⟨S, s⟩) (by rw [hS]; kernel_rfl)).trans (seq_ret ((if_t ((and_t t1).trans t2)).trans (ret_ok (res_ok (name_ok (by rw [hS]; rfl)) k1 ?_))))))
      rw [hS]; kernel_rfl
    rw [Bool.eq_false_iff.mpr c1] at t2
    cases f with
    | true =>
      rw [show stepL v ws e b (true, r) (.up k) = (true, markL r k "kept") from (if_neg c1).trans (if_pos rfl), show deedsL v ws e b (true, r) (.up k) = [(("keep" : Str), k)] from (if_neg c1).trans (if_pos rfl)]
      refine runB_ret (r := S) rfl ?_
      unfold fb__law_stepped
      refine (seq_nx e1).trans ((seq_nx (g1 := ⟨S, s⟩) (by rw [hS]; kernel_rfl)).trans ((seq_nx (g1 := ⟨S, s⟩) (by rw [hS]; kernel_rfl)).trans ((seq_nx (g1 := ⟨S, s⟩) ((if_f ((and_t t1).trans t2)).trans rfl)).trans (seq_ret ((if_t (g1 := ⟨S, s⟩) ((and_t t1).trans (by rw [hS]; kernel_rfl))).trans (ret_ok (res_ok (name_ok (by rw [hS]; rfl)) ?_ ?_)))))))
      · refine (bd_ok (?_ : fCallN 3 m__law_marked (fCons (fName 4) (fCons (fIxD (fName 2) (rt (.int 1))) (fCons (rt (.str "kept")) (rt [])))) ⟨S, s⟩ = some (.ok (.lst (rowD (markL r k "kept"))), ⟨S, s⟩))).trans rfl
        exact (call_ok (ds := [.lst (rowD r), .int k, .str "kept"]) (g1 := ⟨S, s⟩) (cons_ok (name_ok (by rw [hS]; rfl)) (cons_ok (i1 S (by rw [hS]; rfl)) (cons_ok rfl rfl))) rfl (marked_ok (r := r) rfl (by omega) s))
      · rw [hS]; kernel_rfl
    | false =>
      rw [show stepL v ws e b (false, r) (.up k) = (false, backR v b r [k]) from (if_neg c1).trans (if_neg Bool.false_ne_true), show deedsL v ws e b (false, r) (.up k) = endB [k] (backB v b r [k]) from (if_neg c1).trans (if_neg Bool.false_ne_true)]
      obtain ⟨g, hs, tl⟩ := refill_ok (v := v) (C := .tup (csOf ws e)) hb (f := false) hl ok (ev := evD (.up k)) (gone := [k]) (by show 1 ≤ 900; decide) s
      rw [← hM] at tl
      obtain ⟨gr, gs⟩ := g
      have hs : s = gs := hs.symm
      subst hs
      refine runB_ret (r := gr) rfl ?_
      unfold fb__law_stepped
      refine (seq_nx e1).trans ((seq_nx (g1 := ⟨S, s⟩) (by rw [hS]; kernel_rfl)).trans ((seq_nx (g1 := ⟨S, s⟩) (by rw [hS]; kernel_rfl)).trans ((seq_nx (g1 := ⟨S, s⟩) ((if_f ((and_t t1).trans t2)).trans rfl)).trans ((seq_nx (g1 := ⟨S, s⟩) (by rw [hS]; kernel_rfl)).trans ((seq_nx (g1 := ⟨evS M false r (evD (.up k)) (.lst (rowD r)) (.dat (.lst ([k].map .int))) .no, s⟩) (by rw [hS]; kernel_rfl)).trans tl)))))
end K05
namespace K05
open PyProof.Rows PySem.Spec PySem L2 DE
/-! ### counts in rows -/
theorem loud_wait (p : Pr) : loudP p = !waitP p := rfl
theorem counts : ∀ r : List Pr, (r.filter loudP).length + (r.filter waitP).length = r.length
  | [] => rfl
  | p :: r => by
    have := counts r
    by_cases h : waitP p = true
    · rw [List.filter_cons_of_pos (p := waitP) h, List.filter_cons_of_neg (p := loudP) (by rw [loud_wait, h]; decide)]
      simp; omega
    · rw [List.filter_cons_of_neg (p := waitP) h, List.filter_cons_of_pos (p := loudP) (by rw [loud_wait, Bool.eq_false_iff.mpr h]; decide)]
      simp; omega
theorem filt_one {k : Int} : ∀ {l : List Pr}, (keysOf l).Nodup → k ∈ keysOf l → (l.filter fun p => !decide (p.1 = k)).length + 1 = l.length
  | [], _, h => by simp at h
  | p :: l, nd, h => by
    have nd' := List.nodup_cons.mp nd
    by_cases e : p.1 = k
    · rw [List.filter_cons_of_neg (by simp [e])]
      have : l.filter (fun p => !decide (p.1 = k)) = l := List.filter_eq_self.mpr fun q hq => by
        have : q.1 ≠ k := fun z => nd'.1 (show p.1 ∈ keysOf l by rw [e, ← z]; exact List.mem_map_of_mem hq)
        simp [this]
      rw [this]; rfl
    · rw [List.filter_cons_of_pos (by simp [e])]
      have h' : k ∈ keysOf l := by
        rcases List.mem_cons.mp h with h | h
        · exact absurd h.symm e
        · exact h
      have := filt_one nd'.2 h'; simp only [List.length_cons]; omega
theorem nd_sub {r q : List Pr} (h : q.Sublist r) (nd : (keysOf r).Nodup) : (keysOf q).Nodup := (h.map (·.1)).nodup nd
theorem nd_uniq {r : List Pr} (nd : (keysOf r).Nodup) {p q : Pr} (hp : p ∈ r) (hq : q ∈ r) (e : p.1 = q.1) : p = q := by
  induction r with
  | nil => cases hp
  | cons a r ih =>
    have nd' := List.nodup_cons.mp nd; rcases List.mem_cons.mp hp with rfl | hp'
    · rcases (List.mem_cons.mp hq) with rfl | hq'
      · rfl
      · exact absurd (show p.1 ∈ keysOf r by rw [e]; exact List.mem_map_of_mem hq') nd'.1
    · rcases (List.mem_cons.mp hq) with rfl | hq'
      · exact absurd (show q.1 ∈ keysOf r by rw [← e]; exact List.mem_map_of_mem hp') nd'.1
      · exact ih nd'.2 hp' hq'
theorem keys_mark (r : List Pr) (k : Int) (m : Str) : keysOf (markL r k m) = keysOf r := by
  refine (List.map_map ..).trans (List.map_congr_left fun p _ => ?_)
  show (markP k m p).1 = p.1
  unfold markP; split <;> rfl
theorem mark_len (P : Pr → Bool) (r : List Pr) (k : Int) (m : Str) : ((markL r k m).filter P).length = (r.filter fun p => P (markP k m p)).length := by
  rw [List.filter_map, List.length_map]; rfl
theorem end_mem {w : Str} {hs : List Int} (h : hs ≠ []) {x : Int} (hx : x ∈ endL w hs) : x ∈ hs := by
  unfold endL at hx
  split at hx
  · exact List.mem_of_mem_take hx
  split at hx
  · exact List.mem_of_mem_drop hx
  split at hx
  · rw [List.mem_singleton.mp hx]; exact (minL_is hs h).1
  split at hx
  · rw [List.mem_singleton.mp hx]; exact (maxL_is hs h).1
  · cases hx
theorem mem_key {r : List Pr} {k : Int} (h : k ∈ keysOf r) : ∃ p ∈ r, p.1 = k := by
  obtain ⟨p, hp, rfl⟩ := List.mem_map.mp h; exact ⟨p, hp, rfl⟩
theorem key_mem {r : List Pr} {p : Pr} (h : p ∈ r) : p.1 ∈ keysOf r := List.mem_map_of_mem h
theorem wait_is {p : Pr} (h : waitP p = true) : p = pr p.1 "waits" := by
  have : p.2 = "waits" := of_decide_eq_true h
  exact Prod.ext rfl this
/-! ### the return -/
abbrev nL (r : List Pr) : Int := ((r.filter loudP).length : Int)
def waitsB (v : Int) (b : Str) (r : List Pr) : Prop := b = "none" ∨ v ≤ nL r ∨ r.filter waitP = []
theorem back_mem {b : Str} (hb : b ∈ RET_) {v : Int} {r : List Pr} (g : goesB v b r) : pr (backL b r) "waits" ∈ r := by
  obtain ⟨g1, g2, g3⟩ := g
  have ne : keysOf (r.filter waitP) ≠ [] := by simpa using g2
  have e := end_ne hb g1 ne
  have : backL b r ∈ keysOf (r.filter waitP) := end_mem ne (w := b) (by rw [e]; exact List.mem_cons_self)
  obtain ⟨p, hp, k⟩ := mem_key this
  obtain ⟨h1, h2⟩ := List.mem_filter.mp hp
  rw [← k, ← wait_is h2]
  exact h1
theorem wait_sounds {r : List Pr} {k : Int} (nd : (keysOf r).Nodup) (h : pr k "waits" ∈ r) : ((markL r k "sounds").filter waitP).length + 1 = (r.filter waitP).length := by
  rw [mark_len]
  have e : (r.filter fun p => waitP (markP k "sounds" p)) = (r.filter waitP).filter fun p => !decide (p.1 = k) := by
    rw [List.filter_filter]
    refine List.filter_congr fun p _ => ?_
    unfold markP
    by_cases c : p.1 = k
    · rw [if_pos c]; simp [c]; rfl
    · rw [if_neg c]; simp [c]
  rw [e]
  exact filt_one (nd_sub (List.filter_sublist) nd) (by
    have : pr k "waits" ∈ r.filter waitP := List.mem_filter.mpr ⟨h, rfl⟩
    exact key_mem this)
structure Fills (b : Str) (v : Int) (r q : List Pr) : Prop where
  keys : keysOf q = keysOf r
  ok : okR q
  kept : ∀ p ∈ q, p.2 = "kept" → p ∈ r
  rest : ∀ p ∈ q, p.2 ≠ "kept" → ∃ m : Str, m ≠ "kept" ∧ pr p.1 m ∈ r
  lo : nL q ≤ v
  wt : waitsB v b q
theorem fill_is {v : Int} {b : Str} (hb : b ∈ RET_) : ∀ (n : Nat) (r : List Pr) (f : List Int), (r.filter waitP).length ≤ n → (keysOf r).Nodup → okR r → nL r ≤ v → Fills b v r (fillL v b n r f).1
  | 0, r, f, h, nd, ok, lo => ⟨rfl, ok, fun p hp _ => hp, fun p hp hk => ⟨p.2, hk, hp⟩, lo, .inr (.inr (by cases e : r.filter waitP with | nil => exact e | cons a l => rw [e] at h; simp at h))⟩
  | n + 1, r, f, h, nd, ok, lo => by
    show Fills b v r (if goesB v b r then fillL v b n (markL r (backL b r) "sounds") (f ++ [backL b r]) else fillL v b n r f).1
    by_cases g : goesB v b r
    · rw [if_pos g]
      have hm := back_mem hb g
      have w := wait_sounds nd hm
      have c1 := counts r
      have c2 := counts (markL r (backL b r) "sounds")
      rw [List.length_map] at c2
      have g3 := g.2.2
      obtain ⟨i1, i2, i3, i4, i5, i6⟩ := fill_is hb n (markL r (backL b r) "sounds") (f ++ [backL b r]) (by omega) (by rw [keys_mark]; exact nd) (okR_mark ok _ (show ("sounds" : Str) ∈ MKS by decide)) (by show ((_ : Nat) : Int) ≤ v; omega)
      refine ⟨i1.trans (keys_mark ..), i2, fun p hp hk => ?_, fun p hp hk => ?_, i5, i6⟩
      · obtain ⟨q, hq, e⟩ := List.mem_map.mp (i3 p hp hk)
        unfold markP at e
        split at e
        · rw [← e] at hk; exact absurd hk (show ¬ ("sounds" : Str) = "kept" by decide)
        · rw [← e]; exact hq
      · obtain ⟨m, hm1, hm2⟩ := i4 p hp hk
        obtain ⟨q, hq, e⟩ := List.mem_map.mp hm2
        unfold markP at e
        split at e
        · rename_i c
          have : p.1 = backL b r := by have := congrArg Prod.fst e; exact this.symm.trans c
          exact ⟨"waits", by decide, by rw [this]; exact hm⟩
        · exact ⟨m, hm1, by rw [← e]; exact hq⟩
    · rw [if_neg g]
      have : ∀ (n : Nat) (f : List Int), (fillL v b n r f).1 = r := by
        intro n
        induction n with
        | zero => intro f; rfl
        | succ n ih =>
          intro f
          show (if goesB v b r then _ else fillL v b n r f).1 = r
          rw [if_neg g]; exact ih f
      rw [this]
      refine ⟨rfl, ok, fun p hp _ => hp, fun p hp hk => ⟨p.2, hk, hp⟩, lo, ?_⟩
      by_cases b1 : b = "none"
      · exact .inl b1
      by_cases b2 : r.filter waitP = []
      · exact .inr (.inr b2)
      · exact .inr (.inl (by
          have k : ¬ nL r < v := fun z => g ⟨b1, b2, z⟩
          exact Int.not_lt.mp k))
end K05
namespace K05
open PyProof.Rows PySem.Spec PySem L2 DE
/-! ### states that hold -/
/-- the keys that the law's states have -/
abbrev Kok (k : Int) : Prop := (0 ≤ k ∧ k ≤ 87) ∧ ¬ (30 ≤ k ∧ k ≤ 38)
structure Val (v : Int) (b : Str) (f : Bool) (r : List Pr) : Prop where
  ok : okR r
  key : ∀ p ∈ r, Kok p.1
  nd : (keysOf r).Nodup
  pd : f = false → ∀ p ∈ r, p.2 ≠ "kept"
  lo : nL r ≤ v
  wt : waitsB v b r
abbrev Held (r : List Pr) (hs : List Int) : Prop := ∀ p ∈ r, p.2 ≠ "kept" → p.1 ∈ hs
theorem taken_is {v : Int} {ws : List Str} {e : Str} {r : List Pr} {key k : Int} {T : List Int} (hv : 1 ≤ v) (h : takenL v ws e r key = k :: T) : ∃ p ∈ r, p.1 = k ∧ loudP p = true := by
  unfold takenL at h
  split at h
  · cases h
  · rename_i c
    split at h
    · cases h
    · rename_i cur hc
      have hr : r.filter loudP ≠ [] := by intro z; rw [z] at c; exact c (by show ((0 : Nat) : Int) < v; omega)
      obtain ⟨n1, n2, n3⟩ := narrow_ne ws _ hr hc
      have : k ∈ keysOf cur := end_mem (w := e) (by simpa using n1) (by rw [h]; exact List.mem_cons_self)
      obtain ⟨p, hp, e⟩ := mem_key this
      obtain ⟨m1, m2⟩ := List.mem_filter.mp (n3 p hp)
      exact ⟨p, m1, e, m2⟩
theorem nL_app (r : List Pr) (p : Pr) : nL (r ++ [p]) = nL r + (if loudP p = true then 1 else 0) := by
  show (((r ++ [p]).filter loudP).length : Int) = ((r.filter loudP).length : Int) + _
  rw [List.filter_append, List.length_append]
  cases h : loudP p <;> simp [h]
theorem nW_app (r : List Pr) (p : Pr) : (r ++ [p]).filter waitP = r.filter waitP ++ (if waitP p = true then [p] else []) := by
  rw [List.filter_append]
  cases h : waitP p <;> simp [h]
theorem okR_one {k : Int} {m : Str} (h : m ∈ MKS) : okR [pr k m] := fun p hp => by rw [List.mem_singleton.mp hp]; exact h
theorem nd_app {r : List Pr} {k : Int} {m : Str} (nd : (keysOf r).Nodup) (h : k ∉ keysOf r) : (keysOf (r ++ [pr k m])).Nodup := by
  rw [show keysOf (r ++ [pr k m]) = keysOf r ++ [k] by simp]
  rw [List.nodup_append]
  refine ⟨nd, by simp, fun a ha c hc => ?_⟩
  rw [List.mem_singleton.mp hc]
  rintro rfl
  exact h ha
theorem down_val {v : Int} {ws : List Str} {e b : Str} {f : Bool} {r : List Pr} {hs : List Int} (hv : 1 ≤ v) (V : Val v b f r) (H : Held r hs) {k : Int} (hk : Kok k) (hn : k ∉ hs) :
    Val v b f (downL v ws e r k) ∧ Held (downL v ws e r k) (hs ++ [k]) ∧ (downL v ws e r k).length ≤ r.length + 1 := by
  obtain ⟨ok, key, nd, pd, lo, wt⟩ := V
  have kk : ∀ p ∈ r, p.1 = k → p = pr k "kept" := fun p hp c => by
    by_cases m : p.2 = "kept"
    · exact Prod.ext c m
    · exact absurd (c ▸ H p hp m) hn
  have hm : ∀ {q : List Pr} {m : Str}, (∀ p ∈ q, p.1 ∈ keysOf r ∧ (p.2 ≠ "kept" → p.1 ∈ hs)) → Held (q ++ [pr k m]) (hs ++ [k]) := fun h p hp m => by
    rcases (List.mem_append.mp hp) with hp | hp
    · exact List.mem_append_left _ ((h p hp).2 m)
    · rw [(List.mem_singleton.mp hp)]; simp
  have hkey : ∀ {q : List Pr} {m : Str}, (∀ p ∈ q, Kok p.1) → ∀ p ∈ q ++ [pr k m], Kok p.1 := fun h p hp => by
    rcases (List.mem_append.mp hp) with hp | hp
    · exact h p hp
    · rw [(List.mem_singleton.mp hp)]; exact hk
  have hpd : ∀ {q : List Pr} {m : Str}, m ≠ "kept" → (f = false → ∀ p ∈ q, p.2 ≠ "kept") → f = false → ∀ p ∈ q ++ [pr k m], p.2 ≠ "kept" := fun h1 h2 hf p hp => by
    rcases (List.mem_append.mp hp) with hp | hp
    · exact h2 hf p hp
    · rw [(List.mem_singleton.mp hp)]; exact h1
  unfold downL
  by_cases c1 : r.contains (pr k "kept") = true
  · rw [if_pos c1]
    have c1 : pr k "kept" ∈ r := by simpa using c1
    have sub : (r.filter fun p => !decide (p.1 = k)).Sublist r := List.filter_sublist
    have cnt : nL (r.filter fun p => !decide (p.1 = k)) + 1 = nL r := by
      have e1 : (r.filter fun p => !decide (p.1 = k)).filter loudP = (r.filter loudP).filter fun p => !decide (p.1 = k) := by
        rw [List.filter_filter, List.filter_filter]
        exact List.filter_congr fun p _ => Bool.and_comm _ _
      have := filt_one (k := k) (l := r.filter loudP) (nd_sub List.filter_sublist nd) (key_mem (p := pr k "kept") (List.mem_filter.mpr ⟨c1, rfl⟩))
      show (((r.filter fun p => !decide (p.1 = k)).filter loudP).length : Int) + 1 = ((r.filter loudP).length : Int)
      rw [e1]; omega
    refine ⟨⟨(ok.filter _).app (okR_one (show ("sounds" : Str) ∈ MKS by decide)), hkey fun p hp => key p (sub.mem hp), nd_app (nd_sub sub nd) ?_, hpd (by decide) fun hf p hp => pd hf p (sub.mem hp), ?_, ?_⟩, hm fun p hp => ⟨key_mem (sub.mem hp), H p (sub.mem hp)⟩, ?_⟩
    · intro h
      obtain ⟨p, hp, e⟩ := mem_key h
      have := (List.mem_filter.mp hp).2
      simp [e] at this
    · rw [nL_app, if_pos (show loudP (pr k "sounds") = true by rfl)]; omega
    · rcases wt with w | w | w
      · exact .inl w
      · refine .inr (.inl ?_)
        rw [nL_app, if_pos (show loudP (pr k "sounds") = true by rfl)]; omega
      · refine .inr (.inr ?_)
        rw [nW_app, if_neg (show ¬ waitP (pr k "sounds") = true from Bool.false_ne_true)]
        rw [List.append_nil, List.filter_eq_nil_iff]
        intro p hp
        exact List.filter_eq_nil_iff.mp w p (sub.mem hp)
    · have := sub.length_le
      rw [List.length_append]; show _ + 1 ≤ _; omega
  rw [if_neg c1]
  have c1 : pr k "kept" ∉ r := by simpa using c1
  have nk : k ∉ keysOf r := fun h => by
    obtain ⟨p, hp, e⟩ := mem_key h
    exact c1 (kk p hp e ▸ hp)
  by_cases c2 : ((r.filter loudP).length : Int) < v
  · rw [if_pos c2]
    refine ⟨⟨ok.app (okR_one (show ("sounds" : Str) ∈ MKS by decide)), hkey key, nd_app nd nk, hpd (by decide) pd, ?_, ?_⟩, hm fun p hp => ⟨key_mem hp, H p hp⟩, by rw [List.length_append]; exact Nat.le_refl _⟩
    · rw [nL_app, if_pos (show loudP (pr k "sounds") = true by rfl)]
      have : nL r < v := c2
      omega
    · rcases wt with w | w | w
      · exact .inl w
      · exact absurd c2 (Int.not_lt.mpr w)
      · refine .inr (.inr ?_)
        rw [nW_app, if_neg (show ¬ waitP (pr k "sounds") = true from Bool.false_ne_true), w]; rfl
  rw [if_neg c2]
  cases hT : takenL v ws e r k with
  | nil =>
    dsimp only
    refine ⟨⟨ok.app (okR_one (show ("waits" : Str) ∈ MKS by decide)), hkey key, nd_app nd nk, hpd (by decide) pd, ?_, ?_⟩, hm fun p hp => ⟨key_mem hp, H p hp⟩, by rw [List.length_append]; exact Nat.le_refl _⟩
    · rw [nL_app, if_neg (show ¬ loudP (pr k "waits") = true from Bool.false_ne_true)]
      omega
    · refine .inr (.inl ?_)
      rw [nL_app, if_neg (show ¬ loudP (pr k "waits") = true from Bool.false_ne_true)]
      have : v ≤ nL r := Int.not_lt.mp c2
      omega
  | cons j T =>
    dsimp only
    obtain ⟨p, hp, rfl, lp⟩ := taken_is hv hT
    obtain ⟨R, hR⟩ : ∃ R, R = r.filter (fun q => !decide (q = pr p.1 "kept")) := ⟨_, rfl⟩
    rw [← hR]
    have sub : R.Sublist r := by rw [hR]; exact List.filter_sublist
    have okq : okR R := by rw [hR]; exact ok.filter _
    have kq : ∀ q ∈ markL R p.1 "waits", ∃ q0 ∈ r, q.1 = q0.1 ∧ (q = q0 ∧ q.1 ≠ p.1 ∨ q.2 = "waits" ∧ q0.2 ≠ "kept") := fun q hq => by
      obtain ⟨q0, h0, e⟩ := List.mem_map.mp hq
      refine ⟨q0, sub.mem h0, ?_⟩
      unfold markP at e
      split at e
      · rename_i c
        rw [← e]
        refine ⟨rfl, .inr ⟨rfl, fun z => ?_⟩⟩
        rw [hR] at h0
        have := (List.mem_filter.mp h0).2
        rw [show q0 = pr p.1 "kept" from Prod.ext c z] at this
        simp at this
      · rename_i c
        rw [← e]; exact ⟨rfl, .inl ⟨rfl, c⟩⟩
    have cnt : nL (markL R p.1 "waits") + 1 = nL r := by
      have e1 : (R.filter fun q => loudP (markP p.1 "waits" q)) = (r.filter loudP).filter fun q => !decide (q.1 = p.1) := by
        rw [hR, List.filter_filter, List.filter_filter]
        refine List.filter_congr fun q _ => ?_
        unfold markP
        by_cases c : q.1 = p.1
        · rw [if_pos c, decide_eq_true c]; rfl
        · rw [if_neg c, decide_eq_false c]
          rw [decide_eq_false (fun z : q = pr p.1 "kept" => c (by rw [z]))]
          cases loudP q <;> rfl
      have := filt_one (k := p.1) (l := r.filter loudP) (nd_sub List.filter_sublist nd) (key_mem (List.mem_filter.mpr ⟨hp, lp⟩))
      show (((markL R p.1 "waits").filter loudP).length : Int) + 1 = ((r.filter loudP).length : Int)
      rw [mark_len, e1]; omega
    refine ⟨⟨(okR_mark okq _ (show ("waits" : Str) ∈ MKS by decide)).app (okR_one (show ("sounds" : Str) ∈ MKS by decide)), hkey fun q hq => ?_, nd_app ?_ ?_, hpd (by decide) fun hf q hq => ?_, ?_, ?_⟩, hm fun q hq => ?_, ?_⟩
    · obtain ⟨q0, h0, e0, _⟩ := kq q hq
      rw [e0]; exact key q0 h0
    · rw [keys_mark]; exact nd_sub sub nd
    · rw [keys_mark]
      exact fun h => nk ((sub.map (·.1)).mem h)
    · obtain ⟨q0, h0, e0, h | h⟩ := kq q hq
      · rw [h.1]; exact pd hf q0 h0
      · rw [h.1]; decide
    · rw [nL_app, if_pos (show loudP (pr k "sounds") = true by rfl)]; omega
    · refine .inr (.inl ?_)
      rw [nL_app, if_pos (show loudP (pr k "sounds") = true by rfl)]
      have : v ≤ nL r := Int.not_lt.mp c2
      omega
    · obtain ⟨q0, h0, e0, h⟩ := kq q hq
      refine ⟨by rw [e0]; exact key_mem h0, fun m => ?_⟩
      rcases h with h | h
      · rw [h.1] at m ⊢; exact H q0 h0 m
      · rw [e0]; exact H q0 h0 h.2
    · rw [List.length_append, List.length_map]
      have := sub.length_le
      show _ + 1 ≤ _; omega
end K05
namespace K05
open PyProof.Rows PySem.Spec PySem L2 DE
def evOk (hs : List Int) : Ev → Prop
  | .down k => Kok k ∧ k ∉ hs
  | _ => True
def heldL (hs : List Int) : Ev → List Int
  | .press => hs
  | .lift => hs
  | .up k => hs.filter fun x => !decide (x = k)
  | .down k => hs ++ [k]
theorem less_sub (r : List Pr) (gone : List Int) : (lessL r gone).Sublist r := List.filter_sublist
theorem back_val {v : Int} {b : Str} (hb : b ∈ RET_) {f : Bool} {r : List Pr} {hs : List Int} (V : Val v b f r) (H : Held r hs) {gone : List Int} (hg : ∀ p ∈ r, p.2 = "kept" → p.1 ∈ gone) :
    Val v b false (backR v b r gone) ∧ (∀ p ∈ backR v b r gone, p.1 ∉ gone ∧ p.1 ∈ hs) ∧ (backR v b r gone).length ≤ r.length := by
  obtain ⟨ok, key, nd, pd, lo, wt⟩ := V
  have lo' : nL (lessL r gone) ≤ v := by
    have : ((lessL r gone).filter loudP).length ≤ (r.filter loudP).length := ((less_sub r gone).filter _).length_le
    have : nL (lessL r gone) ≤ nL r := Int.ofNat_le.mpr this
    omega
  obtain ⟨i1, i2, i3, i4, i5, i6⟩ := fill_is hb (lessL r gone).length (lessL r gone) [] (List.length_filter_le _ _) (nd_sub (less_sub r gone) nd) (ok.filter _) lo'
  have nk : ∀ p ∈ backR v b r gone, p.2 ≠ "kept" := fun p hp z => by
    have h := i3 p hp z
    obtain ⟨h1, h2⟩ := List.mem_filter.mp h
    have := hg p h1 z
    simp [this] at h2
  have mem : ∀ p ∈ backR v b r gone, ∃ q ∈ r, q.1 = p.1 ∧ q.2 ≠ "kept" ∧ q.1 ∉ gone := fun p hp => by
    obtain ⟨m, m1, m2⟩ := i4 p hp (nk p hp)
    obtain ⟨h1, h2⟩ := List.mem_filter.mp m2
    exact ⟨pr p.1 m, h1, rfl, m1, fun z => by simp [z] at h2⟩
  refine ⟨⟨i2, fun p hp => ?_, ?_, fun _ => nk, i5, i6⟩, fun p hp => ?_, ?_⟩
  · obtain ⟨q, h1, h2, _⟩ := mem p hp
    rw [← h2]; exact key q h1
  · show (keysOf (fillL v b _ (lessL r gone) []).1).Nodup
    rw [i1]; exact nd_sub (less_sub r gone) nd
  · obtain ⟨q, h1, h2, h3, h4⟩ := mem p hp
    rw [← h2]; exact ⟨h4, H q h1 h3⟩
  · have e : (keysOf (backR v b r gone)).length = (keysOf (lessL r gone)).length := congrArg List.length i1
    rw [List.length_map, List.length_map] at e; have := (less_sub r gone).length_le
    omega
theorem step_val {v : Int} {ws : List Str} {e b : Str} (hb : b ∈ RET_) {f : Bool} {r : List Pr} {hs : List Int} (hv : 1 ≤ v) (V : Val v b f r) (H : Held r hs) {ev : Ev} (he : evOk hs ev) :
    Val v b (stepL v ws e b (f, r) ev).1 (stepL v ws e b (f, r) ev).2 ∧ Held (stepL v ws e b (f, r) ev).2 (heldL hs ev) ∧ (stepL v ws e b (f, r) ev).2.length ≤ r.length + 1 := by
  cases ev with
  | press => exact ⟨⟨V.ok, V.key, V.nd, fun z => (by cases z), V.lo, V.wt⟩, H, Nat.le_succ _⟩
  | down k => exact down_val hv V H he.1 he.2
  | lift =>
    obtain ⟨a, c, d⟩ := back_val hb V H (gone := keysOf (r.filter keptP)) fun p hp m => key_mem (List.mem_filter.mpr ⟨hp, decide_eq_true m⟩)
    exact ⟨a, fun p hp _ => (c p hp).2, Nat.le_succ_of_le d⟩
  | up k =>
    by_cases c1 : r.contains (pr k "waits") = true
    · rw [show stepL v ws e b (f, r) (.up k) = (f, r.filter fun p => !decide (p.1 = k)) from if_pos c1]
      have c1 : pr k "waits" ∈ r := by simpa using c1
      obtain ⟨ok, key, nd, pd, lo, wt⟩ := V
      have sub : (r.filter fun p => !decide (p.1 = k)).Sublist r := List.filter_sublist
      have e1 : (r.filter fun p => !decide (p.1 = k)).filter loudP = r.filter loudP := by
        rw [List.filter_filter]; refine List.filter_congr fun p hp => ?_
        by_cases c : p.1 = k
        · rw [nd_uniq nd hp c1 c]
          rfl
        · simp [c]
      have e2 : nL (r.filter fun p => !decide (p.1 = k)) = nL r := by show (((_ : List Pr).length : Nat) : Int) = _; rw [e1]
      refine ⟨⟨ok.filter _, fun p hp => key p (sub.mem hp), nd_sub sub nd, fun hf p hp => pd hf p (sub.mem hp), by show nL (r.filter fun p => !decide (p.1 = k)) ≤ v; rw [e2]; exact lo, ?_⟩, fun p hp m => ?_, Nat.le_succ_of_le sub.length_le⟩
      · rcases wt with w | w | w
        · exact .inl w
        · exact .inr (.inl (by show v ≤ nL (r.filter fun p => !decide (p.1 = k)); rw [e2]; exact w))
        · refine .inr (.inr ?_)
          rw [List.filter_eq_nil_iff]
          intro p hp
          exact List.filter_eq_nil_iff.mp w p (sub.mem hp)
      · exact List.mem_filter.mpr ⟨H p (sub.mem hp) m, (List.mem_filter.mp hp).2⟩
    · cases f with
      | true =>
        rw [show stepL v ws e b (true, r) (.up k) = (true, markL r k "kept") from (if_neg c1).trans (if_pos rfl)]
        have c1 : pr k "waits" ∉ r := by simpa using c1
        obtain ⟨ok, key, nd, pd, lo, wt⟩ := V
        have lw : ∀ p ∈ r, waitP (markP k "kept" p) = waitP p := fun p hp => by
          unfold markP
          split
          · rename_i c
            have : ¬ waitP p = true := fun z => c1 (by rw [← c, ← wait_is z]; exact hp)
            rw [Bool.eq_false_iff.mpr this]; rfl
          · rfl
        have e2 : nL (markL r k "kept") = nL r := by
          show (((markL r k "kept").filter loudP).length : Int) = ((r.filter loudP).length : Int)
          rw [mark_len]
          rw [List.filter_congr fun p hp => show loudP (markP k "kept" p) = loudP p by rw [loud_wait, loud_wait, lw p hp]]
        refine ⟨⟨okR_mark ok _ (show ("kept" : Str) ∈ MKS by decide), fun p hp => ?_, by rw [keys_mark]; exact nd, fun z => (by cases z), by show nL (markL r k "kept") ≤ v; rw [e2]; exact lo, ?_⟩, fun p hp m => ?_, by rw [List.length_map]; exact Nat.le_succ _⟩
        · have : p.1 ∈ keysOf (markL r k "kept") := key_mem hp
          rw [keys_mark] at this
          obtain ⟨q, hq, e⟩ := mem_key this
          rw [← e]; exact key q hq
        · rcases wt with w | w | w
          · exact .inl w
          · exact .inr (.inl (by show v ≤ nL (markL r k "kept"); rw [e2]; exact w))
          · refine .inr (.inr ?_)
            rw [List.filter_eq_nil_iff]
            intro p hp
            obtain ⟨q, hq, rfl⟩ := List.mem_map.mp hp; rw [lw q hq]
            exact List.filter_eq_nil_iff.mp w q hq
        · obtain ⟨q, hq, e⟩ := List.mem_map.mp hp
          unfold markP at e
          split at e
          · rw [← e] at m; exact absurd rfl m
          · rename_i c
            rw [← e] at m ⊢
            exact List.mem_filter.mpr ⟨H q hq m, by simp [c]⟩
      | false =>
        rw [show stepL v ws e b (false, r) (.up k) = (false, backR v b r [k]) from (if_neg c1).trans (if_neg Bool.false_ne_true)]
        obtain ⟨a, c, d⟩ := back_val hb V H (gone := [k]) fun p hp m => absurd m (V.pd rfl p hp)
        exact ⟨a, fun p hp _ => List.mem_filter.mpr ⟨(c p hp).2, by have := (c p hp).1; simpa using this⟩, Nat.le_succ_of_le d⟩
end K05
namespace K05
open PyProof.Rows PySem.Spec PySem L2 DE
/-! ### a drawn play, a state of it -/
def evsOk : List Int → List Ev → Prop
  | _, [] => True
  | hs, e :: es => evOk hs e ∧ evsOk (heldL hs e) es
theorem evs_snoc : ∀ {es : List Ev} {hs : List Int} {e : Ev}, evsOk hs es → evOk (es.foldl heldL hs) e → evsOk hs (es ++ [e])
  | [], hs, e, _, h => ⟨h, trivial⟩
  | a :: es, hs, e, h, k => ⟨h.1, evs_snoc h.2 k⟩
abbrev pB : Ms := fIf (fAnd (fT (fName 3)) (fT (f2 pEq (fCallN 2 m__law_draw (fCons (fName 0) (fCons (rt (.int 5)) (rt [])))) (rt (.int 0))))) (fSeq (fExp (fApp 6 (fIfE (fT (fName 5)) (fTup (fCons (rt (.str "lift")) (rt []))) (fTup (fCons (rt (.str "press")) (rt []))))))
  (fSet 5 (fNotV (fName 5)))) (fSeq (fSet 8 (fCallN 2 m__law_of (fCons (fName 0) (fCons (fName 1) (rt [])))))
  (fIf (fT (f2 (pIn false) (fName 8) (fName 4))) (fSeq (fSetO 4 (fComp [9] (fName 4) (gN 9) (fT (f2 pNe (fName 9) (fName 8))) (fName 9)))
  (fExp (fApp 6 (fTup (fCons (rt (.str "up")) (fCons (fName 8) (rt []))))))) (fSeq (fSet 4 (fLet (fCat (fName 4) (fLet (fLst (fCons (fName 8) (rt [])))))))
  (fExp (fApp 6 (fTup (fCons (rt (.str "down")) (fCons (fName 8) (rt [])))))))))
structure DownIs (x : Sl) (hs : List Int) : Prop where
  is : x = .dat (.lst (hs.map .int)) ∨ x = .own (hs.map .int)
abbrev pS (cs : List Int) (n : Int) (x4 : Sl) (pr : Bool) (evs : List Ev) (t x8 : Sl) : List Sl := [.dat .m, .dat (.lst (cs.map .int)), .dat (.int n), .dat (.bl true), x4, .dat (.bl pr), .own (evs.map evD), t, x8, .no]
theorem play_turn {cs : List Int} (hc : ∀ c ∈ cs, Kok c) (h1 : 1 ≤ cs.length) (h2 : cs.length ≤ 100) {n : Int} {x4 : Sl} {hs : List Int} (hx : DownIs x4 hs) {p : Bool} {evs : List Ev} {t x8 : Sl} {k : Nat} {s : DS} (hl : hs.length ≤ 1000) (he : evs.length ≤ 1000) (g : Good (k + 2) s) :
    ∃ x4' p' t' x8' ev s', pB ⟨pS cs n x4 p evs t x8, s⟩ = some (.nx, ⟨pS cs n x4' p' (evs ++ [ev]) t' x8', s'⟩) ∧ evOk hs ev ∧ DownIs x4' (heldL hs ev) ∧ (heldL hs ev).length ≤ hs.length + 1 ∧ Good k s' := by
  obtain ⟨r, s1, d1, lo, hi, g1⟩ := draw_ok (n := 5) (k := k + 1) (by decide) (by decide) g
  have c1 : fT (f2 pEq (fCallN 2 m__law_draw (fCons (fName 0) (fCons (rt (.int 5)) (rt [])))) (rt (.int 0))) ⟨pS cs n x4 p evs t x8, s⟩ = some (.ok (decide (r = 0)), ⟨pS cs n x4 p evs t x8, s1⟩) :=
    eq_int (g1 := ⟨pS cs n x4 p evs t x8, s1⟩) (call_ok (ds := [.m, .int 5]) (g1 := ⟨pS cs n x4 p evs t x8, s⟩) (cons_ok (name_ok rfl) (cons_ok rfl rfl)) rfl d1) rfl
  have c0 : fT (fName 3) ⟨pS cs n x4 p evs t x8, s⟩ = some (.ok true, ⟨pS cs n x4 p evs t x8, s⟩) := t_ok (name_ok rfl)
  have app : ∀ (x4 : Sl) (x8 : Sl) (ev : Ev) (s : DS) (f : Mo D), f ⟨pS cs n x4 p evs t x8, s⟩ = some (.ok (evD ev), ⟨pS cs n x4 p evs t x8, s⟩) → fExp (fApp 6 f) ⟨pS cs n x4 p evs t x8, s⟩ = some (.nx, ⟨pS cs n x4 p (evs ++ [ev]) t x8, s⟩) := fun x4 x8 ev s f h => by
    refine (exp_ok (app_ok (i := 6) (xs0 := evs.map evD) (xs := evs.map evD) rfl h rfl (by rw [List.length_map]; omega))).trans ?_
    rw [show evs.map evD ++ [evD ev] = (evs ++ [ev]).map evD by simp]; rfl
  by_cases z : r = 0
  · rw [decide_eq_true z] at c1
    have e5 : fSet 5 (fNotV (fName 5)) ⟨pS cs n x4 p (evs ++ [if p = true then Ev.lift else Ev.press]) t x8, s1⟩ = some (.nx, ⟨pS cs n x4 (!p) (evs ++ [if p = true then Ev.lift else Ev.press]) t x8, s1⟩) := rfl
    refine ⟨x4, !p, t, x8, if p = true then .lift else .press, s1, (if_t ((and_t c0).trans c1)).trans ((seq_nx (app x4 x8 _ s1 _ ?_)).trans e5), by split <;> trivial, by split <;> exact hx, by split <;> exact Nat.le_succ _, g1.mono (by omega)⟩
    cases p <;> kernel_rfl
  · rw [decide_eq_false z] at c1
    obtain ⟨d, s2, d2, m2, g2⟩ := of_ok (xs := cs.map D.int) (k := k) (by rw [List.length_map]; exact h1) (by rw [List.length_map]; omega) g1
    obtain ⟨c, mc, rfl⟩ := List.mem_map.mp m2
    have e8 : fSet 8 (fCallN 2 m__law_of (fCons (fName 0) (fCons (fName 1) (rt [])))) ⟨pS cs n x4 p evs t x8, s1⟩ = some (.nx, ⟨pS cs n x4 p evs t (.dat (.int c)), s2⟩) :=
      set_ok (g1 := ⟨pS cs n x4 p evs t x8, s2⟩) (call_ok (ds := [.m, .lst (cs.map .int)]) (g1 := ⟨pS cs n x4 p evs t x8, s1⟩) (cons_ok (name_ok rfl) (cons_ok (name_ok rfl) rfl)) rfl d2)
    obtain ⟨S, hS⟩ : ∃ S, S = pS cs n (.dat (.lst (hs.map .int))) p evs t (.dat (.int c)) := ⟨_, rfl⟩
    have n4 : fName 4 ⟨pS cs n x4 p evs t (.dat (.int c)), s2⟩ = some (.ok (.lst (hs.map .int)), ⟨S, s2⟩) := by
      rcases hx.is with rfl | rfl
      · rw [hS]; rfl
      · rw [hS]; rfl
    have i1 : fT (f2 (pIn false) (fName 8) (fName 4)) ⟨pS cs n x4 p evs t (.dat (.int c)), s2⟩ = some (.ok (hs.contains c), ⟨S, s2⟩) := in_ints (neg := false) (xs := hs) (g1 := ⟨pS cs n x4 p evs t (.dat (.int c)), s2⟩) (name_ok rfl) n4 rfl
    by_cases h : hs.contains c = true
    · rw [h] at i1
      have cc := compL_on (vs := [9]) (t := gN 9) (c := fT (f2 pNe (fName 9) (fName 8))) (e := fName 9) (E := D.int) (F := D.int) (P := fun x => !decide (x = c)) (S := S) (s := s2) hs fun q _ =>
        ⟨⟨S.set 9 (.dat (.int q)), s2⟩, ⟨S.set 9 (.dat (.int q)), s2⟩, rfl, ne_int (name_ok (by rw [hS]; rfl)) (name_ok (by rw [hS]; rfl)), fun _ => ⟨⟨S.set 9 (.dat (.int q)), s2⟩, name_ok (by rw [hS]; rfl), by rw [hS]; rfl, rfl⟩, fun _ => ⟨by rw [hS]; rfl, rfl⟩⟩
      have k9 := comp_ok (vs := [9]) (fi := fName 4) (t := gN 9) (g := ⟨S, s2⟩) (g1 := ⟨S, s2⟩) (ds := hs.map .int) (name_ok (d := .lst (hs.map .int)) (by rw [hS]; rfl)) rfl (by rw [List.length_map]; omega) (by show compL _ _ _ _ _ ⟨wipeR S [9], s2⟩ = _; rw [show wipeR S [9] = S by rw [hS]; rfl]; exact cc)
      refine ⟨.own ((hs.filter fun x => !decide (x = c)).map .int), p, t, .dat (.int c), .up c, s2, ?_, trivial, ⟨.inr rfl⟩, Nat.le_succ_of_le (List.length_filter_le _ _), g2⟩
      refine (if_f ((and_t c0).trans c1)).trans ((seq_nx e8).trans ((if_t i1).trans ((seq_nx (g1 := ⟨pS cs n (.own ((hs.filter fun x => !decide (x = c)).map .int)) p evs t (.dat (.int c)), s2⟩) ((setO_ok k9).trans (by rw [hS]; rfl))).trans (app _ _ (.up c) s2 _ ?_))))
      exact tup_ok (ds := [.str "up", .int c]) (cons_ok rfl (cons_ok (name_ok rfl) rfl)) (by show 2 ≤ 100000; decide)
    · rw [Bool.eq_false_iff.mpr h] at i1
      refine ⟨.dat (.lst ((hs ++ [c]).map .int)), p, t, .dat (.int c), .down c, s2, ?_, ⟨hc c mc, by simpa using h⟩, ⟨.inl rfl⟩, by show (hs ++ [c]).length ≤ _; simp, g2⟩
      have e4 : fSet 4 (fLet (fCat (fName 4) (fLet (fLst (fCons (fName 8) (rt [])))))) ⟨S, s2⟩ = some (.nx, ⟨pS cs n (.dat (.lst ((hs ++ [c]).map .int))) p evs t (.dat (.int c)), s2⟩) := by
        refine (set_ok (app_cat (xs := hs.map .int) (ys := [.int c]) (g1 := ⟨S, s2⟩) (g2 := ⟨S, s2⟩) (name_ok (by rw [hS]; rfl)) (let_ok (lst_ok (ds := [.int c]) (cons_ok (name_ok (by rw [hS]; rfl)) rfl) (by show 1 ≤ 100000; decide))) (by rw [List.length_map]; show _ + 1 ≤ _; omega))).trans ?_
        rw [hS, show hs.map D.int ++ [D.int c] = (hs ++ [c]).map D.int by simp]; rfl
      refine (if_f ((and_t c0).trans c1)).trans ((seq_nx e8).trans ((if_f i1).trans ((seq_nx e4).trans (app _ _ (.down c) s2 _ ?_))))
      exact tup_ok (ds := [.str "down", .int c]) (cons_ok rfl (cons_ok (name_ok rfl) rfl)) (by show 2 ≤ 100000; decide)
theorem play_loop {cs : List Int} (hc : ∀ c ∈ cs, Kok c) (h1 : 1 ≤ cs.length) (h2 : cs.length ≤ 100) {n : Int} : ∀ (is : List D) (k : Nat) (x4 : Sl) (hs : List Int) (p : Bool) (evs : List Ev) (t x8 : Sl) (s : DS), DownIs x4 hs → hs.length + is.length ≤ 1000 → evs.length + is.length ≤ 1000 →
    evsOk [] evs → evs.foldl heldL [] = hs → Good (k + 2 * is.length) s →
    ∃ S' evs' s', loop (gN 7) pB is ⟨pS cs n x4 p evs t x8, s⟩ = some (.nx, ⟨S', s'⟩) ∧ S'[6]? = some (.own (evs'.map evD)) ∧ evsOk [] evs' ∧ evs'.length = evs.length + is.length ∧ Good k s'
  | [], k, x4, hs, p, evs, t, x8, s, _, _, _, ok, _, g => ⟨_, evs, s, rfl, rfl, ok, rfl, g⟩
  | d :: is, k, x4, hs, p, evs, t, x8, s, hx, hl, he, ok, fo, g => by
    simp only [List.length_cons] at hl he
    obtain ⟨x4', p', t', x8', ev, s', e1, o1, hx', l', g'⟩ := play_turn (k := k + 2 * is.length) (n := n) hc h1 h2 hx (p := p) (evs := evs) (t := .dat d) (x8 := x8) (by omega) (by omega) (g.mono (by simp; omega))
    obtain ⟨S', evs', s2, e2, e3, e4, e5, e6⟩ := play_loop hc h1 h2 is k x4' (heldL hs ev) p' (evs ++ [ev]) t' x8' s' hx' (by omega) (by simp; omega) (evs_snoc ok (by rw [fo]; exact o1)) (by rw [List.foldl_append, fo]; rfl) g'
    exact ⟨S', evs', s2, (loop_cons (g1 := ⟨pS cs n x4 p evs (.dat d) x8, s⟩) rfl e1).trans e2, e3, e4, by rw [e5]; simp; omega, e6⟩
theorem play_ok {cs : List Int} (hc : ∀ c ∈ cs, Kok c) (h1 : 1 ≤ cs.length) (h2 : cs.length ≤ 100) {n : Nat} (hn : n ≤ 100) {k : Nat} {s : DS} (g : Good (k + 2 * n) s) :
    ∃ evs s', m__law_play [.m, .lst (cs.map .int), .int (n : Int), .bl true] s = some (.ok (.tup (evs.map evD)), s') ∧ evsOk [] evs ∧ evs.length = n ∧ Good k s' := by
  obtain ⟨S', evs, s', e1, e2, e3, e4, e5⟩ := play_loop (n := (n : Int)) hc h1 h2 (intsD (n : Int)) k (.dat (.lst [])) [] false [] .no .no s ⟨.inl rfl⟩ (by rw [intsD_length]; simp; omega) (by rw [intsD_length]; simp; omega) trivial rfl (by rw [intsD_length]; exact g)
  refine ⟨evs, s', runB_ret (r := S') rfl ?_, e3, by rw [e4, intsD_length]; simp, e5⟩
  unfold fb__law_play
  refine (seq_nx (g1 := ⟨pS cs (n : Int) (.dat (.lst [])) false [] .no .no, s⟩) rfl).trans ((seq_nx ((forR_ok (n := (n : Int)) (g1 := ⟨pS cs (n : Int) (.dat (.lst [])) false [] .no .no, s⟩) (cons_ok (name_ok rfl) rfl) (by omega)).trans e1)).trans (ret_ok (tupOf_ok (peek_o e2))))
theorem state_loop {v : Int} {ws : List Str} {e b : Str} {cs : D} (hb : b ∈ RET_) (hv : 1 ≤ v) (hw : ∀ x ∈ ws, x ∈ FIL) (hwl : ws.length ≤ 1000) {s : DS} : ∀ (evs : List Ev) (hs : List Int) (f : Bool) (r : List Pr) (x : Sl), evsOk hs evs → Val v b f r → Held r hs → r.length + evs.length ≤ 900 →
    ∃ f' r' x', loop (gN 4) (fSet 3 (fIxD (fCallN 3 m__law_stepped (fCons (fName 1) (fCons (fName 3) (fCons (fName 4) (rt []))))) (rt (.int 0)))) (evs.map evD) ⟨[.dat .m, .dat (.tup [.int v, .tup (csOf ws e), .str b]), .dat cs, .dat (stD f r), x], s⟩ =
      some (.nx, ⟨[.dat .m, .dat (.tup [.int v, .tup (csOf ws e), .str b]), .dat cs, .dat (stD f' r'), x'], s⟩) ∧ Val v b f' r' ∧ r'.length ≤ r.length + evs.length
  | [], hs, f, r, x, _, V, _, _ => ⟨f, r, x, rfl, V, Nat.le_refl _⟩
  | ev :: evs, hs, f, r, x, ok, V, H, hl => by
    simp only [List.length_cons] at hl
    have e1 := step_ok (e := e) hb (f := f) (by omega : r.length ≤ 900) V.ok hv hw hwl ev s
    obtain ⟨V', H', l'⟩ := step_val (ws := ws) (e := e) hb hv V H ok.1
    obtain ⟨f2, r2, x2, e2, V2, l2⟩ := state_loop (e := e) (cs := cs) hb hv hw hwl (s := s) evs (heldL hs ev) _ _ (.dat (evD ev)) ok.2 V' H' (by omega)
    refine ⟨f2, r2, x2, (loop_cons (g1 := ⟨[.dat .m, .dat (.tup [.int v, .tup (csOf ws e), .str b]), .dat cs, .dat (stD f r), .dat (evD ev)], s⟩) rfl ?_).trans e2, V2, by simp only [List.length_cons]; omega⟩
    exact set_ok (g1 := ⟨[.dat .m, .dat (.tup [.int v, .tup (csOf ws e), .str b]), .dat cs, .dat (stD f r), .dat (evD ev)], s⟩) (ix_ok (i := 0) (call_ok (ds := [.tup [.int v, .tup (csOf ws e), .str b], stD f r, evD ev]) (g1 := ⟨[.dat .m, .dat (.tup [.int v, .tup (csOf ws e), .str b]), .dat cs, .dat (stD f r), .dat (evD ev)], s⟩) (cons_ok (name_ok rfl) (cons_ok (name_ok rfl) (cons_ok (name_ok rfl) rfl))) rfl e1) rfl rfl rfl)
theorem val_nil {v : Int} (hv : 1 ≤ v) (b : Str) (f : Bool) : Val v b f [] := ⟨fun p hp => (by cases hp), fun p hp => (by cases hp), List.nodup_nil, fun _ p hp => (by cases hp), (show ((0 : Nat) : Int) ≤ v by omega), .inr (.inr rfl)⟩
theorem state_ok {v : Int} {ws : List Str} {e b : Str} (hb : b ∈ RET_) (hv : 1 ≤ v) (hw : ∀ x ∈ ws, x ∈ FIL) (hwl : ws.length ≤ 1000) {cs : List Int} (hc : ∀ c ∈ cs, Kok c) (h1 : 1 ≤ cs.length) (h2 : cs.length ≤ 100) {k : Nat} {s : DS} (g : Good (k + 31) s) :
    ∃ f r s', m__law_state [.m, .tup [.int v, .tup (csOf ws e), .str b], .lst (cs.map .int)] s = some (.ok (stD f r), s') ∧ Val v b f r ∧ r.length ≤ 15 ∧ Good k s' := by
  obtain ⟨n, s1, d1, lo, hi, g1⟩ := draw_ok (n := 16) (k := k + 30) (by decide) (by decide) g
  obtain ⟨j, rfl⟩ : ∃ j : Nat, n = (j : Int) := ⟨n.toNat, by omega⟩
  obtain ⟨evs, s2, e2, o2, l2, g2⟩ := play_ok hc h1 h2 (n := j) (by omega) (k := k) (g1.mono (by omega))
  obtain ⟨f, r, x, e3, V, l3⟩ := state_loop (e := e) (cs := .lst (cs.map .int)) hb hv hw hwl (s := s2) evs [] false [] .no o2 (val_nil hv b false) (fun p hp => by cases hp) (by simp; omega)
  refine ⟨f, r, s2, runB_ret (r := [.dat .m, .dat (.tup [.int v, .tup (csOf ws e), .str b]), .dat (.lst (cs.map .int)), .dat (stD f r), x]) rfl ?_, V, by simp at l3; omega, g2⟩
  unfold fb__law_state
  obtain ⟨S, hS⟩ : ∃ S : List Sl, S = [.dat .m, .dat (.tup [.int v, .tup (csOf ws e), .str b]), .dat (.lst (cs.map .int)), .dat (stD false []), .no] := ⟨_, rfl⟩
  rw [← hS] at e3
  refine (seq_nx (g1 := ⟨S, s⟩) (by rw [hS]; rfl)).trans ((seq_nx ((for_ok (d := .tup (evs.map evD)) (g1 := ⟨S, s2⟩) ?_ rfl).trans e3)).trans (ret_ok (name_ok rfl)))
  refine call_ok (ds := [.m, .lst (cs.map .int), .int (j : Int), .bl true]) (g1 := ⟨S, s1⟩) (cons_ok (name_ok (by rw [hS]; rfl)) (cons_ok (name_ok (by rw [hS]; rfl)) (cons_ok (g1 := ⟨S, s1⟩) (call_ok (ds := [.m, .int 16]) (g1 := ⟨S, s⟩) (cons_ok (name_ok (by rw [hS]; rfl)) (cons_ok rfl rfl)) rfl d1) (cons_ok rfl rfl)))) rfl e2
end K05
namespace K05
open PyProof.Rows PySem.Spec PySem L2 DE
/-! ### a state drawn by its form -/
abbrev qS (M : D) (cs : List Int) (f : Bool) (r : List Pr) (left : List Int) (t x8 x9 : Sl) : List Sl := [.dat .m, .dat M, .dat (.lst (cs.map .int)), t, .dat (.bl f), .own (rowD r), .own (left.map .int), .dat (.int (nL r)), x8, x9]
abbrev qB : Ms := fSeq (fSet 8 (fPopAt 6 (fCallN 2 m__law_draw (fCons (fName 0) (fCons (fLen (fPeek 6)) (rt []))))))
  (fSeq (fSet 9 (fCallN 2 m__law_of (fCons (fName 0) (fCons (fSl (fLet (fLst (fCons (rt (.str "sounds")) (fCons (rt (.str "waits")) (fCons (rt (.str "kept")) (rt [])))))) (rt none) (fPart (f2 pAdd (rt (.int 2)) (fInt (fName 4))))) (rt [])))))
  (fSeq (fSet 9 (fIfE (fT (f2 pLt (fName 7) (fIxD (fName 1) (rt (.int 0))))) (fName 9) (rt (.str "waits"))))
  (fSeq (fSet 7 (f2 pAdd (fName 7) (fInt (f2 pNe (fName 9) (rt (.str "waits"))))))
  (fExp (fApp 5 (fTup (fCons (fName 8) (fCons (fName 9) (rt [])))))))))
def MKF : Bool → List Str
  | true => ["sounds", "waits", "kept"]
  | false => ["sounds", "waits"]
structure Fr (v : Int) (f : Bool) (cs : List Int) (r : List Pr) (left : List Int) : Prop where
  pm : (keysOf r ++ left).Perm cs
  ok : okR r
  pd : f = false → ∀ p ∈ r, p.2 ≠ "kept"
  lo : nL r ≤ v
theorem free_turn {v : Int} {C b : D} {cs left : List Int} {f : Bool} {r : List Pr} {t x8 x9 : Sl} {k : Nat} {s : DS} (hc : cs.length ≤ 100) (hl : 1 ≤ left.length) (F : Fr v f cs r left) (g : Good (k + 2) s) :
    ∃ r' left' x8' x9' s', qB ⟨qS (.tup [.int v, C, b]) cs f r left t x8 x9, s⟩ = some (.nx, ⟨qS (.tup [.int v, C, b]) cs f r' left' t x8' x9', s'⟩) ∧ left'.length + 1 = left.length ∧ Fr v f cs r' left' ∧ Good k s' := by
  obtain ⟨M, hM⟩ : ∃ M, M = D.tup [.int v, C, b] := ⟨_, rfl⟩
  rw [← hM]
  have plen := F.pm.length_eq
  rw [List.length_append, List.length_map] at plen
  obtain ⟨i, s1, d1, lo, hi, g1⟩ := draw_ok (n := (left.length : Int)) (k := k + 1) (by omega) (by omega) g
  obtain ⟨j, rfl⟩ : ∃ j : Nat, i = (j : Int) := ⟨i.toNat, by omega⟩
  have hj : j < left.length := by omega
  have e1 : fCallN 2 m__law_draw (fCons (fName 0) (fCons (fLen (fPeek 6)) (rt []))) ⟨qS M cs f r left t x8 x9, s⟩ = some (.ok (.int (j : Int)), ⟨qS M cs f r left t x8 x9, s1⟩) :=
    call_ok (ds := [.m, .int (left.length : Int)]) (g1 := ⟨qS M cs f r left t x8 x9, s⟩) (cons_ok (name_ok rfl) (cons_ok ((len_ok (peek_o (ds := left.map .int) rfl)).trans (by rw [List.length_map])) rfl)) rfl d1
  have e2 := popAt_ok (i := 6) (g := ⟨qS M cs f r left t x8 x9, s⟩) rfl e1 rfl (by omega) (y := .int left[j]) (by rw [List.getElem?_map, List.getElem?_eq_getElem hj]; rfl)
  have e3 : fSet 8 (fPopAt 6 (fCallN 2 m__law_draw (fCons (fName 0) (fCons (fLen (fPeek 6)) (rt []))))) ⟨qS M cs f r left t x8 x9, s⟩ = some (.nx, ⟨qS M cs f r (left.eraseIdx j) t (.dat (.int left[j])) x9, s1⟩) := by
    refine (set_ok e2).trans ?_
    rw [show (left.map D.int).eraseIdx j = (left.eraseIdx j).map .int from map_erase D.int left j]; rfl
  obtain ⟨d, s2, d2, m2, g2⟩ := of_ok (xs := (MKF f).map D.str) (k := k) (by cases f <;> decide) (by cases f <;> decide) g1
  obtain ⟨w, hw, rfl⟩ := List.mem_map.mp m2
  have e4 : fSet 9 (fCallN 2 m__law_of (fCons (fName 0) (fCons (fSl (fLet (fLst (fCons (rt (.str "sounds")) (fCons (rt (.str "waits")) (fCons (rt (.str "kept")) (rt [])))))) (rt none) (fPart (f2 pAdd (rt (.int 2)) (fInt (fName 4))))) (rt [])))) ⟨qS M cs f r (left.eraseIdx j) t (.dat (.int left[j])) x9, s1⟩ =
      some (.nx, ⟨qS M cs f r (left.eraseIdx j) t (.dat (.int left[j])) (.dat (.str w)), s2⟩) := by
    refine set_ok (g1 := ⟨qS M cs f r (left.eraseIdx j) t (.dat (.int left[j])) x9, s2⟩) (call_ok (ds := [.m, .lst ((MKF f).map .str)]) (g1 := ⟨qS M cs f r (left.eraseIdx j) t (.dat (.int left[j])) x9, s1⟩) (cons_ok (name_ok rfl) (cons_ok (g1 := ⟨qS M cs f r (left.eraseIdx j) t (.dat (.int left[j])) x9, s1⟩) ?_ rfl)) rfl d2)
    generalize left[j] = q
    cases f <;> kernel_rfl
  have t5 : fT (f2 pLt (fName 7) (fIxD (fName 1) (rt (.int 0)))) ⟨qS M cs f r (left.eraseIdx j) t (.dat (.int left[j])) (.dat (.str w)), s2⟩ = some (.ok (decide (nL r < v)), ⟨qS M cs f r (left.eraseIdx j) t (.dat (.int left[j])) (.dat (.str w)), s2⟩) :=
    lt_int (g1 := ⟨qS M cs f r (left.eraseIdx j) t (.dat (.int left[j])) (.dat (.str w)), s2⟩) (name_ok rfl) (ix_ok (i := 0) (name_ok (d := M) rfl) rfl (by rw [hM]; rfl) rfl)
  obtain ⟨mk, hmk⟩ : ∃ mk : Str, mk = if nL r < v then w else "waits" := ⟨_, rfl⟩
  have e5 : fSet 9 (fIfE (fT (f2 pLt (fName 7) (fIxD (fName 1) (rt (.int 0))))) (fName 9) (rt (.str "waits"))) ⟨qS M cs f r (left.eraseIdx j) t (.dat (.int left[j])) (.dat (.str w)), s2⟩ = some (.nx, ⟨qS M cs f r (left.eraseIdx j) t (.dat (.int left[j])) (.dat (.str mk)), s2⟩) := by
    rw [hmk]
    by_cases c : nL r < v
    · rw [decide_eq_true c] at t5
      rw [if_pos c]
      exact set_ok ((ifE_t t5).trans (name_ok rfl))
    · rw [decide_eq_false c] at t5
      rw [if_neg c]
      exact (set_ok (d := .str "waits") (g1 := ⟨qS M cs f r (left.eraseIdx j) t (.dat (.int left[j])) (.dat (.str w)), s2⟩) ((ifE_f t5).trans rfl)).trans rfl
  have hmks : mk ∈ MKF f := by
    rw [hmk]; split
    · exact hw
    · cases f <;> decide
  obtain ⟨r', hr'⟩ : ∃ r', r' = r ++ [pr left[j] mk] := ⟨_, rfl⟩
  have n' : nL r' = nL r + (if loudP (pr left[j] mk) = true then 1 else 0) := by rw [hr']; exact nL_app r _
  have e6 : fSet 7 (f2 pAdd (fName 7) (fInt (f2 pNe (fName 9) (rt (.str "waits"))))) ⟨qS M cs f r (left.eraseIdx j) t (.dat (.int left[j])) (.dat (.str mk)), s2⟩ =
      some (.nx, ⟨[.dat .m, .dat M, .dat (.lst (cs.map .int)), t, .dat (.bl f), .own (rowD r), .own ((left.eraseIdx j).map .int), .dat (.int (nL r')), .dat (.int left[j]), .dat (.str mk)], s2⟩) := by
    have z : fInt (f2 pNe (fName 9) (rt (.str "waits"))) ⟨qS M cs f r (left.eraseIdx j) t (.dat (.int left[j])) (.dat (.str mk)), s2⟩ = some (.ok (.int (if loudP (pr left[j] mk) = true then 1 else 0)), ⟨qS M cs f r (left.eraseIdx j) t (.dat (.int left[j])) (.dat (.str mk)), s2⟩) := by
      have e : f2 pNe (fName 9) (rt (.str "waits")) ⟨qS M cs f r (left.eraseIdx j) t (.dat (.int left[j])) (.dat (.str mk)), s2⟩ = some (.ok (.bl (loudP (pr left[j] mk))), ⟨qS M cs f r (left.eraseIdx j) t (.dat (.int left[j])) (.dat (.str mk)), s2⟩) := (f2_ok (d := .str mk) (d' := .str "waits") (g2 := ⟨qS M cs f r (left.eraseIdx j) t (.dat (.int left[j])) (.dat (.str mk)), s2⟩) (name_ok rfl) rfl).trans rfl
      unfold fInt
      rw [bd_ok e]
      cases loudP (pr left[j] mk) <;> rfl
    have e : f2 pAdd (fName 7) (fInt (f2 pNe (fName 9) (rt (.str "waits")))) ⟨qS M cs f r (left.eraseIdx j) t (.dat (.int left[j])) (.dat (.str mk)), s2⟩ = some (.ok (.int (nL r')), ⟨qS M cs f r (left.eraseIdx j) t (.dat (.int left[j])) (.dat (.str mk)), s2⟩) := by
      refine (f2_ok (d := .int (nL r)) (name_ok rfl) z).trans ?_
      rw [n']; rfl
    exact (set_ok e).trans rfl
  have e7 : fExp (fApp 5 (fTup (fCons (fName 8) (fCons (fName 9) (rt []))))) ⟨[.dat .m, .dat M, .dat (.lst (cs.map .int)), t, .dat (.bl f), .own (rowD r), .own ((left.eraseIdx j).map .int), .dat (.int (nL r')), .dat (.int left[j]), .dat (.str mk)], s2⟩ =
      some (.nx, ⟨qS M cs f r' (left.eraseIdx j) t (.dat (.int left[j])) (.dat (.str mk)), s2⟩) := by
    refine (exp_ok (app_ok (i := 5) (xs0 := rowD r) (xs := rowD r) (d := prD (pr left[j] mk)) (g1 := ⟨[.dat .m, .dat M, .dat (.lst (cs.map .int)), t, .dat (.bl f), .own (rowD r), .own ((left.eraseIdx j).map .int), .dat (.int (nL r')), .dat (.int left[j]), .dat (.str mk)], s2⟩) rfl (tup_ok (ds := [.int left[j], .str mk]) (cons_ok (name_ok rfl) (cons_ok (name_ok rfl) rfl)) (by show 2 ≤ 100000; decide)) rfl (by rw [row_len]; omega))).trans ?_
    rw [show rowD r ++ [prD (pr left[j] mk)] = rowD r' by rw [hr']; simp]; rfl
  refine ⟨r', left.eraseIdx j, _, _, s2, (seq_nx e3).trans ((seq_nx e4).trans ((seq_nx e5).trans ((seq_nx e6).trans e7))), by rw [List.length_eraseIdx]; simp [hj]; omega, ⟨?_, ?_, ?_, ?_⟩, g2⟩
  · rw [hr', show keysOf (r ++ [pr left[j] mk]) = keysOf r ++ [left[j]] by simp, List.append_assoc]
    exact (List.Perm.append_left _ (erase_perm left j hj)).trans F.pm
  · rw [hr']
    exact F.ok.app (okR_one (by
      cases f
      · simp only [MKF, List.mem_cons, List.not_mem_nil, or_false] at hmks
        rcases hmks with h | h <;> rw [h] <;> decide
      · simp only [MKF, List.mem_cons, List.not_mem_nil, or_false] at hmks
        rcases hmks with h | h | h <;> rw [h] <;> decide))
  · intro hf p hp
    rw [hr'] at hp
    rcases (List.mem_append.mp hp) with hp | hp
    · exact F.pd hf p hp
    · rw [(List.mem_singleton.mp hp)]
      subst hf
      simp only [MKF, List.mem_cons, List.not_mem_nil, or_false] at hmks
      have : mk ≠ "kept" := by rcases hmks with h | h <;> rw [h] <;> decide
      exact this
  · rw [n']
    have := F.lo
    by_cases c : nL r < v
    · split <;> omega
    · rw [if_neg c] at hmk
      rw [hmk, if_neg (show ¬ loudP (pr left[j] "waits") = true from Bool.false_ne_true)]
      omega
theorem free_loop {v : Int} {C b : D} {cs : List Int} {f : Bool} (hc : cs.length ≤ 100) : ∀ (is : List D) (k : Nat) (r : List Pr) (left : List Int) (t x8 x9 : Sl) (s : DS), is.length ≤ left.length → Fr v f cs r left → Good (k + 2 * is.length) s →
    ∃ r' left' t' x8' x9' s', loop (gN 3) qB is ⟨qS (.tup [.int v, C, b]) cs f r left t x8 x9, s⟩ = some (.nx, ⟨qS (.tup [.int v, C, b]) cs f r' left' t' x8' x9', s'⟩) ∧ Fr v f cs r' left' ∧ Good k s'
  | [], k, r, left, t, x8, x9, s, _, F, g => ⟨r, left, t, x8, x9, s, rfl, F, g⟩
  | d :: is, k, r, left, t, x8, x9, s, h, F, g => by
    simp only [List.length_cons] at h
    obtain ⟨r1, l1, y8, y9, s1, e1, h1, F1, g1⟩ := free_turn (C := C) (b := b) (t := .dat d) (x8 := x8) (x9 := x9) (k := k + 2 * is.length) hc (by omega) F (g.mono (by simp; omega))
    obtain ⟨r2, l2, t2, z8, z9, s2, e2, F2, g2⟩ := free_loop (C := C) (b := b) hc is k r1 l1 (.dat d) y8 y9 s1 (by omega) F1 g1
    exact ⟨r2, l2, t2, z8, z9, s2, (loop_cons (g1 := ⟨qS (.tup [.int v, C, b]) cs f r left (.dat d) x8 x9, s⟩) rfl e1).trans e2, F2, g2⟩
theorem free_ok {v : Int} {C : D} {b : Str} (hb : b ∈ RET_) (hv : 1 ≤ v) {cs : List Int} (hk : ∀ c ∈ cs, Kok c) (nd : cs.Nodup) (hc : cs.length ≤ 100) {k : Nat} {s : DS} (g : Good (k + 2 + 2 * cs.length) s) :
    ∃ f r s', m__law_free [.m, .tup [.int v, C, .str b], .lst (cs.map .int)] s = some (.ok (stD f r), s') ∧ Val v b f r ∧ r.length ≤ cs.length ∧ Good k s' := by
  obtain ⟨M, hM⟩ : ∃ M, M = D.tup [.int v, C, .str b] := ⟨_, rfl⟩
  obtain ⟨x, s1, d1, lo1, hi1, g1⟩ := draw_ok (n := 2) (k := k + 1 + 2 * cs.length) (by decide) (by decide) (g.mono (by omega))
  obtain ⟨y, s2, d2, lo2, hi2, g2⟩ := draw_ok (n := (cs.length : Int) + 1) (k := k + 2 * cs.length) (by omega) (by omega) (g1.mono (by omega))
  obtain ⟨j, rfl⟩ : ∃ j : Nat, y = (j : Int) := ⟨y.toNat, by omega⟩
  obtain ⟨f, hf⟩ : ∃ f, f = decide (x = 0) := ⟨_, rfl⟩
  obtain ⟨r, left, t, x8, x9, s3, e3, F3, g3⟩ := free_loop (v := v) (C := C) (b := .str b) (f := f) hc (intsD (j : Int)) k [] cs .no .no .no s2 (by rw [intsD_length]; omega) ⟨List.Perm.refl _, fun p hp => (by cases hp), fun _ p hp => (by cases hp), (show ((0 : Nat) : Int) ≤ v by omega)⟩ (g2.mono (by rw [intsD_length]; omega))
  have ndk : (keysOf r).Nodup := (List.nodup_append.mp (F3.pm.nodup_iff.mpr nd)).1
  have kin : ∀ c ∈ keysOf r, c ∈ cs := fun c h => F3.pm.mem_iff.mp (List.mem_append_left _ h)
  have lr : r.length ≤ cs.length := by have := F3.pm.length_eq; rw [List.length_append, List.length_map] at this; omega
  have fo := filled_ok (v := v) (C := C) hb F3.ok (by omega) s3
  obtain ⟨i1, i2, i3, i4, i5, i6⟩ := fill_is hb r.length r [] (List.length_filter_le _ _) ndk F3.ok F3.lo
  obtain ⟨q, hq⟩ : ∃ q, q = (fillL v b r.length r []).1 := ⟨_, rfl⟩
  rw [← hq] at fo i1 i2 i3 i4 i5 i6
  rw [← hM] at fo e3 ⊢
  obtain ⟨S0, hS0⟩ : ∃ S : List Sl, S = [.dat .m, .dat M, .dat (.lst (cs.map .int)), .no, .no, .no, .no, .no, .no, .no] := ⟨_, rfl⟩
  obtain ⟨S3, hS3⟩ : ∃ S : List Sl, S = [.dat .m, .dat M, .dat (.lst (cs.map .int)), t, .dat (.bl f), .dat (.lst (rowD r)), .own (left.map .int), .dat (.int (nL r)), x8, x9] := ⟨_, rfl⟩
  refine ⟨f, q, s3, runB_ret (r := S3) rfl ?_, ⟨i2, fun p hp => hk _ (kin _ (by rw [← i1]; exact key_mem hp)), by rw [i1]; exact ndk, fun z p hp m => F3.pd z p (i3 p hp m) m, i5, i6⟩, ?_, g3⟩
  · refine (congrArg (fun x => fb__law_free ⟨x, s⟩) (show _ = S0 by rw [hS0]; rfl)).trans ?_
    unfold fb__law_free
    have c1 : f2 pEq (fCallN 2 m__law_draw (fCons (fName 0) (fCons (rt (.int 2)) (rt [])))) (rt (.int 0)) ⟨S0, s⟩ = some (.ok (.bl f), ⟨S0, s1⟩) := by
      rw [hf]
      exact (f2_ok (d := .int x) (d' := .int 0) (g2 := ⟨S0, s1⟩) (call_ok (ds := [.m, .int 2]) (g1 := ⟨S0, s⟩) (cons_ok (name_ok (by rw [hS0]; rfl)) (cons_ok rfl rfl)) rfl d1) rfl).trans rfl
    have c2 : fPar4 4 5 6 7 (f2 pEq (fCallN 2 m__law_draw (fCons (fName 0) (fCons (rt (.int 2)) (rt [])))) (rt (.int 0))) (fLst (rt [])) (bd (fPeek 2) rt) 0 ⟨S0, s⟩ = some (.nx, ⟨qS M cs f [] cs .no .no .no, s1⟩) := by
      unfold fPar4
      rw [sb_ok c1, sb_ok (show fLst (rt []) ⟨S0, s1⟩ = some (.ok [], ⟨S0, s1⟩) from rfl), sb_ok (show bd (fPeek 2) rt ⟨S0, s1⟩ = some (.ok (cs.map .int), ⟨S0, s1⟩) by rw [hS0]; rfl)]
      rw [hS0]; rfl
    have c3 : fCons (fCallN 2 m__law_draw (fCons (fName 0) (fCons (f2 pAdd (fLen (fPeek 2)) (rt (.int 1))) (rt [])))) (rt []) ⟨qS M cs f [] cs .no .no .no, s1⟩ = some (.ok [.int (j : Int)], ⟨qS M cs f [] cs .no .no .no, s2⟩) := by
      refine cons_ok (call_ok (ds := [.m, .int ((cs.length : Int) + 1)]) (g1 := ⟨qS M cs f [] cs .no .no .no, s1⟩) (cons_ok (name_ok rfl) (cons_ok ((f2_ok (d := .int (cs.length : Int)) (d' := .int 1) (g2 := ⟨qS M cs f [] cs .no .no .no, s1⟩) ((len_ok (peek_l (ds := cs.map .int) rfl)).trans (by rw [List.length_map])) rfl).trans rfl) rfl)) rfl d2) rfl
    refine (seq_nx c2).trans ((seq_nx ((forR_ok c3 (by omega)).trans e3)).trans (ret_ok ?_))
    refine tup_ok (ds := [.bl f, .tup (rowD q)]) (cons_ok (name_ok rfl) (cons_ok (g1 := ⟨S3, s3⟩) (tupOf_ok ?_) rfl)) (by show 2 ≤ 100000; decide)
    refine (bd_ok (g1 := ⟨S3, s3⟩) (a := .lst (rowD q)) ?_).trans rfl
    refine ix_ok (i := 0) (g1 := ⟨S3, s3⟩) (call_ok (ds := [M, .lst (rowD r)]) (g1 := ⟨S3, s3⟩) (cons_ok (g1 := ⟨qS M cs f r left t x8 x9, s3⟩) (name_ok rfl) (cons_ok (g1 := ⟨S3, s3⟩) (by rw [hS3]; rfl) rfl)) rfl fo) rfl rfl rfl
  · have : q.length = r.length := by have := congrArg List.length i1; rw [List.length_map, List.length_map] at this; exact this
    omega
end K05
namespace K05
open PyProof.Rows PySem.Spec PySem L2 DE
/-! ### the program on rows -/
theorem is_key_ok (i : Int) (s : DS) : m_is_key [.int i] s = some (.ok (.bl (decide (0 ≤ i) && decide (i ≤ 87))), s) := by
  refine runB_ret (r := [.dat (.int i)]) rfl (ret_ok ?_)
  exact call_ok (ds := [.int i, .int 0, .int 87]) (g1 := ⟨[.dat (.int i)], s⟩) (cons_ok (name_ok rfl) (cons_ok rfl (cons_ok rfl rfl))) rfl (is_whole_ok i 0 87 s)
def MRK : List Str := ["sounds", "kept", "waits"]
theorem is_pair_ok (p : Pr) (s : DS) : m_is_pair [prD p] s = some (.ok (.bl ((decide (0 ≤ p.1) && decide (p.1 ≤ 87)) && MRK.contains p.2)), s) := by
  obtain ⟨i, w⟩ := p
  refine runB_ret (r := [.dat (prD (i, w))]) rfl ?_
  unfold fb_is_pair
  refine (seq_nx (g1 := ⟨[.dat (prD (i, w))], s⟩) (by kernel_rfl)).trans (ret_ok ?_)
  have e1 : fCallN 1 m_is_key (fCons (fIxD (fName 0) (rt (.int 0))) (rt [])) ⟨[.dat (prD (i, w))], s⟩ = some (.ok (.bl (decide (0 ≤ i) && decide (i ≤ 87))), ⟨[.dat (prD (i, w))], s⟩) :=
    call_ok (ds := [.int i]) (g1 := ⟨[.dat (prD (i, w))], s⟩) (cons_ok (ix_ok (name_ok rfl) rfl rfl rfl) rfl) rfl (is_key_ok i s)
  have e2 : fCallN 2 m_is_word (fCons (fIxD (fName 0) (rt (.int 1))) (fCons (rt c_MARKS) (rt []))) ⟨[.dat (prD (i, w))], s⟩ = some (.ok (.bl (MRK.contains w)), ⟨[.dat (prD (i, w))], s⟩) :=
    call_ok (ds := [.str w, .tup (MRK.map .str)]) (g1 := ⟨[.dat (prD (i, w))], s⟩) (cons_ok (ix_ok (name_ok rfl) rfl rfl rfl) (cons_ok rfl rfl)) rfl (is_word_ok (.str w) MRK s rfl)
  cases h : (decide (0 ≤ i) && decide (i ≤ 87)) with
  | true => rw [h] at e1; refine (andV_t e1).trans (e2.trans ?_); simp [h]
  | false => rw [h] at e1; refine (andV_f e1).trans ?_; simp [h]
theorem pair_val {p : Pr} (hk : 0 ≤ p.1 ∧ p.1 ≤ 87) (hm : p.2 ∈ MKS) (s : DS) : m_is_pair [prD p] s = some (.ok (.bl true), s) := by
  refine (is_pair_ok p s).trans ?_
  rw [decide_eq_true hk.1, decide_eq_true hk.2]
  have : MRK.contains p.2 = true := by unfold MKS at hm; unfold MRK; simpa using hm
  rw [this]; rfl
theorem loud_keys_ok {a : D} {r : List Pr} (h : aSeq a = some (rowD r)) (hl : r.length ≤ 1000) (s : DS) : m_loud_keys [a] s = some (.ok (.lst ((keysOf (r.filter loudP)).map .int)), s) := by
  refine runB_ret (r := [.dat a, .no, .no]) rfl (ret_ok (let_ok ?_))
  have c := compL_on (vs := [1, 2]) (t := gT 2 (gsCons (gN 1) (gsCons (gN 2) gsNil))) (c := fT (f2 pNe (fName 2) (rt (.str "waits")))) (e := fName 1) (E := prD) (F := fun p : Pr => D.int p.1) (P := loudP) (S := [.dat a, .no, .no]) (s := s) r fun p _ =>
    ⟨⟨[.dat a, .dat (.int p.1), .dat (.str p.2)], s⟩, ⟨[.dat a, .dat (.int p.1), .dat (.str p.2)], s⟩, rfl, ne_str (name_ok rfl) rfl, fun _ => ⟨⟨[.dat a, .dat (.int p.1), .dat (.str p.2)], s⟩, name_ok rfl, rfl, rfl⟩, fun _ => ⟨rfl, rfl⟩⟩
  rw [show (r.filter loudP).map (fun p : Pr => D.int p.1) = (keysOf (r.filter loudP)).map D.int by simp] at c
  exact comp_ok (vs := [1, 2]) (fi := fName 0) (g := ⟨[.dat a, .no, .no], s⟩) (g1 := ⟨[.dat a, .no, .no], s⟩) (name_ok rfl) h (by rw [row_len]; omega) c
def nextB (v : Int) (f : Bool) (pre : List Pr) (p : Pr) : Bool := !(keysOf pre).contains p.1 && (!(decide (p.2 = "kept") && !f) && (decide (p.2 = "waits") || decide (nL pre < v)))
theorem next_ok {v : Int} {f : Bool} {pre : List Pr} {p : Pr} (hl : pre.length ≤ 1000) (hk : 0 ≤ p.1 ∧ p.1 ≤ 87) (hm : p.2 ∈ MKS) (s : DS) : m_can_be_next [.int v, .bl f, .tup (rowD pre), prD p] s = some (.ok (.bl (nextB v f pre p)), s) := by
  obtain ⟨S0, hS0⟩ : ∃ S : List Sl, S = [.dat (.int v), .dat (.bl f), .dat (.tup (rowD pre)), .dat (prD p), .no, .no, .no] := ⟨_, rfl⟩
  obtain ⟨S, hS⟩ : ∃ S : List Sl, S = [.dat (.int v), .dat (.bl f), .dat (.tup (rowD pre)), .dat (prD p), .dat (.int p.1), .dat (.str p.2), .no] := ⟨_, rfl⟩
  refine runB_ret (r := S) rfl ?_
  refine (congrArg (fun x => fb_can_be_next ⟨x, s⟩) (show _ = S0 by rw [hS0]; rfl)).trans ?_
  unfold fb_can_be_next
  have t0 : fNot (fT (fCallN 1 m_is_pair (fCons (fName 3) (rt [])))) ⟨S0, s⟩ = some (.ok false, ⟨S0, s⟩) := not_ok (t_ok (call_ok (ds := [prD p]) (g1 := ⟨S0, s⟩) (cons_ok (name_ok (by rw [hS0]; rfl)) rfl) rfl (pair_val hk hm s)))
  have a1 : fAsg (fName 3) (gT 2 (gsCons (gN 4) (gsCons (gN 5) gsNil))) ⟨S0, s⟩ = some (.nx, ⟨S, s⟩) := asg_ok (d := prD p) (name_ok (by rw [hS0]; rfl)) (by rw [hS0, hS]; rfl)
  have c := compL_on (vs := [6]) (t := gN 6) (c := rt true) (e := fIxD (fName 6) (rt (.int 0))) (E := prD) (F := fun p : Pr => D.int p.1) (P := fun _ => true) (S := S) (s := s) pre fun q _ =>
    ⟨⟨S.set 6 (.dat (prD q)), s⟩, ⟨S.set 6 (.dat (prD q)), s⟩, rfl, rfl, fun _ => ⟨⟨S.set 6 (.dat (prD q)), s⟩, pr0 (by rw [hS]; rfl), by rw [hS]; rfl, rfl⟩, fun z => by cases z⟩
  rw [List.filter_eq_self.mpr fun _ _ => rfl] at c
  rw [show pre.map (fun p : Pr => D.int p.1) = (keysOf pre).map D.int by simp] at c
  have k := comp_ok (vs := [6]) (fi := fName 2) (t := gN 6) (g := ⟨S, s⟩) (g1 := ⟨S, s⟩) (ds := rowD pre) (name_ok (d := .tup (rowD pre)) (by rw [hS]; rfl)) rfl (by rw [row_len]; omega) (by show compL _ _ _ _ _ ⟨wipeR S [6], s⟩ = _; rw [show wipeR S [6] = S by rw [hS]; rfl]; exact c)
  have t1 : fT (f2 (pIn false) (fName 4) (fLet (fComp [6] (fName 2) (gN 6) ((rt true)) (fIxD (fName 6) (rt (.int 0)))))) ⟨S, s⟩ = some (.ok ((keysOf pre).contains p.1), ⟨S, s⟩) := in_ints (neg := false) (xs := keysOf pre) (name_ok (d := .int p.1) (by rw [hS]; rfl)) (let_ok k) rfl
  have t2 : fT (f2 pEq (fName 5) (rt (.str "kept"))) ⟨S, s⟩ = some (.ok (decide (p.2 = "kept")), ⟨S, s⟩) := eq_str (name_ok (by rw [hS]; rfl)) rfl
  have t3 : fNot (fT (fName 1)) ⟨S, s⟩ = some (.ok (!f), ⟨S, s⟩) := not_ok (t_ok (name_ok (by rw [hS]; rfl)))
  have v1 : f2 pEq (fName 5) (rt (.str "waits")) ⟨S, s⟩ = some (.ok (.bl (decide (p.2 = "waits"))), ⟨S, s⟩) := (f2_ok (d := .str p.2) (d' := .str "waits") (g2 := ⟨S, s⟩) (name_ok (by rw [hS]; rfl)) rfl).trans rfl
  have v2 : f2 pLt (fLen (fPk (fCallN 1 m_loud_keys (fCons (fName 2) (rt []))))) (fName 0) ⟨S, s⟩ = some (.ok (.bl (decide (nL pre < v))), ⟨S, s⟩) := by
    have c : fCallN 1 m_loud_keys (fCons (fName 2) (rt [])) ⟨S, s⟩ = some (.ok (.lst ((keysOf (pre.filter loudP)).map .int)), ⟨S, s⟩) := call_ok (ds := [.tup (rowD pre)]) (g1 := ⟨S, s⟩) (cons_ok (name_ok (by rw [hS]; rfl)) rfl) rfl (loud_keys_ok rfl hl s)
    have q : fPk (fCallN 1 m_loud_keys (fCons (fName 2) (rt []))) ⟨S, s⟩ = some (.ok ((keysOf (pre.filter loudP)).map .int), ⟨S, s⟩) := by unfold fPk; rw [bd_ok c]; rfl
    have l : fLen (fPk (fCallN 1 m_loud_keys (fCons (fName 2) (rt [])))) ⟨S, s⟩ = some (.ok (.int (nL pre)), ⟨S, s⟩) := (len_ok q).trans (by rw [List.length_map, List.length_map])
    exact (f2_ok l (name_ok (d := .int v) (by rw [hS]; rfl))).trans rfl
  refine (seq_nx ((if_f t0).trans rfl)).trans ((seq_nx a1).trans ?_)
  unfold nextB
  cases h1 : (keysOf pre).contains p.1 with
  | true => rw [h1] at t1; exact seq_ret ((if_t t1).trans rfl)
  | false =>
    rw [h1] at t1
    refine (seq_nx ((if_f t1).trans rfl)).trans ?_
    cases h2 : (decide (p.2 = "kept") && !f) with
    | true =>
      rw [Bool.and_eq_true] at h2
      rw [h2.1] at t2
      rw [h2.2] at t3
      exact seq_ret ((if_t ((and_t t2).trans t3)).trans rfl)
    | false =>
      have tt : fAnd (fT (f2 pEq (fName 5) (rt (.str "kept")))) (fNot (fT (fName 1))) ⟨S, s⟩ = some (.ok false, ⟨S, s⟩) := by
        cases h3 : decide (p.2 = "kept") with
        | false => rw [h3] at t2; exact and_f t2
        | true => rw [h3] at t2 h2; rw [Bool.true_and] at h2; rw [h2] at t3; exact (and_t t2).trans t3
      refine (seq_nx ((if_f tt).trans rfl)).trans (ret_ok ?_)
      unfold fOrV
      rw [bd_ok v1]
      cases h4 : decide (p.2 = "waits") with
      | true => rfl
      | false =>
        refine (bd_ok (a := false) rfl).trans ?_
        refine v2.trans ?_
        rfl
theorem next_no {v : Int} {f : Bool} {pre : List Pr} {d : D} (s : DS) (h : m_is_pair [d] s = some (.ok (.bl false), s)) : m_can_be_next [.int v, .bl f, .tup (rowD pre), d] s = some (.ok (.bl false), s) := by
  refine runB_ret (r := [.dat (.int v), .dat (.bl f), .dat (.tup (rowD pre)), .dat d, .no, .no, .no]) rfl ?_
  unfold fb_can_be_next
  exact seq_ret ((if_t (not_ok (t_ok (call_ok (ds := [d]) (g1 := ⟨[.dat (.int v), .dat (.bl f), .dat (.tup (rowD pre)), .dat d, .no, .no, .no], s⟩) (cons_ok (name_ok rfl) rfl) rfl h)))).trans rfl)
/-! ### the row's first fault -/
abbrev rB : Ms := fIf (fNot (fT (fCallN 4 m_can_be_next (fCons (fName 0) (fCons (fName 1) (fCons (fSl (fName 2) (rt none) (fPart (fName 3))) (fCons (fIxD (fName 2) (fName 3)) (rt [])))))))) (fRet (fTup (fCons (rt (.str "row")) (fCons (fName 3) (rt []))))) (sOut .nx)
def AtR (v : Int) (f : Bool) (cs : List D) (s : DS) (g : Sg) : Prop := ∃ x, g = ⟨[.dat (.int v), .dat (.bl f), .dat (.tup cs), x], s⟩
theorem row_turn {v : Int} {f : Bool} {cs : List D} {s : DS} {i : Nat} {d : D} {b : Bool} {g : Sg} (hd : cs[i]? = some d) (h : m_can_be_next [.int v, .bl f, .tup (cs.take i), d] s = some (.ok (.bl b), s)) (q : AtR v f cs s g) :
    gN 3 (.int (i : Int)) g = some ⟨[.dat (.int v), .dat (.bl f), .dat (.tup cs), .dat (.int (i : Int))], s⟩ ∧ rB ⟨[.dat (.int v), .dat (.bl f), .dat (.tup cs), .dat (.int (i : Int))], s⟩ = (if b = true then some (.nx, ⟨[.dat (.int v), .dat (.bl f), .dat (.tup cs), .dat (.int (i : Int))], s⟩) else some (.ret (.tup [.str "row", .int (i : Int)]), ⟨[.dat (.int v), .dat (.bl f), .dat (.tup cs), .dat (.int (i : Int))], s⟩)) := by
  obtain ⟨x, rfl⟩ := q
  refine ⟨rfl, ?_⟩
  have hi : i < cs.length := by
    rcases Nat.lt_or_ge i cs.length with h | h
    · exact h
    · rw [List.getElem?_eq_none h] at hd; cases hd
  obtain ⟨g, hg⟩ : ∃ g : Sg, g = ⟨[.dat (.int v), .dat (.bl f), .dat (.tup cs), .dat (.int (i : Int))], s⟩ := ⟨_, rfl⟩
  have sl : fSl (fName 2) (rt none) (fPart (fName 3)) g = some (.ok (.tup (cs.take i)), g) := by
    rw [hg]
    refine (sl_t (cs := cs) (lo := none) (hi := some (i : Int)) (name_ok rfl) rfl (part_ok (name_ok rfl))).trans ?_
    rw [cut_take cs i (by omega)]
  have ix : fIxD (fName 2) (fName 3) g = some (.ok d, g) := by
    rw [hg]
    exact ix_ok (i := (i : Int)) (cs := cs) (name_ok rfl) (name_ok rfl) rfl ((atI_nat cs i hi).trans hd)
  have e : fNot (fT (fCallN 4 m_can_be_next (fCons (fName 0) (fCons (fName 1) (fCons (fSl (fName 2) (rt none) (fPart (fName 3))) (fCons (fIxD (fName 2) (fName 3)) (rt []))))))) g = some (.ok (!b), g) := by
    refine not_ok (t_ok ?_)
    have := call_ok (n := 4) (gm := m_can_be_next) (ds := [.int v, .bl f, .tup (cs.take i), d]) (g := g) (g1 := g) (cons_ok (e := fName 0) (name_ok (by rw [hg]; rfl)) (cons_ok (e := fName 1) (name_ok (by rw [hg]; rfl)) (cons_ok sl (cons_ok ix (fs := rt []) rfl)))) rfl (by rw [hg]; exact h)
    exact this.trans (by rw [hg])
  rw [hg] at e
  cases b with
  | true => exact (if_f e).trans rfl
  | false => exact (if_t e).trans rfl
theorem row_pre {v : Int} {f : Bool} {cs : List D} (s : DS) (hl : cs.length ≤ 1000) : fb_row_fault ⟨[.dat (.int v), .dat (.bl f), .dat (.tup cs), .no], s⟩ = fSeq (loop (gN 3) rB (intsD (cs.length : Int))) (fRet (rt .non)) ⟨[.dat (.int v), .dat (.bl f), .dat (.tup cs), .no], s⟩ := by
  unfold fb_row_fault
  rw [seq_nx (g1 := ⟨[.dat (.int v), .dat (.bl f), .dat (.tup cs), .no], s⟩) (by kernel_rfl)]
  unfold fSeq
  rw [forR_ok (n := (cs.length : Int)) (g1 := ⟨[.dat (.int v), .dat (.bl f), .dat (.tup cs), .no], s⟩) (cons_ok (len_ok (peek_t rfl)) rfl) (by omega)]
theorem row_none {v : Int} {f : Bool} {cs : List D} (s : DS) (hl : cs.length ≤ 1000) (h : ∀ i d, cs[i]? = some d → m_can_be_next [.int v, .bl f, .tup (cs.take i), d] s = some (.ok (.bl true), s)) : m_row_fault [.int v, .bl f, .tup cs] s = some (.ok .non, s) := by
  obtain ⟨g', e, x, rfl⟩ := loop_all (t := gN 3) (b := rB) (AtR v f cs s) (ds := intsD (cs.length : Int)) (g := ⟨[.dat (.int v), .dat (.bl f), .dat (.tup cs), .no], s⟩) (fun d hd g q => by
    unfold intsD at hd
    obtain ⟨i, hi, rfl⟩ := List.mem_map.mp hd
    rw [List.mem_range, Int.toNat_natCast] at hi
    obtain ⟨a, b⟩ := row_turn (List.getElem?_eq_getElem hi) (h i _ (List.getElem?_eq_getElem hi)) q
    exact ⟨_, _, a, b, _, rfl⟩) ⟨_, rfl⟩
  refine runB_ret (r := [.dat (.int v), .dat (.bl f), .dat (.tup cs), x]) rfl ?_
  refine (row_pre s hl).trans ?_
  rw [seq_nx e]; rfl
theorem row_at {v : Int} {f : Bool} {cs : List D} (s : DS) (hl : cs.length ≤ 1000) {j : Nat} {dj : D} (hj : cs[j]? = some dj) (h : ∀ i d, i < j → cs[i]? = some d → m_can_be_next [.int v, .bl f, .tup (cs.take i), d] s = some (.ok (.bl true), s)) (hf : m_can_be_next [.int v, .bl f, .tup (cs.take j), dj] s = some (.ok (.bl false), s)) :
    m_row_fault [.int v, .bl f, .tup cs] s = some (.ok (.tup [.str "row", .int (j : Int)]), s) := by
  have lj : j < cs.length := by
    rcases Nat.lt_or_ge j cs.length with h | h
    · exact h
    · rw [List.getElem?_eq_none h] at hj; cases hj
  obtain ⟨g', e, x, rfl⟩ := loop_then (t := gN 3) (b := rB) (AtR v f cs s) (d := .int (j : Int)) (r := .tup [.str "row", .int (j : Int)]) (es := (List.range (cs.length - j - 1)).map fun i => D.int ((j + 1 + i : Nat) : Int)) (ds := (List.range j).map fun (i : Nat) => D.int (i : Int)) (g := ⟨[.dat (.int v), .dat (.bl f), .dat (.tup cs), .no], s⟩) (fun d hd g q => by
    obtain ⟨i, hi, rfl⟩ := List.mem_map.mp hd
    rw [List.mem_range] at hi
    have li : i < cs.length := by omega
    obtain ⟨a, b⟩ := row_turn (List.getElem?_eq_getElem li) (h i _ hi (List.getElem?_eq_getElem li)) q
    exact ⟨_, _, a, b, _, rfl⟩) (fun g q => by
    obtain ⟨a, b⟩ := row_turn hj hf q
    exact ⟨_, _, a, b, _, rfl⟩) ⟨_, rfl⟩
  rw [← intsD_split lj] at e
  refine runB_ret (r := [.dat (.int v), .dat (.bl f), .dat (.tup cs), x]) rfl ?_
  refine (row_pre s hl).trans ?_
  exact seq_ret e
end K05
namespace K05
open PyProof.Rows PySem.Spec PySem L2 DE
/-! ### the program on states -/
structure Pre (v : Int) (f : Bool) (r : List Pr) : Prop where
  ok : okR r
  key : ∀ p ∈ r, 0 ≤ p.1 ∧ p.1 ≤ 87
  nd : (keysOf r).Nodup
  pd : f = false → ∀ p ∈ r, p.2 ≠ "kept"
  lo : nL r ≤ v
theorem Val.pre {v : Int} {b : Str} {f : Bool} {r : List Pr} (V : Val v b f r) : Pre v f r := ⟨V.ok, fun p hp => (V.key p hp).1, V.nd, V.pd, V.lo⟩
theorem nL_sub {r q : List Pr} (h : q.Sublist r) : nL q ≤ nL r := Int.ofNat_le.mpr (h.filter _).length_le
theorem Pre.sub {v : Int} {f : Bool} {r q : List Pr} (P : Pre v f r) (h : q.Sublist r) : Pre v f q := ⟨fun p hp => P.ok p (h.mem hp), fun p hp => P.key p (h.mem hp), nd_sub h P.nd, fun hf p hp => P.pd hf p (h.mem hp), Int.le_trans (nL_sub h) P.lo⟩
theorem next_last {v : Int} {f : Bool} {r : List Pr} {p : Pr} (P : Pre v f (r ++ [p])) : nextB v f r p = true := by
  have hp : p ∈ r ++ [p] := by simp
  unfold nextB
  have k : (keysOf r).contains p.1 = false := by
    rw [Bool.eq_false_iff]
    intro h
    have h : p.1 ∈ keysOf r := by simpa using h
    have nd := P.nd
    rw [show keysOf (r ++ [p]) = keysOf r ++ [p.1] by simp, List.nodup_append] at nd
    exact nd.2.2 _ h _ (by simp) rfl
  rw [k]
  have m : (decide (p.2 = "kept") && !f) = false := by
    cases f with
    | true => simp
    | false =>
      have := P.pd rfl p hp
      rw [decide_eq_false this]; rfl
  rw [m]
  by_cases w : p.2 = "waits"
  · rw [decide_eq_true w]; rfl
  · have n := P.lo
    rw [nL_app, if_pos (by unfold loudP; rw [decide_eq_false w]; rfl)] at n
    rw [decide_eq_true (show nL r < v by omega)]
    simp
theorem pre_next {v : Int} {f : Bool} {pre : List Pr} (P : Pre v f pre) (hl : pre.length ≤ 900) (rest : List D) (s : DS) {i : Nat} {d : D} (hi : i < pre.length) (hd : (rowD pre ++ rest)[i]? = some d) :
    m_can_be_next [.int v, .bl f, .tup ((rowD pre ++ rest).take i), d] s = some (.ok (.bl true), s) := by
  have li : i < (rowD pre).length := by rw [row_len]; exact hi
  rw [List.getElem?_append_left li, List.getElem?_map, List.getElem?_eq_getElem hi] at hd
  cases hd
  rw [List.take_append_of_le_length (by omega), ← List.map_take]
  have sub : (pre.take i ++ [pre[i]]).Sublist pre := by
    rw [List.take_append_getElem]; exact List.take_sublist _ _
  have Q := P.sub sub
  have mem : pre[i] ∈ pre := List.getElem_mem hi
  have e := next_ok (v := v) (f := f) (pre := pre.take i) (p := pre[i]) (by rw [List.length_take]; omega) (P.key _ mem) (P.ok _ mem) s
  rw [next_last Q] at e
  exact e
theorem row_good {v : Int} {f : Bool} {r : List Pr} (P : Pre v f r) (hl : r.length ≤ 900) (s : DS) : m_row_fault [.int v, .bl f, .tup (rowD r)] s = some (.ok .non, s) :=
  row_none s (by rw [row_len]; omega) fun i d hd => by
    have hi : i < r.length := by
      rcases Nat.lt_or_ge i r.length with h | h
      · exact h
      · rw [List.getElem?_eq_none (by rw [row_len]; exact h)] at hd; cases hd
    have := pre_next P hl [] s hi (by rw [List.append_nil]; exact hd)
    rw [List.append_nil] at this
    exact this
theorem row_bad {v : Int} {f : Bool} {pre : List Pr} (P : Pre v f pre) (hl : pre.length ≤ 900) {d : D} {rest : List D} (hr : rest.length ≤ 50) (s : DS) (h : m_can_be_next [.int v, .bl f, .tup (rowD pre), d] s = some (.ok (.bl false), s)) :
    m_row_fault [.int v, .bl f, .tup (rowD pre ++ d :: rest)] s = some (.ok (.tup [.str "row", .int (pre.length : Int)]), s) :=
  row_at s (by rw [List.length_append, row_len, List.length_cons]; omega) (j := pre.length) (dj := d) (by rw [List.getElem?_append_right (by rw [row_len]; exact Nat.le_refl _), row_len, Nat.sub_self]; rfl) (fun i e hi he => pre_next P hl (d :: rest) s hi he) (by
    rw [show (rowD pre ++ d :: rest).take pre.length = rowD pre by rw [List.take_append_of_le_length (by rw [row_len]; exact Nat.le_refl _)]; exact List.take_of_length_le (by rw [row_len]; exact Nat.le_refl _)]
    exact h)
abbrev MD (v : Int) (C : D) (b : Str) : D := .tup [.int v, C, .str b]
def vainB (v : Int) (b : Str) (r : List Pr) : Bool := !decide (b = "none") && (decide (nL r < v) && decide (nL r < (r.length : Int)))
theorem vain_ok {v : Int} {C : D} {b : Str} {r : List Pr} (hl : r.length ≤ 1000) (s : DS) : m_waits_in_vain [MD v C b, .tup (rowD r)] s = some (.ok (.bl (vainB v b r)), s) := by
  obtain ⟨M, hM⟩ : ∃ M, M = MD v C b := ⟨_, rfl⟩
  obtain ⟨S, hS⟩ : ∃ S : List Sl, S = [.dat M, .dat (.tup (rowD r)), .dat (.int (nL r)), .dat (.int v), .dat C, .dat (.str b)] := ⟨_, rfl⟩
  rw [← hM]
  refine runB_ret (r := S) rfl ?_
  unfold fb_waits_in_vain
  refine (seq_nx (g1 := ⟨[.dat M, .dat (.tup (rowD r)), .no, .dat (.int v), .dat C, .dat (.str b)], s⟩) (asg_ok (d := M) (name_ok rfl) (by rw [hM]; rfl))).trans ?_
  have c : fCallN 1 m_loud_keys (fCons (fName 1) (rt [])) ⟨[.dat M, .dat (.tup (rowD r)), .no, .dat (.int v), .dat C, .dat (.str b)], s⟩ = some (.ok (.lst ((keysOf (r.filter loudP)).map .int)), ⟨[.dat M, .dat (.tup (rowD r)), .no, .dat (.int v), .dat C, .dat (.str b)], s⟩) := call_ok (ds := [.tup (rowD r)]) (g1 := ⟨[.dat M, .dat (.tup (rowD r)), .no, .dat (.int v), .dat C, .dat (.str b)], s⟩) (cons_ok (name_ok rfl) rfl) rfl (loud_keys_ok rfl hl s)
  have q : fPk (fCallN 1 m_loud_keys (fCons (fName 1) (rt []))) ⟨[.dat M, .dat (.tup (rowD r)), .no, .dat (.int v), .dat C, .dat (.str b)], s⟩ = some (.ok ((keysOf (r.filter loudP)).map .int), ⟨[.dat M, .dat (.tup (rowD r)), .no, .dat (.int v), .dat C, .dat (.str b)], s⟩) := by unfold fPk; rw [bd_ok c]; rfl
  have l : fLen (fPk (fCallN 1 m_loud_keys (fCons (fName 1) (rt [])))) ⟨[.dat M, .dat (.tup (rowD r)), .no, .dat (.int v), .dat C, .dat (.str b)], s⟩ = some (.ok (.int (nL r)), ⟨[.dat M, .dat (.tup (rowD r)), .no, .dat (.int v), .dat C, .dat (.str b)], s⟩) := (len_ok q).trans (by rw [List.length_map, List.length_map])
  refine (seq_nx (g1 := ⟨S, s⟩) ((set_ok l).trans (by rw [hS]; rfl))).trans (ret_ok ?_)
  have v1 : f2 pNe (fName 5) (rt (.str "none")) ⟨S, s⟩ = some (.ok (.bl (!decide (b = "none"))), ⟨S, s⟩) := (f2_ok (d := .str b) (d' := .str "none") (g2 := ⟨S, s⟩) (name_ok (by rw [hS]; rfl)) rfl).trans rfl
  have v2 : f2 pLt (fName 2) (fName 3) ⟨S, s⟩ = some (.ok (.bl (decide (nL r < v))), ⟨S, s⟩) := (f2_ok (d := .int (nL r)) (d' := .int v) (g2 := ⟨S, s⟩) (name_ok (by rw [hS]; rfl)) (name_ok (by rw [hS]; rfl))).trans rfl
  have v3 : f2 pLt (fName 2) (fLen (fPeek 1)) ⟨S, s⟩ = some (.ok (.bl (decide (nL r < (r.length : Int)))), ⟨S, s⟩) := (f2_ok (d := .int (nL r)) (d' := .int (r.length : Int)) (g2 := ⟨S, s⟩) (name_ok (by rw [hS]; rfl)) ((len_ok (peek_t (ds := rowD r) (by rw [hS]; rfl))).trans (by rw [row_len]))).trans rfl
  unfold vainB
  cases h1 : (!decide (b = "none")) with
  | false => rw [h1] at v1; exact andV_f v1
  | true =>
    rw [h1] at v1
    refine (andV_t v1).trans ?_
    cases h2 : decide (nL r < v) with
    | false => rw [h2] at v2; exact andV_f v2
    | true => rw [h2] at v2; exact (andV_t v2).trans (v3.trans rfl)
theorem vain_val {v : Int} {b : Str} {r : List Pr} (w : waitsB v b r) : vainB v b r = false := by
  unfold vainB
  rcases w with w | w | w
  · rw [decide_eq_true w]; rfl
  · rw [decide_eq_false (show ¬ nL r < v by omega)]; simp
  · have := counts r
    rw [w, List.length_nil, Nat.add_zero] at this
    rw [decide_eq_false (p := nL r < (r.length : Int)) (by show ¬ ((r.filter loudP).length : Int) < _; omega)]; simp
section
variable {v : Int} {C : D} {b : Str} {f : Bool} {s : DS}
/-- the row is at fault -/
theorem sf_row {R : D} {xs : List D} (h : m_row_fault [.int v, .bl f, R] s = some (.ok (.tup xs), s)) : m_state_fault [MD v C b, .tup [.bl f, R]] s = some (.ok (.tup xs), s) := by
  obtain ⟨M, hM⟩ : ∃ M, M = MD v C b := ⟨_, rfl⟩
  rw [← hM]
  refine runB_ret (r := [.dat M, .dat (.tup [.bl f, R]), .dat (.tup xs), .dat (.bl f), .dat R]) rfl ?_
  unfold fb_state_fault
  refine (seq_nx (g1 := ⟨[.dat M, .dat (.tup [.bl f, R]), .no, .no, .no], s⟩) (by kernel_rfl)).trans ((seq_nx (g1 := ⟨[.dat M, .dat (.tup [.bl f, R]), .no, .dat (.bl f), .dat R], s⟩) (by kernel_rfl)).trans ((seq_nx (g1 := ⟨[.dat M, .dat (.tup [.bl f, R]), .no, .dat (.bl f), .dat R], s⟩) (by kernel_rfl)).trans ?_))
  refine (seq_nx (set_ok (g1 := ⟨[.dat M, .dat (.tup [.bl f, R]), .no, .dat (.bl f), .dat R], s⟩) (call_ok (ds := [.int v, .bl f, R]) (g1 := ⟨[.dat M, .dat (.tup [.bl f, R]), .no, .dat (.bl f), .dat R], s⟩) (cons_ok (ix_ok (i := 0) (name_ok (d := M) rfl) rfl (by rw [hM]; rfl) rfl) (cons_ok (name_ok rfl) (cons_ok (name_ok rfl) rfl))) rfl h))).trans ?_
  exact (seq_nx (g1 := ⟨[.dat M, .dat (.tup [.bl f, R]), .dat (.tup xs), .dat (.bl f), .dat R], s⟩) ((if_f (and_f (g1 := ⟨[.dat M, .dat (.tup [.bl f, R]), .dat (.tup xs), .dat (.bl f), .dat R], s⟩) (by kernel_rfl))).trans rfl)).trans (ret_ok (name_ok rfl))
theorem sf_vain {r : List Pr} (hl : r.length ≤ 1000) (h : m_row_fault [.int v, .bl f, .tup (rowD r)] s = some (.ok .non, s)) : m_state_fault [MD v C b, stD f r] s = some (.ok (if vainB v b r = true then .tup [.str "waits"] else .non), s) := by
  obtain ⟨M, hM⟩ : ∃ M, M = MD v C b := ⟨_, rfl⟩
  have vo := vain_ok (v := v) (C := C) (b := b) hl s
  rw [← hM] at vo ⊢
  refine runB_ret (r := [.dat M, .dat (stD f r), .dat .non, .dat (.bl f), .dat (.tup (rowD r))]) rfl ?_
  unfold fb_state_fault
  refine (seq_nx (g1 := ⟨[.dat M, .dat (stD f r), .no, .no, .no], s⟩) (by kernel_rfl)).trans ((seq_nx (g1 := ⟨[.dat M, .dat (stD f r), .no, .dat (.bl f), .dat (.tup (rowD r))], s⟩) (by kernel_rfl)).trans ((seq_nx (g1 := ⟨[.dat M, .dat (stD f r), .no, .dat (.bl f), .dat (.tup (rowD r))], s⟩) (by kernel_rfl)).trans ?_))
  refine (seq_nx (set_ok (g1 := ⟨[.dat M, .dat (stD f r), .no, .dat (.bl f), .dat (.tup (rowD r))], s⟩) (call_ok (ds := [.int v, .bl f, .tup (rowD r)]) (g1 := ⟨[.dat M, .dat (stD f r), .no, .dat (.bl f), .dat (.tup (rowD r))], s⟩) (cons_ok (ix_ok (i := 0) (name_ok (d := M) rfl) rfl (by rw [hM]; rfl) rfl) (cons_ok (name_ok rfl) (cons_ok (name_ok rfl) rfl))) rfl h))).trans ?_
  have t : fAnd (fT (f2 pIs (fName 2) (rt .non))) (fT (fCallN 2 m_waits_in_vain (fCons (fName 0) (fCons (fName 4) (rt []))))) ⟨[.dat M, .dat (stD f r), .dat .non, .dat (.bl f), .dat (.tup (rowD r))], s⟩ = some (.ok (vainB v b r), ⟨[.dat M, .dat (stD f r), .dat .non, .dat (.bl f), .dat (.tup (rowD r))], s⟩) :=
    (and_t (g1 := ⟨[.dat M, .dat (stD f r), .dat .non, .dat (.bl f), .dat (.tup (rowD r))], s⟩) (by kernel_rfl)).trans (t_ok (call_ok (ds := [M, .tup (rowD r)]) (g1 := ⟨[.dat M, .dat (stD f r), .dat .non, .dat (.bl f), .dat (.tup (rowD r))], s⟩) (cons_ok (name_ok rfl) (cons_ok (name_ok rfl) rfl)) rfl vo))
  cases hv : vainB v b r with
  | true => rw [hv] at t; exact seq_ret ((if_t t).trans rfl)
  | false => rw [hv] at t; exact (seq_nx ((if_f t).trans rfl)).trans (ret_ok (name_ok rfl))
theorem sf_good {r : List Pr} (V : Val v b f r) (hl : r.length ≤ 900) : m_state_fault [MD v C b, stD f r] s = some (.ok .non, s) := by
  have := sf_vain (C := C) (b := b) (by omega) (row_good V.pre hl s)
  rw [vain_val V.wt] at this
  exact this
end
/-! ### need_state, is_state, sound -/
section
variable {M t : D} {s : DS} {xs : List D}
theorem ns_call (hM : m_machine_fault [M] s = some (.ok .non, s)) {S : List Sl} (h0 : S[0]? = some (.dat M)) (h1 : S[1]? = some (.dat t)) {r : D} (h : m_state_fault [M, t] s = some (.ok r, s)) :
    fCallN 2 m_state_fault (fCons (fCallN 1 m_need_machine (fCons (fName 0) (rt []))) (fCons (fName 1) (rt []))) ⟨S, s⟩ = some (.ok r, ⟨S, s⟩) :=
  call_ok (ds := [M, t]) (g1 := ⟨S, s⟩) (cons_ok (g1 := ⟨S, s⟩) (call_ok (ds := [M]) (g1 := ⟨S, s⟩) (cons_ok (name_ok h0) rfl) rfl (need_ok s hM)) (cons_ok (name_ok h1) rfl)) rfl h
theorem ns_ok (hM : m_machine_fault [M] s = some (.ok .non, s)) (h : m_state_fault [M, t] s = some (.ok .non, s)) : m_need_state [M, t] s = some (.ok t, s) := by
  refine runB_ret (r := [.dat M, .dat t, .dat .non]) rfl ?_
  unfold fb_need_state
  refine (seq_nx (set_ok (g1 := ⟨[.dat M, .dat t, .no], s⟩) (ns_call hM rfl rfl h))).trans ?_
  kernel_rfl
theorem ns_no (hM : m_machine_fault [M] s = some (.ok .non, s)) (h : m_state_fault [M, t] s = some (.ok (.tup xs), s)) : m_need_state [M, t] s = some (.error ⟨"BadState", .tup xs⟩, s) := by
  refine runB_exc (r := [.dat M, .dat t, .dat (.tup xs)]) rfl ?_
  unfold fb_need_state
  refine (seq_nx (set_ok (g1 := ⟨[.dat M, .dat t, .no], s⟩) (ns_call hM rfl rfl h))).trans ?_
  kernel_rfl
theorem is_ok (hM : m_machine_fault [M] s = some (.ok .non, s)) (h : m_state_fault [M, t] s = some (.ok .non, s)) : m_is_state [M, t] s = some (.ok (.bl true), s) := by
  refine runB_ret (r := [.dat M, .dat t]) rfl (ret_ok ?_)
  exact (f2_ok (d := .non) (d' := .non) (g2 := ⟨[.dat M, .dat t], s⟩) (ns_call hM rfl rfl h) rfl).trans rfl
theorem is_no (hM : m_machine_fault [M] s = some (.ok .non, s)) (h : m_state_fault [M, t] s = some (.ok (.tup xs), s)) : m_is_state [M, t] s = some (.ok (.bl false), s) := by
  refine runB_ret (r := [.dat M, .dat t]) rfl (ret_ok ?_)
  exact (f2_ok (d := .tup xs) (d' := .non) (g2 := ⟨[.dat M, .dat t], s⟩) (ns_call hM rfl rfl h) rfl).trans rfl
abbrev sndD (r : List Pr) : D := .tup ((sortI (keysOf (r.filter loudP))).map .int)
theorem so_ok {f : Bool} {r : List Pr} (hl : r.length ≤ 900) : m_sound_of [stD f r] s = some (.ok (sndD r), s) := by
  refine runB_ret (r := [.dat (stD f r)]) rfl (ret_ok ?_)
  exact tupOf_ok (sorted_ok (call_ok (ds := [.tup (rowD r)]) (g1 := ⟨[.dat (stD f r)], s⟩) (cons_ok (ix_ok (d := stD f r) (cs := [.bl f, .tup (rowD r)]) (i := 1) (name_ok rfl) rfl rfl rfl) rfl) rfl (loud_keys_ok rfl (by omega) s)))
theorem call_er {n : Nat} {gm : Fd} {fa : Mo (List D)} {x : Exn} {g g1 : Sg} (h : fa g = some (.error x, g1)) : fCallN n gm fa g = some (.error x, g1) := by
  unfold fCallN; exact bd_er h
theorem cons_er {f : Mo D} {fs : Mo (List D)} {x : Exn} {g g1 : Sg} (h : f g = some (.error x, g1)) : fCons f fs g = some (.error x, g1) := by
  unfold fCons; exact bd_er h
theorem snd_no (hM : m_machine_fault [M] s = some (.ok .non, s)) (h : m_state_fault [M, t] s = some (.ok (.tup xs), s)) : m_sound [M, t] s = some (.error ⟨"BadState", .tup xs⟩, s) := by
  refine runB_exc (r := [.dat M, .dat t]) rfl (ret_er (call_er (cons_er (call_ok (ds := [M, t]) (g1 := ⟨[.dat M, .dat t], s⟩) (cons_ok (name_ok rfl) (cons_ok (name_ok rfl) rfl)) rfl (ns_no hM h)))))
theorem snd_ok {f : Bool} {r : List Pr} (hl : r.length ≤ 900) (hM : m_machine_fault [M] s = some (.ok .non, s)) (h : m_state_fault [M, stD f r] s = some (.ok .non, s)) : m_sound [M, stD f r] s = some (.ok (sndD r), s) := by
  refine runB_ret (r := [.dat M, .dat (stD f r)]) rfl (ret_ok ?_)
  exact call_ok (ds := [stD f r]) (g1 := ⟨[.dat M, .dat (stD f r)], s⟩) (cons_ok (call_ok (ds := [M, stD f r]) (g1 := ⟨[.dat M, .dat (stD f r)], s⟩) (cons_ok (name_ok rfl) (cons_ok (name_ok rfl) rfl)) rfl (ns_ok hM h)) rfl) rfl (so_ok hl)
end
end K05
namespace K05
open PyProof.Rows PySem.Spec PySem L2 DE
/-! ### what is no state -/
def Place (xs : List D) : Prop := xs = [] ∨ xs = [.str "pedal"] ∨ xs = [.str "row"] ∨ xs = [.str "waits"] ∨ ∃ n : Int, xs = [.str "row", .int n]
def Bad (M : D) (e : D) : Prop := ∃ t xs, e = .tup [t, .tup xs] ∧ (∀ s, m_state_fault [M, t] s = some (.ok (.tup xs), s)) ∧ Place xs
def BadL (M : D) (L : List D) : Prop := ∀ e ∈ L, Bad M e
theorem BadL.app {M : D} {L L' : List D} (h : BadL M L) (h' : BadL M L') : BadL M (L ++ L') := fun e he => (List.mem_append.mp he).elim (h e) (h' e)
theorem BadL.one {M e : D} (h : Bad M e) : BadL M [e] := fun x hx => by rw [List.mem_singleton.mp hx]; exact h
def oddsP : List D := [.non, .int 0, .int 1, .str "True", .tup [.bl true], .lst []]
def oddsR (cs : List D) : List D := [.non, .lst cs, .str "sounds", .int 5, .dic [], .bl true]
def oddsI : List D := [.non, .int 5, .str "kept", .tup [], .tup [.int 5], .tup [.int 90], .tup [.int 5, .str "sounds", .int 1], .lst [.int 5, .str "sounds"], .tup [.int 5, .str "Sounds"], .tup [.int 5, .non], .tup [.str "5", .str "kept"], .tup [.int 5, .lst [.str "sounds"]], .tup [.int 5, .dic []], .tup [.lst [.int 5], .str "sounds"], .tup [.dic [], .str "waits"]]
def oddsK : List D := [.int (-1), .int 88, .bl true, .non, .int (10 ^ 30)]
def oddsS (f : Bool) (cs : List D) : List D := [.non, .tup [], .tup [.bl f], .tup [.bl f, .tup cs, .int 0], .lst [.bl f, .tup cs], .int 5, .dic []]
section
variable {M R : D} {v : Int} {C : D} {b : Str} {f : Bool} {cs : List D}
theorem bad_pedal : ∀ o ∈ oddsP, Bad M (.tup [.tup [o, R], .tup [.str "pedal"]]) := by
  intro o ho
  refine ⟨_, _, rfl, fun s => ?_, .inr (.inl rfl)⟩
  simp only [oddsP, List.mem_cons, List.not_mem_nil, or_false] at ho
  rcases ho with rfl | rfl | rfl | rfl | rfl | rfl <;> kernel_rfl
theorem bad_thing : ∀ o ∈ oddsS f cs, Bad M (.tup [o, .tup []]) := by
  intro o ho
  refine ⟨_, _, rfl, fun s => ?_, .inl rfl⟩
  simp only [oddsS, List.mem_cons, List.not_mem_nil, or_false] at ho
  rcases ho with rfl | rfl | rfl | rfl | rfl | rfl | rfl <;> kernel_rfl
theorem bad_row : ∀ o ∈ oddsR cs, Bad (MD v C b) (.tup [.tup [.bl f, o], .tup [.str "row"]]) := by
  intro o ho
  refine ⟨_, _, rfl, fun s => sf_row ?_, .inr (.inr (.inl rfl))⟩
  simp only [oddsR, List.mem_cons, List.not_mem_nil, or_false] at ho
  rcases ho with rfl | rfl | rfl | rfl | rfl | rfl <;> kernel_rfl
theorem odd_pair : ∀ o ∈ oddsI, ∀ s, m_is_pair [o] s = some (.ok (.bl false), s) := by
  intro o ho s
  simp only [oddsI, List.mem_cons, List.not_mem_nil, or_false] at ho
  rcases ho with rfl | rfl | rfl | rfl | rfl | rfl | rfl | rfl | rfl | rfl | rfl | rfl | rfl | rfl | rfl <;> kernel_rfl
theorem odd_key : ∀ o ∈ oddsK, ∀ s, m_is_pair [.tup [o, .str "waits"]] s = some (.ok (.bl false), s) := by
  intro o ho s
  simp only [oddsK, List.mem_cons, List.not_mem_nil, or_false] at ho
  rcases ho with rfl | rfl | rfl | rfl | rfl <;> kernel_rfl
variable {r : List Pr}
theorem bad_at {d : D} {pre : List Pr} {rest : List D} {T : D} {n : Int} (P : Pre v f pre) (hl : pre.length ≤ 900) (hr : rest.length ≤ 50) (hT : T = .tup [.bl f, .tup (rowD pre ++ d :: rest)]) (hn : n = (pre.length : Int))
    (h : ∀ s, m_can_be_next [.int v, .bl f, .tup (rowD pre), d] s = some (.ok (.bl false), s)) : Bad (MD v C b) (.tup [T, .tup [.str "row", .int n]]) := by
  subst hT hn
  exact ⟨_, _, rfl, fun s => sf_row (row_bad P hl hr s (h s)), .inr (.inr (.inr (.inr ⟨_, rfl⟩)))⟩
theorem bad_in (V : Val v b f r) (hl : r.length ≤ 50) {d : D} {j : Nat} (hj : j ≤ r.length) (h : ∀ s, m_is_pair [d] s = some (.ok (.bl false), s)) : Bad (MD v C b) (.tup [.tup [.bl f, .tup ((rowD r).take j ++ [d] ++ (rowD r).drop j)], .tup [.str "row", .int (j : Int)]]) :=
  bad_at (pre := r.take j) (rest := rowD (r.drop j)) (d := d) (V.pre.sub (List.take_sublist _ _)) (by rw [List.length_take]; omega) (by rw [row_len, List.length_drop]; omega) (by rw [show rowD (r.take j) = (rowD r).take j from List.map_take, show rowD (r.drop j) = (rowD r).drop j from List.map_drop]; simp) (by rw [List.length_take]; congr 1; omega) fun s => next_no s (h s)
theorem bad_twice {p : Pr} (V : Val v b f (p :: r)) (hl : (p :: r).length ≤ 50) : Bad (MD v C b) (.tup [.tup [.bl f, .tup (rowD (p :: r) ++ [.tup [.int p.1, .str "waits"]])], .tup [.str "row", .int ((p :: r).length : Int)]]) := by
  refine bad_at (pre := p :: r) (rest := []) (d := prD (pr p.1 "waits")) V.pre (by omega) (by decide) rfl rfl fun s => (next_ok (p := pr p.1 "waits") (by omega) (V.key p (by simp)).1 (show ("waits" : Str) ∈ MKS by decide) s).trans ?_
  have : nextB v f (p :: r) (pr p.1 "waits") = false := by unfold nextB; simp
  rw [this]
theorem bad_kept (V : Val v b false r) (hl : r.length ≤ 50) : Bad (MD v C b) (.tup [.tup [.bl false, .tup (rowD r ++ [.tup [.int 80, .str "kept"]])], .tup [.str "row", .int (r.length : Int)]]) := by
  refine bad_at (pre := r) (rest := []) (d := prD (pr 80 "kept")) V.pre (by omega) (by decide) rfl rfl fun s => (next_ok (p := pr 80 "kept") (by omega) (by decide) (show ("kept" : Str) ∈ MKS by decide) s).trans ?_
  have : nextB v false r (pr 80 "kept") = false := by unfold nextB; simp
  rw [this]
def moreL (n : Nat) : List Pr := (List.range n).map fun (i : Nat) => pr (30 + (i : Int)) "sounds"
theorem more_loud (n : Nat) : (moreL n).filter loudP = moreL n := List.filter_eq_self.mpr fun p hp => by
  obtain ⟨i, _, rfl⟩ := List.mem_map.mp hp
  rfl
theorem more_nd (n : Nat) : (keysOf (moreL n)).Nodup := by
  have e : keysOf (moreL n) = (List.range n).map fun (i : Nat) => 30 + (i : Int) := by
    show List.map _ (List.map _ _) = _
    rw [List.map_map]; rfl
  rw [e]
  refine List.pairwise_map.mpr (List.nodup_range.imp fun {a c} h e => h ?_)
  omega
theorem pre_more (V : Val v b f r) (hv : v ≤ 8) {n : Nat} (hn : nL r + (n : Int) ≤ v) : Pre v f (r ++ moreL n) := by
  have n0 : 0 ≤ nL r := Int.natCast_nonneg _
  have key : ∀ p ∈ moreL n, 30 ≤ p.1 ∧ p.1 ≤ 38 ∧ p.2 = "sounds" := fun p hp => by
    obtain ⟨i, hi, rfl⟩ := List.mem_map.mp hp
    rw [List.mem_range] at hi
    exact ⟨by show (30 : Int) ≤ 30 + (i : Int); omega, by show 30 + (i : Int) ≤ 38; omega, rfl⟩
  refine ⟨V.ok.app fun p hp => ?_, fun p hp => ?_, ?_, fun hf p hp => ?_, ?_⟩
  · rw [(key p hp).2.2]; decide
  · rcases (List.mem_append.mp hp) with hp | hp
    · exact (V.key p hp).1
    · have := key p hp; omega
  · rw [show keysOf (r ++ moreL n) = keysOf r ++ keysOf (moreL n) from List.map_append, List.nodup_append]
    refine ⟨V.nd, more_nd n, fun a ha c hc => ?_⟩
    obtain ⟨p, hp, rfl⟩ := mem_key ha
    obtain ⟨q, hq, rfl⟩ := mem_key hc
    have h1 := (V.key p hp).2
    have h2 := key q hq
    intro e
    exact h1 ⟨by omega, by omega⟩
  · rcases (List.mem_append.mp hp) with hp | hp
    · exact V.pd hf p hp
    · rw [(key p hp).2.2]; decide
  · show (((r ++ moreL n).filter loudP).length : Int) ≤ v
    rw [List.filter_append, more_loud, List.length_append]
    have : (moreL n).length = n := by unfold moreL; simp
    rw [this]
    show (((r.filter loudP).length + n : Nat) : Int) ≤ v
    have : ((r.filter loudP).length : Int) + (n : Int) ≤ v := hn
    omega
theorem bad_more (V : Val v b f r) (hv : v ≤ 8) (hl : r.length ≤ 50) : Bad (MD v C b) (.tup [.tup [.bl f, .tup (rowD r ++ rowD (moreL (v - nL r + 1).toNat))], .tup [.str "row", .int ((r.length : Int) + v - nL r)]]) := by
  have lo := V.lo
  have n0 : 0 ≤ nL r := Int.natCast_nonneg _
  obtain ⟨n, hn⟩ : ∃ n : Nat, (n : Int) = v - nL r := ⟨(v - nL r).toNat, by omega⟩
  have P := pre_more V hv (n := n) (by omega)
  have e : moreL (v - nL r + 1).toNat = moreL n ++ [pr (30 + (n : Int)) "sounds"] := by
    rw [show (v - nL r + 1).toNat = n + 1 by omega]
    unfold moreL
    rw [List.range_succ, List.map_append]; rfl
  have lm : (moreL n).length = n := by unfold moreL; simp
  refine bad_at (pre := r ++ moreL n) (rest := []) (d := prD (pr (30 + (n : Int)) "sounds")) P (by rw [List.length_append, lm]; omega) (by decide) (by rw [e]; simp) (by rw [List.length_append, lm]; omega) fun s => (next_ok (p := pr (30 + (n : Int)) "sounds") (by rw [List.length_append, lm]; omega) (by show (0 : Int) ≤ 30 + (n : Int) ∧ 30 + (n : Int) ≤ 87; omega) (show ("sounds" : Str) ∈ MKS by decide) s).trans ?_
  have q : nL (r ++ moreL n) = nL r + (n : Int) := by
    show (((r ++ moreL n).filter loudP).length : Int) = ((r.filter loudP).length : Int) + _
    rw [List.filter_append, more_loud, List.length_append, lm]; omega
  have : nextB v f (r ++ moreL n) (pr (30 + (n : Int)) "sounds") = false := by
    unfold nextB
    rw [decide_eq_false (show ¬ nL (r ++ moreL n) < v by omega)]
    rw [show (decide ((pr (30 + (n : Int)) "sounds").2 = "waits") || false) = false from rfl]
    simp
  rw [this]
theorem bad_waits (hv : 1 ≤ v) (hb : b ≠ "none") : Bad (MD v C b) (.tup [.tup [.bl f, .tup [.tup [.int 81, .str "waits"]]], .tup [.str "waits"]]) := by
  refine ⟨_, _, rfl, fun s => ?_, .inr (.inr (.inr (.inl rfl)))⟩
  have P : Pre v f [pr 81 "waits"] := ⟨okR_one (show ("waits" : Str) ∈ MKS by decide), fun p hp => (by rw [List.mem_singleton.mp hp]; decide), by simp, fun _ p hp => (by rw [List.mem_singleton.mp hp]; decide), (by show ((0 : Nat) : Int) ≤ v; omega)⟩
  have := sf_vain (C := C) (b := b) (f := f) (by decide) (row_good P (by decide) s)
  have e : vainB v b [pr 81 "waits"] = true := by
    unfold vainB
    rw [decide_eq_false hb, decide_eq_true (show nL [pr 81 "waits"] < v by show ((0 : Nat) : Int) < v; omega)]
    rfl
  rw [e] at this
  exact this
end
end K05
namespace K05
open PyProof.Rows PySem.Spec PySem L2 DE
/-! ### the list of what is no state -/
abbrev bS (M : D) (f : Bool) (cs : List D) (x5 x6 x7 x8 x9 x10 x12 : Sl) : List Sl := [.dat .m, .dat M, .dat (.tup [.bl f, .tup cs]), .dat (.bl f), .dat (.tup cs), x5, x6, x7, x8, x9, x10, .no, x12]
def lastS (x : Sl) (os : List D) : Sl := os.foldl (fun _ o => .dat o) x
section
variable {M : D} {f : Bool} {cs : List D} {x7 x8 x9 x10 x12 : Sl} {s : DS}
theorem b_app {e : Mo D} {o : D} {L : List D} {x5 : Sl} (h : e ⟨bS M f cs x5 (.own L) x7 x8 x9 x10 x12, s⟩ = some (.ok o, ⟨bS M f cs x5 (.own L) x7 x8 x9 x10 x12, s⟩)) (hl : L.length ≤ 9000) :
    fExp (fApp 6 e) ⟨bS M f cs x5 (.own L) x7 x8 x9 x10 x12, s⟩ = some (.nx, ⟨bS M f cs x5 (.own (L ++ [o])) x7 x8 x9 x10 x12, s⟩) :=
  (exp_ok (app_ok (i := 6) (xs0 := L) (xs := L) rfl h rfl (by omega))).trans rfl
theorem b_loop {e : Mo D} (F : D → D) : ∀ (os : List D) (L : List D) (x5 : Sl), (∀ o ∈ os, ∀ L, e ⟨bS M f cs (.dat o) (.own L) x7 x8 x9 x10 x12, s⟩ = some (.ok (F o), ⟨bS M f cs (.dat o) (.own L) x7 x8 x9 x10 x12, s⟩)) → L.length + os.length ≤ 9000 →
    loop (gN 5) (fExp (fApp 6 e)) os ⟨bS M f cs x5 (.own L) x7 x8 x9 x10 x12, s⟩ = some (.nx, ⟨bS M f cs (lastS x5 os) (.own (L ++ os.map F)) x7 x8 x9 x10 x12, s⟩)
  | [], L, x5, _, _ => by rw [List.map_nil, List.append_nil]; rfl
  | o :: os, L, x5, h, hl => by
    simp only [List.length_cons] at hl
    refine (loop_cons (g1 := ⟨bS M f cs (.dat o) (.own L) x7 x8 x9 x10 x12, s⟩) rfl (b_app (h o List.mem_cons_self L) (by omega))).trans ?_
    refine (b_loop F os (L ++ [F o]) (.dat o) (fun p hp => h p (List.mem_cons_of_mem _ hp)) (by simp; omega)).trans ?_
    rw [List.append_assoc]; rfl
end
theorem pr_ok {a b : Mo D} {x y : D} {g : Sg} (h1 : a g = some (.ok x, g)) (h2 : b g = some (.ok y, g)) : fTup (fCons a (fCons b (rt []))) g = some (.ok (.tup [x, y]), g) := tup_ok (ds := [x, y]) (cons_ok h1 (cons_ok h2 rfl)) (by show 2 ≤ 100000; decide)
theorem tadd {a b : Mo D} {xs ys : List D} {g : Sg} (h1 : a g = some (.ok (.tup xs), g)) (h2 : b g = some (.ok (.tup ys), g)) (hl : xs.length + ys.length ≤ 100000) : f2 pAdd a b g = some (.ok (.tup (xs ++ ys)), g) := by
  refine (f2_ok h1 h2).trans ?_
  unfold pAdd
  dsimp only
  rw [if_pos hl]; rfl
theorem iadd {a b : Mo D} {x y : Int} {g : Sg} (h1 : a g = some (.ok (.int x), g)) (h2 : b g = some (.ok (.int y), g)) : f2 pAdd a b g = some (.ok (.int (x + y)), g) := (f2_ok h1 h2).trans rfl
theorem isub {a b : Mo D} {x y : Int} {g : Sg} (h1 : a g = some (.ok (.int x), g)) (h2 : b g = some (.ok (.int y), g)) : f2 pSub a b g = some (.ok (.int (x - y)), g) := (f2_ok h1 h2).trans rfl
theorem compR_ok {vs : List Nat} {fi : Mo (List D)} {t : Mt} {c : Mo Bool} {e : Mo D} {n : Int} {es : List D} {g g1 g2 : Sg} (h1 : fi g = some (.ok [.int n], g1)) (hn : n ≤ 100000 ∧ -100000 ≤ n) (h : compL vs t c e (intsD n) ⟨wipeR g1.r vs, g1.s⟩ = some (es, g2)) : fCompR vs fi t c e g = some (.ok es, g2) := by
  unfold fCompR
  rw [bd_ok h1]
  dsimp only
  rw [if_pos hn]
  unfold compF
  rw [if_pos (by rw [intsD_len]; omega), h]; rfl
theorem cut_drop {α : Type} (cs : List α) (i : Nat) (h : i ≤ cs.length) : DE.cutD cs (some (i : Int)) none = cs.drop i := by
  have e : HT.sIx cs.length 0 (some (i : Int)) = i := by
    show (if (i : Int) < 0 then ((i : Int) + (cs.length : Int)).toNat else min (i : Int).toNat cs.length) = _
    rw [if_neg (by omega)]; omega
  unfold DE.cutD
  rw [e]
  exact List.take_of_length_le (by rw [List.length_drop]; exact Nat.le_refl _)
theorem bent_ok {v : Int} {C : D} {b : Str} {f : Bool} {r : List Pr} (hb : b ∈ RET_) (hv1 : 1 ≤ v) (hv : v ≤ 8) (V : Val v b f r) (hl : r.length ≤ 50) {k : Nat} {s : DS} (g : Good (k + 1) s) :
    ∃ L s', m__law_bent [.m, MD v C b, stD f r] s = some (.ok (.lst L), s') ∧ BadL (MD v C b) L ∧ L.length ≤ 1000 ∧ Good k s' := by
  obtain ⟨jj, s1, d1, lo1, hi1, g1⟩ := draw_ok (n := (r.length : Int) + 1) (k := k) (by omega) (by omega) g
  obtain ⟨j, rfl⟩ : ∃ j : Nat, jj = (j : Int) := ⟨jj.toNat, by omega⟩
  have hj : j ≤ r.length := by omega
  have lo := V.lo
  have n0 : 0 ≤ nL r := Int.natCast_nonneg _
  obtain ⟨M, hM⟩ : ∃ M, M = MD v C b := ⟨_, rfl⟩
  obtain ⟨cs, hcs⟩ : ∃ cs, cs = rowD r := ⟨_, rfl⟩
  have lcs : cs.length = r.length := by rw [hcs]; exact row_len r
  obtain ⟨L2, hL2⟩ : ∃ L2 : List D, L2 = (oddsP.map fun o => D.tup [.tup [o, .tup cs], .tup [.str "pedal"]]) ++ (oddsR cs).map fun o => D.tup [.tup [.bl f, o], .tup [.str "row"]] := ⟨_, rfl⟩
  obtain ⟨F3, hF3⟩ : ∃ F : D → D, F = fun o => D.tup [.tup [.bl f, .tup (cs.take j ++ [o] ++ cs.drop j)], .tup [.str "row", .int (j : Int)]] := ⟨_, rfl⟩
  obtain ⟨F4, hF4⟩ : ∃ F : D → D, F = fun o => D.tup [.tup [.bl f, .tup (cs.take j ++ [.tup [o, .str "waits"]] ++ cs.drop j)], .tup [.str "row", .int (j : Int)]] := ⟨_, rfl⟩
  obtain ⟨L3, hL3⟩ : ∃ L3 : List D, L3 = L2 ++ oddsI.map F3 := ⟨_, rfl⟩
  obtain ⟨L4, hL4⟩ : ∃ L4 : List D, L4 = L3 ++ oddsK.map F4 := ⟨_, rfl⟩
  obtain ⟨L5, hL5⟩ : ∃ L5 : List D, L5 = L4 ++ (r.take 1).map fun p => D.tup [.tup [.bl f, .tup (cs ++ [.tup [.int p.1, .str "waits"]])], .tup [.str "row", .int (r.length : Int)]] := ⟨_, rfl⟩
  obtain ⟨L6, hL6⟩ : ∃ L6 : List D, L6 = L5 ++ if f = true then [] else [.tup [.tup [.bl f, .tup (cs ++ [.tup [.int 80, .str "kept"]])], .tup [.str "row", .int (r.length : Int)]]] := ⟨_, rfl⟩
  obtain ⟨mo, hmo⟩ : ∃ mo : List D, mo = rowD (moreL (v - nL r + 1).toNat) := ⟨_, rfl⟩
  obtain ⟨L7, hL7⟩ : ∃ L7 : List D, L7 = L6 ++ [.tup [.tup [.bl f, .tup (cs ++ mo)], .tup [.str "row", .int ((r.length : Int) + v - nL r)]]] := ⟨_, rfl⟩
  obtain ⟨L8, hL8⟩ : ∃ L8 : List D, L8 = L7 ++ if b = "none" then [] else [.tup [.tup [.bl f, .tup [.tup [.int 81, .str "waits"]]], .tup [.str "waits"]]] := ⟨_, rfl⟩
  have l2 : L2.length = 12 := by rw [hL2]; simp [oddsP, oddsR]
  have l3 : L3.length = 27 := by rw [hL3]; simp [oddsI, l2]
  have l4 : L4.length = 32 := by rw [hL4]; simp [oddsK, l3]
  have l5 : L5.length ≤ 33 := by rw [hL5, List.length_append, List.length_map, List.length_take]; omega
  have l6 : L6.length ≤ 34 := by rw [hL6, List.length_append]; split <;> simp <;> omega
  have l7 : L7.length ≤ 35 := by rw [hL7, List.length_append]; simp; omega
  have l8 : L8.length ≤ 36 := by rw [hL8, List.length_append]; split <;> simp <;> omega
  have lmo : mo.length ≤ 9 := by rw [hmo, row_len]; unfold moreL; simp; omega
  have bad2 : BadL (MD v C b) L2 := by
    rw [hL2]
    refine BadL.app (fun e he => ?_) (fun e he => ?_)
    · obtain ⟨o, ho, rfl⟩ := List.mem_map.mp he; exact bad_pedal o ho
    · obtain ⟨o, ho, rfl⟩ := List.mem_map.mp he; exact bad_row o ho
  have bad3 : BadL (MD v C b) L3 := by
    rw [hL3]
    refine bad2.app fun e he => ?_
    obtain ⟨o, ho, rfl⟩ := List.mem_map.mp he
    rw [hF3, hcs]
    exact bad_in V hl hj (odd_pair o ho)
  have bad4 : BadL (MD v C b) L4 := by
    rw [hL4]
    refine bad3.app fun e he => ?_
    obtain ⟨o, ho, rfl⟩ := List.mem_map.mp he
    rw [hF4, hcs]
    exact bad_in V hl hj (odd_key o ho)
  have bad5 : BadL (MD v C b) L5 := by
    rw [hL5]
    refine bad4.app fun e he => ?_
    obtain ⟨p, hp, rfl⟩ := List.mem_map.mp he
    cases r with
    | nil => cases hp
    | cons q r =>
      have : p = q := by simpa using hp
      subst this
      rw [hcs]
      exact bad_twice V hl
  have bad6 : BadL (MD v C b) L6 := by
    rw [hL6]
    refine bad5.app ?_
    split
    · exact fun e he => by cases he
    · rename_i c
      have : f = false := by simpa using c
      subst this
      rw [hcs]
      exact BadL.one (bad_kept V hl)
  have bad7 : BadL (MD v C b) L7 := by
    rw [hL7, hcs, hmo]
    exact bad6.app (BadL.one (bad_more V hv hl))
  have bad8 : BadL (MD v C b) L8 := by
    rw [hL8]
    refine bad7.app ?_
    split
    · exact fun e he => by cases he
    · rename_i c; exact BadL.one (bad_waits hv1 c)
  refine ⟨L8, s1, ?_, bad8, by omega, g1⟩
  have tk : ∀ (S : List Sl), S[4]? = some (.dat (.tup cs)) → S[7]? = some (.dat (.int (j : Int))) → fSl (fName 4) (rt none) (fPart (fName 7)) ⟨S, s1⟩ = some (.ok (.tup (cs.take j)), ⟨S, s1⟩) := fun S h4 h7 => by
    refine (sl_t (cs := cs) (lo := none) (hi := some (j : Int)) (name_ok h4) rfl (part_ok (name_ok h7))).trans ?_
    rw [cut_take cs j (by omega)]
  have dr : ∀ (S : List Sl), S[4]? = some (.dat (.tup cs)) → S[7]? = some (.dat (.int (j : Int))) → fSl (fName 4) (fPart (fName 7)) (rt none) ⟨S, s1⟩ = some (.ok (.tup (cs.drop j)), ⟨S, s1⟩) := fun S h4 h7 => by
    refine (sl_t (cs := cs) (lo := some (j : Int)) (hi := none) (name_ok h4) (part_ok (name_ok h7)) rfl).trans ?_
    rw [cut_drop cs j (by omega)]
  have m0 : ∀ (S : List Sl), S[1]? = some (.dat M) → fIxD (fName 1) (rt (.int 0)) ⟨S, s1⟩ = some (.ok (.int v), ⟨S, s1⟩) := fun S h => ix_ok (i := 0) (name_ok h) rfl (by rw [hM]; rfl) rfl
  have m2 : ∀ (S : List Sl), S[1]? = some (.dat M) → fIxD (fName 1) (rt (.int 2)) ⟨S, s1⟩ = some (.ok (.str b), ⟨S, s1⟩) := fun S h => ix_ok (i := 2) (name_ok h) rfl (by rw [hM]; rfl) rfl
  have ld := loud_ok (a := .tup cs) (r := r) (by rw [hcs]; rfl) (by omega) s1
  have ll : ∀ (S : List Sl), S[4]? = some (.dat (.tup cs)) → fLen (fPeek 4) ⟨S, s1⟩ = some (.ok (.int (r.length : Int)), ⟨S, s1⟩) := fun S h => (len_ok (peek_t h)).trans (by rw [lcs])
  show m__law_bent [.m, MD v C b, .tup [.bl f, .tup (rowD r)]] s = _
  rw [← hM, ← hcs]
  refine runB_ret (r := bS M f cs (lastS (lastS .no oddsI) oddsK) (.dat (.lst L8)) (.dat (.int (j : Int))) (.dat (.lst oddsI)) (.dat (.int (nL r))) (match r with | [] => .no | p :: _ => .dat (prD p)) (.dat (.tup mo))) rfl ?_
  unfold fb__law_bent
  refine (seq_nx (g1 := ⟨bS M f cs .no .no .no .no .no .no .no, s⟩) (by kernel_rfl)).trans ?_
  refine (seq_nx (g1 := ⟨bS M f cs .no (.own (oddsP.map fun o => D.tup [.tup [o, .tup cs], .tup [.str "pedal"]])) .no .no .no .no .no, s⟩) (by kernel_rfl)).trans ?_
  refine (seq_nx (g1 := ⟨bS M f cs .no (.own L2) .no .no .no .no .no, s⟩) (by rw [hL2]; kernel_rfl)).trans ?_
  refine (seq_nx (g1 := ⟨bS M f cs .no (.own L2) (.dat (.int (j : Int))) .no .no .no .no, s1⟩) (set_ok (g1 := ⟨bS M f cs .no (.own L2) .no .no .no .no .no, s1⟩) (call_ok (ds := [.m, .int ((r.length : Int) + 1)]) (g1 := ⟨bS M f cs .no (.own L2) .no .no .no .no .no, s⟩) (cons_ok (name_ok rfl) (cons_ok (iadd ((len_ok (peek_t (ds := cs) rfl)).trans (by rw [lcs])) rfl) rfl)) rfl d1))).trans ?_
  refine (seq_nx (g1 := ⟨bS M f cs .no (.own L2) (.dat (.int (j : Int))) (.dat (.lst (oddsI.take 11))) .no .no .no, s1⟩) (by kernel_rfl)).trans ?_
  refine (seq_nx (g1 := ⟨bS M f cs .no (.own L2) (.dat (.int (j : Int))) (.dat (.lst oddsI)) .no .no .no, s1⟩) (by kernel_rfl)).trans ?_
  refine (seq_nx (g1 := ⟨bS M f cs (lastS .no oddsI) (.own L3) (.dat (.int (j : Int))) (.dat (.lst oddsI)) .no .no .no, s1⟩) ((for_ok (d := .lst oddsI) (g1 := ⟨bS M f cs .no (.own L2) (.dat (.int (j : Int))) (.dat (.lst oddsI)) .no .no .no, s1⟩) (name_ok rfl) rfl).trans (by
    rw [hL3]
    refine b_loop F3 oddsI L2 .no (fun o ho L => ?_) (by rw [l2]; decide)
    rw [hF3]
    exact pr_ok (pr_ok (name_ok rfl) (tadd (tadd (tk _ rfl rfl) (tup_ok (ds := [o]) (cons_ok (name_ok rfl) rfl) (by show 1 ≤ 100000; decide)) (by rw [List.length_take]; show _ + 1 ≤ _; omega)) (dr _ rfl rfl) (by rw [List.length_append, List.length_take, List.length_drop]; show _ + 1 + _ ≤ _; omega))) (pr_ok rfl (name_ok rfl))))).trans ?_
  refine (seq_nx (g1 := ⟨bS M f cs (lastS (lastS .no oddsI) oddsK) (.own L4) (.dat (.int (j : Int))) (.dat (.lst oddsI)) .no .no .no, s1⟩) ((for_ok (d := .tup oddsK) (g1 := ⟨bS M f cs (lastS .no oddsI) (.own L3) (.dat (.int (j : Int))) (.dat (.lst oddsI)) .no .no .no, s1⟩) (by kernel_rfl) rfl).trans (by
    rw [hL4]
    refine b_loop F4 oddsK L3 (lastS .no oddsI) (fun o ho L => ?_) (by rw [l3]; decide)
    rw [hF4]
    exact pr_ok (pr_ok (name_ok rfl) (tadd (tadd (tk _ rfl rfl) (tup_ok (ds := [.tup [o, .str "waits"]]) (cons_ok (pr_ok (name_ok rfl) rfl) rfl) (by show 1 ≤ 100000; decide)) (by rw [List.length_take]; show _ + 1 ≤ _; omega)) (dr _ rfl rfl) (by rw [List.length_append, List.length_take, List.length_drop]; show _ + 1 + _ ≤ _; omega))) (pr_ok rfl (name_ok rfl))))).trans ?_
  obtain ⟨x5, hx5⟩ : ∃ x5, x5 = lastS (lastS .no oddsI) oddsK := ⟨_, rfl⟩
  rw [← hx5]
  obtain ⟨x8, hx8⟩ : ∃ x8, x8 = Sl.dat (.lst oddsI) := ⟨_, rfl⟩
  rw [← hx8]
  refine (seq_nx (g1 := ⟨bS M f cs x5 (.own L4) (.dat (.int (j : Int))) x8 (.dat (.int (nL r))) .no .no, s1⟩) (set_ok (g1 := ⟨bS M f cs x5 (.own L4) (.dat (.int (j : Int))) x8 .no .no .no, s1⟩) ((len_ok (ds := rowD (r.filter loudP)) (g1 := ⟨bS M f cs x5 (.own L4) (.dat (.int (j : Int))) x8 .no .no .no, s1⟩) ((bd_ok (a := .lst (rowD (r.filter loudP))) (g1 := ⟨bS M f cs x5 (.own L4) (.dat (.int (j : Int))) x8 .no .no .no, s1⟩) (call_ok (ds := [.tup cs]) (g1 := ⟨bS M f cs x5 (.own L4) (.dat (.int (j : Int))) x8 .no .no .no, s1⟩) (cons_ok (name_ok rfl) rfl) rfl ld)).trans rfl)).trans (by rw [row_len])))).trans ?_
  obtain ⟨x10, hx10⟩ : ∃ x10 : Sl, x10 = match r with | [] => .no | p :: _ => .dat (prD p) := ⟨_, rfl⟩
  rw [← hx10]
  refine (seq_nx (g1 := ⟨bS M f cs x5 (.own L5) (.dat (.int (j : Int))) x8 (.dat (.int (nL r))) x10 .no, s1⟩) ((for_ok (d := .tup (cs.take 1)) (g1 := ⟨bS M f cs x5 (.own L4) (.dat (.int (j : Int))) x8 (.dat (.int (nL r))) .no .no, s1⟩) ((sl_t (cs := cs) (lo := none) (hi := some 1) (name_ok rfl) rfl rfl).trans (by rw [cut_first])) rfl).trans (by
    cases r with
    | nil =>
      rw [hx10, hL5, hcs]
      rw [List.take_nil, List.map_nil, List.append_nil]; rfl
    | cons p r =>
      rw [hx10, hL5]
      have e1 : cs.take 1 = [prD p] := by rw [hcs]; rfl
      rw [e1]
      refine (loop_cons (g1 := ⟨bS M f cs x5 (.own L4) (.dat (.int (j : Int))) x8 (.dat (.int (nL (p :: r)))) (.dat (prD p)) .no, s1⟩) rfl (b_app (o := .tup [.tup [.bl f, .tup (cs ++ [.tup [.int p.1, .str "waits"]])], .tup [.str "row", .int ((p :: r).length : Int)]]) ?_ (by omega))).trans rfl
      exact pr_ok (pr_ok (name_ok rfl) (tadd (name_ok rfl) (tup_ok (ds := [.tup [.int p.1, .str "waits"]]) (cons_ok (pr_ok (pr0 (p := p) rfl) rfl) rfl) (by show 1 ≤ 100000; decide)) (by show _ + 1 ≤ _; omega))) (pr_ok rfl (ll _ rfl))))).trans ?_
  refine (seq_nx (g1 := ⟨bS M f cs x5 (.own L6) (.dat (.int (j : Int))) x8 (.dat (.int (nL r))) x10 .no, s1⟩) (by
    have t : fNot (fT (fName 3)) ⟨bS M f cs x5 (.own L5) (.dat (.int (j : Int))) x8 (.dat (.int (nL r))) x10 .no, s1⟩ = some (.ok (!f), ⟨bS M f cs x5 (.own L5) (.dat (.int (j : Int))) x8 (.dat (.int (nL r))) x10 .no, s1⟩) := not_ok (t_ok (name_ok rfl))
    cases f with
    | true => rw [hL6, if_pos rfl, List.append_nil]; exact (if_f t).trans rfl
    | false =>
      rw [hL6, if_neg Bool.false_ne_true]
      refine (if_t t).trans (b_app ?_ (by omega))
      exact pr_ok (pr_ok (name_ok rfl) (tadd (ys := [.tup [.int 80, .str "kept"]]) (name_ok rfl) rfl (by show _ + 1 ≤ _; omega))) (pr_ok rfl (ll _ rfl)))).trans ?_
  refine (seq_nx (g1 := ⟨bS M f cs x5 (.own L6) (.dat (.int (j : Int))) x8 (.dat (.int (nL r))) x10 (.dat (.tup mo)), s1⟩) (by
    obtain ⟨S, hS⟩ : ∃ S, S = bS M f cs x5 (.own L6) (.dat (.int (j : Int))) x8 (.dat (.int (nL r))) x10 .no := ⟨_, rfl⟩
    rw [← hS]
    have c := compL_on (vs := [11]) (t := gN 11) (c := rt true) (e := fTup (fCons (f2 pAdd (rt (.int 30)) (fName 11)) (fCons (rt (.str "sounds")) (rt [])))) (E := fun i : Nat => D.int (i : Int)) (F := fun i : Nat => prD (pr (30 + (i : Int)) "sounds")) (P := fun _ => true) (S := S) (s := s1) (List.range (v - nL r + 1).toNat) fun q _ =>
      ⟨⟨S.set 11 (.dat (.int (q : Int))), s1⟩, ⟨S.set 11 (.dat (.int (q : Int))), s1⟩, rfl, rfl, fun _ => ⟨⟨S.set 11 (.dat (.int (q : Int))), s1⟩, pr_ok (iadd rfl (name_ok (by rw [hS]; rfl))) rfl, by rw [hS]; rfl, rfl⟩, fun z => by cases z⟩
    rw [List.filter_eq_self.mpr fun _ _ => rfl] at c
    have e : (List.range (v - nL r + 1).toNat).map (fun i : Nat => prD (pr (30 + (i : Int)) "sounds")) = mo := by
      rw [hmo]
      unfold moreL
      show _ = List.map DE.prD (List.map _ _)
      rw [List.map_map]; rfl
    rw [e] at c
    have k1 := compR_ok (fi := fCons (f2 pAdd (f2 pSub (fIxD (fName 1) (rt (.int 0))) (fName 9)) (rt (.int 1))) (rt [])) (n := v - nL r + 1) (g := ⟨S, s1⟩) (g1 := ⟨S, s1⟩) (cons_ok (iadd (isub (m0 S (by rw [hS]; rfl)) (name_ok (by rw [hS]; rfl))) rfl) rfl) (by omega) (by show compL _ _ _ _ _ ⟨wipeR S [11], s1⟩ = _; rw [show wipeR S [11] = S by rw [hS]; rfl]; exact c)
    exact (set_ok (tupOf_ok k1)).trans (by rw [hS]; rfl))).trans ?_
  refine (seq_nx (g1 := ⟨bS M f cs x5 (.own L7) (.dat (.int (j : Int))) x8 (.dat (.int (nL r))) x10 (.dat (.tup mo)), s1⟩) (by
    rw [hL7]
    refine b_app ?_ (by omega)
    exact pr_ok (pr_ok (name_ok rfl) (tadd (name_ok rfl) (name_ok rfl) (by omega))) (pr_ok rfl (isub (iadd (ll _ rfl) (m0 _ rfl)) (name_ok rfl))))).trans ?_
  refine (seq_nx (g1 := ⟨bS M f cs x5 (.own L8) (.dat (.int (j : Int))) x8 (.dat (.int (nL r))) x10 (.dat (.tup mo)), s1⟩) (by
    have t : fT (f2 pNeX (fIxD (fName 1) (rt (.int 2))) (rt (.str "none"))) ⟨bS M f cs x5 (.own L7) (.dat (.int (j : Int))) x8 (.dat (.int (nL r))) x10 (.dat (.tup mo)), s1⟩ = some (.ok (!decide (b = "none")), ⟨bS M f cs x5 (.own L7) (.dat (.int (j : Int))) x8 (.dat (.int (nL r))) x10 (.dat (.tup mo)), s1⟩) :=
      t_ok ((f2_ok (d := .str b) (d' := .str "none") (g2 := ⟨bS M f cs x5 (.own L7) (.dat (.int (j : Int))) x8 (.dat (.int (nL r))) x10 (.dat (.tup mo)), s1⟩) (m2 _ rfl) rfl).trans rfl)
    by_cases c : b = "none"
    · rw [hL8, if_pos c, List.append_nil]
      rw [decide_eq_true c] at t
      exact (if_f t).trans rfl
    · rw [hL8, if_neg c]
      rw [decide_eq_false c] at t
      refine (if_t t).trans (b_app ?_ (by omega))
      exact pr_ok (pr_ok (name_ok rfl) rfl) rfl)).trans ?_
  rfl
end K05
namespace K05
open PyProof.Rows PySem.Spec PySem L2 DE
/-! ### states are shown -/
def shortW (w : Str) : Bool := (w.cps.toList.all fun c => decide (c < 16 ^ 8)) && decide (w.cps.size ≤ 8)
theorem short_key : ∀ i : Int, 0 ≤ i → i ≤ 87 → (PyData.shown (.int i)).length ≤ 8 ∧ i.natAbs.log2 < 1920 := by
  intro i h1 h2
  obtain ⟨n, rfl⟩ : ∃ n : Nat, i = (n : Int) := ⟨i.toNat, by omega⟩
  have hn : n < 88 := by omega
  have all : ∀ k : Fin 88, (PyData.shown (.int ((k.1 : Nat) : Int))).length ≤ 8 ∧ ((k.1 : Nat) : Int).natAbs.log2 < 1920 := by decide +kernel
  exact all ⟨n, hn⟩
theorem mks_short : ∀ w ∈ MKS, shortW w = true := by decide
theorem row_facts : ∀ r : List Pr, okR r → (∀ p ∈ r, 0 ≤ p.1 ∧ p.1 ≤ 87) → PyData.showableAll (r.map prP) = true ∧ PyData.depthAll (r.map prP) ≤ 1 ∧ PyData.hasDictAll (r.map prP) = false ∧ PyData.leavesShortAll 8 (r.map prP) = true ∧ PyData.bulkAll (r.map prP) ≤ 20 * r.length
  | [], _, _ => by simp [PyData.showableAll, PyData.depthAll, PyData.hasDictAll, PyData.leavesShortAll, PyData.bulkAll]
  | p :: r, ok, hk => by
    obtain ⟨h1, h2, h3, h4, h5⟩ := row_facts r ok.tail fun q hq => hk q (List.mem_cons_of_mem _ hq)
    have hw := mks_short p.2 (ok p List.mem_cons_self)
    unfold shortW at hw
    rw [Bool.and_eq_true, decide_eq_true_eq] at hw
    obtain ⟨i1, i2⟩ := short_key p.1 (hk p List.mem_cons_self).1 (hk p List.mem_cons_self).2
    refine ⟨?_, ?_, ?_, ?_, ?_⟩
    · simp only [List.map_cons, prP, PyData.showableAll, PyData.showable, h1, Bool.and_true, Bool.and_eq_true, decide_eq_true_eq]; exact i2
    · simp only [List.map_cons, prP, PyData.depthAll, PyData.depth]; omega
    · simp only [List.map_cons, prP, PyData.hasDictAll, PyData.hasDict, h3]; rfl
    · simp only [List.map_cons, prP, PyData.leavesShortAll, PyData.leavesShort, h4, Bool.and_true, Bool.and_eq_true, decide_eq_true_eq]; exact ⟨i1, hw.1⟩
    · simp only [List.map_cons, prP, PyData.bulkAll, PyData.bulk, List.length_cons]; have := hw.2; omega
abbrev PS (f : Bool) (r : List Pr) : PyData := .tuple [.bool f, .tuple (r.map prP)]
theorem pyd_S (f : Bool) (r : List Pr) : pyd (stD f r) = some (PS f r) := by
  unfold pyd pydA pydA
  rw [show pyd (.tup (rowD r)) = some (.tuple (r.map prP)) by unfold pyd; rw [pyd_row]; rfl]; rfl
theorem pyd_SL (f : Bool) (r : List Pr) : pyd (.lst [stD f r]) = some (.list [PS f r]) := by
  have q := pyd_S f r
  unfold pyd pydA pydA
  rw [q]; rfl
theorem show_S {f : Bool} {r : List Pr} (ok : okR r) (hk : ∀ p ∈ r, 0 ≤ p.1 ∧ p.1 ≤ 87) (hl : r.length ≤ 50) : showB (.list [PS f r]) = true := by
  obtain ⟨f1, f2, f3, f4, f5⟩ := row_facts r ok hk
  have lv : (PyData.list [PS f r]).leavesShort 8 = true := by
    simp only [PyData.leavesShort, PyData.leavesShortAll, f4, Bool.and_true, Bool.true_and]
  have sz := PyData.shown_le_bulk 8 (by decide) _ lv
  have bk : (PyData.list [PS f r]).bulk ≤ 1100 := by
    simp only [PyData.bulk, PyData.bulkAll]; omega
  unfold showB
  simp only [Bool.and_eq_true, decide_eq_true_eq, Bool.not_eq_true']
  refine ⟨?_, ?_, by omega, ?_⟩
  · simp only [PyData.showable, PyData.showableAll, f1, Bool.and_true]
  · simp only [PyData.depth, PyData.depthAll]; omega
  · simp only [PyData.hasDict, PyData.hasDictAll, f3]; rfl
theorem ints_facts : ∀ xs : List Int, (∀ x ∈ xs, 0 ≤ x ∧ x ≤ 87) → PyData.showableAll (xs.map PyData.int) = true ∧ PyData.depthAll (xs.map PyData.int) = 0 ∧ PyData.hasDictAll (xs.map PyData.int) = false ∧ PyData.leavesShortAll 8 (xs.map PyData.int) = true ∧ PyData.bulkAll (xs.map PyData.int) ≤ 2 * xs.length
  | [], _ => by simp [PyData.showableAll, PyData.depthAll, PyData.hasDictAll, PyData.leavesShortAll, PyData.bulkAll]
  | x :: xs, hk => by
    obtain ⟨h1, h2, h3, h4, h5⟩ := ints_facts xs fun q hq => hk q (List.mem_cons_of_mem _ hq)
    obtain ⟨i1, i2⟩ := short_key x (hk x List.mem_cons_self).1 (hk x List.mem_cons_self).2
    refine ⟨?_, ?_, ?_, ?_, ?_⟩
    · simp only [List.map_cons, PyData.showableAll, PyData.showable, h1, Bool.and_true, decide_eq_true_eq]; exact i2
    · simp only [List.map_cons, PyData.depthAll, PyData.depth, h2]; rfl
    · simp only [List.map_cons, PyData.hasDictAll, PyData.hasDict, h3]; rfl
    · simp only [List.map_cons, PyData.leavesShortAll, PyData.leavesShort, h4, Bool.and_true, decide_eq_true_eq]; exact i1
    · simp only [List.map_cons, PyData.bulkAll, PyData.bulk, List.length_cons]; omega
theorem sortI_perm : ∀ xs : List Int, (sortI xs).Perm xs
  | [] => .refl _
  | x :: xs => (insI_perm x _).trans (.cons x (sortI_perm xs))
theorem pyd_snd (r : List Pr) : pyd (sndD r) = some (.tuple ((sortI (keysOf (r.filter loudP))).map .int)) := by
  unfold pyd; rw [pyd_ints]; rfl
theorem show_snd {r : List Pr} (hk : ∀ p ∈ r, 0 ≤ p.1 ∧ p.1 ≤ 87) (hl : r.length ≤ 50) : showB (.tuple ((sortI (keysOf (r.filter loudP))).map .int)) = true := by
  have pm := sortI_perm (keysOf (r.filter loudP))
  obtain ⟨xs, hxs⟩ : ∃ xs, xs = sortI (keysOf (r.filter loudP)) := ⟨_, rfl⟩
  rw [← hxs] at pm ⊢
  have len : xs.length ≤ 50 := by
    rw [pm.length_eq, List.length_map]
    exact Nat.le_trans (List.length_filter_le _ _) hl
  obtain ⟨f1, f2, f3, f4, f5⟩ := ints_facts xs fun x hx => by
    obtain ⟨p, hp, rfl⟩ := mem_key (pm.mem_iff.mp hx)
    exact hk p (List.mem_filter.mp hp).1
  have lv : (PyData.tuple (xs.map .int)).leavesShort 8 = true := by
    simp only [PyData.leavesShort, f4]
  have sz := PyData.shown_le_bulk 8 (by decide) _ lv
  have bk : (PyData.tuple (xs.map .int)).bulk ≤ 100 := by
    simp only [PyData.bulk]; omega
  unfold showB
  simp only [Bool.and_eq_true, decide_eq_true_eq, Bool.not_eq_true']
  refine ⟨?_, ?_, by omega, ?_⟩
  · simp only [PyData.showable, f1]
  · simp only [PyData.depth, f2]; decide
  · simp only [PyData.hasDict, f3]
/-! ### refusals told are the same -/
theorem place_same {xs : List D} (h : Place xs) (g : Sg) : pNe (.lst [.lst [.str "refused", .tup xs], .lst [.str "refused", .tup xs]]) (.lst [.lst [.str "refused", .tup xs], .lst [.str "refused", .tup xs]]) g = some (.ok (.bl false), g) := by
  rcases h with rfl | rfl | rfl | rfl | ⟨n, rfl⟩
  · kernel_rfl
  · kernel_rfl
  · kernel_rfl
  · kernel_rfl
  · have q : ∀ j : Int, pNe (.lst [.lst [.str "refused", .tup [.str "row", .int j]], .lst [.str "refused", .tup [.str "row", .int j]]]) (.lst [.lst [.str "refused", .tup [.str "row", .int j]], .lst [.str "refused", .tup [.str "row", .int j]]]) g =
        some (.ok (.bl (!((true && ((true && ((j == j) && true)) && true)) && ((true && ((true && ((j == j) && true)) && true)) && true)))), g) := fun j => by kernel_rfl
    rw [q]; simp
end K05
namespace K05
open PyProof.Rows PySem.Spec PySem L2 DE
/-! ### the whole law -/
abbrev B1 : Ms := fSet 9 (fCallN 3 m__law_machine (fCons (fName 1) (fCons (fIxD (fLet (fLst (fCons (rt (.int 1)) (fCons (rt (.int 2)) (fCons (rt (.int 8)) (rt [])))))) (fName 2)) (fCons (rt (.int 4)) (rt [])))))
abbrev B2 : Ms := fSet 3 (fSl (fLet (fLst (fCons (rt (.int 0)) (fCons (rt (.int 3)) (fCons (rt (.int 4)) (fCons (rt (.int 7)) (fCons (rt (.int 12)) (fCons (rt (.int 87)) (rt []))))))))) (rt none) (fPart (f2 pAdd (rt (.int 2)) (fCallN 2 m__law_draw (fCons (fName 1) (fCons (rt (.int 5)) (rt [])))))))
abbrev B3 : Ms := fSet 11 (fCallN 3 m__law_state (fCons (fName 1) (fCons (fName 9) (fCons (fName 3) (rt [])))))
abbrev B4 : Ms := fSet 10 (fCallN 3 m__law_free (fCons (fName 1) (fCons (fName 9) (fCons (fLet (fLst (fCons (rt (.int 0)) (fCons (rt (.int 3)) (fCons (rt (.int 4)) (fCons (rt (.int 7)) (fCons (rt (.int 12)) (fCons (rt (.int 16)) (fCons (rt (.int 17)) (fCons (rt (.int 19)) (fCons (rt (.int 22)) (fCons (rt (.int 87)) (rt []))))))))))))) (rt [])))))
abbrev B5 (i : Nat) : Ms := fIf (fOr (fT (f2 pNe (fRepr (fLam [9, i] mt__law_said (fCallN 2 m_need_state (fCons (fName 9) (fCons (fName i) (rt [])))))) (fRepr (fLet (fLst (fCons (fName i) (rt []))))))) (fT (f2 pNis (fCallN 2 m_is_state (fCons (fName 9) (fCons (fName i) (rt [])))) (rt (.bl true))))) (fRet (rt (.bl false))) (sOut .nx)
abbrev B6 (i : Nat) : Ms := fIf (fT (f2 pNe (fRepr (fCallN 2 m_sound (fCons (fName 9) (fCons (fName i) (rt []))))) (fRepr (fCallN 1 m__law_sound (fCons (fName i) (rt [])))))) (fRet (rt (.bl false))) (sOut .nx)
abbrev B9 : Ms := fSetO 5 (fComp [4] (fTup (fCons (rt .non) (fCons (fTup (rt [])) (fCons (fSl (fName 11) (rt none) (fPart (rt (.int 1)))) (fCons (f2 pAdd (fName 11) (fTup (fCons (rt (.int 0)) (rt [])))) (fCons (fLet (bd (fPeek 11) rt)) (fCons (rt (.int 5)) (fCons (rt (.dic [])) (rt []))))))))) (gN 4) ((rt true)) (fTup (fCons (fName 4) (fCons (fTup (rt [])) (rt [])))))
abbrev C1 : Ms := fSet 7 (fLet (fLst (fCons (fLam [9, 12] mt__law_said (fCallN 2 m_need_state (fCons (fName 9) (fCons (fName 12) (rt []))))) (fCons (fLam [9, 12] mt__law_said (fCallN 2 m_sound (fCons (fName 9) (fCons (fName 12) (rt []))))) (rt [])))))
abbrev C2 : Ms := fIf (fOr (fT (f2 pNe (fName 7) (fLet (fRepL (fLet (fLst (fCons (fLet (fLst (fCons (rt (.str "refused")) (fCons (fName 6) (rt []))))) (rt [])))) (rt (.int 2)))))) (fT (f2 pNis (fCallN 2 m_is_state (fCons (fName 9) (fCons (fName 12) (rt [])))) (rt (.bl false))))) (fRet (rt (.bl false))) (sOut .nx)
abbrev B10 : Ms := fFor (fLet (fCat (fName 5) (fCallN 3 m__law_bent (fCons (fName 1) (fCons (fName 9) (fCons (fName 11) (rt []))))))) (gT 2 (gsCons (gN 12) (gsCons (gN 6) gsNil))) (fSeq C1 C2)
abbrev KB : Ms := fSeq B1 (fSeq B2 (fSeq B3 (fSeq B4 (fSeq (B5 10) (fSeq (B6 10) (fSeq (B5 11) (fSeq (B6 11) (fSeq B9 B10))))))))
abbrev KR : Ms := fSeq (fSet 8 (fTup (fCons (rt (.bl false)) (fCons (fTup (fCons (fTup (fCons (rt (.int 3)) (fCons (rt (.str "sounds")) (rt [])))) (fCons (fTup (fCons (rt (.int 5)) (fCons (rt (.str "waits")) (rt [])))) (rt [])))) (rt [])))))
  (fSeq (fIf (fOr (fT (f2 pNis (fCallN 2 m_is_state (fCons (fTup (fCons (rt (.int 1)) (fCons (fTup (fCons (rt (.str "eldest")) (rt []))) (fCons (rt (.str "latest")) (rt []))))) (fCons (fName 8) (rt [])))) (rt (.bl true)))) (fT (f2 pNe (fCallN 2 m_sound (fCons (fTup (fCons (rt (.int 1)) (fCons (fTup (fCons (rt (.str "eldest")) (rt []))) (fCons (rt (.str "latest")) (rt []))))) (fCons (fName 8) (rt [])))) (fTup (fCons (rt (.int 3)) (rt [])))))) (fRet (rt (.bl false))) (sOut .nx))
  (fRet (fAndV (f2 pEq (rt c_START) (fTup (fCons (rt (.bl false)) (fCons (fTup (rt [])) (rt []))))) (f2 pEqE (fCallN 2 m_sound (fCons (fName 9) (fCons (rt c_START) (rt [])))) (fTup (rt []))))))
theorem law_eq : fb_law = fSeq (fForR (fCons (rt (.int 3)) (rt [])) (gN 2) KB) KR := rfl
abbrev lS (a ch so pl fo ow ma ot st th : Sl) : List Sl := [.no, .dat .m, a, ch, .no, so, pl, fo, ow, ma, ot, st, th]
theorem lam_ok {js : List Nat} {f : Mo D} {r0 r1 ps rr : List Sl} {s s1 : DS} {r : Except Exn D} {d : D} (hr : relS js r0 = r1) (hp : pickS js 0 r1 = ps) (h : f ⟨ps, s⟩ = some (r, ⟨rr, s1⟩)) (hd : saidR r = some d) : fLam js mt__law_said f ⟨r0, s⟩ = some (.ok d, ⟨r1, s1⟩) := by
  have e : thunk js f r0 s = some (r, s1) := by unfold thunk; rw [hr, hp, h]
  unfold fLam
  dsimp only
  rw [mt_said e hd, hr]
structure Mach (v : Int) (ws : List Str) (e b : Str) : Prop where
  lo : 1 ≤ v
  hi : v ≤ 8
  cr : Crit ws e
  ret : RET_.contains b = true
theorem Mach.fault {v : Int} {ws : List Str} {e b : Str} (h : Mach v ws e b) (s : DS) : m_machine_fault [MD v (.tup (csOf ws e)) b] s = some (.ok .non, s) := by
  rw [mach s ⟨h.lo, h.hi⟩ (crit_good h.cr s) (.inl rfl) rfl, show inW (.str b) RET_ = true from h.ret]; rfl
theorem Mach.rb {v : Int} {ws : List Str} {e b : Str} (h : Mach v ws e b) : b ∈ RET_ := by simpa using h.ret
section
variable {M t : D} {s : DS} {a ch so pl fo ow ma ot st th : Sl}
/-- the test of a state that holds -/
theorem good_test {i : Nat} {S ps : List Sl} {f : Bool} {r : List Pr} (h9 : S[9]? = some (.dat M)) (hi : S[i]? = some (.dat (stD f r))) (hr : relS [9, i] S = S) (hp : pickS [9, i] 0 S = ps) (p9 : ps[9]? = some (.dat M)) (pi : ps[i]? = some (.dat (stD f r)))
    (hM : ∀ s, m_machine_fault [M] s = some (.ok .non, s)) (hS : ∀ s, m_state_fault [M, stD f r] s = some (.ok .non, s)) (ok : okR r) (hk : ∀ p ∈ r, 0 ≤ p.1 ∧ p.1 ≤ 87) (hl : r.length ≤ 50) : B5 i ⟨S, s⟩ = some (.nx, ⟨S, s⟩) := by
  have c : fCallN 2 m_need_state (fCons (fName 9) (fCons (fName i) (rt []))) ⟨ps, s⟩ = some (.ok (stD f r), ⟨ps, s⟩) := call_ok (ds := [M, stD f r]) (g1 := ⟨ps, s⟩) (cons_ok (name_ok p9) (cons_ok (name_ok pi) rfl)) rfl (ns_ok (hM s) (hS s))
  have l : fLam [9, i] mt__law_said (fCallN 2 m_need_state (fCons (fName 9) (fCons (fName i) (rt [])))) ⟨S, s⟩ = some (.ok (.lst [stD f r]), ⟨S, s⟩) := lam_ok hr hp c rfl
  have r2 : fLet (fLst (fCons (fName i) (rt []))) ⟨S, s⟩ = some (.ok (.lst [stD f r]), ⟨S, s⟩) := let_ok (lst_ok (ds := [stD f r]) (cons_ok (name_ok hi) rfl) (by show 1 ≤ 100000; decide))
  have c2 : fCallN 2 m_is_state (fCons (fName 9) (fCons (fName i) (rt []))) ⟨S, s⟩ = some (.ok (.bl true), ⟨S, s⟩) := call_ok (ds := [M, stD f r]) (g1 := ⟨S, s⟩) (cons_ok (name_ok h9) (cons_ok (name_ok hi) rfl)) rfl (is_ok (hM s) (hS s))
  exact (if_f ((or_f (repr_same l r2 (pyd_SL f r) (show_S ok hk hl))).trans (t_ok ((f2_ok (d' := .bl true) (g2 := ⟨S, s⟩) c2 rfl).trans rfl)))).trans rfl
theorem sound_test {i : Nat} {S : List Sl} {f : Bool} {r : List Pr} (h9 : S[9]? = some (.dat M)) (hi : S[i]? = some (.dat (stD f r)))
    (hM : ∀ s, m_machine_fault [M] s = some (.ok .non, s)) (hS : ∀ s, m_state_fault [M, stD f r] s = some (.ok .non, s)) (hk : ∀ p ∈ r, 0 ≤ p.1 ∧ p.1 ≤ 87) (hl : r.length ≤ 50) : B6 i ⟨S, s⟩ = some (.nx, ⟨S, s⟩) := by
  have c1 : fCallN 2 m_sound (fCons (fName 9) (fCons (fName i) (rt []))) ⟨S, s⟩ = some (.ok (sndD r), ⟨S, s⟩) := call_ok (ds := [M, stD f r]) (g1 := ⟨S, s⟩) (cons_ok (name_ok h9) (cons_ok (name_ok hi) rfl)) rfl (snd_ok (by omega) (hM s) (hS s))
  have c2 : fCallN 1 m__law_sound (fCons (fName i) (rt [])) ⟨S, s⟩ = some (.ok (sndD r), ⟨S, s⟩) := call_ok (ds := [stD f r]) (g1 := ⟨S, s⟩) (cons_ok (name_ok hi) rfl) rfl (sound_ok (p := .bl f) (a := .tup (rowD r)) rfl (by omega) s)
  exact (if_f (repr_same c1 c2 (pyd_snd r) (show_snd hk hl))).trans rfl
/-- what is no state is refused -/
theorem bad_test {t : D} {xs : List D} (hM : ∀ s, m_machine_fault [M] s = some (.ok .non, s)) (hS : ∀ s, m_state_fault [M, t] s = some (.ok (.tup xs), s)) (hx : Place xs) :
    fSeq C1 C2 ⟨lS a ch so (.dat (.tup xs)) fo ow (.dat M) ot st (.dat t), s⟩ = some (.nx, ⟨lS a ch so (.dat (.tup xs)) (.dat (.lst [.lst [.str "refused", .tup xs], .lst [.str "refused", .tup xs]])) ow (.dat M) ot st (.dat t), s⟩) := by
  obtain ⟨g0, hg0⟩ : ∃ g : Sg, g = ⟨lS a ch so (.dat (.tup xs)) fo ow (.dat M) ot st (.dat t), s⟩ := ⟨_, rfl⟩
  obtain ⟨ps, hps⟩ : ∃ ps : List Sl, ps = [.no, .no, .no, .no, .no, .no, .no, .no, .no, .dat M, .no, .no, .dat t] := ⟨_, rfl⟩
  have c1 : fCallN 2 m_need_state (fCons (fName 9) (fCons (fName 12) (rt []))) ⟨ps, s⟩ = some (.error ⟨"BadState", .tup xs⟩, ⟨ps, s⟩) := call_ok (ds := [M, t]) (g1 := ⟨ps, s⟩) (cons_ok (name_ok (by rw [hps]; rfl)) (cons_ok (name_ok (by rw [hps]; rfl)) rfl)) rfl (ns_no (hM s) (hS s))
  have c2 : fCallN 2 m_sound (fCons (fName 9) (fCons (fName 12) (rt []))) ⟨ps, s⟩ = some (.error ⟨"BadState", .tup xs⟩, ⟨ps, s⟩) := call_ok (ds := [M, t]) (g1 := ⟨ps, s⟩) (cons_ok (name_ok (by rw [hps]; rfl)) (cons_ok (name_ok (by rw [hps]; rfl)) rfl)) rfl (snd_no (hM s) (hS s))
  have l1 : fLam [9, 12] mt__law_said (fCallN 2 m_need_state (fCons (fName 9) (fCons (fName 12) (rt [])))) g0 = some (.ok (.lst [.str "refused", .tup xs]), g0) := by rw [hg0]; exact lam_ok rfl (by rw [hps]; rfl) c1 (sr_er _)
  have l2 : fLam [9, 12] mt__law_said (fCallN 2 m_sound (fCons (fName 9) (fCons (fName 12) (rt [])))) g0 = some (.ok (.lst [.str "refused", .tup xs]), g0) := by rw [hg0]; exact lam_ok rfl (by rw [hps]; rfl) c2 (sr_er _)
  obtain ⟨g, hg⟩ : ∃ g : Sg, g = ⟨lS a ch so (.dat (.tup xs)) (.dat (.lst [.lst [.str "refused", .tup xs], .lst [.str "refused", .tup xs]])) ow (.dat M) ot st (.dat t), s⟩ := ⟨_, rfl⟩
  rw [← hg0, ← hg]
  refine (seq_nx (g1 := g) ((set_ok (let_ok (lst_ok (ds := [.lst [.str "refused", .tup xs], .lst [.str "refused", .tup xs]]) (cons_ok l1 (cons_ok l2 rfl)) (by show 2 ≤ 100000; decide)))).trans (by rw [hg0, hg]; rfl))).trans ?_
  have n7 : fName 7 g = some (.ok (.lst [.lst [.str "refused", .tup xs], .lst [.str "refused", .tup xs]]), g) := by rw [hg]; exact name_ok rfl
  have n6 : fName 6 g = some (.ok (.tup xs), g) := by rw [hg]; exact name_ok rfl
  have rp : fLet (fRepL (fLet (fLst (fCons (fLet (fLst (fCons (rt (.str "refused")) (fCons (fName 6) (rt []))))) (rt [])))) (rt (.int 2))) g = some (.ok (.lst [.lst [.str "refused", .tup xs], .lst [.str "refused", .tup xs]]), g) := by
    have i1 : fLet (fLst (fCons (fLet (fLst (fCons (rt (.str "refused")) (fCons (fName 6) (rt []))))) (rt []))) g = some (.ok (.lst [.lst [.str "refused", .tup xs]]), g) :=
      let_ok (lst_ok (ds := [.lst [.str "refused", .tup xs]]) (cons_ok (let_ok (lst_ok (ds := [.str "refused", .tup xs]) (cons_ok (g1 := g) rfl (cons_ok n6 rfl)) (by show 2 ≤ 100000; decide))) rfl) (by show 1 ≤ 100000; decide))
    refine let_ok ?_
    unfold fRepL
    rw [bd_ok i1]; rfl
  have c3 : fCallN 2 m_is_state (fCons (fName 9) (fCons (fName 12) (rt []))) g = some (.ok (.bl false), g) := by
    rw [hg]
    exact call_ok (ds := [M, t]) (g1 := ⟨lS a ch so (.dat (.tup xs)) (.dat (.lst [.lst [.str "refused", .tup xs], .lst [.str "refused", .tup xs]])) ow (.dat M) ot st (.dat t), s⟩) (cons_ok (name_ok rfl) (cons_ok (name_ok rfl) rfl)) rfl (is_no (hM s) (hS s))
  exact (if_f ((or_f (t_ok ((f2_ok n7 rp).trans (place_same hx g)))).trans (t_ok ((f2_ok (d' := .bl false) (g2 := g) c3 rfl).trans rfl)))).trans rfl
end
abbrev chI (j : Nat) : List Int := ([0, 3, 4, 7, 12, 87] : List Int).take (2 + j)
theorem ch_ok : ∀ c ∈ ([0, 3, 4, 7, 12, 87] : List Int), Kok c := by decide
abbrev FRI : List Int := [0, 3, 4, 7, 12, 16, 17, 19, 22, 87]
theorem fr_ok : ∀ c ∈ FRI, Kok c := by decide
theorem fr_nd : FRI.Nodup := by decide
theorem thing_list {f : Bool} {cs : List D} {s : DS} {a ch so pl fo ow ma ot th : Sl} : B9 ⟨lS a ch so pl fo ow ma ot (.dat (.tup [.bl f, .tup cs])) th, s⟩ = some (.nx, ⟨lS a ch (.own ((oddsS f cs).map fun o => D.tup [o, .tup []])) pl fo ow ma ot (.dat (.tup [.bl f, .tup cs])) th, s⟩) := by kernel_rfl
theorem kb_ok {k : Nat} {s : DS} {t A : Int} (ht : atI [D.int 1, .int 2, .int 8] t = some (.int A)) (hA : 1 ≤ A) (hA2 : A ≤ 8) {ch so pl fo ow ma ot st th : Sl} (g : Good (k + 62) s) :
    ∃ ch' so' pl' fo' v ws e b ot' st' th' s', KB ⟨lS (.dat (.int t)) ch so pl fo ow ma ot st th, s⟩ = some (.nx, ⟨lS (.dat (.int t)) ch' so' pl' fo' ow (.dat (MD v (.tup (csOf ws e)) b)) ot' st' th', s'⟩) ∧ Mach v ws e b ∧ Good k s' := by
  obtain ⟨v, ws, e, b, s1, e1, v1, v2, C, hb, g1⟩ := machine_ok (A := A) (B := 4) hA (by omega) (by decide) (by decide) (k := k + 55) (g.mono (by show k + 55 + 4 + 3 ≤ _; omega))
  have H : Mach v ws e b := ⟨v1, by omega, C, hb⟩
  have hw : ∀ x ∈ ws, x ∈ FIL := fun x hx => by simpa using C.fil x hx
  have hwl : ws.length ≤ 1000 := by have := C.len; omega
  obtain ⟨r, s2, e2, r1, r2, g2⟩ := draw_ok (n := 5) (k := k + 54) (by decide) (by decide) g1
  obtain ⟨j, rfl⟩ : ∃ j : Nat, r = (j : Int) := ⟨r.toNat, by omega⟩
  have lc : (chI j).length = 2 + j := by rw [List.length_take]; show min (2 + j) 6 = _; omega
  obtain ⟨f, q, s3, e3, V, lq, g3⟩ := state_ok (v := v) (ws := ws) (e := e) H.rb v1 hw hwl (cs := chI j) (fun c hc => ch_ok c (List.mem_of_mem_take hc)) (by omega) (by omega) (k := k + 23) (g2.mono (by omega))
  obtain ⟨f3, q2, s4, e4, V2, lq2, g4⟩ := free_ok (v := v) (C := .tup (csOf ws e)) H.rb v1 (cs := FRI) fr_ok fr_nd (by decide) (k := k + 1) (g3.mono (by show k + 1 + 2 + 2 * 10 ≤ _; omega))
  have lq2 : q2.length ≤ 10 := lq2
  obtain ⟨L, s5, e5, BL, lL, g5⟩ := bent_ok (C := .tup (csOf ws e)) H.rb v1 (by omega) V (by omega) (k := k) g4
  obtain ⟨M, hM⟩ : ∃ M, M = MD v (.tup (csOf ws e)) b := ⟨_, rfl⟩
  have mf : ∀ s, m_machine_fault [M] s = some (.ok .non, s) := fun s => by rw [hM]; exact H.fault s
  have sf1 : ∀ s, m_state_fault [M, stD f q] s = some (.ok .non, s) := fun s => by rw [hM]; exact sf_good V (by omega)
  have sf2 : ∀ s, m_state_fault [M, stD f3 q2] s = some (.ok .non, s) := fun s => by rw [hM]; exact sf_good V2 (by omega)
  have k1 : ∀ p ∈ q, 0 ≤ p.1 ∧ p.1 ≤ 87 := fun p hp => (V.key p hp).1
  have k2 : ∀ p ∈ q2, 0 ≤ p.1 ∧ p.1 ≤ 87 := fun p hp => (V2.key p hp).1
  have cat : ∀ p ∈ ((oddsS f (rowD q)).map fun o => D.tup [o, .tup []]) ++ L, Bad M p := fun p hp => by
    rcases (List.mem_append.mp hp) with hp | hp
    · obtain ⟨o, ho, rfl⟩ := List.mem_map.mp hp
      exact bad_thing o ho
    · rw [hM]; exact BL p hp
  replace e1 : m__law_machine [.m, .int A, .int 4] s = some (.ok M, s1) := by rw [hM]; exact e1
  replace e3 : m__law_state [.m, M, .lst ((chI j).map .int)] s2 = some (.ok (stD f q), s3) := by rw [hM]; exact e3
  replace e4 : m__law_free [.m, M, .lst (FRI.map .int)] s3 = some (.ok (stD f3 q2), s4) := by rw [hM]; exact e4
  replace e5 : m__law_bent [.m, M, stD f q] s4 = some (.ok (.lst L), s5) := by rw [hM]; exact e5
  obtain ⟨a, ha⟩ : ∃ a, a = Sl.dat (.int t) := ⟨_, rfl⟩
  obtain ⟨chS, hch⟩ : ∃ x, x = Sl.dat (.lst ((chI j).map .int)) := ⟨_, rfl⟩
  have step1 : B1 ⟨lS a ch so pl fo ow ma ot st th, s⟩ = some (.nx, ⟨lS a ch so pl fo ow (.dat M) ot st th, s1⟩) := by
    rw [ha]
    exact set_ok (g1 := ⟨lS (.dat (.int t)) ch so pl fo ow ma ot st th, s1⟩) (call_ok (ds := [.m, .int A, .int 4]) (g1 := ⟨lS (.dat (.int t)) ch so pl fo ow ma ot st th, s⟩) (cons_ok (name_ok rfl) (cons_ok (ix_ok (d := .lst [.int 1, .int 2, .int 8]) (g1 := ⟨lS (.dat (.int t)) ch so pl fo ow ma ot st th, s⟩) rfl (name_ok rfl) rfl ht) rfl)) rfl e1)
  have step2 : B2 ⟨lS a ch so pl fo ow (.dat M) ot st th, s1⟩ = some (.nx, ⟨lS a chS so pl fo ow (.dat M) ot st th, s2⟩) := by
    rw [hch]
    refine set_ok (g1 := ⟨lS a ch so pl fo ow (.dat M) ot st th, s2⟩) ?_
    have dr : fPart (f2 pAdd (rt (.int 2)) (fCallN 2 m__law_draw (fCons (fName 1) (fCons (rt (.int 5)) (rt []))))) ⟨lS a ch so pl fo ow (.dat M) ot st th, s1⟩ = some (.ok (some (2 + (j : Int))), ⟨lS a ch so pl fo ow (.dat M) ot st th, s2⟩) :=
      part_ok ((f2_ok (d := .int 2) (d' := .int (j : Int)) (g1 := ⟨lS a ch so pl fo ow (.dat M) ot st th, s1⟩) (g2 := ⟨lS a ch so pl fo ow (.dat M) ot st th, s2⟩) rfl (call_ok (ds := [.m, .int 5]) (g1 := ⟨lS a ch so pl fo ow (.dat M) ot st th, s1⟩) (cons_ok (name_ok rfl) rfl) rfl e2)).trans rfl)
    refine (slL_ok (cs := ([0, 3, 4, 7, 12, 87] : List Int).map .int) (lo := none) (hi := some (2 + (j : Int))) (g1 := ⟨lS a ch so pl fo ow (.dat M) ot st th, s1⟩) (g2 := ⟨lS a ch so pl fo ow (.dat M) ot st th, s1⟩) rfl rfl dr).trans ?_
    have : DE.cutD (([0, 3, 4, 7, 12, 87] : List Int).map D.int) none (some (2 + (j : Int))) = (chI j).map .int := by
      rw [show (2 + (j : Int)) = ((2 + j : Nat) : Int) by omega, cut_take _ _ (by show 2 + j ≤ 6; omega)]
      exact List.map_take.symm
    rw [this]
  have step3 : B3 ⟨lS a chS so pl fo ow (.dat M) ot st th, s2⟩ = some (.nx, ⟨lS a chS so pl fo ow (.dat M) ot (.dat (stD f q)) th, s3⟩) := by
    rw [hch]
    exact set_ok (g1 := ⟨lS a (.dat (.lst ((chI j).map .int))) so pl fo ow (.dat M) ot st th, s3⟩) (call_ok (ds := [.m, M, .lst ((chI j).map .int)]) (g1 := ⟨lS a (.dat (.lst ((chI j).map .int))) so pl fo ow (.dat M) ot st th, s2⟩) (cons_ok (name_ok rfl) (cons_ok (name_ok rfl) (cons_ok (name_ok rfl) rfl))) rfl e3)
  have step4 : B4 ⟨lS a chS so pl fo ow (.dat M) ot (.dat (stD f q)) th, s3⟩ = some (.nx, ⟨lS a chS so pl fo ow (.dat M) (.dat (stD f3 q2)) (.dat (stD f q)) th, s4⟩) :=
    set_ok (g1 := ⟨lS a chS so pl fo ow (.dat M) ot (.dat (stD f q)) th, s4⟩) (call_ok (ds := [.m, M, .lst (FRI.map .int)]) (g1 := ⟨lS a chS so pl fo ow (.dat M) ot (.dat (stD f q)) th, s3⟩) (cons_ok (name_ok rfl) (cons_ok (name_ok rfl) rfl)) rfl e4)
  have step5 : B5 10 ⟨lS a chS so pl fo ow (.dat M) (.dat (stD f3 q2)) (.dat (stD f q)) th, s4⟩ = some (.nx, ⟨lS a chS so pl fo ow (.dat M) (.dat (stD f3 q2)) (.dat (stD f q)) th, s4⟩) := good_test rfl rfl rfl rfl rfl rfl mf sf2 V2.ok k2 (by omega)
  have step6 : B6 10 ⟨lS a chS so pl fo ow (.dat M) (.dat (stD f3 q2)) (.dat (stD f q)) th, s4⟩ = some (.nx, ⟨lS a chS so pl fo ow (.dat M) (.dat (stD f3 q2)) (.dat (stD f q)) th, s4⟩) := sound_test rfl rfl mf sf2 k2 (by omega)
  have step7 : B5 11 ⟨lS a chS so pl fo ow (.dat M) (.dat (stD f3 q2)) (.dat (stD f q)) th, s4⟩ = some (.nx, ⟨lS a chS so pl fo ow (.dat M) (.dat (stD f3 q2)) (.dat (stD f q)) th, s4⟩) := good_test rfl rfl rfl rfl rfl rfl mf sf1 V.ok k1 (by omega)
  have step8 : B6 11 ⟨lS a chS so pl fo ow (.dat M) (.dat (stD f3 q2)) (.dat (stD f q)) th, s4⟩ = some (.nx, ⟨lS a chS so pl fo ow (.dat M) (.dat (stD f3 q2)) (.dat (stD f q)) th, s4⟩) := sound_test rfl rfl mf sf1 k1 (by omega)
  obtain ⟨N, hN⟩ : ∃ N, N = ((oddsS f (rowD q)).map fun o => D.tup [o, .tup []]) := ⟨_, rfl⟩
  have lN : N.length = 7 := by rw [hN]; rfl
  have step9 : B9 ⟨lS a chS so pl fo ow (.dat M) (.dat (stD f3 q2)) (.dat (stD f q)) th, s4⟩ = some (.nx, ⟨lS a chS (.own N) pl fo ow (.dat M) (.dat (stD f3 q2)) (.dat (stD f q)) th, s4⟩) := by rw [hN]; exact thing_list
  rw [← hN] at cat
  have lis : fLet (fCat (fName 5) (fCallN 3 m__law_bent (fCons (fName 1) (fCons (fName 9) (fCons (fName 11) (rt [])))))) ⟨lS a chS (.own N) pl fo ow (.dat M) (.dat (stD f3 q2)) (.dat (stD f q)) th, s4⟩ = some (.ok (.lst (N ++ L)), ⟨lS a chS (.dat (.lst N)) pl fo ow (.dat M) (.dat (stD f3 q2)) (.dat (stD f q)) th, s5⟩) :=
    app_cat (g1 := ⟨lS a chS (.dat (.lst N)) pl fo ow (.dat M) (.dat (stD f3 q2)) (.dat (stD f q)) th, s4⟩) rfl (call_ok (ds := [.m, M, stD f q]) (g1 := ⟨lS a chS (.dat (.lst N)) pl fo ow (.dat M) (.dat (stD f3 q2)) (.dat (stD f q)) th, s4⟩) (cons_ok (name_ok rfl) (cons_ok (name_ok rfl) (cons_ok (name_ok rfl) rfl))) rfl e5) (by omega)
  obtain ⟨g', eL, pl', fo', th', rfl⟩ := loop_all (t := gT 2 (gsCons (gN 12) (gsCons (gN 6) gsNil))) (b := fSeq C1 C2) (fun g => ∃ pl' fo' th', g = (⟨lS a chS (.dat (.lst N)) pl' fo' ow (.dat M) (.dat (stD f3 q2)) (.dat (stD f q)) th', s5⟩ : Sg)) (ds := N ++ L) (g := ⟨lS a chS (.dat (.lst N)) pl fo ow (.dat M) (.dat (stD f3 q2)) (.dat (stD f q)) th, s5⟩) (fun d hd g h => by
    obtain ⟨pl', fo', th', rfl⟩ := h
    obtain ⟨t, xs, rfl, hS, hx⟩ := cat d hd
    exact ⟨⟨lS a chS (.dat (.lst N)) (.dat (.tup xs)) fo' ow (.dat M) (.dat (stD f3 q2)) (.dat (stD f q)) (.dat t), s5⟩, _, rfl, bad_test mf hS hx, _, _, _, rfl⟩) ⟨_, _, _, rfl⟩
  refine ⟨chS, .dat (.lst N), pl', fo', v, ws, e, b, .dat (stD f3 q2), .dat (stD f q), th', s5, ?_, H, g5⟩
  rw [← ha, ← hM]
  refine (seq_nx step1).trans ((seq_nx step2).trans ((seq_nx step3).trans ((seq_nx step4).trans ((seq_nx step5).trans ((seq_nx step6).trans ((seq_nx step7).trans ((seq_nx step8).trans ((seq_nx step9).trans ?_))))))))
  exact (for_ok lis rfl).trans eL
theorem last_ok' {v : Int} {ws : List Str} {e b : Str} (H : Mach v ws e b) {a ch so pl fo ow ot st th : Sl} (s : DS) : ∃ g', KR ⟨lS a ch so pl fo ow (.dat (MD v (.tup (csOf ws e)) b)) ot st th, s⟩ = some (.ret (.bl true), g') := by
  obtain ⟨M, hM⟩ : ∃ M, M = MD v (.tup (csOf ws e)) b := ⟨_, rfl⟩
  have mf : m_machine_fault [M] s = some (.ok .non, s) := by rw [hM]; exact H.fault s
  have sf : m_state_fault [M, stD false []] s = some (.ok .non, s) := by rw [hM]; exact sf_good (val_nil H.lo b false) (by decide)
  rw [← hM]
  obtain ⟨S, hS⟩ : ∃ S : List Sl, S = lS a ch so pl fo (.dat (.tup [.bl false, .tup [.tup [.int 3, .str "sounds"], .tup [.int 5, .str "waits"]]])) (.dat M) ot st th := ⟨_, rfl⟩
  refine ⟨⟨S, s⟩, (seq_nx (g1 := ⟨S, s⟩) (by rw [hS]; kernel_rfl)).trans ((seq_nx (g1 := ⟨S, s⟩) (by rw [hS]; kernel_rfl)).trans (ret_ok ?_))⟩
  refine (andV_t (g1 := ⟨S, s⟩) (by kernel_rfl)).trans ?_
  refine (f2_ok (d := sndD []) (d' := .tup []) (g2 := ⟨S, s⟩) (call_ok (ds := [M, stD false []]) (g1 := ⟨S, s⟩) (cons_ok (name_ok (by rw [hS]; rfl)) rfl) rfl (snd_ok (by decide) mf sf)) rfl).trans ?_
  kernel_rfl
theorem law_true (ns : List Int) (h : ns.length ≤ 63) : ∃ g', fb_law ⟨initR 13 1, begS ns⟩ = some (.ret (.bl true), g') := by
  have g0 : Good (0 + 62 + 62 + 62) (begS ns) := ⟨Int.le_refl 0, by show (0 : Int) + ((0 + 62 + 62 + 62 : Nat) : Int) < _; decide, Nat.le_trans (List.length_filter_le _ _) (by omega)⟩
  obtain ⟨ch1, so1, pl1, fo1, v1, ws1, e1, b1, ot1, st1, th1, s1, x1, _, g1⟩ := kb_ok (t := 0) (A := 1) rfl (by decide) (by decide) (k := 0 + 62 + 62) (ch := .no) (so := .no) (pl := .no) (fo := .no) (ow := .no) (ma := .no) (ot := .no) (st := .no) (th := .no) g0
  obtain ⟨ch2, so2, pl2, fo2, v2, ws2, e2, b2, ot2, st2, th2, s2, x2, _, g2⟩ := kb_ok (t := 1) (A := 2) rfl (by decide) (by decide) (k := 0 + 62) (ch := ch1) (so := so1) (pl := pl1) (fo := fo1) (ow := .no) (ma := .dat (MD v1 (.tup (csOf ws1 e1)) b1)) (ot := ot1) (st := st1) (th := th1) g1
  obtain ⟨ch3, so3, pl3, fo3, v3, ws3, e3, b3, ot3, st3, th3, s3, x3, H3, g3⟩ := kb_ok (t := 2) (A := 8) rfl (by decide) (by decide) (k := 0) (ch := ch2) (so := so2) (pl := pl2) (fo := fo2) (ow := .no) (ma := .dat (MD v2 (.tup (csOf ws2 e2)) b2)) (ot := ot2) (st := st2) (th := th2) g2
  obtain ⟨g', eg⟩ := last_ok' H3 (a := .dat (.int 2)) (ch := ch3) (so := so3) (pl := pl3) (fo := fo3) (ow := .no) (ot := ot3) (st := st3) (th := th3) s3
  refine ⟨g', ?_⟩
  rw [law_eq]
  have lp : loop (gN 2) KB [.int 0, .int 1, .int 2] ⟨lS .no .no .no .no .no .no .no .no .no .no, begS ns⟩ = some (.nx, ⟨lS (.dat (.int 2)) ch3 so3 pl3 fo3 .no (.dat (MD v3 (.tup (csOf ws3 e3)) b3)) ot3 st3 th3, s3⟩) :=
    (loop_cons (g1 := ⟨lS (.dat (.int 0)) .no .no .no .no .no .no .no .no .no, begS ns⟩) rfl x1).trans ((loop_cons (g1 := ⟨lS (.dat (.int 1)) ch1 so1 pl1 fo1 .no (.dat (MD v1 (.tup (csOf ws1 e1)) b1)) ot1 st1 th1, s1⟩) rfl x2).trans ((loop_cons (g1 := ⟨lS (.dat (.int 2)) ch2 so2 pl2 fo2 .no (.dat (MD v2 (.tup (csOf ws2 e2)) b2)) ot2 st2 th2, s2⟩) rfl x3).trans rfl))
  exact (seq_nx ((forR_ok (n := 3) (g1 := ⟨lS .no .no .no .no .no .no .no .no .no .no, begS ns⟩) rfl (by decide)).trans lp)).trans eg
end K05
namespace K05
open PyProof.Rows PySem.Spec PySem L2 DE
section
theorem all_mk {P : Program} {w : World} {K : PySem.W.Frag} {h : Heap} {mg : Str → Option Value} {fa : Addr}
    {ca_law tp_law : Addr} {dr_law : DefRec}
    {f__law_begun : Addr} {oc__law_begun kV__law_begun dc__law_begun pm__law_begun cd__law_begun ct__law_begun : Value} {od__law_begun an__law_begun : Option Addr} {sl__law_begun : Array (Option Value)}
    {f_is_whole : Addr} {oc_is_whole kV_is_whole dc_is_whole pm_is_whole cd_is_whole ct_is_whole : Value} {od_is_whole an_is_whole : Option Addr} {sl_is_whole : Array (Option Value)}
    {f_is_word : Addr} {oc_is_word kV_is_word dc_is_word pm_is_word cd_is_word ct_is_word : Value} {od_is_word an_is_word : Option Addr} {sl_is_word : Array (Option Value)}
    {f_is_key : Addr} {oc_is_key kV_is_key dc_is_key pm_is_key cd_is_key ct_is_key : Value} {od_is_key an_is_key : Option Addr} {sl_is_key : Array (Option Value)}
    {f_can_stand : Addr} {oc_can_stand kV_can_stand dc_can_stand pm_can_stand cd_can_stand ct_can_stand : Value} {od_can_stand an_can_stand : Option Addr} {sl_can_stand : Array (Option Value)}
    {f_criteria_fault : Addr} {oc_criteria_fault kV_criteria_fault dc_criteria_fault pm_criteria_fault cd_criteria_fault ct_criteria_fault : Value} {od_criteria_fault an_criteria_fault : Option Addr} {sl_criteria_fault : Array (Option Value)}
    {f_machine_fault : Addr} {oc_machine_fault kV_machine_fault dc_machine_fault pm_machine_fault cd_machine_fault ct_machine_fault : Value} {od_machine_fault an_machine_fault : Option Addr} {sl_machine_fault : Array (Option Value)}
    {f_need_machine : Addr} {oc_need_machine kV_need_machine dc_need_machine pm_need_machine cd_need_machine ct_need_machine : Value} {od_need_machine an_need_machine : Option Addr} {sl_need_machine : Array (Option Value)}
    {f_is_pair : Addr} {oc_is_pair kV_is_pair dc_is_pair pm_is_pair cd_is_pair ct_is_pair : Value} {od_is_pair an_is_pair : Option Addr} {sl_is_pair : Array (Option Value)}
    {f_loud_keys : Addr} {oc_loud_keys kV_loud_keys dc_loud_keys pm_loud_keys cd_loud_keys ct_loud_keys : Value} {od_loud_keys an_loud_keys : Option Addr} {sl_loud_keys : Array (Option Value)}
    {f_sound_of : Addr} {oc_sound_of kV_sound_of dc_sound_of pm_sound_of cd_sound_of ct_sound_of : Value} {od_sound_of an_sound_of : Option Addr} {sl_sound_of : Array (Option Value)}
    {f_can_be_next : Addr} {oc_can_be_next kV_can_be_next dc_can_be_next pm_can_be_next cd_can_be_next ct_can_be_next : Value} {od_can_be_next an_can_be_next : Option Addr} {sl_can_be_next : Array (Option Value)}
    {f_row_fault : Addr} {oc_row_fault kV_row_fault dc_row_fault pm_row_fault cd_row_fault ct_row_fault : Value} {od_row_fault an_row_fault : Option Addr} {sl_row_fault : Array (Option Value)}
    {f_waits_in_vain : Addr} {oc_waits_in_vain kV_waits_in_vain dc_waits_in_vain pm_waits_in_vain cd_waits_in_vain ct_waits_in_vain : Value} {od_waits_in_vain an_waits_in_vain : Option Addr} {sl_waits_in_vain : Array (Option Value)}
    {f_state_fault : Addr} {oc_state_fault kV_state_fault dc_state_fault pm_state_fault cd_state_fault ct_state_fault : Value} {od_state_fault an_state_fault : Option Addr} {sl_state_fault : Array (Option Value)}
    {f_need_state : Addr} {oc_need_state kV_need_state dc_need_state pm_need_state cd_need_state ct_need_state : Value} {od_need_state an_need_state : Option Addr} {sl_need_state : Array (Option Value)}
    {f_is_state : Addr} {oc_is_state kV_is_state dc_is_state pm_is_state cd_is_state ct_is_state : Value} {od_is_state an_is_state : Option Addr} {sl_is_state : Array (Option Value)}
    {f_sound : Addr} {oc_sound kV_sound dc_sound pm_sound cd_sound ct_sound : Value} {od_sound an_sound : Option Addr} {sl_sound : Array (Option Value)}
    {f__law_draw : Addr} {oc__law_draw kV__law_draw dc__law_draw pm__law_draw cd__law_draw ct__law_draw : Value} {od__law_draw an__law_draw : Option Addr} {sl__law_draw : Array (Option Value)}
    {f__law_of : Addr} {oc__law_of kV__law_of dc__law_of pm__law_of cd__law_of ct__law_of : Value} {od__law_of an__law_of : Option Addr} {sl__law_of : Array (Option Value)}
    {f__law_machine : Addr} {oc__law_machine kV__law_machine dc__law_machine pm__law_machine cd__law_machine ct__law_machine : Value} {od__law_machine an__law_machine : Option Addr} {sl__law_machine : Array (Option Value)}
    {f__law_loud : Addr} {oc__law_loud kV__law_loud dc__law_loud pm__law_loud cd__law_loud ct__law_loud : Value} {od__law_loud an__law_loud : Option Addr} {sl__law_loud : Array (Option Value)}
    {f__law_sound : Addr} {oc__law_sound kV__law_sound dc__law_sound pm__law_sound cd__law_sound ct__law_sound : Value} {od__law_sound an__law_sound : Option Addr} {sl__law_sound : Array (Option Value)}
    {f__law_end : Addr} {oc__law_end kV__law_end dc__law_end pm__law_end cd__law_end ct__law_end : Value} {od__law_end an__law_end : Option Addr} {sl__law_end : Array (Option Value)}
    {f__law_left : Addr} {oc__law_left kV__law_left dc__law_left pm__law_left cd__law_left ct__law_left : Value} {od__law_left an__law_left : Option Addr} {sl__law_left : Array (Option Value)}
    {f__law_taken : Addr} {oc__law_taken kV__law_taken dc__law_taken pm__law_taken cd__law_taken ct__law_taken : Value} {od__law_taken an__law_taken : Option Addr} {sl__law_taken : Array (Option Value)}
    {f__law_marked : Addr} {oc__law_marked kV__law_marked dc__law_marked pm__law_marked cd__law_marked ct__law_marked : Value} {od__law_marked an__law_marked : Option Addr} {sl__law_marked : Array (Option Value)}
    {f__law_filled : Addr} {oc__law_filled kV__law_filled dc__law_filled pm__law_filled cd__law_filled ct__law_filled : Value} {od__law_filled an__law_filled : Option Addr} {sl__law_filled : Array (Option Value)}
    {f__law_gone_down : Addr} {oc__law_gone_down kV__law_gone_down dc__law_gone_down pm__law_gone_down cd__law_gone_down ct__law_gone_down : Value} {od__law_gone_down an__law_gone_down : Option Addr} {sl__law_gone_down : Array (Option Value)}
    {f__law_stepped : Addr} {oc__law_stepped kV__law_stepped dc__law_stepped pm__law_stepped cd__law_stepped ct__law_stepped : Value} {od__law_stepped an__law_stepped : Option Addr} {sl__law_stepped : Array (Option Value)}
    {f__law_play : Addr} {oc__law_play kV__law_play dc__law_play pm__law_play cd__law_play ct__law_play : Value} {od__law_play an__law_play : Option Addr} {sl__law_play : Array (Option Value)}
    {f__law_state : Addr} {oc__law_state kV__law_state dc__law_state pm__law_state cd__law_state ct__law_state : Value} {od__law_state an__law_state : Option Addr} {sl__law_state : Array (Option Value)}
    {f__law_free : Addr} {oc__law_free kV__law_free dc__law_free pm__law_free cd__law_free ct__law_free : Value} {od__law_free an__law_free : Option Addr} {sl__law_free : Array (Option Value)}
    {f__law_said : Addr} {oc__law_said kV__law_said dc__law_said pm__law_said cd__law_said ct__law_said : Value} {od__law_said an__law_said : Option Addr} {sl__law_said : Array (Option Value)}
    {f__law_bent : Addr} {oc__law_bent kV__law_bent dc__law_bent pm__law_bent cd__law_bent ct__law_bent : Value} {od__law_bent an__law_bent : Option Addr} {sl__law_bent : Array (Option Value)}
    {f_law : Addr} {oc_law kV_law dc_law pm_law ct_law : Value} {od_law an_law : Option Addr} {sl_law : Array (Option Value)}
    {i_FILTERS : Array Value} {r_FILTERS : Addr} {od_FILTERS : Option Addr} {n_FILTERS : Nat} {sl_FILTERS : Array (Option Value)}
    {i_ENDS : Array Value} {r_ENDS : Addr} {od_ENDS : Option Addr} {n_ENDS : Nat} {sl_ENDS : Array (Option Value)}
    {i_RETURNS : Array Value} {r_RETURNS : Addr} {od_RETURNS : Option Addr} {n_RETURNS : Nat} {sl_RETURNS : Array (Option Value)}
    {t_MOST_VOICES : Tok}
    {t_MOST_CRITERIA : Tok}
    {t_MOST_KEY : Tok}
    {r_START : Addr}
    {i_MARKS : Array Value} {r_MARKS : Addr} {od_MARKS : Option Addr} {n_MARKS : Nat} {sl_MARKS : Array (Option Value)}
    {C_BadMachine fI_BadMachine : Addr}
    {C_BadState fI_BadState : Addr}
    {C_VoiceError : Addr}
    (X : K.In h) (G : h.Ns mainGlobals mg) (hfa : mg "law" = some (.ref fa))
    (z_bool : PySem.W.nsIn K mainGlobals "bool" = some none)
    (z_int : PySem.W.nsIn K mainGlobals "int" = some none)
    (z_isinstance : PySem.W.nsIn K mainGlobals "isinstance" = some none)
    (z_len : PySem.W.nsIn K mainGlobals "len" = some none)
    (z_list : PySem.W.nsIn K mainGlobals "list" = some none)
    (z_max : PySem.W.nsIn K mainGlobals "max" = some none)
    (z_min : PySem.W.nsIn K mainGlobals "min" = some none)
    (z_range : PySem.W.nsIn K mainGlobals "range" = some none)
    (z_repr : PySem.W.nsIn K mainGlobals "repr" = some none)
    (z_sorted : PySem.W.nsIn K mainGlobals "sorted" = some none)
    (z_str : PySem.W.nsIn K mainGlobals "str" = some none)
    (z_super : PySem.W.nsIn K mainGlobals "super" = some none)
    (z_tuple : PySem.W.nsIn K mainGlobals "tuple" = some none)
    (a__law_begun : PySem.W.nsIn K mainGlobals "_law_begun" = some (some (.ref f__law_begun)))
    (l__law_begun : K.lookup f__law_begun = some ⟨oc__law_begun, od__law_begun, .func (PySem.W.fnOf "_law_begun" "_law_begun" (defArgs s__law_begun) (defBody s__law_begun) (defScope s__law_begun) .none kV__law_begun dc__law_begun pm__law_begun an__law_begun cd__law_begun ct__law_begun), sl__law_begun⟩)
    (c__law_begun : PySem.W.codeIn K cd__law_begun "_law_begun" = true)
    (k__law_begun : PySem.W.keepIn K (.ref f__law_begun) = true)
    (a_is_whole : PySem.W.nsIn K mainGlobals "is_whole" = some (some (.ref f_is_whole)))
    (l_is_whole : K.lookup f_is_whole = some ⟨oc_is_whole, od_is_whole, .func (PySem.W.fnOf "is_whole" "is_whole" (defArgs s_is_whole) (defBody s_is_whole) (defScope s_is_whole) .none kV_is_whole dc_is_whole pm_is_whole an_is_whole cd_is_whole ct_is_whole), sl_is_whole⟩)
    (c_is_whole : PySem.W.codeIn K cd_is_whole "is_whole" = true)
    (k_is_whole : PySem.W.keepIn K (.ref f_is_whole) = true)
    (a_is_word : PySem.W.nsIn K mainGlobals "is_word" = some (some (.ref f_is_word)))
    (l_is_word : K.lookup f_is_word = some ⟨oc_is_word, od_is_word, .func (PySem.W.fnOf "is_word" "is_word" (defArgs s_is_word) (defBody s_is_word) (defScope s_is_word) .none kV_is_word dc_is_word pm_is_word an_is_word cd_is_word ct_is_word), sl_is_word⟩)
    (c_is_word : PySem.W.codeIn K cd_is_word "is_word" = true)
    (k_is_word : PySem.W.keepIn K (.ref f_is_word) = true)
    (a_is_key : PySem.W.nsIn K mainGlobals "is_key" = some (some (.ref f_is_key)))
    (l_is_key : K.lookup f_is_key = some ⟨oc_is_key, od_is_key, .func (PySem.W.fnOf "is_key" "is_key" (defArgs s_is_key) (defBody s_is_key) (defScope s_is_key) .none kV_is_key dc_is_key pm_is_key an_is_key cd_is_key ct_is_key), sl_is_key⟩)
    (c_is_key : PySem.W.codeIn K cd_is_key "is_key" = true)
    (k_is_key : PySem.W.keepIn K (.ref f_is_key) = true)
    (a_can_stand : PySem.W.nsIn K mainGlobals "can_stand" = some (some (.ref f_can_stand)))
    (l_can_stand : K.lookup f_can_stand = some ⟨oc_can_stand, od_can_stand, .func (PySem.W.fnOf "can_stand" "can_stand" (defArgs s_can_stand) (defBody s_can_stand) (defScope s_can_stand) .none kV_can_stand dc_can_stand pm_can_stand an_can_stand cd_can_stand ct_can_stand), sl_can_stand⟩)
    (c_can_stand : PySem.W.codeIn K cd_can_stand "can_stand" = true)
    (k_can_stand : PySem.W.keepIn K (.ref f_can_stand) = true)
    (a_criteria_fault : PySem.W.nsIn K mainGlobals "criteria_fault" = some (some (.ref f_criteria_fault)))
    (l_criteria_fault : K.lookup f_criteria_fault = some ⟨oc_criteria_fault, od_criteria_fault, .func (PySem.W.fnOf "criteria_fault" "criteria_fault" (defArgs s_criteria_fault) (defBody s_criteria_fault) (defScope s_criteria_fault) .none kV_criteria_fault dc_criteria_fault pm_criteria_fault an_criteria_fault cd_criteria_fault ct_criteria_fault), sl_criteria_fault⟩)
    (c_criteria_fault : PySem.W.codeIn K cd_criteria_fault "criteria_fault" = true)
    (k_criteria_fault : PySem.W.keepIn K (.ref f_criteria_fault) = true)
    (a_machine_fault : PySem.W.nsIn K mainGlobals "machine_fault" = some (some (.ref f_machine_fault)))
    (l_machine_fault : K.lookup f_machine_fault = some ⟨oc_machine_fault, od_machine_fault, .func (PySem.W.fnOf "machine_fault" "machine_fault" (defArgs s_machine_fault) (defBody s_machine_fault) (defScope s_machine_fault) .none kV_machine_fault dc_machine_fault pm_machine_fault an_machine_fault cd_machine_fault ct_machine_fault), sl_machine_fault⟩)
    (c_machine_fault : PySem.W.codeIn K cd_machine_fault "machine_fault" = true)
    (k_machine_fault : PySem.W.keepIn K (.ref f_machine_fault) = true)
    (a_need_machine : PySem.W.nsIn K mainGlobals "need_machine" = some (some (.ref f_need_machine)))
    (l_need_machine : K.lookup f_need_machine = some ⟨oc_need_machine, od_need_machine, .func (PySem.W.fnOf "need_machine" "need_machine" (defArgs s_need_machine) (defBody s_need_machine) (defScope s_need_machine) .none kV_need_machine dc_need_machine pm_need_machine an_need_machine cd_need_machine ct_need_machine), sl_need_machine⟩)
    (c_need_machine : PySem.W.codeIn K cd_need_machine "need_machine" = true)
    (k_need_machine : PySem.W.keepIn K (.ref f_need_machine) = true)
    (a_is_pair : PySem.W.nsIn K mainGlobals "is_pair" = some (some (.ref f_is_pair)))
    (l_is_pair : K.lookup f_is_pair = some ⟨oc_is_pair, od_is_pair, .func (PySem.W.fnOf "is_pair" "is_pair" (defArgs s_is_pair) (defBody s_is_pair) (defScope s_is_pair) .none kV_is_pair dc_is_pair pm_is_pair an_is_pair cd_is_pair ct_is_pair), sl_is_pair⟩)
    (c_is_pair : PySem.W.codeIn K cd_is_pair "is_pair" = true)
    (k_is_pair : PySem.W.keepIn K (.ref f_is_pair) = true)
    (a_loud_keys : PySem.W.nsIn K mainGlobals "loud_keys" = some (some (.ref f_loud_keys)))
    (l_loud_keys : K.lookup f_loud_keys = some ⟨oc_loud_keys, od_loud_keys, .func (PySem.W.fnOf "loud_keys" "loud_keys" (defArgs s_loud_keys) (defBody s_loud_keys) (defScope s_loud_keys) .none kV_loud_keys dc_loud_keys pm_loud_keys an_loud_keys cd_loud_keys ct_loud_keys), sl_loud_keys⟩)
    (c_loud_keys : PySem.W.codeIn K cd_loud_keys "loud_keys" = true)
    (k_loud_keys : PySem.W.keepIn K (.ref f_loud_keys) = true)
    (a_sound_of : PySem.W.nsIn K mainGlobals "sound_of" = some (some (.ref f_sound_of)))
    (l_sound_of : K.lookup f_sound_of = some ⟨oc_sound_of, od_sound_of, .func (PySem.W.fnOf "sound_of" "sound_of" (defArgs s_sound_of) (defBody s_sound_of) (defScope s_sound_of) .none kV_sound_of dc_sound_of pm_sound_of an_sound_of cd_sound_of ct_sound_of), sl_sound_of⟩)
    (c_sound_of : PySem.W.codeIn K cd_sound_of "sound_of" = true)
    (k_sound_of : PySem.W.keepIn K (.ref f_sound_of) = true)
    (a_can_be_next : PySem.W.nsIn K mainGlobals "can_be_next" = some (some (.ref f_can_be_next)))
    (l_can_be_next : K.lookup f_can_be_next = some ⟨oc_can_be_next, od_can_be_next, .func (PySem.W.fnOf "can_be_next" "can_be_next" (defArgs s_can_be_next) (defBody s_can_be_next) (defScope s_can_be_next) .none kV_can_be_next dc_can_be_next pm_can_be_next an_can_be_next cd_can_be_next ct_can_be_next), sl_can_be_next⟩)
    (c_can_be_next : PySem.W.codeIn K cd_can_be_next "can_be_next" = true)
    (k_can_be_next : PySem.W.keepIn K (.ref f_can_be_next) = true)
    (a_row_fault : PySem.W.nsIn K mainGlobals "row_fault" = some (some (.ref f_row_fault)))
    (l_row_fault : K.lookup f_row_fault = some ⟨oc_row_fault, od_row_fault, .func (PySem.W.fnOf "row_fault" "row_fault" (defArgs s_row_fault) (defBody s_row_fault) (defScope s_row_fault) .none kV_row_fault dc_row_fault pm_row_fault an_row_fault cd_row_fault ct_row_fault), sl_row_fault⟩)
    (c_row_fault : PySem.W.codeIn K cd_row_fault "row_fault" = true)
    (k_row_fault : PySem.W.keepIn K (.ref f_row_fault) = true)
    (a_waits_in_vain : PySem.W.nsIn K mainGlobals "waits_in_vain" = some (some (.ref f_waits_in_vain)))
    (l_waits_in_vain : K.lookup f_waits_in_vain = some ⟨oc_waits_in_vain, od_waits_in_vain, .func (PySem.W.fnOf "waits_in_vain" "waits_in_vain" (defArgs s_waits_in_vain) (defBody s_waits_in_vain) (defScope s_waits_in_vain) .none kV_waits_in_vain dc_waits_in_vain pm_waits_in_vain an_waits_in_vain cd_waits_in_vain ct_waits_in_vain), sl_waits_in_vain⟩)
    (c_waits_in_vain : PySem.W.codeIn K cd_waits_in_vain "waits_in_vain" = true)
    (k_waits_in_vain : PySem.W.keepIn K (.ref f_waits_in_vain) = true)
    (a_state_fault : PySem.W.nsIn K mainGlobals "state_fault" = some (some (.ref f_state_fault)))
    (l_state_fault : K.lookup f_state_fault = some ⟨oc_state_fault, od_state_fault, .func (PySem.W.fnOf "state_fault" "state_fault" (defArgs s_state_fault) (defBody s_state_fault) (defScope s_state_fault) .none kV_state_fault dc_state_fault pm_state_fault an_state_fault cd_state_fault ct_state_fault), sl_state_fault⟩)
    (c_state_fault : PySem.W.codeIn K cd_state_fault "state_fault" = true)
    (k_state_fault : PySem.W.keepIn K (.ref f_state_fault) = true)
    (a_need_state : PySem.W.nsIn K mainGlobals "need_state" = some (some (.ref f_need_state)))
    (l_need_state : K.lookup f_need_state = some ⟨oc_need_state, od_need_state, .func (PySem.W.fnOf "need_state" "need_state" (defArgs s_need_state) (defBody s_need_state) (defScope s_need_state) .none kV_need_state dc_need_state pm_need_state an_need_state cd_need_state ct_need_state), sl_need_state⟩)
    (c_need_state : PySem.W.codeIn K cd_need_state "need_state" = true)
    (k_need_state : PySem.W.keepIn K (.ref f_need_state) = true)
    (a_is_state : PySem.W.nsIn K mainGlobals "is_state" = some (some (.ref f_is_state)))
    (l_is_state : K.lookup f_is_state = some ⟨oc_is_state, od_is_state, .func (PySem.W.fnOf "is_state" "is_state" (defArgs s_is_state) (defBody s_is_state) (defScope s_is_state) .none kV_is_state dc_is_state pm_is_state an_is_state cd_is_state ct_is_state), sl_is_state⟩)
    (c_is_state : PySem.W.codeIn K cd_is_state "is_state" = true)
    (k_is_state : PySem.W.keepIn K (.ref f_is_state) = true)
    (a_sound : PySem.W.nsIn K mainGlobals "sound" = some (some (.ref f_sound)))
    (l_sound : K.lookup f_sound = some ⟨oc_sound, od_sound, .func (PySem.W.fnOf "sound" "sound" (defArgs s_sound) (defBody s_sound) (defScope s_sound) .none kV_sound dc_sound pm_sound an_sound cd_sound ct_sound), sl_sound⟩)
    (c_sound : PySem.W.codeIn K cd_sound "sound" = true)
    (k_sound : PySem.W.keepIn K (.ref f_sound) = true)
    (a__law_draw : PySem.W.nsIn K mainGlobals "_law_draw" = some (some (.ref f__law_draw)))
    (l__law_draw : K.lookup f__law_draw = some ⟨oc__law_draw, od__law_draw, .func (PySem.W.fnOf "_law_draw" "_law_draw" (defArgs s__law_draw) (defBody s__law_draw) (defScope s__law_draw) .none kV__law_draw dc__law_draw pm__law_draw an__law_draw cd__law_draw ct__law_draw), sl__law_draw⟩)
    (c__law_draw : PySem.W.codeIn K cd__law_draw "_law_draw" = true)
    (k__law_draw : PySem.W.keepIn K (.ref f__law_draw) = true)
    (a__law_of : PySem.W.nsIn K mainGlobals "_law_of" = some (some (.ref f__law_of)))
    (l__law_of : K.lookup f__law_of = some ⟨oc__law_of, od__law_of, .func (PySem.W.fnOf "_law_of" "_law_of" (defArgs s__law_of) (defBody s__law_of) (defScope s__law_of) .none kV__law_of dc__law_of pm__law_of an__law_of cd__law_of ct__law_of), sl__law_of⟩)
    (c__law_of : PySem.W.codeIn K cd__law_of "_law_of" = true)
    (k__law_of : PySem.W.keepIn K (.ref f__law_of) = true)
    (a__law_machine : PySem.W.nsIn K mainGlobals "_law_machine" = some (some (.ref f__law_machine)))
    (l__law_machine : K.lookup f__law_machine = some ⟨oc__law_machine, od__law_machine, .func (PySem.W.fnOf "_law_machine" "_law_machine" (defArgs s__law_machine) (defBody s__law_machine) (defScope s__law_machine) .none kV__law_machine dc__law_machine pm__law_machine an__law_machine cd__law_machine ct__law_machine), sl__law_machine⟩)
    (c__law_machine : PySem.W.codeIn K cd__law_machine "_law_machine" = true)
    (k__law_machine : PySem.W.keepIn K (.ref f__law_machine) = true)
    (a__law_loud : PySem.W.nsIn K mainGlobals "_law_loud" = some (some (.ref f__law_loud)))
    (l__law_loud : K.lookup f__law_loud = some ⟨oc__law_loud, od__law_loud, .func (PySem.W.fnOf "_law_loud" "_law_loud" (defArgs s__law_loud) (defBody s__law_loud) (defScope s__law_loud) .none kV__law_loud dc__law_loud pm__law_loud an__law_loud cd__law_loud ct__law_loud), sl__law_loud⟩)
    (c__law_loud : PySem.W.codeIn K cd__law_loud "_law_loud" = true)
    (k__law_loud : PySem.W.keepIn K (.ref f__law_loud) = true)
    (a__law_sound : PySem.W.nsIn K mainGlobals "_law_sound" = some (some (.ref f__law_sound)))
    (l__law_sound : K.lookup f__law_sound = some ⟨oc__law_sound, od__law_sound, .func (PySem.W.fnOf "_law_sound" "_law_sound" (defArgs s__law_sound) (defBody s__law_sound) (defScope s__law_sound) .none kV__law_sound dc__law_sound pm__law_sound an__law_sound cd__law_sound ct__law_sound), sl__law_sound⟩)
    (c__law_sound : PySem.W.codeIn K cd__law_sound "_law_sound" = true)
    (k__law_sound : PySem.W.keepIn K (.ref f__law_sound) = true)
    (a__law_end : PySem.W.nsIn K mainGlobals "_law_end" = some (some (.ref f__law_end)))
    (l__law_end : K.lookup f__law_end = some ⟨oc__law_end, od__law_end, .func (PySem.W.fnOf "_law_end" "_law_end" (defArgs s__law_end) (defBody s__law_end) (defScope s__law_end) .none kV__law_end dc__law_end pm__law_end an__law_end cd__law_end ct__law_end), sl__law_end⟩)
    (c__law_end : PySem.W.codeIn K cd__law_end "_law_end" = true)
    (k__law_end : PySem.W.keepIn K (.ref f__law_end) = true)
    (a__law_left : PySem.W.nsIn K mainGlobals "_law_left" = some (some (.ref f__law_left)))
    (l__law_left : K.lookup f__law_left = some ⟨oc__law_left, od__law_left, .func (PySem.W.fnOf "_law_left" "_law_left" (defArgs s__law_left) (defBody s__law_left) (defScope s__law_left) .none kV__law_left dc__law_left pm__law_left an__law_left cd__law_left ct__law_left), sl__law_left⟩)
    (c__law_left : PySem.W.codeIn K cd__law_left "_law_left" = true)
    (k__law_left : PySem.W.keepIn K (.ref f__law_left) = true)
    (a__law_taken : PySem.W.nsIn K mainGlobals "_law_taken" = some (some (.ref f__law_taken)))
    (l__law_taken : K.lookup f__law_taken = some ⟨oc__law_taken, od__law_taken, .func (PySem.W.fnOf "_law_taken" "_law_taken" (defArgs s__law_taken) (defBody s__law_taken) (defScope s__law_taken) .none kV__law_taken dc__law_taken pm__law_taken an__law_taken cd__law_taken ct__law_taken), sl__law_taken⟩)
    (c__law_taken : PySem.W.codeIn K cd__law_taken "_law_taken" = true)
    (k__law_taken : PySem.W.keepIn K (.ref f__law_taken) = true)
    (a__law_marked : PySem.W.nsIn K mainGlobals "_law_marked" = some (some (.ref f__law_marked)))
    (l__law_marked : K.lookup f__law_marked = some ⟨oc__law_marked, od__law_marked, .func (PySem.W.fnOf "_law_marked" "_law_marked" (defArgs s__law_marked) (defBody s__law_marked) (defScope s__law_marked) .none kV__law_marked dc__law_marked pm__law_marked an__law_marked cd__law_marked ct__law_marked), sl__law_marked⟩)
    (c__law_marked : PySem.W.codeIn K cd__law_marked "_law_marked" = true)
    (k__law_marked : PySem.W.keepIn K (.ref f__law_marked) = true)
    (a__law_filled : PySem.W.nsIn K mainGlobals "_law_filled" = some (some (.ref f__law_filled)))
    (l__law_filled : K.lookup f__law_filled = some ⟨oc__law_filled, od__law_filled, .func (PySem.W.fnOf "_law_filled" "_law_filled" (defArgs s__law_filled) (defBody s__law_filled) (defScope s__law_filled) .none kV__law_filled dc__law_filled pm__law_filled an__law_filled cd__law_filled ct__law_filled), sl__law_filled⟩)
    (c__law_filled : PySem.W.codeIn K cd__law_filled "_law_filled" = true)
    (k__law_filled : PySem.W.keepIn K (.ref f__law_filled) = true)
    (a__law_gone_down : PySem.W.nsIn K mainGlobals "_law_gone_down" = some (some (.ref f__law_gone_down)))
    (l__law_gone_down : K.lookup f__law_gone_down = some ⟨oc__law_gone_down, od__law_gone_down, .func (PySem.W.fnOf "_law_gone_down" "_law_gone_down" (defArgs s__law_gone_down) (defBody s__law_gone_down) (defScope s__law_gone_down) .none kV__law_gone_down dc__law_gone_down pm__law_gone_down an__law_gone_down cd__law_gone_down ct__law_gone_down), sl__law_gone_down⟩)
    (c__law_gone_down : PySem.W.codeIn K cd__law_gone_down "_law_gone_down" = true)
    (k__law_gone_down : PySem.W.keepIn K (.ref f__law_gone_down) = true)
    (a__law_stepped : PySem.W.nsIn K mainGlobals "_law_stepped" = some (some (.ref f__law_stepped)))
    (l__law_stepped : K.lookup f__law_stepped = some ⟨oc__law_stepped, od__law_stepped, .func (PySem.W.fnOf "_law_stepped" "_law_stepped" (defArgs s__law_stepped) (defBody s__law_stepped) (defScope s__law_stepped) .none kV__law_stepped dc__law_stepped pm__law_stepped an__law_stepped cd__law_stepped ct__law_stepped), sl__law_stepped⟩)
    (c__law_stepped : PySem.W.codeIn K cd__law_stepped "_law_stepped" = true)
    (k__law_stepped : PySem.W.keepIn K (.ref f__law_stepped) = true)
    (a__law_play : PySem.W.nsIn K mainGlobals "_law_play" = some (some (.ref f__law_play)))
    (l__law_play : K.lookup f__law_play = some ⟨oc__law_play, od__law_play, .func (PySem.W.fnOf "_law_play" "_law_play" (defArgs s__law_play) (defBody s__law_play) (defScope s__law_play) .none kV__law_play dc__law_play pm__law_play an__law_play cd__law_play ct__law_play), sl__law_play⟩)
    (c__law_play : PySem.W.codeIn K cd__law_play "_law_play" = true)
    (k__law_play : PySem.W.keepIn K (.ref f__law_play) = true)
    (a__law_state : PySem.W.nsIn K mainGlobals "_law_state" = some (some (.ref f__law_state)))
    (l__law_state : K.lookup f__law_state = some ⟨oc__law_state, od__law_state, .func (PySem.W.fnOf "_law_state" "_law_state" (defArgs s__law_state) (defBody s__law_state) (defScope s__law_state) .none kV__law_state dc__law_state pm__law_state an__law_state cd__law_state ct__law_state), sl__law_state⟩)
    (c__law_state : PySem.W.codeIn K cd__law_state "_law_state" = true)
    (k__law_state : PySem.W.keepIn K (.ref f__law_state) = true)
    (a__law_free : PySem.W.nsIn K mainGlobals "_law_free" = some (some (.ref f__law_free)))
    (l__law_free : K.lookup f__law_free = some ⟨oc__law_free, od__law_free, .func (PySem.W.fnOf "_law_free" "_law_free" (defArgs s__law_free) (defBody s__law_free) (defScope s__law_free) .none kV__law_free dc__law_free pm__law_free an__law_free cd__law_free ct__law_free), sl__law_free⟩)
    (c__law_free : PySem.W.codeIn K cd__law_free "_law_free" = true)
    (k__law_free : PySem.W.keepIn K (.ref f__law_free) = true)
    (a__law_said : PySem.W.nsIn K mainGlobals "_law_said" = some (some (.ref f__law_said)))
    (l__law_said : K.lookup f__law_said = some ⟨oc__law_said, od__law_said, .func (PySem.W.fnOf "_law_said" "_law_said" (defArgs s__law_said) (defBody s__law_said) (defScope s__law_said) .none kV__law_said dc__law_said pm__law_said an__law_said cd__law_said ct__law_said), sl__law_said⟩)
    (c__law_said : PySem.W.codeIn K cd__law_said "_law_said" = true)
    (k__law_said : PySem.W.keepIn K (.ref f__law_said) = true)
    (a__law_bent : PySem.W.nsIn K mainGlobals "_law_bent" = some (some (.ref f__law_bent)))
    (l__law_bent : K.lookup f__law_bent = some ⟨oc__law_bent, od__law_bent, .func (PySem.W.fnOf "_law_bent" "_law_bent" (defArgs s__law_bent) (defBody s__law_bent) (defScope s__law_bent) .none kV__law_bent dc__law_bent pm__law_bent an__law_bent cd__law_bent ct__law_bent), sl__law_bent⟩)
    (c__law_bent : PySem.W.codeIn K cd__law_bent "_law_bent" = true)
    (k__law_bent : PySem.W.keepIn K (.ref f__law_bent) = true)
    (a_law : PySem.W.nsIn K mainGlobals "law" = some (some (.ref f_law)))
    (l_law : K.lookup f_law = some ⟨oc_law, od_law, .func (PySem.W.fnOf "law" "law" (defArgs s_law) (defBody s_law) (defScope s_law) .none kV_law dc_law pm_law an_law (.ref ca_law) ct_law), sl_law⟩)
    (c_law : PySem.W.codeIn K (.ref ca_law) "law" = true)
    (k_law : PySem.W.keepIn K (.ref f_law) = true)
    (a_FILTERS : PySem.W.nsIn K mainGlobals "FILTERS" = some (some (.ref r_FILTERS)))
    (l_FILTERS : K.lookup r_FILTERS = some ⟨.type "tuple", od_FILTERS, .seq i_FILTERS n_FILTERS, sl_FILTERS⟩)
    (v_FILTERS : strsOf i_FILTERS.toList = some (["kept", "inner", "notlow", "nothigh", "below", "above", "under", "over"] : List Str))
    (s_FILTERS : i_FILTERS.size ≤ 1000)
    (a_ENDS : PySem.W.nsIn K mainGlobals "ENDS" = some (some (.ref r_ENDS)))
    (l_ENDS : K.lookup r_ENDS = some ⟨.type "tuple", od_ENDS, .seq i_ENDS n_ENDS, sl_ENDS⟩)
    (v_ENDS : strsOf i_ENDS.toList = some (["eldest", "latest", "lowest", "highest", "refuse"] : List Str))
    (s_ENDS : i_ENDS.size ≤ 1000)
    (a_RETURNS : PySem.W.nsIn K mainGlobals "RETURNS" = some (some (.ref r_RETURNS)))
    (l_RETURNS : K.lookup r_RETURNS = some ⟨.type "tuple", od_RETURNS, .seq i_RETURNS n_RETURNS, sl_RETURNS⟩)
    (v_RETURNS : strsOf i_RETURNS.toList = some (["none", "eldest", "latest", "lowest", "highest"] : List Str))
    (s_RETURNS : i_RETURNS.size ≤ 1000)
    (a_MOST_VOICES : PySem.W.nsIn K mainGlobals "MOST_VOICES" = some (some (.int 8 t_MOST_VOICES)))
    (a_MOST_CRITERIA : PySem.W.nsIn K mainGlobals "MOST_CRITERIA" = some (some (.int 6 t_MOST_CRITERIA)))
    (a_MOST_KEY : PySem.W.nsIn K mainGlobals "MOST_KEY" = some (some (.int 87 t_MOST_KEY)))
    (a_START : PySem.W.nsIn K mainGlobals "START" = some (some (.ref r_START)))
    (q_START : DE.Cv K (.ref r_START) (.ref r_START) c_START)
    (a_MARKS : PySem.W.nsIn K mainGlobals "MARKS" = some (some (.ref r_MARKS)))
    (l_MARKS : K.lookup r_MARKS = some ⟨.type "tuple", od_MARKS, .seq i_MARKS n_MARKS, sl_MARKS⟩)
    (v_MARKS : strsOf i_MARKS.toList = some (["sounds", "kept", "waits"] : List Str))
    (s_MARKS : i_MARKS.size ≤ 1000)
    (a_BadMachine : PySem.W.nsIn K mainGlobals "BadMachine" = some (some (.ref C_BadMachine)))
    (e_BadMachine : ∃ fd, ErrF P K C_BadMachine fI_BadMachine "place" "place" "no machine" "BadMachine.__init__" fd)
    (a_BadState : PySem.W.nsIn K mainGlobals "BadState" = some (some (.ref C_BadState)))
    (e_BadState : ∃ fd, ErrF P K C_BadState fI_BadState "place" "place" "no state of the machine" "BadState.__init__" fd)
    (h_BadMachine_BadMachine : HdF K C_BadMachine (.ref C_BadMachine) true)
    (h_BadMachine_BadState : HdF K C_BadState (.ref C_BadMachine) false)
    (h_BadState_BadMachine : HdF K C_BadMachine (.ref C_BadState) false)
    (h_BadState_BadState : HdF K C_BadState (.ref C_BadState) true)
    (a_VoiceError : PySem.W.nsIn K mainGlobals "VoiceError" = some (some (.ref C_VoiceError)))
    (h_VoiceError_BadMachine : HdF K C_BadMachine (.ref C_VoiceError) true)
    (h_VoiceError_BadState : HdF K C_BadState (.ref C_VoiceError) true) :
    ∃ fd : FuncData, (∀ (s : Shared) (u : Value), BindsTo s fd ⟨[u], []⟩ [("script", u)]) ∧ ∀ base : Heap, K.In base → base.Ns mainGlobals mg → (∀ p ∈ ([("law", dr_law, ca_law, tp_law, (("law" : Str) ++ ".<locals>.") ++ "<lambda>")] : List (Str × DefRec × Addr × Addr × Str)), LamX.TabB base mg p.2.2.1 p.2.2.2.1) → FnG P w K mg base 33 fa fd ["script"] (spLaw K (([("law", dr_law, ca_law, tp_law, (("law" : Str) ++ ".<locals>.") ++ "<lambda>")] : List (Str × DefRec × Addr × Addr × Str)).map fun p => (p.2.2.2.1, p.2.2.2.2)) 13 1 fb_law) := by
  have e := hfa.symm.trans (PySem.W.mg_of X G a_law)
  cases e
  obtain ⟨fd_BadMachine, E_BadMachine⟩ := e_BadMachine
  obtain ⟨fd_BadState, E_BadState⟩ := e_BadState
  refine ⟨PySem.W.fnOf "law" "law" (defArgs s_law) (defBody s_law) (defScope s_law) .none kV_law dc_law pm_law an_law (.ref ca_law) ct_law, fun s v => .of_eq rfl, fun base _ _ hTB => ?_⟩
  have T : ∀ M, Tx P w K mg base ⟨M, clL [("BadMachine", (C_BadMachine, "place")), ("BadState", (C_BadState, "place"))], [(tp_law, (("law" : Str) ++ ".<locals>.") ++ "<lambda>")]⟩ := fun M =>
    { z_bool := PySem.W.mg_none_of X G z_bool,
      z_int := PySem.W.mg_none_of X G z_int,
      z_isinstance := PySem.W.mg_none_of X G z_isinstance,
      z_len := PySem.W.mg_none_of X G z_len,
      z_list := PySem.W.mg_none_of X G z_list,
      z_max := PySem.W.mg_none_of X G z_max,
      z_min := PySem.W.mg_none_of X G z_min,
      z_range := PySem.W.mg_none_of X G z_range,
      z_repr := PySem.W.mg_none_of X G z_repr,
      z_sorted := PySem.W.mg_none_of X G z_sorted,
      z_str := PySem.W.mg_none_of X G z_str,
      z_tuple := PySem.W.mg_none_of X G z_tuple,
      c_FILTERS := cst_tup (PySem.W.mg_of X G a_FILTERS) l_FILTERS v_FILTERS s_FILTERS,
      c_ENDS := cst_tup (PySem.W.mg_of X G a_ENDS) l_ENDS v_ENDS s_ENDS,
      c_RETURNS := cst_tup (PySem.W.mg_of X G a_RETURNS) l_RETURNS v_RETURNS s_RETURNS,
      c_MOST_VOICES := cst_int (PySem.W.mg_of X G a_MOST_VOICES),
      c_MOST_CRITERIA := cst_int (PySem.W.mg_of X G a_MOST_CRITERIA),
      c_MOST_KEY := cst_int (PySem.W.mg_of X G a_MOST_KEY),
      c_START := cst_cv (PySem.W.mg_of X G a_START) q_START,
      c_MARKS := cst_tup (PySem.W.mg_of X G a_MARKS) l_MARKS v_MARKS s_MARKS,
      x_BadMachine := ⟨C_BadMachine, fI_BadMachine, _, _, _, _, _, PySem.W.mg_of X G a_BadMachine, rfl, PySem.W.mg_none_of X G z_super, E_BadMachine.c⟩,
      x_BadState := ⟨C_BadState, fI_BadState, _, _, _, _, _, PySem.W.mg_of X G a_BadState, rfl, PySem.W.mg_none_of X G z_super, E_BadState.c⟩,
      h_BadMachine := ⟨_, _, .own (PySem.W.mg_of X G a_BadMachine), fun cn C f b h1 h2 => cl_all (l := [("BadMachine", (C_BadMachine, "place")), ("BadState", (C_BadState, "place"))]) (R := fun cn C f => ∀ b, tb_BadMachine.lookup cn = some b → PySem.W.exmOne K (.ref C) (.ref C_BadMachine) = some b ∧ PySem.W.kitOne K (.ref C) (.ref C_BadMachine) = some b) (fa_cons (hd_el rfl h_BadMachine_BadMachine) (fa_cons (hd_el rfl h_BadMachine_BadState) (fa_nil))) cn C f h1 b h2⟩,
      h_BadState := ⟨_, _, .own (PySem.W.mg_of X G a_BadState), fun cn C f b h1 h2 => cl_all (l := [("BadMachine", (C_BadMachine, "place")), ("BadState", (C_BadState, "place"))]) (R := fun cn C f => ∀ b, tb_BadState.lookup cn = some b → PySem.W.exmOne K (.ref C) (.ref C_BadState) = some b ∧ PySem.W.kitOne K (.ref C) (.ref C_BadState) = some b) (fa_cons (hd_el rfl h_BadState_BadMachine) (fa_cons (hd_el rfl h_BadState_BadState) (fa_nil))) cn C f h1 b h2⟩,
      h_VoiceError := ⟨_, _, .own (PySem.W.mg_of X G a_VoiceError), fun cn C f b h1 h2 => cl_all (l := [("BadMachine", (C_BadMachine, "place")), ("BadState", (C_BadState, "place"))]) (R := fun cn C f => ∀ b, tb_VoiceError.lookup cn = some b → PySem.W.exmOne K (.ref C) (.ref C_VoiceError) = some b ∧ PySem.W.kitOne K (.ref C) (.ref C_VoiceError) = some b) (fa_cons (hd_el rfl h_VoiceError_BadMachine) (fa_cons (hd_el rfl h_VoiceError_BadState) (fa_nil))) cn C f h1 b h2⟩,
      fo_place := fun c hc C f h => cl_all (l := [("BadMachine", (C_BadMachine, "place")), ("BadState", (C_BadState, "place"))]) (R := fun cn _ f => cs_place.contains cn = true → f = "place") (fa_cons (fun _ => rfl) (fa_cons (fun _ => rfl) (fa_nil))) c C f h hc,
      k := cl_all (fa_cons (⟨E_BadMachine.x, E_BadMachine.e, E_BadMachine.s, E_BadMachine.c.noF⟩) (fa_cons (⟨E_BadState.x, E_BadState.e, E_BadState.s, E_BadState.c.noF⟩) (fa_nil))) }
  have F__law_begun := fun_mk (st := s__law_begun) l__law_begun c__law_begun k__law_begun
  have F_is_whole := fun_mk (st := s_is_whole) l_is_whole c_is_whole k_is_whole
  have F_is_word := fun_mk (st := s_is_word) l_is_word c_is_word k_is_word
  have F_is_key := fun_mk (st := s_is_key) l_is_key c_is_key k_is_key
  have F_can_stand := fun_mk (st := s_can_stand) l_can_stand c_can_stand k_can_stand
  have F_criteria_fault := fun_mk (st := s_criteria_fault) l_criteria_fault c_criteria_fault k_criteria_fault
  have F_machine_fault := fun_mk (st := s_machine_fault) l_machine_fault c_machine_fault k_machine_fault
  have F_need_machine := fun_mk (st := s_need_machine) l_need_machine c_need_machine k_need_machine
  have F_is_pair := fun_mk (st := s_is_pair) l_is_pair c_is_pair k_is_pair
  have F_loud_keys := fun_mk (st := s_loud_keys) l_loud_keys c_loud_keys k_loud_keys
  have F_sound_of := fun_mk (st := s_sound_of) l_sound_of c_sound_of k_sound_of
  have F_can_be_next := fun_mk (st := s_can_be_next) l_can_be_next c_can_be_next k_can_be_next
  have F_row_fault := fun_mk (st := s_row_fault) l_row_fault c_row_fault k_row_fault
  have F_waits_in_vain := fun_mk (st := s_waits_in_vain) l_waits_in_vain c_waits_in_vain k_waits_in_vain
  have F_state_fault := fun_mk (st := s_state_fault) l_state_fault c_state_fault k_state_fault
  have F_need_state := fun_mk (st := s_need_state) l_need_state c_need_state k_need_state
  have F_is_state := fun_mk (st := s_is_state) l_is_state c_is_state k_is_state
  have F_sound := fun_mk (st := s_sound) l_sound c_sound k_sound
  have F__law_draw := fun_mk (st := s__law_draw) l__law_draw c__law_draw k__law_draw
  have F__law_of := fun_mk (st := s__law_of) l__law_of c__law_of k__law_of
  have F__law_machine := fun_mk (st := s__law_machine) l__law_machine c__law_machine k__law_machine
  have F__law_loud := fun_mk (st := s__law_loud) l__law_loud c__law_loud k__law_loud
  have F__law_sound := fun_mk (st := s__law_sound) l__law_sound c__law_sound k__law_sound
  have F__law_end := fun_mk (st := s__law_end) l__law_end c__law_end k__law_end
  have F__law_left := fun_mk (st := s__law_left) l__law_left c__law_left k__law_left
  have F__law_taken := fun_mk (st := s__law_taken) l__law_taken c__law_taken k__law_taken
  have F__law_marked := fun_mk (st := s__law_marked) l__law_marked c__law_marked k__law_marked
  have F__law_filled := fun_mk (st := s__law_filled) l__law_filled c__law_filled k__law_filled
  have F__law_gone_down := fun_mk (st := s__law_gone_down) l__law_gone_down c__law_gone_down k__law_gone_down
  have F__law_stepped := fun_mk (st := s__law_stepped) l__law_stepped c__law_stepped k__law_stepped
  have F__law_play := fun_mk (st := s__law_play) l__law_play c__law_play k__law_play
  have F__law_state := fun_mk (st := s__law_state) l__law_state c__law_state k__law_state
  have F__law_free := fun_mk (st := s__law_free) l__law_free c__law_free k__law_free
  have F__law_said := fun_mk (st := s__law_said) l__law_said c__law_said k__law_said
  have F__law_bent := fun_mk (st := s__law_bent) l__law_bent c__law_bent k__law_bent
  have F_law := fun_mk (st := s_law) l_law c_law k_law
  have K__law_begun : Kf P w K mg base 1 "_law_begun" (spBeg K) := kf__law_begun ⟨PySem.W.mg_none_of X G z_int⟩ F__law_begun (PySem.W.mg_of X G a__law_begun)
  have K_is_whole := fun M : Addr => kf_is_whole (T M) F_is_whole (PySem.W.mg_of X G a_is_whole) 
  have K_is_word := fun M : Addr => kf_is_word (T M) F_is_word (PySem.W.mg_of X G a_is_word) 
  have K_loud_keys := fun M : Addr => kf_loud_keys (T M) F_loud_keys (PySem.W.mg_of X G a_loud_keys) 
  have K__law_draw := fun M : Addr => kf__law_draw (T M) F__law_draw (PySem.W.mg_of X G a__law_draw) 
  have K__law_loud := fun M : Addr => kf__law_loud (T M) F__law_loud (PySem.W.mg_of X G a__law_loud) 
  have K__law_end := fun M : Addr => kf__law_end (T M) F__law_end (PySem.W.mg_of X G a__law_end) 
  have K__law_left := fun M : Addr => kf__law_left (T M) F__law_left (PySem.W.mg_of X G a__law_left) 
  have K__law_marked := fun M : Addr => kf__law_marked (T M) F__law_marked (PySem.W.mg_of X G a__law_marked) 
  have K_is_key := fun M : Addr => kf_is_key (T M) F_is_key (PySem.W.mg_of X G a_is_key) (K_is_whole M)
  have K_can_stand := fun M : Addr => kf_can_stand (T M) F_can_stand (PySem.W.mg_of X G a_can_stand) (K_is_word M)
  have K_sound_of := fun M : Addr => kf_sound_of (T M) F_sound_of (PySem.W.mg_of X G a_sound_of) (K_loud_keys M)
  have K_waits_in_vain := fun M : Addr => kf_waits_in_vain (T M) F_waits_in_vain (PySem.W.mg_of X G a_waits_in_vain) (K_loud_keys M)
  have K__law_of := fun M : Addr => kf__law_of (T M) F__law_of (PySem.W.mg_of X G a__law_of) (K__law_draw M)
  have K__law_sound := fun M : Addr => kf__law_sound (T M) F__law_sound (PySem.W.mg_of X G a__law_sound) (K__law_loud M)
  have K__law_taken := fun M : Addr => kf__law_taken (T M) F__law_taken (PySem.W.mg_of X G a__law_taken) (K__law_loud M) (K__law_end M) (K__law_left M)
  have K__law_filled := fun M : Addr => kf__law_filled (T M) F__law_filled (PySem.W.mg_of X G a__law_filled) (K__law_loud M) (K__law_end M) (K__law_marked M)
  have K__law_bent := fun M : Addr => kf__law_bent (T M) F__law_bent (PySem.W.mg_of X G a__law_bent) (K__law_draw M) (K__law_loud M)
  have K_criteria_fault := fun M : Addr => kf_criteria_fault (T M) F_criteria_fault (PySem.W.mg_of X G a_criteria_fault) (K_can_stand M)
  have K_is_pair := fun M : Addr => kf_is_pair (T M) F_is_pair (PySem.W.mg_of X G a_is_pair) (K_is_word M) (K_is_key M)
  have K__law_machine := fun M : Addr => kf__law_machine (T M) F__law_machine (PySem.W.mg_of X G a__law_machine) (K__law_draw M) (K__law_of M)
  have K__law_gone_down := fun M : Addr => kf__law_gone_down (T M) F__law_gone_down (PySem.W.mg_of X G a__law_gone_down) (K__law_loud M) (K__law_taken M) (K__law_marked M)
  have K__law_play := fun M : Addr => kf__law_play (T M) F__law_play (PySem.W.mg_of X G a__law_play) (K__law_draw M) (K__law_of M)
  have K__law_free := fun M : Addr => kf__law_free (T M) F__law_free (PySem.W.mg_of X G a__law_free) (K__law_draw M) (K__law_of M) (K__law_filled M)
  have K_machine_fault := fun M : Addr => kf_machine_fault (T M) F_machine_fault (PySem.W.mg_of X G a_machine_fault) (K_is_whole M) (K_is_word M) (K_criteria_fault M)
  have K_can_be_next := fun M : Addr => kf_can_be_next (T M) F_can_be_next (PySem.W.mg_of X G a_can_be_next) (K_is_pair M) (K_loud_keys M)
  have K__law_stepped := fun M : Addr => kf__law_stepped (T M) F__law_stepped (PySem.W.mg_of X G a__law_stepped) (K__law_marked M) (K__law_filled M) (K__law_gone_down M)
  have K_need_machine := fun M : Addr => kf_need_machine (T M) F_need_machine (PySem.W.mg_of X G a_need_machine) (K_machine_fault M)
  have K_row_fault := fun M : Addr => kf_row_fault (T M) F_row_fault (PySem.W.mg_of X G a_row_fault) (K_can_be_next M)
  have K__law_state := fun M : Addr => kf__law_state (T M) F__law_state (PySem.W.mg_of X G a__law_state) (K__law_draw M) (K__law_stepped M) (K__law_play M)
  have K_state_fault := fun M : Addr => kf_state_fault (T M) F_state_fault (PySem.W.mg_of X G a_state_fault) (K_row_fault M) (K_waits_in_vain M)
  have K_need_state := fun M : Addr => kf_need_state (T M) F_need_state (PySem.W.mg_of X G a_need_state) (K_need_machine M) (K_state_fault M)
  have K_is_state := fun M : Addr => kf_is_state (T M) F_is_state (PySem.W.mg_of X G a_is_state) (K_need_machine M) (K_state_fault M)
  have K_sound := fun M : Addr => kf_sound (T M) F_sound (PySem.W.mg_of X G a_sound) (K_sound_of M) (K_need_state M)
  have K__law_said := fun M : Addr => kf__law_said (T M) F__law_said (PySem.W.mg_of X G a__law_said) 
  exact fn_law T F_law K__law_begun K_need_state K_is_state K_sound K__law_draw K__law_machine K__law_sound K__law_state K__law_free K__law_said gv__law_said K__law_bent rfl (hTB _ List.mem_cons_self) List.mem_cons_self (fun p hp _ => by obtain rfl := List.mem_singleton.mp hp; rfl)
end
end K05
open PySem PySem.W PyProof.Rows in
set_option maxRecDepth 100000 in
set_option maxHeartbeats 0 in
theorem PySem.Challenge.cw_stolenvoices_k05_states_refused_holds : PySem.Challenge.rw_stolenvoices_k05_states_refused.Holds := by
  w_on; o_law; k_head; (case hw => w_witness2)
  k_fill
  refine' DE.walk_deT (l := PySem.Challenge.rw_stolenvoices_k05_states_refused) (k := 33) (fb := K05.fb_law) ([("law", _, _, _, (("law" : Str) ++ ".<locals>.") ++ "<lambda>")] : List (Str × DefRec × Addr × Addr × Str)) rfl rfl ⟨rfl, by decide, by decide⟩ (fun w h Y => PySem.W.km_in_of Y) ?MK ?F (fun ns h => Or.inl (K05.law_true ns h))
  case MK => (intro p hp; obtain rfl := List.mem_singleton.mp hp; refine ⟨?a, fun w => ⟨?b, ?c⟩⟩; (case a => exact rfl); (case b => exact rfl); (case c => exact rfl))
  case F =>
    intro w mg fa h KX G hmg
    refine' K05.all_mk KX G hmg ?z_bool ?z_int ?z_isinstance ?z_len ?z_list ?z_max ?z_min ?z_range ?z_repr ?z_sorted ?z_str ?z_super ?z_tuple ?a__law_begun ?l__law_begun ?c__law_begun ?k__law_begun ?a_is_whole ?l_is_whole ?c_is_whole ?k_is_whole ?a_is_word ?l_is_word ?c_is_word ?k_is_word ?a_is_key ?l_is_key ?c_is_key ?k_is_key ?a_can_stand ?l_can_stand ?c_can_stand ?k_can_stand ?a_criteria_fault ?l_criteria_fault ?c_criteria_fault ?k_criteria_fault ?a_machine_fault ?l_machine_fault ?c_machine_fault ?k_machine_fault ?a_need_machine ?l_need_machine ?c_need_machine ?k_need_machine ?a_is_pair ?l_is_pair ?c_is_pair ?k_is_pair ?a_loud_keys ?l_loud_keys ?c_loud_keys ?k_loud_keys ?a_sound_of ?l_sound_of ?c_sound_of ?k_sound_of ?a_can_be_next ?l_can_be_next ?c_can_be_next ?k_can_be_next ?a_row_fault ?l_row_fault ?c_row_fault ?k_row_fault ?a_waits_in_vain ?l_waits_in_vain ?c_waits_in_vain ?k_waits_in_vain ?a_state_fault ?l_state_fault ?c_state_fault ?k_state_fault ?a_need_state ?l_need_state ?c_need_state ?k_need_state ?a_is_state ?l_is_state ?c_is_state ?k_is_state ?a_sound ?l_sound ?c_sound ?k_sound ?a__law_draw ?l__law_draw ?c__law_draw ?k__law_draw ?a__law_of ?l__law_of ?c__law_of ?k__law_of ?a__law_machine ?l__law_machine ?c__law_machine ?k__law_machine ?a__law_loud ?l__law_loud ?c__law_loud ?k__law_loud ?a__law_sound ?l__law_sound ?c__law_sound ?k__law_sound ?a__law_end ?l__law_end ?c__law_end ?k__law_end ?a__law_left ?l__law_left ?c__law_left ?k__law_left ?a__law_taken ?l__law_taken ?c__law_taken ?k__law_taken ?a__law_marked ?l__law_marked ?c__law_marked ?k__law_marked ?a__law_filled ?l__law_filled ?c__law_filled ?k__law_filled ?a__law_gone_down ?l__law_gone_down ?c__law_gone_down ?k__law_gone_down ?a__law_stepped ?l__law_stepped ?c__law_stepped ?k__law_stepped ?a__law_play ?l__law_play ?c__law_play ?k__law_play ?a__law_state ?l__law_state ?c__law_state ?k__law_state ?a__law_free ?l__law_free ?c__law_free ?k__law_free ?a__law_said ?l__law_said ?c__law_said ?k__law_said ?a__law_bent ?l__law_bent ?c__law_bent ?k__law_bent ?a_law ?l_law ?c_law ?k_law ?a_FILTERS ?l_FILTERS ?v_FILTERS ?s_FILTERS ?a_ENDS ?l_ENDS ?v_ENDS ?s_ENDS ?a_RETURNS ?l_RETURNS ?v_RETURNS ?s_RETURNS ?a_MOST_VOICES ?a_MOST_CRITERIA ?a_MOST_KEY ?a_START ?q_START ?a_MARKS ?l_MARKS ?v_MARKS ?s_MARKS ?a_BadMachine ?e_BadMachine ?a_BadState ?e_BadState ?h_BadMachine_BadMachine ?h_BadMachine_BadState ?h_BadState_BadMachine ?h_BadState_BadState ?a_VoiceError ?h_VoiceError_BadMachine ?h_VoiceError_BadState
    (case z_bool => k_is)
    (case z_int => k_is)
    (case z_isinstance => k_is)
    (case z_len => k_is)
    (case z_list => k_is)
    (case z_max => k_is)
    (case z_min => k_is)
    (case z_range => k_is)
    (case z_repr => k_is)
    (case z_sorted => k_is)
    (case z_str => k_is)
    (case z_super => k_is)
    (case z_tuple => k_is)
    (case a__law_begun => k_is)
    (case l__law_begun => k_is)
    (case c__law_begun => k_is)
    (case k__law_begun => k_is)
    (case a_is_whole => k_is)
    (case l_is_whole => k_is)
    (case c_is_whole => k_is)
    (case k_is_whole => k_is)
    (case a_is_word => k_is)
    (case l_is_word => k_is)
    (case c_is_word => k_is)
    (case k_is_word => k_is)
    (case a_is_key => k_is)
    (case l_is_key => k_is)
    (case c_is_key => k_is)
    (case k_is_key => k_is)
    (case a_can_stand => k_is)
    (case l_can_stand => k_is)
    (case c_can_stand => k_is)
    (case k_can_stand => k_is)
    (case a_criteria_fault => k_is)
    (case l_criteria_fault => k_is)
    (case c_criteria_fault => k_is)
    (case k_criteria_fault => k_is)
    (case a_machine_fault => k_is)
    (case l_machine_fault => k_is)
    (case c_machine_fault => k_is)
    (case k_machine_fault => k_is)
    (case a_need_machine => k_is)
    (case l_need_machine => k_is)
    (case c_need_machine => k_is)
    (case k_need_machine => k_is)
    (case a_is_pair => k_is)
    (case l_is_pair => k_is)
    (case c_is_pair => k_is)
    (case k_is_pair => k_is)
    (case a_loud_keys => k_is)
    (case l_loud_keys => k_is)
    (case c_loud_keys => k_is)
    (case k_loud_keys => k_is)
    (case a_sound_of => k_is)
    (case l_sound_of => k_is)
    (case c_sound_of => k_is)
    (case k_sound_of => k_is)
    (case a_can_be_next => k_is)
    (case l_can_be_next => k_is)
    (case c_can_be_next => k_is)
    (case k_can_be_next => k_is)
    (case a_row_fault => k_is)
    (case l_row_fault => k_is)
    (case c_row_fault => k_is)
    (case k_row_fault => k_is)
    (case a_waits_in_vain => k_is)
    (case l_waits_in_vain => k_is)
    (case c_waits_in_vain => k_is)
    (case k_waits_in_vain => k_is)
    (case a_state_fault => k_is)
    (case l_state_fault => k_is)
    (case c_state_fault => k_is)
    (case k_state_fault => k_is)
    (case a_need_state => k_is)
    (case l_need_state => k_is)
    (case c_need_state => k_is)
    (case k_need_state => k_is)
    (case a_is_state => k_is)
    (case l_is_state => k_is)
    (case c_is_state => k_is)
    (case k_is_state => k_is)
    (case a_sound => k_is)
    (case l_sound => k_is)
    (case c_sound => k_is)
    (case k_sound => k_is)
    (case a__law_draw => k_is)
    (case l__law_draw => k_is)
    (case c__law_draw => k_is)
    (case k__law_draw => k_is)
    (case a__law_of => k_is)
    (case l__law_of => k_is)
    (case c__law_of => k_is)
    (case k__law_of => k_is)
    (case a__law_machine => k_is)
    (case l__law_machine => k_is)
    (case c__law_machine => k_is)
    (case k__law_machine => k_is)
    (case a__law_loud => k_is)
    (case l__law_loud => k_is)
    (case c__law_loud => k_is)
    (case k__law_loud => k_is)
    (case a__law_sound => k_is)
    (case l__law_sound => k_is)
    (case c__law_sound => k_is)
    (case k__law_sound => k_is)
    (case a__law_end => k_is)
    (case l__law_end => k_is)
    (case c__law_end => k_is)
    (case k__law_end => k_is)
    (case a__law_left => k_is)
    (case l__law_left => k_is)
    (case c__law_left => k_is)
    (case k__law_left => k_is)
    (case a__law_taken => k_is)
    (case l__law_taken => k_is)
    (case c__law_taken => k_is)
    (case k__law_taken => k_is)
    (case a__law_marked => k_is)
    (case l__law_marked => k_is)
    (case c__law_marked => k_is)
    (case k__law_marked => k_is)
    (case a__law_filled => k_is)
    (case l__law_filled => k_is)
    (case c__law_filled => k_is)
    (case k__law_filled => k_is)
    (case a__law_gone_down => k_is)
    (case l__law_gone_down => k_is)
    (case c__law_gone_down => k_is)
    (case k__law_gone_down => k_is)
    (case a__law_stepped => k_is)
    (case l__law_stepped => k_is)
    (case c__law_stepped => k_is)
    (case k__law_stepped => k_is)
    (case a__law_play => k_is)
    (case l__law_play => k_is)
    (case c__law_play => k_is)
    (case k__law_play => k_is)
    (case a__law_state => k_is)
    (case l__law_state => k_is)
    (case c__law_state => k_is)
    (case k__law_state => k_is)
    (case a__law_free => k_is)
    (case l__law_free => k_is)
    (case c__law_free => k_is)
    (case k__law_free => k_is)
    (case a__law_said => k_is)
    (case l__law_said => k_is)
    (case c__law_said => k_is)
    (case k__law_said => k_is)
    (case a__law_bent => k_is)
    (case l__law_bent => k_is)
    (case c__law_bent => k_is)
    (case k__law_bent => k_is)
    (case a_law => k_is)
    (case l_law => k_is)
    (case c_law => k_is)
    (case k_law => k_is)
    (case a_FILTERS => k_is)
    (case l_FILTERS => k_is)
    (case v_FILTERS => rfl)
    (case s_FILTERS => decide)
    (case a_ENDS => k_is)
    (case l_ENDS => k_is)
    (case v_ENDS => rfl)
    (case s_ENDS => decide)
    (case a_RETURNS => k_is)
    (case l_RETURNS => k_is)
    (case v_RETURNS => rfl)
    (case s_RETURNS => decide)
    (case a_MOST_VOICES => k_is)
    (case a_MOST_CRITERIA => k_is)
    (case a_MOST_KEY => k_is)
    (case a_START => k_is)
    (case q_START => (refine' DE.Cv.tupA ?l1 ?s1 ?h1; (case l1 => k_is); (case s1 => decide); (case h1 => refine' DE.CvA.cons ?x4 ?y4; (case x4 => exact DE.Cv.bl _); (case y4 => refine' DE.CvA.cons ?x2 ?y2; (case x2 => (refine' DE.Cv.tupA ?l3 ?s3 ?h3; (case l3 => k_is); (case s3 => decide); (case h3 => exact DE.CvA.nil))); (case y2 => exact DE.CvA.nil)))))
    (case a_MARKS => k_is)
    (case l_MARKS => k_is)
    (case v_MARKS => rfl)
    (case s_MARKS => decide)
    (case a_BadMachine => k_is)
    (case e_BadMachine => (refine' DE.err_mk ?xL ?rb ?sa ?exC ?tyC ?kC ?iC ?tI ?noF ?sup ?sVE ?mroC ?noAny ?noSup ?top ?lI ?cI ?lcda ?hvs ?hfile ?lcc ?ga ?gg ?hdC ?ha ?hn ?ht ?hm ?hs ?S ?hsup ?har ?hev ?hp1 ?hp2 ?hw1 ?hw2 ?hb; (case xL => k_is); (case rb => rfl); (case sa => k_is); (case exC => k_is); (case tyC => k_is); (case kC => k_is); (case iC => k_is); (case tI => k_is); (case lI => k_is); (case noF => k_is); (case sup => ks_is); (case sVE => k_is); (case mroC => k_is); (case noAny => k_is); (case noSup => k_is); (case top => rfl); (case cI => k_is); (case lcda => k_is); (case hvs => rfl); (case hfile => rfl); (case lcc => k_is); (case ga => k_is); (case gg => k_is); (case hdC => k_is); (case ha => k_is); (case hn => k_is); (case ht => k_is); (case hm => k_is); (case hs => k_is); (case S => decide +kernel); (case hsup => rfl); (case har => exact ⟨_, rfl, rfl⟩); (case hev => exact ⟨_, fun _ => rfl⟩); (case hp1 => decide); (case hp2 => decide); (case hw1 => exact fun _ => rfl); (case hw2 => exact fun _ => rfl); (case hb => exact fun us hl => match us, hl with | [_, _], _ => rfl)))
    (case a_BadState => k_is)
    (case e_BadState => (refine' DE.err_mk ?xL ?rb ?sa ?exC ?tyC ?kC ?iC ?tI ?noF ?sup ?sVE ?mroC ?noAny ?noSup ?top ?lI ?cI ?lcda ?hvs ?hfile ?lcc ?ga ?gg ?hdC ?ha ?hn ?ht ?hm ?hs ?S ?hsup ?har ?hev ?hp1 ?hp2 ?hw1 ?hw2 ?hb; (case xL => k_is); (case rb => rfl); (case sa => k_is); (case exC => k_is); (case tyC => k_is); (case kC => k_is); (case iC => k_is); (case tI => k_is); (case lI => k_is); (case noF => k_is); (case sup => ks_is); (case sVE => k_is); (case mroC => k_is); (case noAny => k_is); (case noSup => k_is); (case top => rfl); (case cI => k_is); (case lcda => k_is); (case hvs => rfl); (case hfile => rfl); (case lcc => k_is); (case ga => k_is); (case gg => k_is); (case hdC => k_is); (case ha => k_is); (case hn => k_is); (case ht => k_is); (case hm => k_is); (case hs => k_is); (case S => decide +kernel); (case hsup => rfl); (case har => exact ⟨_, rfl, rfl⟩); (case hev => exact ⟨_, fun _ => rfl⟩); (case hp1 => decide); (case hp2 => decide); (case hw1 => exact fun _ => rfl); (case hw2 => exact fun _ => rfl); (case hb => exact fun us hl => match us, hl with | [_, _], _ => rfl)))
    (case h_BadMachine_BadMachine => (refine' DE.hd_ref ?h1 ?h2 ?h3 ?h4 ?h5; (case h1 => k_is); (case h2 => k_is); (case h3 => k_is); (case h4 => k_is); (case h5 => exact Or.inl rfl)))
    (case h_BadMachine_BadState => (refine' DE.hd_ref ?h1 ?h2 ?h3 ?h4 ?h5; (case h1 => k_is); (case h2 => k_is); (case h3 => k_is); (case h4 => k_is); (case h5 => exact Or.inr (by decide))))
    (case h_BadState_BadMachine => (refine' DE.hd_ref ?h1 ?h2 ?h3 ?h4 ?h5; (case h1 => k_is); (case h2 => k_is); (case h3 => k_is); (case h4 => k_is); (case h5 => exact Or.inr (by decide))))
    (case h_BadState_BadState => (refine' DE.hd_ref ?h1 ?h2 ?h3 ?h4 ?h5; (case h1 => k_is); (case h2 => k_is); (case h3 => k_is); (case h4 => k_is); (case h5 => exact Or.inl rfl)))
    (case a_VoiceError => k_is)
    (case h_VoiceError_BadMachine => (refine' DE.hd_ref ?h1 ?h2 ?h3 ?h4 ?h5; (case h1 => k_is); (case h2 => k_is); (case h3 => k_is); (case h4 => k_is); (case h5 => exact Or.inl rfl)))
    (case h_VoiceError_BadState => (refine' DE.hd_ref ?h1 ?h2 ?h3 ?h4 ?h5; (case h1 => k_is); (case h2 => k_is); (case h3 => k_is); (case h4 => k_is); (case h5 => exact Or.inl rfl)))

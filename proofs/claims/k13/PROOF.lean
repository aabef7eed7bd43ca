import PyProof.Rows.All
import Wide.All
import OpenK.AllK
import Wide.FinOn
import HandS.ForExc
import HandS.Comp
import HandS.Walk
import HandS.Wide
import HandS.Gcd
import HandS.Zip
import HandS.Defaults
import HandS.Ends
import HandS.IsInst
import HandS.TupAny
import HandS.TupMul
import HandS.Deep
import HandS.Text
import HandS.Conv
import HandS.Lambda
import HandS.ExcInit
import HandS.ExcField
import HandS.ExcIs
import KE.KExcIs
import HandS.EndTab
import HandS.Style
import PyProof.ReprLen
import KE.KUnpackStar
import PyProof.MakeMany
import HandS.Strs
import KE.GoesEnumKw
import HandS.SortKw
import PyProof.EqKinds
import KE.GoesMore
import HandS.Flow
import HandS.DictComp
import HandS.DictTup
import HandS.SortInts
import HandS.SortOrd
import HandS.Star
import KE.KMathGC
import HandS.OwnEq
import PySem.Challenge.RW_tiesums_k13_costs_refused
set_option Elab.async false
set_option linter.all false
set_option maxRecDepth 100000
set_option maxHeartbeats 4000000
/-! values as data; slots; what a reading comes to, over data alone -/
namespace DL
open PySem PySem.Spec PyProof.Rows L2

inductive D where
  | non | bl (b : Bool) | int (i : Int) | str (x : Str) | val (v : V)
  | tup (xs : List D) | lst (xs : List D) | dic (kvs : List (Key × D)) | dct (kvs : List (List Key × D))
  | ins (C : Addr) (fs : List (Str × D)) | exc (C : Addr) (d : D) | scr (ns : List Int)

/-- an exception's object, held as a value -/
def ExV (a C dx : Addr) : HO := .ext fun h => ∃ (oe : Obj) (vs : Array Value), h.get? a = some oe ∧ Zc (.ref C) (some dx) oe ∧ oe.data = .fields vs

mutual
inductive Is (K : PySem.W.Frag) (G : Hp) : V → D → Prop
  | non : Is K G .non .non
  | bl (b : Bool) : Is K G (.bl b) (.bl b)
  | int (i : Int) : Is K G (.int i) (.int i)
  | str (x : Str) : Is K G (.str x) (.str x)
  | val (v : V) : Is K G v (.val v)
  | tup {a : Addr} {vs : List V} {ds : List D} : SqT K G a vs → IsL K G vs ds → Is K G (.ref a) (.tup ds)
  | lst {a : Addr} {vs : List V} {ds : List D} : G a = some (.lst vs) → IsL K G vs ds → Is K G (.ref a) (.lst ds)
  | dic {a : Addr} {vs : List (Key × V)} {ds : List (Key × D)} : G a = some (.dK vs) → IsK K G vs ds → Is K G (.ref a) (.dic ds)
  | dct {a : Addr} {vs : List (List Key × V)} {ds : List (List Key × D)} : G a = some (.dT vs) → IsT K G vs ds → Is K G (.ref a) (.dct ds)
  | ins {a dx C : Addr} {vs : List (Str × V)} {ds : List (Str × D)} : G a = some (.ins C dx vs) → IsF K G vs ds → Is K G (.ref a) (.ins C ds)
  | scr {a : Addr} {ns : List Int} : SqL K G a (ns.map V.int) → Is K G (.ref a) (.scr ns)
  | exc {a dx C : Addr} {v : V} {d : D} : G a = some (ExV a C dx) → G dx = some (.xd [("value", v)]) → Is K G v d → Is K G (.ref a) (.exc C d)
inductive IsL (K : PySem.W.Frag) (G : Hp) : List V → List D → Prop
  | nil : IsL K G [] []
  | cons {v : V} {vs : List V} {d : D} {ds : List D} : Is K G v d → IsL K G vs ds → IsL K G (v :: vs) (d :: ds)
inductive IsK (K : PySem.W.Frag) (G : Hp) : List (Key × V) → List (Key × D) → Prop
  | nil : IsK K G [] []
  | cons {k : Key} {v : V} {vs : List (Key × V)} {d : D} {ds : List (Key × D)} : Is K G v d → IsK K G vs ds → IsK K G ((k, v) :: vs) ((k, d) :: ds)
inductive IsT (K : PySem.W.Frag) (G : Hp) : List (List Key × V) → List (List Key × D) → Prop
  | nil : IsT K G [] []
  | cons {k : List Key} {v : V} {vs : List (List Key × V)} {d : D} {ds : List (List Key × D)} : Is K G v d → IsT K G vs ds → IsT K G ((k, v) :: vs) ((k, d) :: ds)
inductive IsF (K : PySem.W.Frag) (G : Hp) : List (Str × V) → List (Str × D) → Prop
  | nil : IsF K G [] []
  | cons {k : Str} {v : V} {vs : List (Str × V)} {d : D} {ds : List (Str × D)} : Is K G v d → IsF K G vs ds → IsF K G ((k, v) :: vs) ((k, d) :: ds)
end

theorem seqL_mono {K : PySem.W.Frag} {G G' : Hp} {a : Addr} {xs : List V} (e : Same G G') (h : SqL K G a xs) : SqL K G' a xs := e.seq h
theorem seqT_mono {K : PySem.W.Frag} {G G' : Hp} {a : Addr} {xs : List V} (e : Same G G') (h : SqT K G a xs) : SqT K G' a xs := by
  rcases h with (h | ⟨o, h⟩) | h
  · exact .inl (.inl (e _ _ h))
  · exact .inl (.inr ⟨o, e _ _ h⟩)
  · exact .inr h

section
variable {K : PySem.W.Frag} {G G' : Hp}
mutual
theorem Is.mono (e : Same G G') : ∀ {v : V} {d : D}, Is K G v d → Is K G' v d
  | _, _, .non => .non
  | _, _, .bl b => .bl b
  | _, _, .int i => .int i
  | _, _, .str x => .str x
  | _, _, .val v => .val v
  | _, _, .tup h t => .tup (seqT_mono e h) (IsL.mono e t)
  | _, _, .lst h t => .lst (e _ _ h) (IsL.mono e t)
  | _, _, .dic h t => .dic (e _ _ h) (IsK.mono e t)
  | _, _, .dct h t => .dct (e _ _ h) (IsT.mono e t)
  | _, _, .ins h t => .ins (e _ _ h) (IsF.mono e t)
  | _, _, .scr h => .scr (seqL_mono e h)
  | _, _, .exc h h2 t => .exc (e _ _ h) (e _ _ h2) (Is.mono e t)
theorem IsL.mono (e : Same G G') : ∀ {v : List V} {d : List D}, IsL K G v d → IsL K G' v d
  | _, _, .nil => .nil
  | _, _, .cons h t => .cons (Is.mono e h) (IsL.mono e t)
theorem IsK.mono (e : Same G G') : ∀ {v : List (Key × V)} {d : List (Key × D)}, IsK K G v d → IsK K G' v d
  | _, _, .nil => .nil
  | _, _, .cons h t => .cons (Is.mono e h) (IsK.mono e t)
theorem IsT.mono (e : Same G G') : ∀ {v : List (List Key × V)} {d : List (List Key × D)}, IsT K G v d → IsT K G' v d
  | _, _, .nil => .nil
  | _, _, .cons h t => .cons (Is.mono e h) (IsT.mono e t)
theorem IsF.mono (e : Same G G') : ∀ {v : List (Str × V)} {d : List (Str × D)}, IsF K G v d → IsF K G' v d
  | _, _, .nil => .nil
  | _, _, .cons h t => .cons (Is.mono e h) (IsF.mono e t)
end
theorem IsL.length : ∀ {vs : List V} {ds : List D}, IsL K G vs ds → vs.length = ds.length
  | _, _, .nil => rfl
  | _, _, .cons _ t => by rw [List.length_cons, List.length_cons, IsL.length t]
theorem IsL.get : ∀ {vs : List V} {ds : List D} {i : Nat} {d : D}, IsL K G vs ds → ds[i]? = some d → ∃ v, vs[i]? = some v ∧ Is K G v d
  | _, _, _, _, .nil, e => by simp at e
  | _, _, 0, _, .cons h _, e => by
    simp at e
    subst e
    exact ⟨_, rfl, h⟩
  | _, _, i + 1, d, .cons _ t, e => by
    obtain ⟨v, h1, h2⟩ := IsL.get (i := i) (d := d) t (by simpa using e)
    exact ⟨v, by simpa using h1, h2⟩
theorem IsL.getV : ∀ {vs : List V} {ds : List D} {i : Nat} {v : V}, IsL K G vs ds → vs[i]? = some v → ∃ d, ds[i]? = some d ∧ Is K G v d
  | _, _, _, _, .nil, e => by simp at e
  | _, _, 0, _, .cons h _, e => by
    simp at e
    subst e
    exact ⟨_, rfl, h⟩
  | _, _, i + 1, d, .cons _ t, e => by
    obtain ⟨v, h1, h2⟩ := IsL.getV (i := i) (v := d) t (by simpa using e)
    exact ⟨v, by simpa using h1, h2⟩
theorem IsL.append : ∀ {vs ws : List V} {ds es : List D}, IsL K G vs ds → IsL K G ws es → IsL K G (vs ++ ws) (ds ++ es)
  | _, _, _, _, .nil, s => s
  | _, _, _, _, .cons h t, s => .cons h (IsL.append t s)
theorem IsL.take : ∀ {vs : List V} {ds : List D} (n : Nat), IsL K G vs ds → IsL K G (vs.take n) (ds.take n)
  | _, _, 0, _ => .nil
  | _, _, _ + 1, .nil => .nil
  | _, _, n + 1, .cons h t => .cons h (IsL.take n t)
theorem IsL.drop : ∀ {vs : List V} {ds : List D} (n : Nat), IsL K G vs ds → IsL K G (vs.drop n) (ds.drop n)
  | _, _, 0, r => r
  | _, _, _ + 1, .nil => .nil
  | _, _, n + 1, .cons _ t => IsL.drop n t
theorem IsL.erase : ∀ {vs : List V} {ds : List D} (n : Nat), IsL K G vs ds → IsL K G (vs.eraseIdx n) (ds.eraseIdx n)
  | _, _, _, .nil => .nil
  | _, _, 0, .cons _ t => t
  | _, _, n + 1, .cons h t => .cons h (IsL.erase n t)
theorem IsL.set {v : V} {d : D} (h : Is K G v d) : ∀ {vs : List V} {ds : List D} (n : Nat), IsL K G vs ds → IsL K G (vs.set n v) (ds.set n d)
  | _, _, _, .nil => .nil
  | _, _, 0, .cons _ t => .cons h t
  | _, _, n + 1, .cons q t => .cons q (IsL.set h n t)
theorem IsL.rev : ∀ {vs : List V} {ds : List D}, IsL K G vs ds → IsL K G vs.reverse ds.reverse
  | _, _, .nil => .nil
  | _, _, .cons h t => by
    rw [List.reverse_cons, List.reverse_cons]
    exact (IsL.rev t).append (.cons h .nil)
end

/-- a list of three ints: what it gives out next hangs on it; at most k numbers were given out by its third -/
def PotAt (H : Hp) (a : Addr) (k : Nat) : Prop := ∃ x y n : Int, H a = some (.lst [.int x, .int y, .int n]) ∧ 0 ≤ x ∧ x < 2 ^ 1000 ∧ 0 ≤ y ∧ y < 2305843009213693921 ∧ 0 ≤ n ∧ n ≤ (k : Int)
theorem PotAt.mono {H : Hp} {a : Addr} {k k' : Nat} (h : PotAt H a k) (e : k ≤ k') : PotAt H a k' := by
  obtain ⟨x, y, n, h1, h2, h3, h4, h5, h6, h7⟩ := h
  exact ⟨x, y, n, h1, h2, h3, h4, h5, h6, by omega⟩

/-- neither a table nor a tuple -/
def NP (u : HO) : Prop := (∀ ps, u ≠ .tbl ps) ∧ ∀ xs, u ≠ .tup xs
/-- an object of one's own: a dict of either kind, an instance -/
inductive OD where
  | dk (kvs : List (Key × D)) | dt (kvs : List (List Key × D)) | ins (C : Addr) (fs : List (Str × D))
inductive IsO (K : PySem.W.Frag) (G : Hp) : HO → OD → Prop
  | dk {vs : List (Key × V)} {ds : List (Key × D)} : IsK K G vs ds → IsO K G (.dK vs) (.dk ds)
  | dt {vs : List (List Key × V)} {ds : List (List Key × D)} : IsT K G vs ds → IsO K G (.dT vs) (.dt ds)
  | ins {C dx : Addr} {vs : List (Str × V)} {ds : List (Str × D)} : IsF K G vs ds → IsO K G (.ins C dx vs) (.ins C ds)
theorem IsO.mono {K : PySem.W.Frag} {G G' : Hp} (e : Same G G') {o : HO} {x : OD} (h : IsO K G o x) : IsO K G' o x := by
  cases h with
  | dk t => exact .dk (IsK.mono e t)
  | dt t => exact .dt (IsT.mono e t)
  | ins t => exact .ins (IsF.mono e t)
theorem IsO.nt {K : PySem.W.Frag} {G : Hp} {o : HO} {x : OD} (h : IsO K G o x) : (∀ ps, o ≠ .tbl ps) ∧ ∀ f, o ≠ .ext f := by
  cases h <;> exact ⟨(fun _ z => nomatch z), (fun _ z => nomatch z)⟩
theorem IsO.np {K : PySem.W.Frag} {G : Hp} {o : HO} {x : OD} (h : IsO K G o x) : NP o := by
  cases h <;> exact ⟨(fun _ z => nomatch z), (fun _ z => nomatch z)⟩
/-- what is one's own, in depth, and where it stands -/
inductive OT where
  | dat (d : D) | lst (p : Addr) (ds : List D) | dk (p : Addr) (kvs : List (Key × OT)) | ins (p C : Addr) (fs : List (Str × OT))
mutual
def OT.fp : OT → List Addr
  | .dat _ => []
  | .lst p _ => [p]
  | .dk p kvs => p :: OT.fpK kvs
  | .ins p _ fs => p :: OT.fpF fs
def OT.fpK : List (Key × OT) → List Addr
  | [] => []
  | (_, t) :: r => t.fp ++ OT.fpK r
def OT.fpF : List (Str × OT) → List Addr
  | [] => []
  | (_, t) :: r => t.fp ++ OT.fpF r
end
mutual
inductive Ot (K : PySem.W.Frag) (G H : Hp) : V → OT → Prop
  | dat {v : V} {d : D} : Is K G v d → Ot K G H v (.dat d)
  | lst {p : Addr} {vs : List V} {ds : List D} : G p = none → H p = some (.lst vs) → IsL K G vs ds → Ot K G H (.ref p) (.lst p ds)
  | dk {p : Addr} {vs : List (Key × V)} {kvs : List (Key × OT)} : G p = none → H p = some (.dK vs) → OtK K G H vs kvs → Ot K G H (.ref p) (.dk p kvs)
  | ins {p C dx : Addr} {vs : List (Str × V)} {fs : List (Str × OT)} : G p = none → H p = some (.ins C dx vs) → OtF K G H vs fs → Ot K G H (.ref p) (.ins p C fs)
inductive OtK (K : PySem.W.Frag) (G H : Hp) : List (Key × V) → List (Key × OT) → Prop
  | nil : OtK K G H [] []
  | cons {k : Key} {v : V} {vs : List (Key × V)} {t : OT} {ts : List (Key × OT)} : Ot K G H v t → OtK K G H vs ts → OtK K G H ((k, v) :: vs) ((k, t) :: ts)
inductive OtF (K : PySem.W.Frag) (G H : Hp) : List (Str × V) → List (Str × OT) → Prop
  | nil : OtF K G H [] []
  | cons {k : Str} {v : V} {vs : List (Str × V)} {t : OT} {ts : List (Str × OT)} : Ot K G H v t → OtF K G H vs ts → OtF K G H ((k, v) :: vs) ((k, t) :: ts)
end
/-- what stands at the places of a tree -/
abbrev Kept (G H G' H' : Hp) (as : List Addr) : Prop := ∀ a ∈ as, ∀ u, H a = some u → NP u → G a = none → H' a = some u ∧ G' a = none
section
variable {K : PySem.W.Frag} {G H G' H' : Hp}
mutual
theorem Ot.move (gg : Same G G') : ∀ {v : V} {t : OT}, Ot K G H v t → Kept G H G' H' t.fp → Ot K G' H' v t
  | _, _, .dat i, _ => .dat (i.mono gg)
  | _, _, .lst g h i, m => by
    obtain ⟨a1, a2⟩ := m _ (by simp [OT.fp]) _ h ⟨(fun _ z => nomatch z), (fun _ z => nomatch z)⟩ g
    exact .lst a2 a1 (IsL.mono gg i)
  | _, _, .dk g h i, m => by
    obtain ⟨a1, a2⟩ := m _ (by simp [OT.fp]) _ h ⟨(fun _ z => nomatch z), (fun _ z => nomatch z)⟩ g
    exact .dk a2 a1 (OtK.move gg i fun a ha => m a (by rw [OT.fp]; exact List.mem_cons_of_mem _ ha))
  | _, _, .ins g h i, m => by
    obtain ⟨a1, a2⟩ := m _ (by simp [OT.fp]) _ h ⟨(fun _ z => nomatch z), (fun _ z => nomatch z)⟩ g
    exact .ins a2 a1 (OtF.move gg i fun a ha => m a (by rw [OT.fp]; exact List.mem_cons_of_mem _ ha))
theorem OtK.move (gg : Same G G') : ∀ {vs : List (Key × V)} {ts : List (Key × OT)}, OtK K G H vs ts → Kept G H G' H' (OT.fpK ts) → OtK K G' H' vs ts
  | _, _, .nil, _ => .nil
  | _, _, .cons i r, m => .cons (Ot.move gg i fun a ha => m a (by rw [OT.fpK]; exact List.mem_append_left _ ha)) (OtK.move gg r fun a ha => m a (by rw [OT.fpK]; exact List.mem_append_right _ ha))
theorem OtF.move (gg : Same G G') : ∀ {vs : List (Str × V)} {ts : List (Str × OT)}, OtF K G H vs ts → Kept G H G' H' (OT.fpF ts) → OtF K G' H' vs ts
  | _, _, .nil, _ => .nil
  | _, _, .cons i r, m => .cons (Ot.move gg i fun a ha => m a (by rw [OT.fpF]; exact List.mem_append_left _ ha)) (OtF.move gg r fun a ha => m a (by rw [OT.fpF]; exact List.mem_append_right _ ha))
end
abbrev OwnAt (G H : Hp) (a : Addr) : Prop := G a = none ∧ ∃ u, H a = some u ∧ NP u ∧ ∀ f, u ≠ .ext f
mutual
theorem Ot.at_ : ∀ {v : V} {t : OT}, Ot K G H v t → ∀ a ∈ t.fp, OwnAt G H a
  | _, _, .dat i, a, h => by simp [OT.fp] at h
  | _, _, .lst g h i, a, ha => by
    simp [OT.fp] at ha
    subst ha
    exact ⟨g, _, h, ⟨(fun _ z => nomatch z), (fun _ z => nomatch z)⟩, (fun _ z => nomatch z)⟩
  | _, _, .dk g h i, a, ha => by
    rw [OT.fp] at ha
    rcases List.mem_cons.mp ha with rfl | ha
    · exact ⟨g, _, h, ⟨(fun _ z => nomatch z), (fun _ z => nomatch z)⟩, (fun _ z => nomatch z)⟩
    · exact OtK.at_ i a ha
  | _, _, .ins g h i, a, ha => by
    rw [OT.fp] at ha
    rcases List.mem_cons.mp ha with rfl | ha
    · exact ⟨g, _, h, ⟨(fun _ z => nomatch z), (fun _ z => nomatch z)⟩, (fun _ z => nomatch z)⟩
    · exact OtF.at_ i a ha
theorem OtK.at_ : ∀ {vs : List (Key × V)} {ts : List (Key × OT)}, OtK K G H vs ts → ∀ a ∈ OT.fpK ts, OwnAt G H a
  | _, _, .nil, a, h => by simp [OT.fpK] at h
  | _, _, .cons i r, a, h => by
    rw [OT.fpK] at h
    rcases List.mem_append.mp h with h | h
    · exact Ot.at_ i a h
    · exact OtK.at_ r a h
theorem OtF.at_ : ∀ {vs : List (Str × V)} {ts : List (Str × OT)}, OtF K G H vs ts → ∀ a ∈ OT.fpF ts, OwnAt G H a
  | _, _, .nil, a, h => by simp [OT.fpF] at h
  | _, _, .cons i r, a, h => by
    rw [OT.fpF] at h
    rcases List.mem_append.mp h with h | h
    · exact Ot.at_ i a h
    · exact OtF.at_ r a h
end
end
inductive Slot where
  | un | dat (d : D) | own (ds : List D) | pot (a : Addr) (k : Nat) | obj (x : OD) | tre (t : OT)
/-- whether anything may be changed through it -/
def Slot.mu : Slot → Bool
  | .un => false
  | .dat _ => false
  | _ => true
/-- what may be changed through it -/
def Slot.At : Slot → Option V → Addr → Prop
  | .own _, o, a => o = some (.ref a)
  | .pot _ _, o, a => o = some (.ref a)
  | .obj _, o, a => o = some (.ref a)
  | .tre t, _, a => a ∈ t.fp
  | _, _, _ => False

/-- a call's ground: the written part, the frozen and the whole heap at its start, what it may change -/
structure Fx where
  K : PySem.W.Frag
  G0 : Hp
  H0 : Hp
  F0 : Addr → Prop

/-- the tables of code objects, and the name that their code objects bear -/
class TabT where
  T : List (Addr × Str)
/-- the names by which objects keep what was found out about them -/
def cacN : List Str := [("walked" : Str), "sight"]
/-- the classes of such objects, and what they may keep -/
class CacT where
  cls : Addr → Prop
  ok : Hp → Addr → List (Str × V) → List (Str × V) → Prop
  mono : ∀ {G G' : Hp} {C : Addr} {fs fs' : List (Str × V)}, Same G G' → ok G C fs fs' → ok G' C fs fs'
  same : ∀ {G : Hp} {C : Addr} {fs fs' : List (Str × V)} {f : Str}, ok G C fs fs' → f ∉ cacN → fs'.lookup f = fs.lookup f
/-- what a frozen object is like in the whole heap -/
def Ky [CacT] (G : Hp) : HO → Option HO → Prop
  | .ins C dx fs, h => ∃ fs', h = some (.ins C dx fs') ∧ (fs' = fs ∨ (CacT.cls C ∧ CacT.ok G C fs fs'))
  | o, h => h = some o
/-- the frozen things stand in the whole heap, but for what objects keep -/
def Lo [CacT] (G H : Hp) : Prop := ∀ b o, G b = some o → Ky G o (H b)
/-- an object of a class that keeps things -/
def Cac [CacT] (G : Hp) (b : Addr) : Prop := ∃ C dx fs, G b = some (.ins C dx fs) ∧ CacT.cls C
variable [TabT] [CacT]
theorem Ky.of {G : Hp} {o : HO} {h : Option HO} (e : h = some o) : Ky G o h := by
  cases o with
  | ins C dx fs => exact ⟨fs, e, .inl rfl⟩
  | _ => exact e
theorem Ky.so {G : Hp} {o : HO} {h : Option HO} (e : Ky G o h) : ∃ u, h = some u := by
  cases o with
  | ins C dx fs =>
    obtain ⟨fs', e, _⟩ := e
    exact ⟨_, e⟩
  | _ => exact ⟨_, e⟩
theorem Ky.mono {G G' : Hp} {o : HO} {h : Option HO} (e : Same G G') (k : Ky G o h) : Ky G' o h := by
  cases o with
  | ins C dx fs =>
    obtain ⟨fs', e1, e2⟩ := k
    exact ⟨fs', e1, e2.imp id fun q => ⟨q.1, CacT.mono e q.2⟩⟩
  | _ => exact k
/-- what is no object that keeps things stands as it is -/
theorem Ky.eq {G : Hp} {o : HO} {h : Option HO} (k : Ky G o h) (n : ∀ C dx fs, o = .ins C dx fs → ¬ CacT.cls C) : h = some o := by
  cases o with
  | ins C dx fs =>
    obtain ⟨fs', e1, rfl | ⟨e2, _⟩⟩ := k
    · exact e1
    · exact absurd e2 (n C dx fs rfl)
  | _ => exact k
theorem Lo.of {G H : Hp} (e : Same G H) : Lo G H := fun b o g => Ky.of (e b o g)
theorem Lo.refl (G : Hp) : Lo G G := Lo.of (Same.refl G)
theorem Lo.free {G H : Hp} (e : Lo G H) {l : Addr} (h : H l = none) : G l = none := by
  cases g : G l with
  | none => rfl
  | some o =>
    obtain ⟨u, q⟩ := Ky.so (e l o g)
    rw [h] at q
    cases q
theorem Lo.eq {G H : Hp} (e : Lo G H) {b : Addr} {o : HO} (g : G b = some o) (n : ¬ Cac G b) : H b = some o :=
  Ky.eq (e b o g) fun C dx fs z c => n ⟨C, dx, fs, z ▸ g, c⟩
theorem Cac.no {G : Hp} {b : Addr} (g : G b = none) : ¬ Cac G b := fun ⟨C, dx, fs, q, _⟩ => by
  rw [g] at q
  cases q
theorem Lo.ins {G H : Hp} (e : Lo G H) {b C dx : Addr} {fs : List (Str × V)} (g : G b = some (.ins C dx fs)) : ∃ fs', H b = some (.ins C dx fs') ∧ (fs' = fs ∨ (CacT.cls C ∧ CacT.ok G C fs fs')) := e b _ g
/-- what keeps nothing stands as it is -/
def Lq (G H : Hp) : Prop := ∀ b o, G b = some o → (∀ C dx fs, o ≠ .ins C dx fs) → H b = some o
theorem Lq.of {G G1 H : Hp} (e : Same G G1) (l : Lo G1 H) : Lq G H := fun b o g n => (l b o (e b o g)).eq fun C dx fs z => absurd z (n C dx fs)
theorem Lo.q {G H : Hp} (l : Lo G H) : Lq G H := Lq.of (Same.refl G) l
theorem Lq.seqT {K : PySem.W.Frag} {G H : Hp} {a : Addr} {xs : List V} (e : Lq G H) (h : SqT K G a xs) : SqT K H a xs := by
  rcases h with (h | ⟨o, h⟩) | h
  · exact .inl (.inl (e _ _ h fun _ _ _ z => nomatch z))
  · exact .inl (.inr ⟨o, e _ _ h fun _ _ _ z => nomatch z⟩)
  · exact .inr h
theorem Lq.seq {K : PySem.W.Frag} {G H : Hp} {a : Addr} {xs : List V} (e : Lq G H) (h : SqL K G a xs) : SqL K H a xs := by
  rcases h with (h | ⟨o, h⟩) | h
  · exact .inl (.inl (e _ _ h fun _ _ _ z => nomatch z))
  · exact .inl (.inr ⟨o, e _ _ h fun _ _ _ z => nomatch z⟩)
  · exact .inr h
theorem Lq.lst {G H : Hp} {a : Addr} {xs : List V} (e : Lq G H) (h : G a = some (.lst xs)) : H a = some (.lst xs) := e _ _ h fun _ _ _ z => nomatch z
theorem Lo.look {G H : Hp} (e : Lo G H) {b C dx : Addr} {fs : List (Str × V)} (g : G b = some (.ins C dx fs)) : ∃ fs', H b = some (.ins C dx fs') ∧ ∀ f, f ∉ cacN → fs'.lookup f = fs.lookup f := by
  obtain ⟨fs', e1, rfl | ⟨_, e2⟩⟩ := e.ins g
  · exact ⟨fs', e1, fun _ _ => rfl⟩
  · exact ⟨fs', e1, fun f hf => CacT.same e2 hf⟩
theorem Lo.seqT {K : PySem.W.Frag} {G H : Hp} {a : Addr} {xs : List V} (e : Lo G H) (h : SqT K G a xs) : SqT K H a xs := by
  rcases h with (h | ⟨o, h⟩) | h
  · exact .inl (.inl (e _ _ h))
  · exact .inl (.inr ⟨o, e _ _ h⟩)
  · exact .inr h
theorem Lo.seq {K : PySem.W.Frag} {G H : Hp} {a : Addr} {xs : List V} (e : Lo G H) (h : SqL K G a xs) : SqL K H a xs := by
  rcases h with (h | ⟨o, h⟩) | h
  · exact .inl (.inl (e _ _ h))
  · exact .inl (.inr ⟨o, e _ _ h⟩)
  · exact .inr h
/-- no table of code objects is frozen -/
def NoT (G : Hp) : Prop := ∀ b ps, G b ≠ some (.tbl ps)
/-- frozen things stay and grow by new ones; all things but those of F stay -/
structure Ext (G H G' H' : Hp) (F : Addr → Prop) : Prop where
  gg : Same G G'
  gh : Lo G' H'
  fr : ∀ b o, H b = some o → (∀ ps, o ≠ .tbl ps) → ¬ F b → ¬ Cac G b → H' b = some o
  nf : ∀ b o, H b = some o → NP o → G b = none → ¬ F b → G' b = none
  th : ∀ b o, H b = some o → ∃ u, H' b = some u
  tt : LamX.Tabs TabT.T H → LamX.Tabs TabT.T H'
  nt : NoT G → NoT G'
theorem Ext.refl {G H : Hp} {F : Addr → Prop} (h : Lo G H) : Ext G H G H F := ⟨Same.refl G, h, fun _ _ e _ _ _ => e, fun _ _ _ _ e _ => e, fun _ o e => ⟨o, e⟩, fun t => t, fun n => n⟩
theorem Ext.mono {G H G' H' : Hp} {F F' : Addr → Prop} (e : Ext G H G' H' F) (h : ∀ b, F b → F' b) : Ext G H G' H' F' :=
  ⟨e.gg, e.gh, fun b o q t n nc => e.fr b o q t (fun z => n (h b z)) nc, fun b o q t n m => e.nf b o q t n fun z => m (h b z), e.th, e.tt, e.nt⟩
theorem Ext.nocac {G H G1 H1 : Hp} {F : Addr → Prop} (a : Ext G H G1 H1 F) {x : Addr} {o : HO} (e : H x = some o) (t : ∀ ps, o ≠ .tbl ps) (n : ¬ F x) (g : G x = none) : ¬ Cac G1 x := fun ⟨C, dx, fs, q, c⟩ => by
  have bad : ∀ u, H1 x = some u → (∀ C dx fs, u ≠ .ins C dx fs) → False := fun u hu hn => by
    obtain ⟨fs', e1, _⟩ := a.gh.ins q
    rw [hu] at e1
    exact hn _ _ _ (Option.some.inj e1)
  by_cases t2 : ∃ xs, o = .tup xs
  · obtain ⟨xs, rfl⟩ := t2
    exact bad _ (a.fr x _ e t n (Cac.no g)) fun _ _ _ z => nomatch z
  · have q2 := a.nf x o e ⟨t, fun xs z => t2 ⟨xs, z⟩⟩ g n
    rw [q] at q2
    cases q2
theorem Ext.cac {G H G1 H1 : Hp} {F : Addr → Prop} (a : Ext G H G1 H1 F) {x : Addr} {o : HO} (e : H x = some o) (t : ∀ ps, o ≠ .tbl ps) (n : ¬ F x) (nc : ¬ Cac G x) : ¬ Cac G1 x := fun ⟨C, dx, fs, q, c⟩ => by
  cases g : G x with
  | some u =>
    have q2 := a.gg x u g
    rw [q] at q2
    cases q2
    exact nc ⟨C, dx, fs, g, c⟩
  | none => exact a.nocac e t n g ⟨C, dx, fs, q, c⟩
theorem Ext.trans {G H G1 H1 G2 H2 : Hp} {F F' : Addr → Prop} (a : Ext G H G1 H1 F) (b : Ext G1 H1 G2 H2 F') (h : ∀ x o, H x = some o → F' x → F x) : Ext G H G2 H2 F where
  gg := a.gg.trans b.gg
  gh := b.gh
  fr := fun x o e t n nc => b.fr x o (a.fr x o e t n nc) t (fun z => n (h x o e z)) fun ⟨C, dx, fs, q, c⟩ => by
    cases g : G x with
    | some u =>
      have q2 := a.gg x u g
      rw [q] at q2
      cases q2
      exact nc ⟨C, dx, fs, g, c⟩
    | none => exact a.nocac e t n g ⟨C, dx, fs, q, c⟩
  nf := fun x o e t q n =>
    b.nf x o (a.fr x o e t.1 n (Cac.no q)) t (a.nf x o e t q n) fun z => n (h x o e z)
  th := fun x o e =>
    let ⟨u, e1⟩ := a.th x o e
    b.th x u e1
  tt := fun t => b.tt (a.tt t)
  nt := fun n => b.nt (a.nt n)
/-- not a table -/
theorem ext_tbl {f : Heap → Prop} {ps : Array Value} : HO.ext f ≠ .tbl ps := fun z => by cases z
/-- one object is written, no table, no code object -/
theorem tabs_upd {H : Hp} {p : Addr} {o u : HO} {T : List (Addr × Str)} (h : H p = some u) (n1 : ∀ ps, u ≠ .tbl ps) (n2 : ∀ f, u ≠ .ext f) (t : LamX.Tabs T H) : LamX.Tabs T (upd H p o) := fun q hq => by
  obtain ⟨ps, h1, h2, h3⟩ := t q hq
  refine ⟨ps, ?_, h2, fun pos cv hc => ?_⟩
  · rw [upd_ne fun z => by
      rw [z, h] at h1
      exact n1 ps (Option.some.inj h1)]
    exact h1
  · obtain ⟨c, e1, e2⟩ := h3 pos cv hc
    refine ⟨c, e1, ?_⟩
    rw [upd_ne fun z => by
      rw [z, h] at e2
      exact n2 _ (Option.some.inj e2)]
    exact e2
theorem tabs_new {H : Hp} {p : Addr} {o : HO} {T : List (Addr × Str)} (n : H p = none) (t : LamX.Tabs T H) : LamX.Tabs T (upd H p o) := t.ext fun b u e => by
  rw [upd_ne (ne_of_none e n)]
  exact e
theorem NoT.upd {G : Hp} {p : Addr} {o : HO} (g : NoT G) (h : ∀ ps, o ≠ .tbl ps) : NoT (L2.upd G p o) := fun b ps e => by
  by_cases hb : b = p
  · subst hb
    rw [upd_same] at e
    exact h ps (Option.some.inj e)
  · rw [upd_ne hb] at e
    exact g b ps e
theorem same_new {H : Hp} {p : Addr} {o : HO} (n : H p = none) : Same H (upd H p o) := fun b u e => by
  rw [upd_ne (ne_of_none e n)]
  exact e
/-- a new object, frozen at once -/
theorem Ext.new {G H : Hp} {F : Addr → Prop} (h : Lo G H) {p : Addr} (n : H p = none) (o : HO) (ho : ∀ ps, o ≠ .tbl ps := by (intro _ z; first | cases z | exact ext_tbl z)) : Ext G H (upd G p o) (upd H p o) F := by
  have gn : G p = none := h.free n
  have sg : Same G (upd G p o) := fun b u e => by
    rw [upd_ne (ne_of_none e gn)]
    exact e
  refine ⟨sg, fun b u e => ?_, fun b u e _ _ _ => ?_, fun b u e _ q _ => ?_, fun b u e => ⟨u, ?_⟩, fun t => tabs_new n t, fun g => g.upd ho⟩
  · by_cases hb : b = p
    · subst hb
      rw [upd_same] at e ⊢
      exact Ky.of e
    · rw [upd_ne hb] at e ⊢
      exact (h b u e).mono sg
  · rw [upd_ne (ne_of_none e n)]
    exact e
  · rw [upd_ne (ne_of_none e n)]
    exact q
  · rw [upd_ne (ne_of_none e n)]
    exact e
/-- a new object, not frozen -/
theorem Ext.newM {G H : Hp} {F : Addr → Prop} (h : Lo G H) {p : Addr} (n : H p = none) (o : HO) : Ext G H G (upd H p o) F :=
  ⟨Same.refl G, fun b u e => by
    obtain ⟨u2, e2⟩ := Ky.so (h b u e)
    rw [upd_ne (ne_of_none e2 n)]
    exact h b u e, fun b u e _ _ _ => by
    rw [upd_ne (ne_of_none e n)]
    exact e, fun b u e _ q _ => q, fun b u e => ⟨u, by
    rw [upd_ne (ne_of_none e n)]
    exact e⟩, fun t => tabs_new n t, fun g => g⟩

def SlotOk (C : Fx) (G H : Hp) : Option V → Slot → Prop
  | _, .un => True
  | o, .dat d => ∃ v, o = some v ∧ Is C.K G v d
  | o, .own ds => ∃ p vs, o = some (.ref p) ∧ G p = none ∧ H p = some (.lst vs) ∧ IsL C.K G vs ds ∧ C.H0 p = none
  | o, .pot a k => o = some (.ref a) ∧ G a = none ∧ PotAt H a k ∧ (C.F0 a ∨ C.H0 a = none)
  | o, .obj x => ∃ p u, o = some (.ref p) ∧ G p = none ∧ H p = some u ∧ IsO C.K G u x ∧ C.H0 p = none
  | o, .tre t => ∃ v, o = some v ∧ Ot C.K G H v t ∧ t.fp.Nodup ∧ ∀ a ∈ t.fp, C.F0 a ∨ C.H0 a = none
theorem Slot.At.mu {s : Slot} {o : Option V} {a : Addr} (h : s.At o a) : s.mu = true := by
  cases s <;> first | rfl | cases h
theorem SlotOk.move {C : Fx} {G H G' H' : Hp} {o : Option V} {s : Slot} (q : SlotOk C G H o s) (gg : Same G G') (hm : ∀ a u, s.At o a → H a = some u → NP u → G a = none → H' a = some u ∧ G' a = none) : SlotOk C G' H' o s := by
  cases s with
  | un => trivial
  | dat d =>
    obtain ⟨v, e, h⟩ := q
    exact ⟨v, e, h.mono gg⟩
  | own ds =>
    obtain ⟨p, vs, e, g, h, k, h0⟩ := q
    obtain ⟨a1, a2⟩ := hm p _ e h ⟨(fun _ z => nomatch z), (fun _ z => nomatch z)⟩ g
    exact ⟨p, vs, e, a2, a1, k.mono gg, h0⟩
  | pot a k =>
    obtain ⟨e, g, ⟨x, y, n, h, r⟩, f⟩ := q
    obtain ⟨a1, a2⟩ := hm a _ e h ⟨(fun _ z => nomatch z), (fun _ z => nomatch z)⟩ g
    exact ⟨e, a2, ⟨x, y, n, a1, r⟩, f⟩
  | obj x =>
    obtain ⟨p, u, e, g, h, k, h0⟩ := q
    obtain ⟨a1, a2⟩ := hm p _ e h k.np g
    exact ⟨p, u, e, a2, a1, k.mono gg, h0⟩
  | tre t =>
    obtain ⟨v, e, k, nd, f⟩ := q
    exact ⟨v, e, k.move gg fun a ha u => hm a u ha, nd, f⟩
/-- a slot that may be changed: what it is at -/
theorem SlotOk.at_ {C : Fx} {G H : Hp} {o : Option V} {s : Slot} (q : SlotOk C G H o s) {a : Addr} (hm : s.At o a) : ∃ u, G a = none ∧ H a = some u ∧ NP u ∧ (∀ f, u ≠ .ext f) ∧ (C.F0 a ∨ C.H0 a = none) := by
  cases s with
  | un => cases hm
  | dat d => cases hm
  | own ds =>
    obtain ⟨p, vs, e, g, h, k, h0⟩ := q
    have hm : o = _ := hm
    rw [e] at hm
    cases hm
    exact ⟨_, g, h, ⟨(fun _ z => nomatch z), (fun _ z => nomatch z)⟩, (fun _ z => nomatch z), .inr h0⟩
  | pot b k =>
    obtain ⟨e, g, ⟨x, y, n, h, r⟩, f⟩ := q
    have hm : o = _ := hm
    rw [e] at hm
    cases hm
    exact ⟨_, g, h, ⟨(fun _ z => nomatch z), (fun _ z => nomatch z)⟩, (fun _ z => nomatch z), f⟩
  | obj x =>
    obtain ⟨p, u, e, g, h, k, h0⟩ := q
    have hm : o = _ := hm
    rw [e] at hm
    cases hm
    exact ⟨u, g, h, k.np, k.nt.2, .inr h0⟩
  | tre t =>
    obtain ⟨v, e, k, nd, f⟩ := q
    obtain ⟨g, u, h, n1, n2⟩ := k.at_ a hm
    exact ⟨u, g, h, n1, n2, f a hm⟩

/-- the addresses of what the slots may change -/
def Mt (σ : L2.St) (ρ : List Slot) (i : Nat) (a : Addr) : Prop := ∃ o s, σ[i]? = some o ∧ ρ[i]? = some s ∧ s.At o a
def Fp (σ : L2.St) (ρ : List Slot) (a : Addr) : Prop := ∃ i, Mt σ ρ i a

structure Sg (C : Fx) (G H : Hp) (σ : L2.St) (ρ : List Slot) : Prop where
  ext : Ext C.G0 C.H0 G H C.F0
  len : σ.length = ρ.length
  sl : ∀ (i : Nat) (s : Slot), ρ[i]? = some s → ∃ o, σ[i]? = some o ∧ SlotOk C G H o s
  dis : ∀ i j a, Mt σ ρ i a → Mt σ ρ j a → i = j

section
variable {C : Fx} {G H G' H' G1 H1 : Hp} {σ σ' : L2.St} {ρ ρ' ρ1 : List Slot}
theorem Sg.le (S : Sg C G H σ ρ) : Lo G H := S.ext.gh
theorem Sg.fp_some (S : Sg C G H σ ρ) {a : Addr} (h : Fp σ ρ a) : G a = none ∧ (∃ u, H a = some u) ∧ (C.F0 a ∨ C.H0 a = none) := by
  obtain ⟨i, o', s, hs, hr, hm⟩ := h
  obtain ⟨o, ho, q⟩ := S.sl i _ hr
  rw [hs] at ho
  cases ho
  obtain ⟨u, g, h, _, _, f⟩ := q.at_ hm
  exact ⟨g, ⟨u, h⟩, f⟩
/-- one step: what it kept, where it stands, it changes nothing further -/
structure Stp (C : Fx) (G H : Hp) (σ : L2.St) (ρ : List Slot) (G' H' : Hp) (ρ' : List Slot) : Prop where
  ext : Ext G H G' H' (Fp σ ρ)
  st : Sg C G' H' σ ρ'
  sub : ∀ a, Fp σ ρ' a → Fp σ ρ a
theorem Stp.refl (S : Sg C G H σ ρ) : Stp C G H σ ρ G H ρ := ⟨Ext.refl S.le, S, fun _ h => h⟩
theorem Stp.trans (a : Stp C G H σ ρ G1 H1 ρ1) (b : Stp C G1 H1 σ ρ1 G' H' ρ') : Stp C G H σ ρ G' H' ρ' :=
  ⟨a.ext.trans b.ext fun x _ _ h => a.sub x h, b.st, fun x h => a.sub x (b.sub x h)⟩
/-- nothing that the slots may change is touched -/
theorem Sg.keep (S : Sg C G H σ ρ) (e : Ext G H G' H' (fun _ => False)) : Stp C G H σ ρ G' H' ρ := by
  refine ⟨e.mono fun _ h => h.elim, ⟨S.ext.trans e fun _ _ _ h => h.elim, S.len, fun i s hs => ?_, S.dis⟩, fun _ h => h⟩
  obtain ⟨o, ho, q⟩ := S.sl i s hs
  exact ⟨o, ho, q.move e.gg fun a u _ h nt g => ⟨e.fr a _ h nt.1 (fun z => z) (Cac.no g), e.nf a _ h nt g (fun z => z)⟩⟩
end

/-! ### what a reading comes to -/
abbrev PD := D → List Slot → Prop
def Ev (C : Fx) (te : TE) (ρ : List Slot) (P : PD) : Prop := ∀ (σ : L2.St) (G H : Hp) (Q : VK), Sg C G H σ ρ → (∀ v d G' H' ρ', Stp C G H σ ρ G' H' ρ' → P d ρ' → Is C.K G' v d → Q v H') → te σ H Q
def EvT (C : Fx) (tt : TT) (ρ : List Slot) (P : Bool → List Slot → Prop) : Prop := ∀ (σ : L2.St) (G H : Hp) (Q : Bool → Hp → Prop), Sg C G H σ ρ → (∀ b G' H' ρ', Stp C G H σ ρ G' H' ρ' → P b ρ' → Q b H') → tt σ H Q
def EvA (C : Fx) (ta : TA) (ρ : List Slot) (P : List D → List Slot → Prop) : Prop := ∀ (σ : L2.St) (G H : Hp) (Q : List V → Hp → Prop), Sg C G H σ ρ → (∀ vs ds G' H' ρ', Stp C G H σ ρ G' H' ρ' → P ds ρ' → IsL C.K G' vs ds → Q vs H') → ta σ H Q
def EvO (C : Fx) (to : TO) (ρ : List Slot) (P : Option Int → List Slot → Prop) : Prop := ∀ (σ : L2.St) (G H : Hp) (Q : Option Int → Hp → Prop), Sg C G H σ ρ → (∀ o G' H' ρ', Stp C G H σ ρ G' H' ρ' → P o ρ' → Q o H') → to σ H Q
/-- operators, calls, by data: they change nothing -/
def RD (K : PySem.W.Frag) (r : R2) (x y : D) (P : D → Prop) : Prop := ∀ (G H : Hp) (v u : V) (Q : VK), Lo G H → Is K G v x → Is K G u y → (∀ z d G' H', Ext G H G' H' (fun _ => False) → Same H H' → P d → Is K G' z d → Q z H') → r v u H Q
/-- the same where what objects keep may change -/
def RDo (K : PySem.W.Frag) (r : R2) (x y : D) (P : D → Prop) : Prop := ∀ (G H : Hp) (v u : V) (Q : VK), Lo G H → Is K G v x → Is K G u y → (∀ z d G' H', Ext G H G' H' (fun _ => False) → P d → Is K G' z d → Q z H') → r v u H Q
def RC1o (K : PySem.W.Frag) (r : List V → Hp → VK → Prop) (xs : List D) (P : D → Prop) : Prop := ∀ (G H : Hp) (vs : List V) (Q : VK), Lo G H → IsL K G vs xs → (∀ z d G' H', Ext G H G' H' (fun _ => False) → P d → Is K G' z d → Q z H') → r vs H Q
def RU1 (K : PySem.W.Frag) (r : V → Hp → VK → Prop) (x : D) (P : D → Prop) : Prop := ∀ (G H : Hp) (v : V) (Q : VK), Lo G H → Is K G v x → (∀ z d G' H', Ext G H G' H' (fun _ => False) → Same H H' → P d → Is K G' z d → Q z H') → r v H Q
def RC1 (K : PySem.W.Frag) (r : List V → Hp → VK → Prop) (xs : List D) (P : D → Prop) : Prop := ∀ (G H : Hp) (vs : List V) (Q : VK), Lo G H → IsL K G vs xs → (∀ z d G' H', Ext G H G' H' (fun _ => False) → Same H H' → P d → Is K G' z d → Q z H') → r vs H Q

section
variable {C : Fx} {ρ : List Slot} {P : PD} {te ta tb tx : TE} {tt tu : TT} {tA tB' : TA}
theorem Ev.imp {P' : PD} (h : Ev C te ρ P) (i : ∀ d ρ', P d ρ' → P' d ρ') : Ev C te ρ P' := fun σ G H Q S q => h σ G H Q S fun v d G' H' ρ' s p => q v d G' H' ρ' s (i d ρ' p)
theorem EvT.imp {P P' : Bool → List Slot → Prop} (h : EvT C tt ρ P) (i : ∀ d ρ', P d ρ' → P' d ρ') : EvT C tt ρ P' := fun σ G H Q S q => h σ G H Q S fun d G' H' ρ' s p => q d G' H' ρ' s (i d ρ' p)
theorem ev_var {i : Nat} {d : D} (h : ρ[i]? = some (.dat d)) (k : P d ρ) : Ev C (tVar i) ρ P := fun σ G H Q S q => by
  obtain ⟨o, ho, v, rfl, hv⟩ := S.sl i _ h
  exact ⟨v, ho, q v d G H ρ (Stp.refl S) k hv⟩
theorem ev_int {i : Int} (k : P (.int i) ρ) : Ev C (tC (.int i)) ρ P := fun σ G H Q S q => q _ _ G H ρ (Stp.refl S) k (.int i)
theorem ev_str {i : Str} (k : P (.str i) ρ) : Ev C (tC (.str i)) ρ P := fun σ G H Q S q => q _ _ G H ρ (Stp.refl S) k (.str i)
theorem ev_bl {i : Bool} (k : P (.bl i) ρ) : Ev C (tC (.bl i)) ρ P := fun σ G H Q S q => q _ _ G H ρ (Stp.refl S) k (.bl i)
theorem ev_non (k : P .non ρ) : Ev C (tC .non) ρ P := fun σ G H Q S q => q _ _ G H ρ (Stp.refl S) k .non
theorem ev_val {v : V} (k : P (.val v) ρ) : Ev C (tC v) ρ P := fun σ G H Q S q => q _ _ G H ρ (Stp.refl S) k (.val v)
/-- a constant of the module's, by what it is -/
theorem ev_c {v : V} {d : D} (h : ∀ G, Is C.K G v d) (k : P d ρ) : Ev C (tC v) ρ P := fun σ G H Q S q => q _ _ G H ρ (Stp.refl S) k (h G)
theorem ev_op {r : R2} (h : Ev C ta ρ fun x ρ1 => Ev C tb ρ1 fun y ρ2 => RD C.K r x y fun d => P d ρ2) : Ev C (tOp r ta tb) ρ P := fun σ G H Q S q => by
  refine h σ G H _ S fun v x G1 H1 ρ1 s1 h1 i1 => ?_
  refine h1 σ G1 H1 _ s1.st fun u y G2 H2 ρ2 s2 h2 i2 => ?_
  refine h2 G2 H2 v u Q s2.st.le (i1.mono s2.ext.gg) i2 fun z d G3 H3 e _ p i3 => ?_
  exact q z d G3 H3 ρ2 ((s1.trans s2).trans (s2.st.keep e)) p i3
theorem ev_opO {r : R2} (h : Ev C ta ρ fun x ρ1 => Ev C tb ρ1 fun y ρ2 => RDo C.K r x y fun d => P d ρ2) : Ev C (tOp r ta tb) ρ P := fun σ G H Q S q => by
  refine h σ G H _ S fun v x G1 H1 ρ1 s1 h1 i1 => ?_
  refine h1 σ G1 H1 _ s1.st fun u y G2 H2 ρ2 s2 h2 i2 => ?_
  refine h2 G2 H2 v u Q s2.st.le (i1.mono s2.ext.gg) i2 fun z d G3 H3 e p i3 => ?_
  exact q z d G3 H3 ρ2 ((s1.trans s2).trans (s2.st.keep e)) p i3
theorem ev_un {r : V → Hp → VK → Prop} (h : Ev C ta ρ fun x ρ1 => RU1 C.K r x fun d => P d ρ1) : Ev C (tUn r ta) ρ P := fun σ G H Q S q => by
  refine h σ G H _ S fun v x G1 H1 ρ1 s1 h1 i1 => ?_
  refine h1 G1 H1 v Q s1.st.le i1 fun z d G3 H3 e _ p i3 => ?_
  exact q z d G3 H3 ρ1 (s1.trans (s1.st.keep e)) p i3
theorem ev_cb {r : List V → Hp → VK → Prop} (h : EvA C tA ρ fun xs ρ1 => RC1 C.K r xs fun d => P d ρ1) : Ev C (tCB r tA) ρ P := fun σ G H Q S q => by
  refine h σ G H _ S fun v x G1 H1 ρ1 s1 h1 i1 => ?_
  refine h1 G1 H1 v Q s1.st.le i1 fun z d G3 H3 e _ p i3 => ?_
  exact q z d G3 H3 ρ1 (s1.trans (s1.st.keep e)) p i3
theorem ev_cbO {r : List V → Hp → VK → Prop} (h : EvA C tA ρ fun xs ρ1 => RC1o C.K r xs fun d => P d ρ1) : Ev C (tCB r tA) ρ P := fun σ G H Q S q => by
  refine h σ G H _ S fun v x G1 H1 ρ1 s1 h1 i1 => ?_
  refine h1 G1 H1 v Q s1.st.le i1 fun z d G3 H3 e p i3 => ?_
  exact q z d G3 H3 ρ1 (s1.trans (s1.st.keep e)) p i3
theorem ea_nil {P : List D → List Slot → Prop} (k : P [] ρ) : EvA C tNil ρ P := fun σ G H Q S q => q [] [] G H ρ (Stp.refl S) k .nil
theorem ea_cons {P : List D → List Slot → Prop} (h : Ev C ta ρ fun x ρ1 => EvA C tA ρ1 fun xs ρ2 => P (x :: xs) ρ2) : EvA C (tCons ta tA) ρ P := fun σ G H Q S q => by
  refine h σ G H _ S fun v x G1 H1 ρ1 s1 h1 i1 => ?_
  refine h1 σ G1 H1 _ s1.st fun vs xs G2 H2 ρ2 s2 h2 i2 => ?_
  exact q _ _ G2 H2 ρ2 (s1.trans s2) h2 (.cons (i1.mono s2.ext.gg) i2)
theorem ev_tup (h : EvA C tA ρ fun xs ρ1 => xs.length ≤ 100000 ∧ P (.tup xs) ρ1) : Ev C (tTup tA) ρ P := fun σ G H Q S q => by
  refine h σ G H _ S fun vs xs G1 H1 ρ1 s1 h1 i1 => ⟨?_, fun p hp => ?_⟩
  · rw [i1.length]
    exact Nat.le_trans h1.1 (by decide)
  · have e := Ext.new (F := fun _ => False) s1.st.le hp (.tup vs)
    exact q _ _ _ _ ρ1 (s1.trans (s1.st.keep e)) h1.2 (.tup (.inl (.inl upd_same)) (i1.mono e.gg))
theorem ev_lst (h : EvA C tA ρ fun xs ρ1 => xs.length ≤ 100000 ∧ P (.lst xs) ρ1) : Ev C (tLst tA) ρ P := fun σ G H Q S q => by
  refine h σ G H _ S fun vs xs G1 H1 ρ1 s1 h1 i1 => ⟨?_, fun p hp => ?_⟩
  · rw [i1.length]
    exact Nat.le_trans h1.1 (by decide)
  · have e := Ext.new (F := fun _ => False) s1.st.le hp (.lst vs)
    exact q _ _ _ _ ρ1 (s1.trans (s1.st.keep e)) h1.2 (.lst upd_same (i1.mono e.gg))
theorem ev_if (h : EvT C tt ρ fun b ρ1 => (b = true → Ev C ta ρ1 P) ∧ (b = false → Ev C tb ρ1 P)) : Ev C (tIf tt ta tb) ρ P := fun σ G H Q S q => by
  refine h σ G H _ S fun b G1 H1 ρ1 s1 h1 => ?_
  cases b with
  | true => exact iteT (h1.1 rfl σ G1 H1 Q s1.st fun v d G2 H2 ρ2 s2 p i => q v d G2 H2 ρ2 (s1.trans s2) p i)
  | false => exact iteF (h1.2 rfl σ G1 H1 Q s1.st fun v d G2 H2 ρ2 s2 p i => q v d G2 H2 ρ2 (s1.trans s2) p i)
theorem ev_andV (h : Ev C ta ρ fun x ρ1 => ∃ b, x = .bl b ∧ (b = true → Ev C tb ρ1 P) ∧ (b = false → P (.bl false) ρ1)) : Ev C (tAndV ta tb) ρ P := fun σ G H Q S q => by
  refine h σ G H _ S fun v x G1 H1 ρ1 s1 h1 i1 => ?_
  obtain ⟨b, rfl, h2, h3⟩ := h1
  cases i1
  refine ⟨b, rfl, ?_⟩
  cases b with
  | true => exact iteT (h2 rfl σ G1 H1 Q s1.st fun v d G2 H2 ρ2 s2 p i => q v d G2 H2 ρ2 (s1.trans s2) p i)
  | false => exact iteF (q _ _ G1 H1 ρ1 s1 (h3 rfl) (.bl false))
theorem ev_orV (h : Ev C ta ρ fun x ρ1 => ∃ b, x = .bl b ∧ (b = true → P (.bl true) ρ1) ∧ (b = false → Ev C tb ρ1 P)) : Ev C (tOrV ta tb) ρ P := fun σ G H Q S q => by
  refine h σ G H _ S fun v x G1 H1 ρ1 s1 h1 i1 => ?_
  obtain ⟨b, rfl, h2, h3⟩ := h1
  cases i1
  refine ⟨b, rfl, ?_⟩
  cases b with
  | true => exact iteT (q _ _ G1 H1 ρ1 s1 (h2 rfl) (.bl true))
  | false => exact iteF (h3 rfl σ G1 H1 Q s1.st fun v d G2 H2 ρ2 s2 p i => q v d G2 H2 ρ2 (s1.trans s2) p i)
theorem ev_notV (h : Ev C ta ρ fun x ρ1 => ∃ b, x = .bl b ∧ P (.bl (!b)) ρ1) : Ev C (tNotV ta) ρ P := fun σ G H Q S q => by
  refine h σ G H _ S fun v x G1 H1 ρ1 s1 h1 i1 => ?_
  obtain ⟨b, rfl, h2⟩ := h1
  cases i1
  exact ⟨b, rfl, q _ _ G1 H1 ρ1 s1 h2 (.bl _)⟩
theorem et_B {P : Bool → List Slot → Prop} (h : Ev C te ρ fun x ρ1 => ∃ b, x = .bl b ∧ P b ρ1) : EvT C (tB te) ρ P := fun σ G H Q S q => by
  refine h σ G H _ S fun v x G1 H1 ρ1 s1 h1 i1 => ?_
  obtain ⟨b, rfl, h2⟩ := h1
  cases i1
  exact ⟨b, rfl, q _ G1 H1 ρ1 s1 h2⟩
theorem et_test {P : Bool → List Slot → Prop} (h : Ev C te ρ fun x ρ1 => ∃ b, x = .bl b ∧ P b ρ1) : EvT C (tTest te) ρ P := fun σ G H Q S q => by
  refine h σ G H _ S fun v x G1 H1 ρ1 s1 h1 i1 => ?_
  obtain ⟨b, rfl, h2⟩ := h1
  cases i1
  exact ⟨b, rfl, q _ G1 H1 ρ1 s1 h2⟩
theorem et_and {P : Bool → List Slot → Prop} (h : EvT C tt ρ fun b ρ1 => (b = true → EvT C tu ρ1 P) ∧ (b = false → P false ρ1)) : EvT C (tAnd tt tu) ρ P := fun σ G H Q S q => by
  refine h σ G H _ S fun b G1 H1 ρ1 s1 h1 => ?_
  cases b with
  | true => exact iteT (h1.1 rfl σ G1 H1 Q s1.st fun c G2 H2 ρ2 s2 p => q c G2 H2 ρ2 (s1.trans s2) p)
  | false => exact iteF (q false G1 H1 ρ1 s1 (h1.2 rfl))
theorem et_or {P : Bool → List Slot → Prop} (h : EvT C tt ρ fun b ρ1 => (b = true → P true ρ1) ∧ (b = false → EvT C tu ρ1 P)) : EvT C (tOr tt tu) ρ P := fun σ G H Q S q => by
  refine h σ G H _ S fun b G1 H1 ρ1 s1 h1 => ?_
  cases b with
  | true => exact iteT (q true G1 H1 ρ1 s1 (h1.1 rfl))
  | false => exact iteF (h1.2 rfl σ G1 H1 Q s1.st fun c G2 H2 ρ2 s2 p => q c G2 H2 ρ2 (s1.trans s2) p)
theorem et_not {P : Bool → List Slot → Prop} (h : EvT C tt ρ fun b ρ1 => P (!b) ρ1) : EvT C (tNot tt) ρ P := fun σ G H Q S q =>
  h σ G H _ S fun b G1 H1 ρ1 s1 h1 => q (!b) G1 H1 ρ1 s1 h1
theorem et_yes {P : Bool → List Slot → Prop} (h : P true ρ) : EvT C tYes ρ P := fun σ G H Q S q => q true G H ρ (Stp.refl S) h
end
end DL
namespace DL
open PySem PySem.Spec PyProof.Rows L2
variable [TabT] [CacT]

section
variable {C : Fx} {G H G' H' G1 H1 : Hp} {σ σ' : L2.St} {ρ ρ' ρ1 : List Slot}
/-! ### slots set -/
theorem Mt.ne {i j : Nat} {a : Addr} {o : Option V} {s : Slot} (h : Mt (σ.set i o) (ρ.set i s) j a) (n : j ≠ i) : Mt σ ρ j a := by
  obtain ⟨o', r, h1, h2, hm⟩ := h
  rw [List.getElem?_set_ne (Ne.symm n)] at h1 h2
  exact ⟨o', r, h1, h2, hm⟩
theorem Mt.lt {i : Nat} {a : Addr} (h : Mt σ ρ i a) : i < σ.length := by
  obtain ⟨o', r, h1, h2, hm⟩ := h
  exact (List.getElem?_eq_some_iff.mp h1).1
theorem Mt.slot {i : Nat} {a : Addr} (h : Mt σ ρ i a) : ∃ s, ρ[i]? = some s ∧ s.mu = true := by
  obtain ⟨o', r, h1, h2, hm⟩ := h
  exact ⟨r, h2, hm.mu⟩
/-- what is owned at a slot that is set -/
theorem Mt.here {i : Nat} {a : Addr} {o : Option V} {s : Slot} (hl : i < σ.length) (hr : i < ρ.length) (h : Mt (σ.set i o) (ρ.set i s) i a) : s.At o a := by
  obtain ⟨o', r, h1, h2, hm⟩ := h
  rw [List.getElem?_set_self hl] at h1
  rw [List.getElem?_set_self hr] at h2
  cases h1
  cases h2
  exact hm
theorem Mt.offR {i j : Nat} {a : Addr} {s : Slot} (h : Mt σ (ρ.set i s) j a) (n : j ≠ i) : Mt σ ρ j a := by
  obtain ⟨o', r, h1, h2, hm⟩ := h
  rw [List.getElem?_set_ne (Ne.symm n)] at h2
  exact ⟨o', r, h1, h2, hm⟩
/-- slot i holds data now -/
theorem Sg.setD {i : Nat} {v : V} {d : D} (S : Sg C G H σ ρ) (h : Is C.K G v d) : Sg C G H (σ.set i (some v)) (ρ.set i (.dat d)) := by
  refine ⟨S.ext, by rw [List.length_set, List.length_set, S.len], fun j s hs => ?_, fun j k a h1 h2 => ?_⟩
  · by_cases hj : j = i
    · subst hj
      have hl : j < ρ.length := by
        have := (List.getElem?_eq_some_iff.mp hs).1
        rwa [List.length_set] at this
      rw [List.getElem?_set_self hl] at hs
      have hs := Option.some.inj hs
      subst hs
      exact ⟨some v, List.getElem?_set_self (by rw [S.len]; exact hl), v, rfl, h⟩
    · rw [List.getElem?_set_ne (Ne.symm hj)] at hs ⊢
      exact S.sl j s hs
  · have nd : ∀ {j : Nat} {a : Addr}, Mt (σ.set i (some v)) (ρ.set i (.dat d)) j a → j ≠ i := fun {j a} h e => by
      subst e
      have hl : j < ρ.length := by
        have := h.lt
        rwa [List.length_set, S.len] at this
      obtain ⟨r, h, hm⟩ := h.slot
      rw [List.getElem?_set_self hl] at h
      cases h
      cases hm
    exact S.dis j k a (h1.ne (nd h1)) (h2.ne (nd h2))
/-- slot i is forgotten -/
theorem Sg.setU {i : Nat} {o : Option V} (S : Sg C G H σ ρ) : Sg C G H (σ.set i o) (ρ.set i .un) := by
  refine ⟨S.ext, by rw [List.length_set, List.length_set, S.len], fun j s hs => ?_, fun j k a h1 h2 => ?_⟩
  · by_cases hj : j = i
    · subst hj
      have hl : j < ρ.length := by
        have := (List.getElem?_eq_some_iff.mp hs).1
        rwa [List.length_set] at this
      rw [List.getElem?_set_self hl] at hs
      have hs := Option.some.inj hs
      subst hs
      exact ⟨o, List.getElem?_set_self (by rw [S.len]; exact hl), trivial⟩
    · rw [List.getElem?_set_ne (Ne.symm hj)] at hs ⊢
      exact S.sl j s hs
  · have nd : ∀ {j : Nat} {a : Addr}, Mt (σ.set i o) (ρ.set i .un) j a → j ≠ i := fun {j a} h e => by
      subst e
      have hl : j < ρ.length := by
        have := h.lt
        rwa [List.length_set, S.len] at this
      obtain ⟨r, h, hm⟩ := h.slot
      rw [List.getElem?_set_self hl] at h
      cases h
      cases hm
    exact S.dis j k a (h1.ne (nd h1)) (h2.ne (nd h2))
/-- slot i holds a list of one's own: nobody else knows it -/
theorem Sg.setO {i : Nat} {p : Addr} {vs : List V} {ds : List D} (S : Sg C G H σ ρ) (g : G p = none) (h : H p = some (.lst vs)) (t : IsL C.K G vs ds) (h0 : C.H0 p = none) (nf : ∀ j, j ≠ i → ¬ Mt σ ρ j p) : Sg C G H (σ.set i (some (.ref p))) (ρ.set i (.own ds)) := by
  refine ⟨S.ext, by rw [List.length_set, List.length_set, S.len], fun j s hs => ?_, fun j k a h1 h2 => ?_⟩
  · by_cases hj : j = i
    · subst hj
      have hl : j < ρ.length := by
        have := (List.getElem?_eq_some_iff.mp hs).1
        rwa [List.length_set] at this
      rw [List.getElem?_set_self hl] at hs
      have hs := Option.some.inj hs
      subst hs
      exact ⟨_, List.getElem?_set_self (by rw [S.len]; exact hl), p, vs, rfl, g, h, t, h0⟩
    · rw [List.getElem?_set_ne (Ne.symm hj)] at hs ⊢
      exact S.sl j s hs
  · have key : ∀ {j : Nat} {a : Addr}, Mt (σ.set i (some (.ref p))) (ρ.set i (.own ds)) j a → j = i → a = p := fun {j a} h e => by
      subst e
      have hl : j < σ.length := by
        have := h.lt
        rwa [List.length_set] at this
      have z : some (V.ref p) = some (.ref a) := h.here hl (by rw [← S.len]; exact hl)
      cases z
      rfl
    by_cases hj : j = i
    · by_cases hk : k = i
      · rw [hj, hk]
      · have e := key h1 hj
        subst e
        exact absurd (h2.ne hk) (nf k hk)
    · by_cases hk : k = i
      · have e := key h2 hk
        subst e
        exact absurd (h1.ne hj) (nf j hj)
      · exact S.dis j k a (h1.ne hj) (h2.ne hk)
/-- the own list at slot i is frozen -/
theorem Sg.freeze {i : Nat} {ds : List D} (S : Sg C G H σ ρ) (hi : ρ[i]? = some (.own ds)) : ∃ p vs, σ[i]? = some (some (.ref p)) ∧ H p = some (.lst vs) ∧ G p = none ∧ IsL C.K G vs ds ∧ Same G (upd G p (.lst vs)) ∧ Is C.K (upd G p (.lst vs)) (.ref p) (.lst ds) ∧ Stp C G H σ ρ (upd G p (.lst vs)) H (ρ.set i (.dat (.lst ds))) := by
  obtain ⟨o, ho, p, vs, rfl, h1, h2, h3, h4⟩ := S.sl i _ hi
  have mp : Mt σ ρ i p := ⟨_, _, ho, hi, rfl⟩
  have sg : Same G (upd G p (.lst vs)) := fun b u e => by
    rw [upd_ne (ne_of_none e h1)]
    exact e
  have sh : Lo (upd G p (.lst vs)) H := fun b u e => by
    by_cases hb : b = p
    · subst hb
      rw [upd_same] at e
      rw [h2]
      exact Ky.of e
    · rw [upd_ne hb] at e
      exact (S.le b u e).mono sg
  have ep : Is C.K (upd G p (.lst vs)) (.ref p) (.lst ds) := .lst upd_same (h3.mono sg)
  have hl : i < ρ.length := (List.getElem?_eq_some_iff.mp hi).1
  have back : ∀ {j : Nat} {a : Addr}, Mt σ (ρ.set i (.dat (.lst ds))) j a → j ≠ i ∧ Mt σ ρ j a := fun {j a} h => by
    have hj : j ≠ i := fun e => by
      subst e
      obtain ⟨r, q, hm⟩ := h.slot
      rw [List.getElem?_set_self hl] at q
      cases q
      cases hm
    exact ⟨hj, h.offR hj⟩
  have ex : Ext G H (upd G p (.lst vs)) H (Fp σ ρ) := ⟨sg, sh, fun b o e _ _ _ => e, fun b o e _ q n => by
    have hb : b ≠ p := fun z => n (z ▸ ⟨i, mp⟩)
    rw [upd_ne hb]
    exact q, fun b o e => ⟨o, e⟩, fun t => t, fun g => g.upd fun _ z => nomatch z⟩
  refine ⟨p, vs, ho, h2, h1, h3, sg, ep, ex, ⟨S.ext.trans ex fun x u hx hf => ?_, by rw [List.length_set, S.len], fun j s hs => ?_, fun j k a q1 q2 => S.dis j k a (back q1).2 (back q2).2⟩, fun a h => ?_⟩
  · obtain ⟨_, _, hf⟩ := S.fp_some hf
    rcases hf with hf | hf
    · exact hf
    · rw [hf] at hx
      cases hx
  · by_cases hj : j = i
    · subst hj
      rw [List.getElem?_set_self hl] at hs
      have hs := Option.some.inj hs
      subst hs
      exact ⟨_, ho, _, rfl, ep⟩
    · rw [List.getElem?_set_ne (Ne.symm hj)] at hs
      obtain ⟨o', ho', q⟩ := S.sl j s hs
      refine ⟨o', ho', q.move sg fun a u hm h nt g => ?_⟩
      have np : a ≠ p := fun z => by
        rw [z] at hm
        exact hj (S.dis j i p ⟨_, _, ho', hs, hm⟩ mp)
      exact ⟨h, by rw [upd_ne np]; exact g⟩
  · obtain ⟨j, h⟩ := h
    exact ⟨j, (back h).2⟩
end

/-! ### statements -/
structure Po where
  nx : List Slot → Prop
  rt : D → List Slot → Prop
  bk : List Slot → Prop := fun _ => False
  ct : List Slot → Prop := fun _ => False
def Xs (C : Fx) (ts : TS) (ρ : List Slot) (po : Po) : Prop := ∀ (σ : L2.St) (G H : Hp) (Dn : Ends), Sg C G H σ ρ →
  (∀ σ' G' H' ρ', Sg C G' H' σ' ρ' → Same G G' → po.nx ρ' → Dn.nx σ' H') → (∀ v d σ' G' H' ρ', Sg C G' H' σ' ρ' → Is C.K G' v d → po.rt d ρ' → Dn.rt v H') →
  (∀ σ' G' H' ρ', Sg C G' H' σ' ρ' → Same G G' → po.bk ρ' → Dn.bk σ' H') → (∀ σ' G' H' ρ', Sg C G' H' σ' ρ' → Same G G' → po.ct ρ' → Dn.ct σ' H') → ts Dn σ H
/-- a target that stores into the slots is alone -/
def Eg (C : Fx) (g : TG) (is : List Nat) (d : D) (ρ : List Slot) (P : List Slot → Prop) : Prop := ∀ (σ : L2.St) (G H : Hp) (v : V) (Q : L2.St → Hp → Prop), Sg C G H σ ρ → Is C.K G v d →
  (∀ σ' ρ', Sg C G H σ' ρ' → P ρ' → (∀ vs : List Nat, (∀ i ∈ is, i ∈ vs) → wipe σ' vs = wipe σ vs) → (∀ j a, Mt σ' ρ' j a → Mt σ ρ j a) → Q σ' H) → g v σ H Q
def Egs (C : Fx) (g : TGs) (is : List Nat) (ds : List D) (ρ : List Slot) (P : List Slot → Prop) : Prop := ∀ (σ : L2.St) (G H : Hp) (vs : List V) (Q : L2.St → Hp → Prop), Sg C G H σ ρ → IsL C.K G vs ds →
  (∀ σ' ρ', Sg C G H σ' ρ' → P ρ' → (∀ ws : List Nat, (∀ i ∈ is, i ∈ ws) → wipe σ' ws = wipe σ ws) → (∀ j a, Mt σ' ρ' j a → Mt σ ρ j a) → Q σ' H) → g vs σ H Q
theorem wipe_set {x : Option V} : ∀ {vs : List Nat} {σ : L2.St} {i : Nat}, i ∈ vs → wipe (σ.set i x) vs = wipe σ vs := by
  have key : ∀ (vs : List Nat) (σ : L2.St) (i : Nat), wipe (σ.set i x) vs = if i ∈ vs then wipe σ vs else (wipe σ vs).set i x := by
    intro vs
    induction vs with
    | nil =>
      intro σ i
      simp [wipe]
    | cons v vs ih =>
      intro σ i
      unfold wipe
      rw [ih]
      by_cases h : i ∈ vs
      · simp [h]
      · by_cases hv : i = v
        · subst hv
          simp [h]
        · have e : i ∉ v :: vs := by simp [h, hv]
          rw [if_neg h, if_neg e]
          exact List.set_comm _ _ (fun z => hv z)
  intro vs σ i h
  rw [key, if_pos h]
theorem mt_setD {σ : L2.St} {ρ : List Slot} {i j : Nat} {o : Option V} {d : D} {a : Addr} (hl : σ.length = ρ.length) (h : Mt (σ.set i o) (ρ.set i (.dat d)) j a) : Mt σ ρ j a := by
  refine h.ne fun e => ?_
  subst e
  have hl : j < ρ.length := by
    have := h.lt
    rwa [List.length_set, hl] at this
  obtain ⟨r, h, hm⟩ := h.slot
  rw [List.getElem?_set_self hl] at h
  cases h
  cases hm

section
variable {C : Fx} {ρ : List Slot} {P : List Slot → Prop} {te ta tb : TE} {tc : TT} {tA : TA} {t u : TS} {po : Po} {i j : Nat}
theorem Xs.imp {po' : Po} (h : Xs C t ρ po) (n : ∀ ρ, po.nx ρ → po'.nx ρ) (r : ∀ d ρ, po.rt d ρ → po'.rt d ρ) (b : ∀ ρ, po.bk ρ → po'.bk ρ) (c : ∀ ρ, po.ct ρ → po'.ct ρ) : Xs C t ρ po' := fun σ G H Dn S hn hr hb hc =>
  h σ G H Dn S (fun σ' G' H' ρ' s e p => hn σ' G' H' ρ' s e (n _ p)) (fun v d σ' G' H' ρ' s k p => hr v d σ' G' H' ρ' s k (r _ _ p)) (fun σ' G' H' ρ' s e p => hb σ' G' H' ρ' s e (b _ p)) fun σ' G' H' ρ' s e p => hc σ' G' H' ρ' s e (c _ p)
theorem xs_seq (h : Xs C t ρ { po with nx := fun ρ' => Xs C u ρ' po }) : Xs C (tSeq t u) ρ po := fun σ G H Dn S hn hr hb hc =>
  h σ G H { Dn with nx := u Dn } S (fun σ' G' H' ρ' s e q => q σ' G' H' Dn s (fun σ2 G2 H2 ρ2 s2 e2 => hn σ2 G2 H2 ρ2 s2 (e.trans e2)) hr (fun σ2 G2 H2 ρ2 s2 e2 => hb σ2 G2 H2 ρ2 s2 (e.trans e2)) fun σ2 G2 H2 ρ2 s2 e2 => hc σ2 G2 H2 ρ2 s2 (e.trans e2)) hr hb hc
theorem xs_next (h : po.nx ρ) : Xs C tNext ρ po := fun σ G H Dn S hn hr hb hc => hn σ G H ρ S (Same.refl G) h
theorem xs_break (h : po.bk ρ) : Xs C tBreak ρ po := fun σ G H Dn S hn hr hb hc => hb σ G H ρ S (Same.refl G) h
theorem xs_cont (h : po.ct ρ) : Xs C tCont ρ po := fun σ G H Dn S hn hr hb hc => hc σ G H ρ S (Same.refl G) h
theorem xs_ret (h : Ev C te ρ fun d ρ' => po.rt d ρ') : Xs C (tRet te) ρ po := fun σ G H Dn S hn hr hb hc =>
  h σ G H _ S fun v d G' H' ρ' s p k => hr v d σ G' H' ρ' s.st k p
theorem xs_drop (h : Ev C te ρ fun d ρ' => po.nx ρ') : Xs C (tDrop te) ρ po := fun σ G H Dn S hn hr hb hc =>
  h σ G H _ S fun v d G' H' ρ' s p k => hn σ G' H' ρ' s.st s.ext.gg p
theorem xs_if (h : EvT C tc ρ fun b ρ' => (b = true → Xs C t ρ' po) ∧ (b = false → Xs C u ρ' po)) : Xs C (tIfS tc t u) ρ po := fun σ G H Dn S hn hr hb hc => by
  refine h σ G H _ S fun b G1 H1 ρ1 s1 h1 => ?_
  cases b with
  | true => exact iteT (h1.1 rfl σ G1 H1 Dn s1.st (fun σ2 G2 H2 ρ2 s2 e2 => hn σ2 G2 H2 ρ2 s2 (s1.ext.gg.trans e2)) hr (fun σ2 G2 H2 ρ2 s2 e2 => hb σ2 G2 H2 ρ2 s2 (s1.ext.gg.trans e2)) fun σ2 G2 H2 ρ2 s2 e2 => hc σ2 G2 H2 ρ2 s2 (s1.ext.gg.trans e2))
  | false => exact iteF (h1.2 rfl σ G1 H1 Dn s1.st (fun σ2 G2 H2 ρ2 s2 e2 => hn σ2 G2 H2 ρ2 s2 (s1.ext.gg.trans e2)) hr (fun σ2 G2 H2 ρ2 s2 e2 => hb σ2 G2 H2 ρ2 s2 (s1.ext.gg.trans e2)) fun σ2 G2 H2 ρ2 s2 e2 => hc σ2 G2 H2 ρ2 s2 (s1.ext.gg.trans e2))
theorem eg_name {d : D} (h : P (ρ.set i (.dat d))) : Eg C (gName i) [i] d ρ P := fun σ G H v Q S k q =>
  q _ _ (S.setD k) h (fun vs hv => wipe_set (hv i (by simp))) fun j a m => mt_setD S.len m
theorem egs_nil (h : P ρ) : Egs C gNil [] [] ρ P := fun σ G H vs Q S k q => by
  cases k
  exact ⟨rfl, q σ ρ S h (fun _ _ => rfl) fun _ _ m => m⟩
theorem egs_cons {g : TG} {gs : TGs} {is js : List Nat} {d : D} {ds : List D} (h : Eg C g is d ρ fun ρ1 => Egs C gs js ds ρ1 P) : Egs C (gCons g gs) (is ++ js) (d :: ds) ρ P := fun σ G H vs Q S k q => by
  cases k with
  | cons k1 k2 =>
    refine ⟨_, _, rfl, h σ G H _ _ S k1 fun σ1 ρ1 S1 p1 w1 m1 => ?_⟩
    exact p1 σ1 G H _ _ S1 k2 fun σ2 ρ2 S2 p2 w2 m2 => q σ2 ρ2 S2 p2 (fun ws hw => (w2 ws fun i hi => hw i (by simp [hi])).trans (w1 ws fun i hi => hw i (by simp [hi]))) fun j a m => m1 j a (m2 j a m)
theorem eg_tup {n : Nat} {gs : TGs} {is : List Nat} {ds : List D} (hn : ds.length = n) (h : Egs C gs is ds ρ P) : Eg C (gTup C.K n gs) is (.tup ds) ρ P := fun σ G H v Q S k q => by
  cases k with
  | tup k1 k2 => exact ⟨_, _, rfl, S.le.seqT k1, by rw [k2.length, hn], h σ G H _ Q S k2 q⟩
theorem xs_asg {g : TG} {is : List Nat} (h : Ev C te ρ fun d ρ1 => Eg C g is d ρ1 po.nx) : Xs C (tAsg te g) ρ po := fun σ G H Dn S hn hr hb hc =>
  h σ G H _ S fun v d G1 H1 ρ1 s1 p1 k1 => p1 σ G1 H1 v _ s1.st k1 fun σ2 ρ2 S2 p2 _ _ => hn σ2 G1 H1 ρ2 S2 s1.ext.gg p2
theorem xs_set (h : Ev C te ρ fun d ρ1 => po.nx (ρ1.set i (.dat d))) : Xs C (tAsg te (gName i)) ρ po := xs_asg (h.imp fun _ _ p => eg_name p)

/-! ### new lists -/
/-- te makes a new list that nobody knows yet -/
def EvN (C : Fx) (te : TE) (ρ : List Slot) (P : List D → List Slot → Prop) : Prop := ∀ (σ : L2.St) (G H : Hp) (Q : VK), Sg C G H σ ρ → (∀ p vs ds G' H' ρ', Stp C G H σ ρ G' H' ρ' → P ds ρ' → H p = none → G' p = none → H' p = some (.lst vs) → IsL C.K G' vs ds → Q (.ref p) H') → te σ H Q
theorem nomt {G H G' H' : Hp} {σ : L2.St} {ρ ρ' : List Slot} (S : Sg C G H σ ρ) (s : Stp C G H σ ρ G' H' ρ') {p : Addr} (n : H p = none) {j : Nat} (m : Mt σ ρ' j p) : False := by
  obtain ⟨_, ⟨xs, e⟩, _⟩ := S.fp_some (s.sub p ⟨j, m⟩)
  rw [n] at e
  cases e
theorem h0_none {G H : Hp} {σ : L2.St} (S : Sg C G H σ ρ) {p : Addr} (n : H p = none) : C.H0 p = none := by
  cases q : C.H0 p with
  | none => rfl
  | some o =>
    obtain ⟨u, e⟩ := S.ext.th p o q
    rw [n] at e
    cases e
theorem xs_own (h : EvN C te ρ fun ds ρ1 => po.nx (ρ1.set i (.own ds))) : Xs C (tAsg te (gName i)) ρ po := fun σ G H Dn S hn hr hb hc =>
  h σ G H _ S fun p vs ds G1 H1 ρ1 s1 p1 n g1 h1 k1 => hn _ G1 H1 _ (s1.st.setO g1 h1 k1 (h0_none S n) fun j _ m => nomt S s1 n m) s1.ext.gg p1
/-- a new list, frozen at once -/
theorem EvN.ev {P : PD} (h : EvN C te ρ fun ds ρ1 => P (.lst ds) ρ1) : Ev C te ρ P := fun σ G H Q S q =>
  h σ G H _ S fun p vs ds G1 H1 ρ1 s1 p1 n g1 h1 k1 => by
    have sg : Same G1 (upd G1 p (.lst vs)) := fun b u e => by
      rw [upd_ne (ne_of_none e g1)]
      exact e
    have sh : Lo (upd G1 p (.lst vs)) H1 := fun b u e => by
      by_cases hb : b = p
      · subst hb
        rw [upd_same] at e
        rw [h1]
        exact Ky.of e
      · rw [upd_ne hb] at e
        exact (s1.st.le b u e).mono sg
    have nm : ∀ b, Fp σ ρ1 b → b ≠ p := fun b ⟨j, m⟩ e => nomt S s1 n (e ▸ m)
    have s2 : Stp C G H σ ρ (upd G1 p (.lst vs)) H1 ρ1 := by
      refine ⟨⟨s1.ext.gg.trans sg, sh, s1.ext.fr, fun b o e t g f => ?_, s1.ext.th, s1.ext.tt, fun g => (s1.ext.nt g).upd fun _ z => nomatch z⟩, ⟨⟨s1.st.ext.gg.trans sg, sh, s1.st.ext.fr, fun b o e t g f => ?_, s1.st.ext.th, s1.st.ext.tt, fun g => (s1.st.ext.nt g).upd fun _ z => nomatch z⟩, s1.st.len, fun j s hs => ?_, s1.st.dis⟩, s1.sub⟩
      · rw [upd_ne (ne_of_none e n)]
        exact s1.ext.nf b o e t g f
      · rw [upd_ne (ne_of_none e (h0_none S n))]
        exact s1.st.ext.nf b o e t g f
      · obtain ⟨o, ho, q⟩ := s1.st.sl j s hs
        refine ⟨o, ho, q.move sg fun a u hm h nt g => ⟨h, ?_⟩⟩
        rw [upd_ne (nm a ⟨j, _, _, ho, hs, hm⟩)]
        exact g
    exact q _ _ _ _ _ s2 p1 (.lst upd_same (k1.mono sg))
theorem en_lst {P : List D → List Slot → Prop} (h : EvA C tA ρ fun xs ρ1 => xs.length ≤ 100000 ∧ P xs ρ1) : EvN C (tLst tA) ρ P := fun σ G H Q S q => by
  refine h σ G H _ S fun vs xs G1 H1 ρ1 s1 h1 i1 => ⟨?_, fun p hp => ?_⟩
  · rw [i1.length]
    exact Nat.le_trans h1.1 (by decide)
  · have n0 : H p = none := by
      cases z : H p with
      | none => rfl
      | some o =>
        obtain ⟨u, e⟩ := s1.ext.th p o z
        rw [hp] at e
        cases e
    have e := Ext.newM (F := fun _ => False) s1.st.le hp (.lst vs)
    exact q p vs xs G1 _ ρ1 (s1.trans (s1.st.keep e)) h1.2 n0 (s1.st.le.free hp) upd_same i1
/-- an own list is handed on for good -/
theorem ev_take {P : PD} {ds : List D} (hi : ρ[i]? = some (.own ds)) (h : Ev C te (ρ.set i (.dat (.lst ds))) P) : Ev C te ρ P := fun σ G H Q S q => by
  obtain ⟨p, vs, _, _, _, _, _, _, s⟩ := S.freeze hi
  exact h σ _ H Q s.st fun v d G' H' ρ' s' => q v d G' H' ρ' (s.trans s')
theorem et_take {P : Bool → List Slot → Prop} {ds : List D} (hi : ρ[i]? = some (.own ds)) (h : EvT C tc (ρ.set i (.dat (.lst ds))) P) : EvT C tc ρ P := fun σ G H Q S q => by
  obtain ⟨p, vs, _, _, _, _, _, _, s⟩ := S.freeze hi
  exact h σ _ H Q s.st fun b G' H' ρ' s' => q b G' H' ρ' (s.trans s')
theorem xs_take {ds : List D} (hi : ρ[i]? = some (.own ds)) (h : Xs C t (ρ.set i (.dat (.lst ds))) po) : Xs C t ρ po := fun σ G H Dn S hn hr hb hc => by
  obtain ⟨p, vs, _, _, _, _, _, _, s⟩ := S.freeze hi
  exact h σ _ H Dn s.st (fun σ2 G2 H2 ρ2 s2 e2 => hn σ2 G2 H2 ρ2 s2 (s.ext.gg.trans e2)) hr (fun σ2 G2 H2 ρ2 s2 e2 => hb σ2 G2 H2 ρ2 s2 (s.ext.gg.trans e2)) fun σ2 G2 H2 ρ2 s2 e2 => hc σ2 G2 H2 ρ2 s2 (s.ext.gg.trans e2)
def scalD : D → Bool
  | .non => true
  | .bl _ => true
  | .int _ => true
  | .str _ => true
  | _ => false
theorem Is.scal {K : PySem.W.Frag} {G G' : Hp} {v : V} {d : D} (h : Is K G v d) (s : scalD d = true) : Is K G' v d := by
  cases h with
  | non => exact .non
  | bl b => exact .bl b
  | int i => exact .int i
  | str x => exact .str x
  | val v => cases s
  | tup _ _ => cases s
  | lst _ _ => cases s
  | dic _ _ => cases s
  | dct _ _ => cases s
  | ins _ _ => cases s
  | exc _ _ _ => cases s
  | scr _ => cases s
/-- te only looks -/
def Er (C : Fx) (te : TE) (ρ : List Slot) (P : D → Prop) : Prop := ∀ (σ : L2.St) (G H : Hp) (Q : VK), Sg C G H σ ρ → (∀ v d G' H', Ext G H G' H' (fun _ => False) → Same H H' → P d → Is C.K G' v d → Q v H') → te σ H Q
def ErA (C : Fx) (ta : TA) (ρ : List Slot) (P : List D → Prop) : Prop := ∀ (σ : L2.St) (G H : Hp) (Q : List V → Hp → Prop), Sg C G H σ ρ → (∀ vs ds G' H', Ext G H G' H' (fun _ => False) → Same H H' → P ds → IsL C.K G' vs ds → Q vs H') → ta σ H Q
theorem Er.ev {P : PD} (h : Er C te ρ fun d => P d ρ) : Ev C te ρ P := fun σ G H Q S q => h σ G H Q S fun v d G' H' e _ p k => q v d G' H' ρ (S.keep e) p k
section
variable {P : D → Prop}
theorem er_var {d : D} (h : ρ[i]? = some (.dat d)) (k : P d) : Er C (tVar i) ρ P := fun σ G H Q S q => by
  obtain ⟨o, ho, v, rfl, hv⟩ := S.sl i _ h
  exact ⟨v, ho, q v d G H (Ext.refl S.le) (Same.refl H) k hv⟩
theorem er_int {i : Int} (k : P (.int i)) : Er C (tC (.int i)) ρ P := fun σ G H Q S q => q _ _ G H (Ext.refl S.le) (Same.refl H) k (.int i)
theorem er_str {i : Str} (k : P (.str i)) : Er C (tC (.str i)) ρ P := fun σ G H Q S q => q _ _ G H (Ext.refl S.le) (Same.refl H) k (.str i)
theorem er_bl {i : Bool} (k : P (.bl i)) : Er C (tC (.bl i)) ρ P := fun σ G H Q S q => q _ _ G H (Ext.refl S.le) (Same.refl H) k (.bl i)
theorem er_non (k : P .non) : Er C (tC .non) ρ P := fun σ G H Q S q => q _ _ G H (Ext.refl S.le) (Same.refl H) k .non
theorem er_op {r : R2} (h : Er C ta ρ fun x => Er C tb ρ fun y => RD C.K r x y P) : Er C (tOp r ta tb) ρ P := fun σ G H Q S q => by
  refine h σ G H _ S fun v x G1 H1 e1 m1 h1 i1 => ?_
  refine h1 σ G1 H1 _ (S.keep e1).st fun u y G2 H2 e2 m2 h2 i2 => ?_
  refine h2 G2 H2 v u Q e2.gh (i1.mono e2.gg) i2 fun z d G3 H3 e3 m3 p i3 => ?_
  exact q z d G3 H3 ((e1.trans e2 fun _ _ _ h => h).trans e3 fun _ _ _ h => h) ((m1.trans m2).trans m3) p i3
theorem er_cb {r : List V → Hp → VK → Prop} (h : ErA C tA ρ fun xs => RC1 C.K r xs P) : Er C (tCB r tA) ρ P := fun σ G H Q S q => by
  refine h σ G H _ S fun v x G1 H1 e1 m1 h1 i1 => ?_
  refine h1 G1 H1 v Q e1.gh i1 fun z d G3 H3 e3 m3 p i3 => ?_
  exact q z d G3 H3 (e1.trans e3 fun _ _ _ h => h) (m1.trans m3) p i3
end
theorem era_nil {P : List D → Prop} (k : P []) : ErA C tNil ρ P := fun σ G H Q S q => q [] [] G H (Ext.refl S.le) (Same.refl H) k .nil
theorem era_cons {P : List D → Prop} (h : Er C ta ρ fun x => ErA C tA ρ fun xs => P (x :: xs)) : ErA C (tCons ta tA) ρ P := fun σ G H Q S q => by
  refine h σ G H _ S fun v x G1 H1 e1 m1 h1 i1 => ?_
  refine h1 σ G1 H1 _ (S.keep e1).st fun vs xs G2 H2 e2 m2 h2 i2 => ?_
  exact q _ _ G2 H2 (e1.trans e2 fun _ _ _ h => h) (m1.trans m2) h2 (.cons (i1.mono e2.gg) i2)
/-- what stood stays, and new things come: the frozen ones stand still -/
theorem Lo.grow {G H H' : Hp} (e : Lo G H) (m : Same H H') : Lo G H' := fun b o g => by
  have k := e b o g
  obtain ⟨u, q⟩ := Ky.so k
  rw [q] at k
  rw [m b u q]
  exact k
/-- a look at an own list that tells a plain value -/
theorem er_thaw {P : D → Prop} {ds : List D} (hi : ρ[i]? = some (.own ds)) (h : Er C te (ρ.set i (.dat (.lst ds))) fun d => scalD d = true ∧ P d) : Er C te ρ P := fun σ G H Q S q => by
  obtain ⟨p, vs, ho, hp, gp, _, sg, _, s⟩ := S.freeze hi
  refine h σ _ H Q s.st fun v d G' H' e m pd k => q v d G H' ⟨Same.refl G, S.le.grow m, fun b o z _ _ _ => m b o z, fun b o _ _ g _ => g, e.th, e.tt, fun g => g⟩ m pd.2 (k.scal pd.1)
theorem ev_thaw {P : PD} {ds : List D} (hi : ρ[i]? = some (.own ds)) (h : Er C te (ρ.set i (.dat (.lst ds))) fun d => scalD d = true ∧ P d ρ) : Ev C te ρ P := Er.ev (er_thaw hi h)
/-- an item of an own list -/
theorem er_item {P : D → Prop} {ds : List D} {d : D} {tb : TE} {K' : PySem.W.Frag} (hK : K' = C.K) (hi : ρ[i]? = some (.own ds)) (h : Er C tb ρ fun x => ∃ n, x = .int n ∧ ∃ k : Nat, n = (k : Int) ∧ ds[k]? = some d ∧ P d) : Er C (tOp (rIxL K') (tVar i) tb) ρ P := fun σ G H Q S q => by
  subst hK
  obtain ⟨o, ho, p, vs, rfl, h1, h2, h3, h4⟩ := S.sl i _ hi
  refine ⟨_, ho, h σ G H _ S fun v x G1 H1 e1 m1 k1 i1 => ?_⟩
  obtain ⟨n, rfl, k, rfl, k2, k3⟩ := k1
  cases i1
  obtain ⟨u, g1, g2⟩ := (h3.mono e1.gg).get k2
  exact ⟨p, vs, _, u, rfl, rfl, .inl (.inl (m1 _ _ h2)), atI_nat g1, q u d G1 H1 e1 m1 k3 g2⟩
/-- the own list at i as an address -/
theorem Sg.own {G H : Hp} {σ : L2.St} {ds : List D} (S : Sg C G H σ ρ) (hi : ρ[i]? = some (.own ds)) : ∃ p vs, σ[i]? = some (some (.ref p)) ∧ G p = none ∧ H p = some (.lst vs) ∧ IsL C.K G vs ds ∧ C.H0 p = none ∧ Mt σ ρ i p := by
  obtain ⟨o, ho, p, vs, rfl, h1, h2, h3, h4⟩ := S.sl i _ hi
  exact ⟨p, vs, ho, h1, h2, h3, h4, _, _, ho, hi, rfl⟩
/-- what slot i may change is changed -/
theorem Sg.pokeA {G H : Hp} {σ : L2.St} {r r' : Slot} {o' : HO} {o : Option V} (S : Sg C G H σ ρ) (hi : ρ[i]? = some r) {p : Addr} (ho : σ[i]? = some o) (hm : r.At o p) (hm' : ∀ a, r'.At o a → r.At o a) (q' : SlotOk C G (upd H p o') o r') : Stp C G H σ ρ G (upd H p o') (ρ.set i r') := by
  have hl : i < ρ.length := (List.getElem?_eq_some_iff.mp hi).1
  obtain ⟨o2, ho', q⟩ := S.sl i _ hi
  rw [ho] at ho'
  cases ho'
  obtain ⟨u0, h1, h2, nt, nx, h4⟩ := q.at_ hm
  have mp : Mt σ ρ i p := ⟨_, _, ho, hi, hm⟩
  have gh : Lo G (upd H p o') := fun b u e => by
    rw [upd_ne (ne_of_none e h1)]
    exact S.le b u e
  have ex : Ext G H G (upd H p o') (Fp σ ρ) := ⟨Same.refl G, gh, fun b o e _ f _ => by
    have nb : b ≠ p := fun z => by
      subst z
      exact f ⟨i, mp⟩
    rw [upd_ne nb]
    exact e, fun b o e _ g f => g, fun b o e => by
    by_cases hb : b = p
    · exact ⟨_, by rw [hb, upd_same]⟩
    · exact ⟨o, by rw [upd_ne hb]; exact e⟩, fun t => tabs_upd h2 nt.1 nx t, fun g => g⟩
  have mt : ∀ {j : Nat} {a : Addr}, Mt σ (ρ.set i r') j a → Mt σ ρ j a := fun {j a} m => by
    by_cases hj : j = i
    · subst hj
      obtain ⟨o3, s3, e1, e2, e3⟩ := m
      rw [ho] at e1
      cases e1
      rw [List.getElem?_set_self hl] at e2
      cases e2
      exact ⟨_, _, ho, hi, hm' _ e3⟩
    · exact m.offR hj
  refine ⟨ex, ⟨S.ext.trans ex fun x u hx hf => ?_, by rw [List.length_set, S.len], fun j s hs => ?_, fun j k a q1 q2 => S.dis j k a (mt q1) (mt q2)⟩, fun a ⟨j, m⟩ => ⟨j, mt m⟩⟩
  · obtain ⟨_, _, hf⟩ := S.fp_some hf
    rcases hf with hf | hf
    · exact hf
    · rw [hf] at hx
      cases hx
  · by_cases hj : j = i
    · subst hj
      rw [List.getElem?_set_self hl] at hs
      cases hs
      exact ⟨_, ho, q'⟩
    · rw [List.getElem?_set_ne (Ne.symm hj)] at hs
      obtain ⟨o, ho2, q⟩ := S.sl j s hs
      refine ⟨o, ho2, q.move (Same.refl G) fun a u hs' h nt g => ⟨?_, g⟩⟩
      have na : a ≠ p := fun e => hj (S.dis j i a ⟨_, _, ho2, hs, hs'⟩ (e ▸ mp))
      rw [upd_ne na]
      exact h
theorem Sg.poke1 {G H : Hp} {σ : L2.St} {r r' : Slot} {o' : HO} (S : Sg C G H σ ρ) (hi : ρ[i]? = some r) {p : Addr} (hm : r.At (some (.ref p)) p) (ho : σ[i]? = some (some (.ref p))) (hm' : ∀ a, r'.At (some (.ref p)) a → r.At (some (.ref p)) a) (q' : SlotOk C G (upd H p o') (some (.ref p)) r') : Stp C G H σ ρ G (upd H p o') (ρ.set i r') := S.pokeA hi ho hm hm' q'
/-- the own list at i is written -/
theorem Sg.put {G H : Hp} {σ : L2.St} {ds es : List D} (S : Sg C G H σ ρ) (hi : ρ[i]? = some (.own ds)) {p : Addr} {us : List V} (ho : σ[i]? = some (some (.ref p))) (k : IsL C.K G us es) : Stp C G H σ ρ G (upd H p (.lst us)) (ρ.set i (.own es)) := by
  obtain ⟨p', vs, ho', h1, h2, h3, h4, mp⟩ := S.own hi
  rw [ho] at ho'
  cases ho'
  exact S.poke1 hi rfl ho (fun _ h => h) ⟨p, us, rfl, h1, upd_same, k, h4⟩
/-- found.append(x) -/
theorem ev_append {K' : PySem.W.Frag} (hK : K' = C.K) {P : PD} (hi : ∃ ds, ρ[i]? = some (.own ds)) (h : Ev C te ρ fun d ρ1 => ∃ ds, ρ1[i]? = some (.own ds) ∧ ds.length < 100000 ∧ P .non (ρ1.set i (.own (ds ++ [d])))) :
    Ev C (tBM K' "list" rAppend (tVar i) (tCons te tNil)) ρ P := fun σ G H Q S q => by
  subst hK
  obtain ⟨ds0, hi⟩ := hi
  obtain ⟨p, vs, ho, h1, h2, h3, h4, mp⟩ := S.own hi
  refine ⟨_, ho, .inl ⟨rfl, vs, .inl (.inl h2)⟩, h σ G H _ S fun v d G1 H1 ρ1 s1 p1 k1 => ?_⟩
  obtain ⟨ds, e1, e2, e3⟩ := p1
  obtain ⟨p2, vs2, ho2, _, g2, g3, _, _⟩ := s1.st.own e1
  rw [ho] at ho2
  cases ho2
  refine ⟨p, vs2, v, rfl, rfl, g2, ?_, ?_⟩
  · rw [g3.length]
    exact Nat.lt_of_lt_of_le e2 (by decide)
  · exact q _ _ G1 _ _ (s1.trans (s1.st.put e1 ho (g3.append (.cons k1 .nil)))) e3 .non
/-- rest.pop(n) -/
theorem ev_popAt {K' : PySem.W.Frag} (hK : K' = C.K) {P : PD} (hi : ∃ ds, ρ[i]? = some (.own ds)) (h : Ev C te ρ fun d ρ1 => ∃ ds x, ∃ n : Nat, d = .int (n : Int) ∧ n < 100000 ∧ ρ1[i]? = some (.own ds) ∧ ds[n]? = some x ∧ P x (ρ1.set i (.own (ds.eraseIdx n)))) :
    Ev C (tBM K' "list" rPopAt (tVar i) (tCons te tNil)) ρ P := fun σ G H Q S q => by
  subst hK
  obtain ⟨ds0, hi⟩ := hi
  obtain ⟨p, vs, ho, h1, h2, h3, h4, mp⟩ := S.own hi
  refine ⟨_, ho, .inl ⟨rfl, vs, .inl (.inl h2)⟩, h σ G H _ S fun v d G1 H1 ρ1 s1 p1 k1 => ?_⟩
  obtain ⟨ds, x, n, rfl, e0, e1, e2, e3⟩ := p1
  cases k1
  obtain ⟨p2, vs2, ho2, _, g2, g3, _, _⟩ := s1.st.own e1
  rw [ho] at ho2
  cases ho2
  obtain ⟨u, f1, f2⟩ := g3.get e2
  have hn : n < vs2.length := (List.getElem?_eq_some_iff.mp f1).1
  refine ⟨p, vs2, (n : Int), n, u, rfl, rfl, g2, by omega, by omega, ?_, f1, ?_⟩
  · unfold seqIndex?
    simp
    omega
  · exact q _ _ G1 _ _ (s1.trans (s1.st.put e1 ho (g3.erase n))) e3 f2
/-- found.extend(a new list) -/
theorem ev_extend {K' : PySem.W.Frag} (hK : K' = C.K) {P : PD} (hi : ∃ ds, ρ[i]? = some (.own ds)) (h : EvN C te ρ fun es ρ1 => ∃ ds, ρ1[i]? = some (.own ds) ∧ ds.length + es.length ≤ 100000 ∧ P .non (ρ1.set i (.own (ds ++ es)))) :
    Ev C (tBM K' "list" rExtend (tVar i) (tCons te tNil)) ρ P := fun σ G H Q S q => by
  subst hK
  obtain ⟨ds0, hi⟩ := hi
  obtain ⟨p, vs, ho, h1, h2, h3, h4, mp⟩ := S.own hi
  refine ⟨_, ho, .inl ⟨rfl, vs, .inl (.inl h2)⟩, h σ G H _ S fun b ws es G1 H1 ρ1 s1 p1 nb gb hb kb => ?_⟩
  obtain ⟨ds, e1, e2, e3⟩ := p1
  obtain ⟨p2, vs2, ho2, _, g2, g3, _, _⟩ := s1.st.own e1
  rw [ho] at ho2
  cases ho2
  refine ⟨p, b, vs2, ws, rfl, rfl, g2, hb, ?_, ?_⟩
  · rw [g3.length, kb.length]
    exact Nat.le_trans e2 (by decide)
  · exact q _ _ G1 _ _ (s1.trans (s1.st.put e1 ho (g3.append kb))) e3 .non
end
end DL
namespace DL
open PySem PySem.Spec PyProof.Rows L2
variable [TabT] [CacT]

/-- what is walked tells the data ds, one a turn -/
structure WD (K : PySem.W.Frag) (G : Hp) (J : It) (ds : List D) : Prop where
  goes : ∀ i H, i < ds.length → Lq G H → J.go i H
  stops : ∀ H, Lq G H → J.stop ds.length H
  yields : ∀ i H x H' d, Lq G H → ds[i]? = some d → J.yld i H x H' → (H' = H ∧ Is K G x d) ∨ ∃ T xs es, x = .ref T ∧ H T = none ∧ H' = upd H T (.tup xs) ∧ d = .tup es ∧ IsL K G xs es
def EvI (C : Fx) (wi : TI) (ρ : List Slot) (P : List D → List Slot → Prop) : Prop := ∀ (σ : L2.St) (G H : Hp) (R : It → Hp → Prop), Sg C G H σ ρ → (∀ J ds G' H' ρ', Stp C G H σ ρ G' H' ρ' → P ds ρ' → WD C.K G' J ds → R J H') → wi σ H R

section
variable {K : PySem.W.Frag} {G : Hp} {ds : List D}
def YW (K : PySem.W.Frag) (G : Hp) (ds : List D) : Nat → Hp → V → Hp → Prop := fun i H x H' => ∀ d, ds[i]? = some d → (H' = H ∧ Is K G x d) ∨ ∃ T xs es, x = .ref T ∧ H T = none ∧ H' = upd H T (.tup xs) ∧ d = .tup es ∧ IsL K G xs es
theorem WD.walk {J : It} (w : WD K G J ds) : Walk J ds.length (Lq G) (YW K G ds) :=
  ⟨fun i H hi h => w.goes i H hi h, fun H h => w.stops H h, fun i H x H' _ h y d e => w.yields i H x H' d h e y⟩
theorem wd_list {a : Addr} {vs : List V} (h : G a = some (.lst vs)) (k : IsL K G vs ds) : WD K G (Itl K a) ds :=
  ⟨fun i H hi s => walk_list.goes i H (by rw [k.length]; exact hi) (.inl (.inl (s.lst h))), fun H s => by
    have := walk_list (K := K) (a := a) (xs := vs)
    rw [← k.length]
    exact this.stops H (.inl (.inl (s.lst h))), fun i H x H' d s e y => by
    have hi : i < vs.length := by
      rw [k.length]
      exact (List.getElem?_eq_some_iff.mp e).1
    obtain ⟨e1, e2⟩ := walk_list.yields i H x H' hi (.inl (.inl (s.lst h))) y
    obtain ⟨v, f1, f2⟩ := k.get e
    rw [e2] at f1
    cases f1
    exact .inl ⟨e1, f2⟩⟩
theorem wd_tup {a : Addr} {vs : List V} (h : SqT K G a vs) (k : IsL K G vs ds) : WD K G (Itt K a) ds :=
  ⟨fun i H hi s => walk_tup.goes i H (by rw [k.length]; exact hi) (s.seqT h), fun H s => by
    have := walk_tup (K := K) (a := a) (xs := vs)
    rw [← k.length]
    exact this.stops H (s.seqT h), fun i H x H' d s e y => by
    have hi : i < vs.length := by
      rw [k.length]
      exact (List.getElem?_eq_some_iff.mp e).1
    obtain ⟨e1, e2⟩ := walk_tup.yields i H x H' hi (s.seqT h) y
    obtain ⟨v, f1, f2⟩ := k.get e
    rw [e2] at f1
    cases f1
    exact .inl ⟨e1, f2⟩⟩
/-- lo, lo + 1, .. -/
def intsD (lo : Int) (n : Nat) : List D := (List.range n).map fun (k : Nat) => D.int (lo + (k : Int))
theorem ints_len {lo : Int} {n : Nat} : (intsD lo n).length = n := by simp [intsD]
theorem ints_get {lo : Int} {n i : Nat} {d : D} (h : (intsD lo n)[i]? = some d) : d = .int (lo + i) ∧ i < n := by
  obtain ⟨hi, e⟩ := List.getElem?_eq_some_iff.mp h
  rw [ints_len] at hi
  simp [intsD] at e
  exact ⟨e.symm, hi⟩
theorem wd_range {lo : Int} {n : Nat} : WD K G (Itr lo n) (intsD lo n) :=
  ⟨fun i H hi s => walk_range.goes i H (by rw [ints_len] at hi; exact hi) trivial, fun H s => by
    rw [ints_len]
    exact walk_range.stops H trivial, fun i H x H' d s e y => by
    obtain ⟨rfl, hi⟩ := ints_get e
    obtain ⟨e1, e2⟩ := walk_range.yields i H x H' hi trivial y
    subst e2
    exact .inl ⟨e1, .int _⟩⟩
def pairs (i : Nat) : List D → List D
  | [] => []
  | d :: ds => .tup [.int (i : Int), d] :: pairs (i + 1) ds
theorem pairs_len : ∀ (i : Nat) (ds : List D), (pairs i ds).length = ds.length
  | _, [] => rfl
  | i, d :: ds => by
    show (pairs (i + 1) ds).length + 1 = ds.length + 1
    rw [pairs_len]
theorem pairs_get : ∀ {ds : List D} {i k : Nat} {d : D}, (pairs i ds)[k]? = some d → ∃ e, ds[k]? = some e ∧ d = .tup [.int ((i + k : Nat) : Int), e]
  | [], _, _, _, h => by simp [pairs] at h
  | e :: ds, i, 0, d, h => ⟨e, rfl, by
    have h : some (D.tup [.int (i : Int), e]) = some d := h
    cases h
    rfl⟩
  | e :: ds, i, k + 1, d, h => by
    have h : (pairs (i + 1) ds)[k]? = some d := h
    obtain ⟨e', h1, h2⟩ := pairs_get h
    exact ⟨e', h1, by rw [h2]; congr 3; omega⟩
theorem wd_enum {a : Addr} {vs : List V} (h : G a = some (.lst vs)) (k : IsL K G vs ds) : WD K G (Ite K a) (pairs 0 ds) :=
  ⟨fun i H hi s => walk_enum.goes i H (by rw [pairs_len] at hi; rw [k.length]; exact hi) (.inl (.inl (s.lst h))), fun H s => by
    have := walk_enum (K := K) (a := a) (xs := vs)
    rw [pairs_len, ← k.length]
    exact this.stops H (.inl (.inl (s.lst h))), fun i H x H' d s e y => by
    obtain ⟨d', f1, rfl⟩ := pairs_get e
    have hi : i < vs.length := by
      rw [k.length]
      exact (List.getElem?_eq_some_iff.mp f1).1
    obtain ⟨T, y1, y2, rfl, nT, e2, e3, e4⟩ := walk_enum.yields i H x H' hi (.inl (.inl (s.lst h))) y
    obtain ⟨v, g1, g2⟩ := k.get f1
    cases e3
    have e4 : vs[i]? = some y2 := e4
    rw [e4] at g1
    cases g1
    refine .inr ⟨T, _, _, rfl, nT, e2, rfl, .cons ?_ (.cons g2 .nil)⟩
    simpa using Is.int (K := K) (G := G) (i : Int)⟩
def zips : List D → List D → List D
  | x :: xs, y :: ys => .tup [x, y] :: zips xs ys
  | _, _ => []
theorem zips_len : ∀ (xs ys : List D), (zips xs ys).length = min xs.length ys.length
  | [], _ => by simp [zips]
  | _ :: _, [] => by simp [zips]
  | x :: xs, y :: ys => by
    show (zips xs ys).length + 1 = min (xs.length + 1) (ys.length + 1)
    rw [zips_len]
    omega
theorem zips_get : ∀ {xs ys : List D} {k : Nat} {d : D}, (zips xs ys)[k]? = some d → ∃ x y, xs[k]? = some x ∧ ys[k]? = some y ∧ d = .tup [x, y]
  | [], _, _, _, h => by simp [zips] at h
  | _ :: _, [], _, _, h => by simp [zips] at h
  | x :: xs, y :: ys, 0, d, h => ⟨x, y, rfl, rfl, by
    have h : some (D.tup [x, y]) = some d := h
    cases h
    rfl⟩
  | x :: xs, y :: ys, k + 1, d, h => by
    have h : (zips xs ys)[k]? = some d := h
    obtain ⟨x', y', h1, h2, h3⟩ := zips_get h
    exact ⟨x', y', h1, h2, h3⟩
theorem wd_zip {a b : Addr} {vs ws : List V} {es : List D} (h : G a = some (.lst vs)) (k : IsL K G vs ds) (h' : G b = some (.lst ws)) (k' : IsL K G ws es) : WD K G (Itz K a b) (zips ds es) :=
  have wk := walk_zip (K := K) (a := a) (b := b) (xs := vs) (ys := ws) rfl
  ⟨fun i H hi s => wk.goes i H (by rw [zips_len] at hi; rw [k.length, k'.length]; exact hi) ⟨.inl (.inl (s.lst h)), .inl (.inl (s.lst h'))⟩, fun H s => by
    rw [zips_len, ← k.length, ← k'.length]
    exact wk.stops H ⟨.inl (.inl (s.lst h)), .inl (.inl (s.lst h'))⟩, fun i H x H' d s e y => by
    obtain ⟨d1, d2, f1, f2, rfl⟩ := zips_get e
    have hi : i < min vs.length ws.length := by
      rw [k.length, k'.length]
      have := (List.getElem?_eq_some_iff.mp f1).1
      have := (List.getElem?_eq_some_iff.mp f2).1
      omega
    obtain ⟨T, y1, y2, rfl, nT, e2, e3, e4⟩ := wk.yields i H x H' hi ⟨.inl (.inl (s.lst h)), .inl (.inl (s.lst h'))⟩ y
    obtain ⟨v, g1, g2⟩ := k.get f1
    obtain ⟨v', g1', g2'⟩ := k'.get f2
    have e3 : vs[i]? = some y1 := e3
    have e4 : ws[i]? = some y2 := e4
    rw [e3] at g1
    rw [e4] at g1'
    cases g1
    cases g1'
    exact .inr ⟨T, _, _, rfl, nT, e2, rfl, .cons g2 (.cons g2' .nil)⟩⟩
end

section
variable {C : Fx} {ρ : List Slot} {te tl : TE} {ta : TA}
theorem ei_list {K' : PySem.W.Frag} {P : List D → List Slot → Prop} (h : Ev C tl ρ fun d ρ1 => ∃ ds, d = .lst ds ∧ P ds ρ1) (hK : K' = C.K := by rfl) : EvI C (iList K' tl) ρ P := fun σ G H R S q => by
  subst hK
  refine h σ G H _ S fun v d G1 H1 ρ1 s1 p1 k1 => ?_
  obtain ⟨ds, rfl, p1⟩ := p1
  cases k1 with
  | lst k1 k2 => exact ⟨_, rfl, ⟨_, .inl (.inl (s1.st.le _ _ k1))⟩, q _ ds G1 H1 ρ1 s1 p1 (wd_list k1 k2)⟩
theorem ei_tup {K' : PySem.W.Frag} {P : List D → List Slot → Prop} (h : Ev C tl ρ fun d ρ1 => ∃ ds, d = .tup ds ∧ P ds ρ1) (hK : K' = C.K := by rfl) : EvI C (iTup K' tl) ρ P := fun σ G H R S q => by
  subst hK
  refine h σ G H _ S fun v d G1 H1 ρ1 s1 p1 k1 => ?_
  obtain ⟨ds, rfl, p1⟩ := p1
  cases k1 with
  | tup k1 k2 => exact ⟨_, rfl, ⟨_, s1.st.le.seqT k1⟩, q _ ds G1 H1 ρ1 s1 p1 (wd_tup k1 k2)⟩
theorem ei_range1 {P : List D → List Slot → Prop} (h : EvA C ta ρ fun ds ρ1 => ∃ j : Int, ds = [.int j] ∧ -(2 ^ 62) ≤ j ∧ j < 2 ^ 62 ∧ P (intsD 0 j.toNat) ρ1) : EvI C (iRng1 ta) ρ P := fun σ G H R S q => by
  refine h σ G H _ S fun vs ds G1 H1 ρ1 s1 p1 k1 => ?_
  obtain ⟨j, rfl, b1, b2, p1⟩ := p1
  cases k1 with
  | cons k1 k2 =>
    cases k1
    cases k2
    exact ⟨j, rfl, b1, b2, q _ _ G1 H1 ρ1 s1 p1 wd_range⟩
theorem ei_range2 {P : List D → List Slot → Prop} (h : EvA C ta ρ fun ds ρ1 => ∃ i j : Int, ds = [.int i, .int j] ∧ (-(2 ^ 62) ≤ i ∧ i < 2 ^ 62 ∧ -(2 ^ 62) ≤ j ∧ j < 2 ^ 62) ∧ P (intsD i (j - i).toNat) ρ1) : EvI C (iRng2 ta) ρ P := fun σ G H R S q => by
  refine h σ G H _ S fun vs ds G1 H1 ρ1 s1 p1 k1 => ?_
  obtain ⟨i, j, rfl, b, p1⟩ := p1
  cases k1 with
  | cons k1 k2 =>
    cases k1
    cases k2 with
    | cons k2 k3 =>
      cases k2
      cases k3
      exact ⟨i, j, rfl, b, q _ _ G1 H1 ρ1 s1 p1 wd_range⟩
theorem ei_enum {K' : PySem.W.Frag} {P : List D → List Slot → Prop} (h : EvA C ta ρ fun ds ρ1 => ∃ es, ds = [.lst es] ∧ P (pairs 0 es) ρ1) (hK : K' = C.K := by rfl) : EvI C (iEnum K' ta) ρ P := fun σ G H R S q => by
  subst hK
  refine h σ G H _ S fun vs ds G1 H1 ρ1 s1 p1 k1 => ?_
  obtain ⟨es, rfl, p1⟩ := p1
  cases k1 with
  | cons k1 k2 =>
    cases k2
    cases k1 with
    | lst k1 k2 => exact ⟨_, _, rfl, .inl (.inl (s1.st.le _ _ k1)), q _ _ G1 H1 ρ1 s1 p1 (wd_enum k1 k2)⟩
theorem wd_zipT {K : PySem.W.Frag} {G : Hp} {ds es : List D} {a b : Addr} {vs ws : List V} (h : SqT K G a vs) (k : IsL K G vs ds) (h' : SqT K G b ws) (k' : IsL K G ws es) : WD K G (RZ.ItzT K a b) (zips ds es) := by
  refine ⟨fun i H hi s => ?_, fun H s => ?_, fun i H x H' d s e y => ?_⟩
  · rw [zips_len, ← k.length, ← k'.length] at hi
    exact ⟨vs, ws, vs[i]'(by omega), ws[i]'(by omega), s.seqT h, s.seqT h', by simp, by simp⟩
  · rw [zips_len, ← k.length, ← k'.length]
    exact ⟨vs, ws, s.seqT h, s.seqT h', by omega⟩
  · obtain ⟨d1, d2, f1, f2, rfl⟩ := zips_get e
    obtain ⟨T, y1, y2, rfl, nT, e2, e3, e4⟩ := y
    obtain ⟨v, g1, g2⟩ := k.get f1
    obtain ⟨v', g1', g2'⟩ := k'.get f2
    rw [e3 vs (s.seqT h)] at g1
    rw [e4 ws (s.seqT h')] at g1'
    cases g1
    cases g1'
    exact .inr ⟨T, _, _, rfl, nT, e2, rfl, .cons g2 (.cons g2' .nil)⟩
theorem ei_zip {K' : PySem.W.Frag} {P : List D → List Slot → Prop} (h : EvA C ta ρ fun ds ρ1 => ∃ xs ys, (ds = [.lst xs, .lst ys] ∨ ds = [.tup xs, .tup ys]) ∧ P (zips xs ys) ρ1) (hK : K' = C.K := by rfl) : EvI C (RZ.iZipA K' ta) ρ P := fun σ G H R S q => by
  subst hK
  refine h σ G H _ S fun vs ds G1 H1 ρ1 s1 p1 k1 => ?_
  obtain ⟨xs, ys, e, p1⟩ := p1
  rcases e with rfl | rfl
  · cases k1 with
    | cons k1 k2 =>
      cases k2 with
      | cons k2 k3 =>
        cases k3
        cases k1 with
        | lst a1 a2 =>
          cases k2 with
          | lst b1 b2 => exact ⟨_, _, _, _, rfl, .inl ⟨.inl (.inl (s1.st.le _ _ a1)), .inl (.inl (s1.st.le _ _ b1)), q _ _ G1 H1 ρ1 s1 p1 (wd_zip a1 a2 b1 b2)⟩⟩
  · cases k1 with
    | cons k1 k2 =>
      cases k2 with
      | cons k2 k3 =>
        cases k3
        cases k1 with
        | tup a1 a2 =>
          cases k2 with
          | tup b1 b2 => exact ⟨_, _, _, _, rfl, .inr ⟨s1.st.le.seqT a1, s1.st.le.seqT b1, q _ _ G1 H1 ρ1 s1 p1 (wd_zipT a1 a2 b1 b2)⟩⟩

/-! ### for -/
theorem xs_for {wi : TI} {g : TG} {tb : TS} {is : List Nat} {po : Po} (I : List D → Nat → List Slot → Prop) (h : EvI C wi ρ fun ds ρ1 => I ds 0 ρ1 ∧
    (∀ i d ρ', ds[i]? = some d → I ds i ρ' → Eg C g is d ρ' fun ρ2 => Xs C tb ρ2 { nx := I ds (i + 1), rt := po.rt, bk := po.nx, ct := I ds (i + 1) }) ∧ ∀ ρ', I ds ds.length ρ' → po.nx ρ') : Xs C (tFor wi g tb) ρ po := fun σ G H Dn S hn hr hb hc => by
  refine h σ G H _ S fun J ds G1 H1 ρ1 s1 p1 w => ?_
  obtain ⟨i0, step, fin⟩ := p1
  refine for_it w.walk (fun i σ2 H2 => ∃ G2 ρ2, Sg C G2 H2 σ2 ρ2 ∧ Same G1 G2 ∧ I ds i ρ2) ⟨G1, ρ1, s1.st, Same.refl G1, i0⟩ (fun i σ2 H2 _ ⟨G2, ρ2, S2, e2, _⟩ => Lq.of e2 S2.le) (fun i x σ2 H2 H3 hi ⟨G2, ρ2, S2, e2, i2⟩ y => ?_) fun σ2 H2 ⟨G2, ρ2, S2, e2, i2⟩ => hn σ2 G2 H2 ρ2 S2 (s1.ext.gg.trans e2) (fin ρ2 i2)
  have hd : ds[i]? = some ds[i] := List.getElem?_eq_getElem hi
  have go : ∀ {G3 : Hp} {x : V}, Sg C G3 H3 σ2 ρ2 → Same G2 G3 → Is C.K G3 x ds[i] → g x σ2 H3 fun σ4 H4 => tb { Dn with nx := fun σ5 H5 => ∃ G5 ρ5, Sg C G5 H5 σ5 ρ5 ∧ Same G1 G5 ∧ I ds (i + 1) ρ5, ct := fun σ5 H5 => ∃ G5 ρ5, Sg C G5 H5 σ5 ρ5 ∧ Same G1 G5 ∧ I ds (i + 1) ρ5, bk := Dn.nx } σ4 H4 := fun {G3 x} S3 e3 k => by
    refine step i _ ρ2 hd i2 σ2 G3 H3 x _ S3 k fun σ4 ρ4 S4 p4 _ _ => ?_
    exact p4 σ4 G3 H3 _ S4 (fun σ5 G5 H5 ρ5 S5 e5 p5 => ⟨G5, ρ5, S5, (e2.trans e3).trans e5, p5⟩) hr (fun σ5 G5 H5 ρ5 S5 e5 p5 => hn σ5 G5 H5 ρ5 S5 (((s1.ext.gg.trans e2).trans e3).trans e5) p5) fun σ5 G5 H5 ρ5 S5 e5 p5 => ⟨G5, ρ5, S5, (e2.trans e3).trans e5, p5⟩
  rcases y _ hd with ⟨rfl, k⟩ | ⟨T, xs, es, rfl, nT, rfl, e, k⟩
  · exact go S2 (Same.refl G2) (k.mono e2)
  · have ex := Ext.new (F := fun _ => False) S2.le nT (.tup xs)
    refine go (S2.keep ex).st ex.gg ?_
    rw [e]
    exact .tup (.inl (.inl upd_same)) (k.mono (e2.trans ex.gg))
theorem xs_while {tc : TT} {tb : TS} {po : Po} (I : Nat → List Slot → Prop) {m0 : Nat} (h0 : I m0 ρ) (step : ∀ m ρ', I m ρ' → EvT C tc ρ' fun b ρ2 => (b = true → Xs C tb ρ2 { nx := fun ρ3 => ∃ m', m' < m ∧ I m' ρ3, rt := po.rt, bk := po.nx, ct := fun ρ3 => ∃ m', m' < m ∧ I m' ρ3 }) ∧ (b = false → po.nx ρ2)) : Xs C (tWhile tc tb) ρ po := fun σ G H Dn S hn hr hb hc => by
  refine ⟨fun m σ2 H2 => ∃ G2 ρ2, Sg C G2 H2 σ2 ρ2 ∧ Same G G2 ∧ I m ρ2, ⟨m0, G, ρ, S, Same.refl G, h0⟩, fun m σ2 H2 ⟨G2, ρ2, S2, e2, i2⟩ => ?_⟩
  refine step m ρ2 i2 σ2 G2 H2 _ S2 fun b G3 H3 ρ3 s3 p3 => ?_
  cases b with
  | false => exact iteF (hn σ2 G3 H3 ρ3 s3.st (e2.trans s3.ext.gg) (p3.2 rfl))
  | true =>
    refine iteT ⟨fun σ4 H4 => ∃ m', m' < m ∧ ∃ G4 ρ4, Sg C G4 H4 σ4 ρ4 ∧ Same G G4 ∧ I m' ρ4, fun σ4 H4 z => z, ?_⟩
    exact p3.1 rfl σ2 G3 H3 _ s3.st (fun σ5 G5 H5 ρ5 S5 e5 ⟨m', l, p5⟩ => ⟨m', l, G5, ρ5, S5, (e2.trans s3.ext.gg).trans e5, p5⟩) hr (fun σ5 G5 H5 ρ5 S5 e5 p5 => hn σ5 G5 H5 ρ5 S5 ((e2.trans s3.ext.gg).trans e5) p5) fun σ5 G5 H5 ρ5 S5 e5 ⟨m', l, p5⟩ => ⟨m', l, G5, ρ5, S5, (e2.trans s3.ext.gg).trans e5, p5⟩

/-! ### comprehensions -/
def wipeS (ρ : List Slot) : List Nat → List Slot
  | [] => ρ
  | v :: vs => (wipeS ρ vs).set v .un
theorem Sg.wipe {G H : Hp} {σ : L2.St} (S : Sg C G H σ ρ) : ∀ vs : List Nat, Sg C G H (L2.wipe σ vs) (wipeS ρ vs)
  | [] => S
  | v :: vs => (S.wipe vs).setU
theorem wipeS_len : ∀ vs : List Nat, (wipeS ρ vs).length = ρ.length
  | [] => rfl
  | v :: vs => by unfold wipeS; rw [List.length_set, wipeS_len vs]
theorem wipeS_get {i : Nat} {s : Slot} : ∀ {vs : List Nat}, (wipeS ρ vs)[i]? = some s → s = .un ∨ (i ∉ vs ∧ ρ[i]? = some s)
  | [], h => .inr ⟨by simp, h⟩
  | v :: vs, h => by
    unfold wipeS at h
    by_cases hi : v = i
    · subst hi
      by_cases hv : v < (wipeS ρ vs).length
      · rw [List.getElem?_set_self hv] at h
        exact .inl (Option.some.inj h).symm
      · rw [List.getElem?_eq_none (by simpa using hv)] at h
        cases h
    · rw [List.getElem?_set_ne hi] at h
      rcases wipeS_get h with h | ⟨h1, h2⟩
      · exact .inl h
      · exact .inr ⟨by simp only [List.mem_cons, not_or]; exact ⟨fun e => hi e.symm, h1⟩, h2⟩
theorem wipe_ne {σ : L2.St} {i : Nat} : ∀ {vs : List Nat}, i ∉ vs → (L2.wipe σ vs)[i]? = σ[i]?
  | [], _ => rfl
  | v :: vs, h => by
    unfold L2.wipe
    simp only [List.mem_cons, not_or] at h
    rw [List.getElem?_set_ne (fun e => h.1 e.symm), wipe_ne h.2]
theorem Mt.wipe {σ : L2.St} {vs : List Nat} {j : Nat} {a : Addr} (m : Mt (L2.wipe σ vs) (wipeS ρ vs) j a) : Mt σ (wipeS ρ vs) j a ∧ Mt σ ρ j a := by
  obtain ⟨o, s, e1, e2, hm⟩ := m
  rcases wipeS_get e2 with e | ⟨h1, h2⟩
  · subst e
    cases hm
  · rw [wipe_ne h1] at e1
    exact ⟨⟨_, _, e1, e2, hm⟩, ⟨_, _, e1, h2, hm⟩⟩
theorem Mt.wipe' {σ : L2.St} {vs : List Nat} {j : Nat} {a : Addr} (m : Mt σ (wipeS ρ vs) j a) : Mt (L2.wipe σ vs) (wipeS ρ vs) j a := by
  obtain ⟨o, s, e1, e2, hm⟩ := m
  rcases wipeS_get e2 with e | ⟨h1, h2⟩
  · subst e
    cases hm
  · exact ⟨_, _, by rw [wipe_ne h1]; exact e1, e2, hm⟩
/-- only the slots that are not forgotten matter -/
theorem Sg.unwipe {G H : Hp} {σ : L2.St} {vs : List Nat} (S : Sg C G H (L2.wipe σ vs) (wipeS ρ vs)) : Sg C G H σ (wipeS ρ vs) := by
  have len : σ.length = (wipeS ρ vs).length := by
    have := S.len
    rwa [wipe_length] at this
  refine ⟨S.ext, len, fun i s hs => ?_, fun i j a h1 h2 => S.dis i j a h1.wipe' h2.wipe'⟩
  rcases wipeS_get hs with rfl | ⟨hi, _⟩
  · have hl : i < σ.length := by
      rw [len]
      exact (List.getElem?_eq_some_iff.mp hs).1
    exact ⟨_, List.getElem?_eq_getElem hl, trivial⟩
  · obtain ⟨o, ho, q⟩ := S.sl i s hs
    rw [wipe_ne hi] at ho
    exact ⟨o, ho, q⟩
theorem wipe_none {σ : L2.St} {v : Nat} : ∀ us : List Nat, v ∈ us → v < σ.length → (L2.wipe σ us)[v]? = some none
  | [], h, _ => by simp at h
  | u :: us, h, hl => by
    have hu : L2.wipe σ (u :: us) = (L2.wipe σ us).set u none := rfl
    rw [hu]
    by_cases e : u = v
    · subst e
      rw [List.getElem?_set_self (by rw [wipe_length]; exact hl)]
    · rw [List.getElem?_set_ne e]
      simp only [List.mem_cons] at h
      exact wipe_none us (h.resolve_left fun z => e z.symm) hl
theorem wipe_wipe {σ : L2.St} {vs : List Nat} : ∀ ws : List Nat, (∀ v ∈ ws, v ∈ vs) → L2.wipe (L2.wipe σ vs) ws = L2.wipe σ vs
  | [], _ => rfl
  | v :: ws, hw => by
    have hu : L2.wipe (L2.wipe σ vs) (v :: ws) = (L2.wipe (L2.wipe σ vs) ws).set v none := rfl
    rw [hu, wipe_wipe ws fun z hz => hw z (by simp [hz])]
    refine List.ext_getElem? fun j => ?_
    by_cases hj : v = j
    · subst hj
      by_cases hl : v < σ.length
      · rw [List.getElem?_set_self (by rw [wipe_length]; exact hl), wipe_none vs (hw v (by simp)) hl]
      · rw [List.getElem?_eq_none (by rw [List.length_set, wipe_length]; omega), List.getElem?_eq_none (by rw [wipe_length]; omega)]
    · rw [List.getElem?_set_ne hj]
theorem en_lc {wi : TI} {g : TG} {tt : TT} {te : TE} {vs is : List Nat} {P : List D → List Slot → Prop} (I : List D → Nat → List D → List Slot → Prop) (hv : ∀ i ∈ is, i ∈ vs) (h : EvI C wi ρ fun ds ρ1 => ds.length ≤ 100000 ∧ I ds 0 [] (wipeS ρ1 vs) ∧
    (∀ i d acc ρ', ds[i]? = some d → I ds i acc (wipeS ρ' vs) → Eg C g is d (wipeS ρ' vs) fun ρ2 => EvT C tt ρ2 fun b ρ3 => (b = true → Ev C te ρ3 fun e ρ4 => I ds (i + 1) (acc ++ [e]) (wipeS ρ4 vs)) ∧ (b = false → I ds (i + 1) acc (wipeS ρ3 vs))) ∧
    ∀ acc ρ', acc.length ≤ ds.length → I ds ds.length acc (wipeS ρ' vs) → P acc (wipeS ρ' vs)) : EvN C (tLc wi g tt te vs) ρ P := fun σ G H Q S q => by
  refine h σ G H _ S fun J ds G1 H1 ρ1 s1 p1 w => ?_
  obtain ⟨hlen, i0, step, fin⟩ := p1
  intro Dl nD
  have nD0 : H Dl = none := by
    cases z : H Dl with
    | none => rfl
    | some o =>
      obtain ⟨u, e⟩ := s1.ext.th _ _ z
      rw [nD] at e
      cases e
  have gD : G1 Dl = none := s1.st.le.free nD
  have ex0 := Ext.newM (F := fun _ => False) s1.st.le nD (.lst [])
  have s0 := s1.st.keep ex0
  let Pv : Nat → Hp → Prop := fun i H2 => ∃ G2 ρ2 acc accd, Stp C G H σ ρ G2 H2 (wipeS ρ2 vs) ∧ Same G1 G2 ∧ G2 Dl = none ∧ H2 Dl = some (.lst acc) ∧ IsL C.K G2 acc accd ∧ I ds i accd (wipeS ρ2 vs) ∧ accd.length ≤ i
  have sub0 : ∀ a, Fp σ (wipeS ρ1 vs) a → Fp σ ρ1 a := fun a ⟨j, m⟩ => ⟨j, m.wipe'.wipe.2⟩
  refine lc_it w.walk Pv ⟨G1, ρ1, [], [], ⟨(s1.trans s0).ext, (s0.st.wipe vs).unwipe, fun a ha => s1.sub a (sub0 a ha)⟩, Same.refl G1, gD, upd_same, .nil, i0, Nat.zero_le _⟩ (fun i H2 _ ⟨G2, ρ2, acc, accd, s2, e2, _⟩ => Lq.of e2 s2.st.le) (fun i x H2 H3 hi ⟨G2, ρ2, acc, accd, s2, e2, gd, hd, ka, i2, la⟩ y => ?_) fun H2 ⟨G2, ρ2, acc, accd, s2, e2, gd, hd, ka, i2, la⟩ => q Dl acc accd G2 H2 _ s2 (fin accd ρ2 la i2) nD0 gd hd ka
  have hdi : ds[i]? = some ds[i] := List.getElem?_eq_getElem hi
  have S2w : Sg C G2 H2 (L2.wipe σ vs) (wipeS ρ2 vs) := by
    refine ⟨s2.st.ext, by rw [wipe_length, s2.st.len], fun j s hs => ?_, fun j k a h1 h2 => s2.st.dis j k a h1.wipe.1 h2.wipe.1⟩
    rcases wipeS_get hs with rfl | ⟨hj, _⟩
    · have hl : j < (L2.wipe σ vs).length := by
        rw [wipe_length, s2.st.len]
        exact (List.getElem?_eq_some_iff.mp hs).1
      exact ⟨_, List.getElem?_eq_getElem hl, trivial⟩
    · obtain ⟨o, ho, qo⟩ := s2.st.sl j s hs
      exact ⟨o, by rw [wipe_ne hj]; exact ho, qo⟩
  have go : ∀ {G3 : Hp} {x : V}, Ext G2 H2 G3 H3 (fun _ => False) → G3 Dl = none → H3 Dl = some (.lst acc) → Is C.K G3 x ds[i] → g x (L2.wipe σ vs) H3 fun σ4 H4 => L2.wipe σ4 vs = L2.wipe σ vs ∧ tt σ4 H4 fun b H5 =>
      if b = true then te σ4 H5 fun y H6 => ∃ acc, H6 Dl = some (.lst acc) ∧ acc.length < sizeLine ∧ Pv (i + 1) (upd H6 Dl (.lst (acc ++ [y]))) else Pv (i + 1) H5 := fun {G3 x} ex g3 h3 k => by
    have S3 := (S2w.keep ex).st
    refine step i _ accd ρ2 hdi i2 (L2.wipe σ vs) G3 H3 x _ S3 k fun σ4 ρ4 S4 p4 w4 m4 => ⟨?_, ?_⟩
    · rw [w4 vs hv]
      exact wipe_wipe vs fun _ h => h
    · have w4' : L2.wipe σ4 vs = L2.wipe σ vs := by
        rw [w4 vs hv]
        exact wipe_wipe vs fun _ h => h
      -- D is nobody's
      have nf2 : ¬ Fp (L2.wipe σ vs) (wipeS ρ2 vs) Dl := fun ⟨j, m⟩ => by
        obtain ⟨_, ⟨xs, e⟩, _⟩ := S.fp_some (s2.sub Dl ⟨j, m.wipe.1⟩)
        rw [nD0] at e
        cases e
      have nf4 : ¬ Fp σ4 ρ4 Dl := fun ⟨j, m⟩ => nf2 ⟨j, m4 j _ m⟩
      have back : ∀ {ρ5 : List Slot} {G5 H5 : Hp}, Stp C G3 H3 σ4 ρ4 G5 H5 ρ5 → Stp C G H σ ρ G5 H5 (wipeS ρ5 vs) := fun {ρ5 G5 H5} s5 => by
        have S5 : Sg C G5 H5 σ (wipeS ρ5 vs) := by
          have := s5.st.wipe vs
          rw [w4'] at this
          exact this.unwipe
        have sub5 : ∀ a, Fp σ4 ρ5 a → Fp σ ρ a := fun a ha => by
          obtain ⟨j, m⟩ := s5.sub a ha
          exact s2.sub a ⟨j, (m4 j a m).wipe.1⟩
        refine ⟨(s2.ext.trans ex fun _ _ _ h => h.elim).trans s5.ext fun a _ _ ⟨j, m⟩ => s2.sub a ⟨j, (m4 j a m).wipe.1⟩, S5, fun a ⟨j, m⟩ => sub5 a ?_⟩
        have m1 := m.wipe'
        rw [← w4'] at m1
        exact ⟨j, m1.wipe.2⟩
      refine p4 σ4 G3 H3 _ S4 fun b G5 H5 ρ5 s5 p5 => ?_
      cases b with
      | false =>
        refine iteF ⟨G5, ρ5, acc, accd, back s5, (e2.trans ex.gg).trans s5.ext.gg, s5.ext.nf _ _ h3 ⟨(fun _ z => nomatch z), (fun _ z => nomatch z)⟩ g3 nf4, s5.ext.fr _ _ h3 (fun _ z => nomatch z) nf4 (Cac.no g3), (ka.mono ex.gg).mono s5.ext.gg, p5.2 rfl, Nat.le_succ_of_le la⟩
      | true =>
        refine iteT (p5.1 rfl σ4 G5 H5 _ s5.st fun y e6 G6 H6 ρ6 s6 p6 k6 => ?_)
        have g6 : G6 Dl = none := s6.ext.nf _ _ (s5.ext.fr _ _ h3 (fun _ z => nomatch z) nf4 (Cac.no g3)) ⟨(fun _ z => nomatch z), (fun _ z => nomatch z)⟩ (s5.ext.nf _ _ h3 ⟨(fun _ z => nomatch z), (fun _ z => nomatch z)⟩ g3 nf4) fun z => nf4 (s5.sub _ z)
        have h6 : H6 Dl = some (.lst acc) := s6.ext.fr _ _ (s5.ext.fr _ _ h3 (fun _ z => nomatch z) nf4 (Cac.no g3)) (fun _ z => nomatch z) (fun z => nf4 (s5.sub _ z)) (Cac.no (s5.ext.nf _ _ h3 ⟨(fun _ z => nomatch z), (fun _ z => nomatch z)⟩ g3 nf4))
        have t6 := back (s5.trans s6)
        have nf6 : ¬ Fp σ (wipeS ρ6 vs) Dl := fun z => by
          obtain ⟨_, ⟨xs, e⟩, _⟩ := S.fp_some (t6.sub Dl z)
          rw [nD0] at e
          cases e
        refine ⟨acc, h6, ?_, G6, ρ6, acc ++ [y], accd ++ [e6], ?_, ((e2.trans ex.gg).trans s5.ext.gg).trans s6.ext.gg, g6, upd_same, (((ka.mono ex.gg).mono s5.ext.gg).mono s6.ext.gg).append (.cons k6 .nil), p6, by rw [List.length_append]; exact Nat.succ_le_succ la⟩
        · rw [ka.length]
          exact Nat.lt_of_le_of_lt (Nat.le_of_lt (Nat.lt_of_le_of_lt la (Nat.lt_of_lt_of_le hi hlen))) (by decide)
        · -- the new list is written: the slots don't know it
          have gh : Lo G6 (upd H6 Dl (.lst (acc ++ [y]))) := fun b u e => by
            rw [upd_ne (ne_of_none e g6)]
            exact t6.st.le b u e
          have ex6 : ∀ {A B : Hp} {F : Addr → Prop}, B Dl = none → Ext A B G6 H6 F → Ext A B G6 (upd H6 Dl (.lst (acc ++ [y]))) F := fun {A B F} n e => ⟨e.gg, gh, fun b o hb nt f nc => by
            rw [upd_ne (ne_of_none hb n)]
            exact e.fr b o hb nt f nc, e.nf, fun b o hb => by
            obtain ⟨u, hu⟩ := e.th b o hb
            exact ⟨u, by rw [upd_ne (ne_of_none hb n)]; exact hu⟩, fun t => tabs_upd h6 (fun _ z => nomatch z) (fun _ z => nomatch z) (e.tt t), e.nt⟩
          refine ⟨ex6 nD0 t6.ext, ⟨ex6 (h0_none S nD0) t6.st.ext, t6.st.len, fun j s hs => ?_, t6.st.dis⟩, t6.sub⟩
          obtain ⟨o, ho, qo⟩ := t6.st.sl j s hs
          refine ⟨o, ho, qo.move (Same.refl G6) fun a u hm h nt g => ⟨?_, g⟩⟩
          have np : a ≠ Dl := fun z => nf6 (z ▸ ⟨j, _, _, ho, hs, hm⟩)
          rw [upd_ne np]
          exact h
  rcases y _ hdi with ⟨rfl, k⟩ | ⟨T, xs, es, rfl, nT, rfl, e, k⟩
  · exact go (Ext.refl s2.st.le) gd hd (k.mono e2)
  · have ex := Ext.new (F := fun _ => False) s2.st.le nT (.tup xs)
    refine go ex ?_ ?_ ?_
    · rw [upd_ne (ne_of_none hd nT)]
      exact gd
    · rw [upd_ne (ne_of_none hd nT)]
      exact hd
    · rw [e]
      exact .tup (.inl (.inl upd_same)) (k.mono (e2.trans ex.gg))
end
end DL
namespace DL
open PySem PySem.Spec PyProof.Rows L2
variable [TabT] [CacT]

/-- what is asked for an answer with R, for an error of the class at X with Z -/
abbrev FS := List D → (D → Prop) → (Addr → D → Prop) → Prop
abbrev FP := Nat → List D → (D → Nat → Prop) → (Addr → D → Prop) → Prop
/-- an exception flies: its class, its dict, frozen -/
def Flies (K : PySem.W.Frag) (G H : Hp) (F : Addr → Prop) (Z : Addr → D → Prop) (E : XK) : Prop :=
  ∀ (X dx : Addr) (v : V) (d : D) (G' H' : Hp), Ext G H G' H' F → G' dx = some (.xd [("value", v)]) → Is K G' v d → Z X d → E (.ref X) (some dx) H'
/-- the promise of a def over data -/
def spD (K : PySem.W.Frag) (f : FS) : Sp := fun vs H Q E => ∃ G ds R Z, Lo G H ∧ IsL K G vs ds ∧ f ds R Z ∧ (∀ v d G' H', Ext G H G' H' (fun _ => False) → Is K G' v d → R d → Q v H') ∧ Flies K G H (fun _ => False) Z E
/-- .. of one that draws from the list that comes first -/
def spP (K : PySem.W.Frag) (f : FP) : Sp := fun vs H Q E => ∃ a ws G ds k R Z, vs = .ref a :: ws ∧ Lo G H ∧ G a = none ∧ PotAt H a k ∧ IsL K G ws ds ∧ f k ds R Z ∧
  (∀ v d k' G' H', Ext G H G' H' (fun b => b = a) → G' a = none → PotAt H' a k' → Is K G' v d → R d k' → Q v H') ∧ Flies K G H (fun b => b = a) Z E
theorem Flies.none {K : PySem.W.Frag} {G H : Hp} {F : Addr → Prop} {E : XK} : Flies K G H F (fun _ _ => False) E := fun _ _ _ _ _ _ _ _ _ z => z.elim
theorem Flies.imp {K : PySem.W.Frag} {G H : Hp} {F : Addr → Prop} {Z Z' : Addr → D → Prop} {E : XK} (h : Flies K G H F Z E) (i : ∀ X d, Z' X d → Z X d) : Flies K G H F Z' E := fun X dx v d G' H' e g k z => h X dx v d G' H' e g k (i X d z)

section
variable {C : Fx} {ρ : List Slot} {P : PD} {ta : TA} {E : XK} {Z : Addr → D → Prop}
theorem list_nil {α : Type} (l : List α) : l ++ [] = l := List.append_nil l
/-- f(..) of a def over data; es: its defaults -/
theorem ev_call {K' : PySem.W.Frag} {f : FS} {dvs : List V} {es : List D} (hE : Flies C.K C.G0 C.H0 C.F0 Z E) (hd : ∀ G, IsL C.K G dvs es) (h : EvA C ta ρ fun ds ρ1 => f (ds ++ es) (fun d => P d ρ1) Z) (hK : K' = C.K := by rfl) : Ev C (tCall (spD K' f) dvs E ta) ρ P := fun σ G H Q S q => by
  subst hK
  refine h σ G H _ S fun vs ds G1 H1 ρ1 s1 p1 k1 => ?_
  refine ⟨G1, ds ++ es, _, Z, s1.st.le, k1.append (hd G1), p1, fun v d G' H' e k r => q v d G' H' ρ1 (s1.trans (s1.st.keep e)) r k, fun X dx v d G' H' e g k z => ?_⟩
  exact hE X dx v d G' H' (s1.st.ext.trans e fun _ _ _ z => z.elim) g k z
/-- .. without arguments -/
theorem ev_call0 {K' : PySem.W.Frag} {f : FS} {dvs : List V} {es : List D} {t0 : TE} (hE : Flies C.K C.G0 C.H0 C.F0 Z E) (hd : ∀ G, IsL C.K G dvs es) (ht : ∀ σ H Q, t0 σ H Q = spD K' f dvs H Q E) (h : f es (fun d => P d ρ) Z) (hK : K' = C.K := by rfl) : Ev C t0 ρ P := fun σ G H Q S q => by
  subst hK
  rw [ht]
  exact ⟨G, es, _, Z, S.le, hd G, h, fun v d G' H' e k r => q v d G' H' ρ (S.keep e) r k, fun X dx v d G' H' e g k z => hE X dx v d G' H' (S.ext.trans e fun _ _ _ z => z.elim) g k z⟩
/-- the list that is drawn from has turned -/
theorem Sg.drew {G H G' H' : Hp} {σ : L2.St} {i : Nat} {a : Addr} {k k' : Nat} (S : Sg C G H σ ρ) (hi : ρ[i]? = some (.pot a k)) (e : Ext G H G' H' (fun b => b = a)) (g : G' a = none) (p : PotAt H' a k') : Stp C G H σ ρ G' H' (ρ.set i (.pot a k')) := by
  have hl : i < ρ.length := (List.getElem?_eq_some_iff.mp hi).1
  obtain ⟨o, ho, rfl, h1, h2, h3⟩ := S.sl i _ hi
  have mp : Mt σ ρ i a := ⟨_, _, ho, hi, rfl⟩
  have mt : ∀ {j : Nat} {b : Addr}, Mt σ (ρ.set i (.pot a k')) j b → Mt σ ρ j b := fun {j b} m => by
    by_cases hj : j = i
    · subst hj
      obtain ⟨o3, s3, e1, e2, e3⟩ := m
      rw [ho] at e1
      cases e1
      rw [List.getElem?_set_self hl] at e2
      cases e2
      exact ⟨_, _, ho, hi, e3⟩
    · exact m.offR hj
  refine ⟨e.mono fun b hb => hb ▸ ⟨i, mp⟩, ⟨S.ext.trans e fun x u hx hf => ?_, by rw [List.length_set, S.len], fun j s hs => ?_, fun j k b q1 q2 => S.dis j k b (mt q1) (mt q2)⟩, fun b ⟨j, m⟩ => ⟨j, mt m⟩⟩
  · subst hf
    rcases h3 with h3 | h3
    · exact h3
    · rw [h3] at hx
      cases hx
  · by_cases hj : j = i
    · subst hj
      rw [List.getElem?_set_self hl] at hs
      cases hs
      exact ⟨_, ho, rfl, g, p, h3⟩
    · rw [List.getElem?_set_ne (Ne.symm hj)] at hs
      obtain ⟨o, ho2, q⟩ := S.sl j s hs
      refine ⟨o, ho2, q.move e.gg fun b u hm h nt g => ?_⟩
      have na : b ≠ a := fun z => hj (S.dis j i a ⟨_, _, ho2, hs, z ▸ hm⟩ mp)
      exact ⟨e.fr _ _ h nt.1 na (Cac.no g), e.nf _ _ h nt g na⟩
/-- f(pot, ..) -/
theorem ev_callP {K' : PySem.W.Frag} {f : FP} {i : Nat} {dvs : List V} {es : List D} (hE : Flies C.K C.G0 C.H0 C.F0 Z E) (hd : ∀ G, IsL C.K G dvs es) (hi : ∃ a k, ρ[i]? = some (.pot a k)) (h : EvA C ta ρ fun ds ρ1 => ∃ a k, ρ1[i]? = some (.pot a k) ∧ f k (ds ++ es) (fun d k' => P d (ρ1.set i (.pot a k'))) Z) (hK : K' = C.K := by rfl) :
    Ev C (tCall (spP K' f) dvs E (tCons (tVar i) ta)) ρ P := fun σ G H Q S q => by
  subst hK
  obtain ⟨a0, k0, hi⟩ := hi
  obtain ⟨o, ho, rfl, _⟩ := S.sl i _ hi
  refine ⟨_, ho, h σ G H _ S fun vs ds G1 H1 ρ1 s1 p1 k1 => ?_⟩
  obtain ⟨a, k, e1, p1⟩ := p1
  obtain ⟨o, ho2, rfl, g1, g2, g3⟩ := s1.st.sl i _ e1
  rw [ho] at ho2
  cases ho2
  refine ⟨a0, vs ++ dvs, G1, ds ++ es, k, _, Z, rfl, s1.st.le, g1, g2, k1.append (hd G1), p1, fun v d k' G' H' e g p kd r => q v d G' H' _ (s1.trans (s1.st.drew e1 e g p)) r kd, fun X dx v d G' H' e g kk z => ?_⟩
  refine hE X dx v d G' H' (s1.st.ext.trans e fun x u hx hf => ?_) g kk z
  subst hf
  rcases g3 with g3 | g3
  · exact g3
  · rw [g3] at hx
    cases hx
end

/-! ### a def's body -/
section
variable {K : PySem.W.Frag} {N : List Str} {vs : List V} {ds : List D} {G H : Hp}
theorem start_get {i : Nat} : (start N vs)[i]? = if i < vs.length then vs[i]?.map some else (List.replicate (N.length - vs.length) (none : Option V))[i - vs.length]? := by
  unfold L2.start
  rw [List.getElem?_append]
  simp only [List.length_map]
  split
  · rw [List.getElem?_map]
  · rfl
theorem start_sg (le : Lo G H) (k : IsL K G vs ds) (F : Addr → Prop) : Sg ⟨K, G, H, F⟩ G H (start N vs) (ds.map .dat ++ List.replicate (N.length - ds.length) .un) := by
  have kl := k.length
  have lens : (start N vs).length = (ds.map Slot.dat ++ List.replicate (N.length - ds.length) Slot.un).length := by
    unfold L2.start
    simp [kl]
  have nm : ∀ {i : Nat} {s : Slot}, (ds.map Slot.dat ++ List.replicate (N.length - ds.length) Slot.un)[i]? = some s → (∃ d, ds[i]? = some d ∧ s = .dat d) ∨ s = .un := fun {i s} h => by
    rw [List.getElem?_append] at h
    split at h
    · rw [List.getElem?_map] at h
      cases e : ds[i]? with
      | none =>
        rw [e] at h
        cases h
      | some d =>
        rw [e] at h
        exact .inl ⟨d, rfl, (Option.some.inj h).symm⟩
    · rw [List.getElem?_replicate] at h
      split at h
      · exact .inr (Option.some.inj h).symm
      · cases h
  have nmt : ∀ {i : Nat} {a : Addr}, ¬ Mt (start N vs) (ds.map Slot.dat ++ List.replicate (N.length - ds.length) Slot.un) i a := fun {i a} m => by
    obtain ⟨r, e, hm⟩ := m.slot
    rcases nm e with ⟨d, _, z⟩ | z <;> subst z <;> cases hm
  refine ⟨Ext.refl le, lens, fun i s hs => ?_, fun i j a h _ => (nmt h).elim⟩
  have hl : i < (start N vs).length := by
    rw [lens]
    exact (List.getElem?_eq_some_iff.mp hs).1
  rcases nm hs with ⟨d, hd, rfl⟩ | rfl
  · obtain ⟨v, hv, kv⟩ := k.get hd
    refine ⟨some v, ?_, v, rfl, kv⟩
    rw [start_get, if_pos (List.getElem?_eq_some_iff.mp hv).1, hv]
    rfl
  · exact ⟨_, List.getElem?_eq_getElem hl, trivial⟩
theorem start_sgP {a : Addr} {k : Nat} (le : Lo G H) (ga : G a = none) (pa : PotAt H a k) (t : IsL K G vs ds) (F : Addr → Prop) (fa : F a) : Sg ⟨K, G, H, F⟩ G H (start N (.ref a :: vs)) (.pot a k :: (ds.map .dat ++ List.replicate (N.length - (ds.length + 1)) .un)) := by
  have kl := t.length
  have lens : (start N (.ref a :: vs)).length = (Slot.pot a k :: (ds.map Slot.dat ++ List.replicate (N.length - (ds.length + 1)) Slot.un)).length := by
    unfold L2.start
    simp [kl]
  have nm : ∀ {i : Nat} {s : Slot}, (ds.map Slot.dat ++ List.replicate (N.length - (ds.length + 1)) Slot.un)[i]? = some s → (∃ d, ds[i]? = some d ∧ s = .dat d) ∨ s = .un := fun {i s} h => by
    rw [List.getElem?_append] at h
    split at h
    · rw [List.getElem?_map] at h
      cases e : ds[i]? with
      | none =>
        rw [e] at h
        cases h
      | some d =>
        rw [e] at h
        exact .inl ⟨d, rfl, (Option.some.inj h).symm⟩
    · rw [List.getElem?_replicate] at h
      split at h
      · exact .inr (Option.some.inj h).symm
      · cases h
  have nmt : ∀ {i : Nat} {b : Addr}, Mt (start N (.ref a :: vs)) (Slot.pot a k :: (ds.map Slot.dat ++ List.replicate (N.length - (ds.length + 1)) Slot.un)) i b → i = 0 := fun {i b} m => by
    cases i with
    | zero => rfl
    | succ i =>
      obtain ⟨r, e, hm⟩ := m.slot
      rw [List.getElem?_cons_succ] at e
      rcases nm e with ⟨d, _, z⟩ | z <;> subst z <;> cases hm
  refine ⟨Ext.refl le, lens, fun i s hs => ?_, fun i j b h1 h2 => (nmt h1).trans (nmt h2).symm⟩
  have hl : i < (start N (.ref a :: vs)).length := by
    rw [lens]
    exact (List.getElem?_eq_some_iff.mp hs).1
  cases i with
  | zero =>
    have hs : some (Slot.pot a k) = some s := hs
    cases hs
    exact ⟨some (.ref a), rfl, rfl, ga, pa, .inl fa⟩
  | succ i =>
    rw [List.getElem?_cons_succ] at hs
    rcases nm hs with ⟨d, hd, rfl⟩ | rfl
    · obtain ⟨v, hv, kv⟩ := t.get hd
      refine ⟨some v, ?_, v, rfl, kv⟩
      rw [start_get, if_pos (by rw [List.length_cons]; have := (List.getElem?_eq_some_iff.mp hv).1; omega), List.getElem?_cons_succ, hv]
      rfl
    · exact ⟨_, List.getElem?_eq_getElem hl, trivial⟩
/-- the end of a def's proof -/
theorem fin_D {t : TS} {Q : VK} {R : D → Prop} (le : Lo G H) (k : IsL K G vs ds) (hq : ∀ v d G' H', Ext G H G' H' (fun _ => False) → Is K G' v d → R d → Q v H')
    (h : Xs ⟨K, G, H, fun _ => False⟩ t (ds.map .dat ++ List.replicate (N.length - ds.length) .un) { nx := fun _ => R .non, rt := fun d _ => R d }) : t { nx := fun _ H' => Q .non H', rt := Q } (start N vs) H :=
  h _ G H _ (start_sg le k _) (fun σ' G' H' ρ' s _ r => hq _ _ G' H' s.ext .non r) (fun v d σ' G' H' ρ' s kd r => hq v d G' H' s.ext kd r) (fun _ _ _ _ _ _ z => z.elim) (fun _ _ _ _ _ _ z => z.elim)
theorem fin_P {t : TS} {Q : VK} {R : D → Nat → Prop} {a : Addr} {k : Nat} (le : Lo G H) (ga : G a = none) (pa : PotAt H a k) (kk : IsL K G vs ds) (hq : ∀ v d k' G' H', Ext G H G' H' (fun b => b = a) → G' a = none → PotAt H' a k' → Is K G' v d → R d k' → Q v H')
    (h : Xs ⟨K, G, H, fun b => b = a⟩ t (.pot a k :: (ds.map .dat ++ List.replicate (N.length - (ds.length + 1)) .un)) { nx := fun ρ' => ∃ k', ρ'[0]? = some (.pot a k') ∧ R .non k', rt := fun d ρ' => ∃ k', ρ'[0]? = some (.pot a k') ∧ R d k' }) : t { nx := fun _ H' => Q .non H', rt := Q } (start N (.ref a :: vs)) H := by
  refine h _ G H _ (start_sgP le ga pa kk _ rfl) (fun σ' G' H' ρ' s _ r => ?_) (fun v d σ' G' H' ρ' s kd r => ?_) (fun _ _ _ _ _ _ z => z.elim) (fun _ _ _ _ _ _ z => z.elim)
  · obtain ⟨k', e, r⟩ := r
    obtain ⟨o, ho, rfl, g1, g2, g3⟩ := s.sl 0 _ e
    exact hq _ _ k' G' H' s.ext g1 g2 .non r
  · obtain ⟨k', e, r⟩ := r
    obtain ⟨o, ho, rfl, g1, g2, g3⟩ := s.sl 0 _ e
    exact hq _ _ k' G' H' s.ext g1 g2 kd r
end
end DL
/-! defs that are called where nothing is being shown (repr) -/
namespace DL
open PySem PySem.Spec PyProof.Rows L2
variable [TabT] [CacT]

/-- as FnOk, where no object is being shown -/
structure FnG (P : Program) (w : World) (K : PySem.W.Frag) (mg : Str → Option Value) (base : Heap) (CX : CXT) (k : Nat) (f : Addr) (fd : FuncData) (ps : List Str) (sp : Sp) : Prop where
  len : ∀ vs H Q E, sp vs H Q E → vs.length = ps.length
  run : ∀ (A : Around) (outer : List Env) (s : Shared) (H : Hp) (args : Args) (us : List Value) (vs : List V) (Q : VK) (E : XK), A.guards = some [] → Room k A → Env0 P w K mg base A outer s H → BindsTo s fd args (ps.zip us) → Vals vs us → sp vs H Q E →
    codeAny (model P w) A (.call (.ref f) args) (CR CX outer P w H s Q E) s
theorem FnG.mono {P : Program} {w : World} {K : PySem.W.Frag} {mg : Str → Option Value} {base : Heap} {CX : CXT} {j k : Nat} {f : Addr} {fd : FuncData} {ps : List Str} {sp : Sp} (F : FnG P w K mg base CX j f fd ps sp) (h : j ≤ k) :
    FnG P w K mg base CX k f fd ps sp := ⟨F.len, fun A outer s H args us vs Q E g hr => F.run A outer s H args us vs Q E g (hr.mono h)⟩

section
variable {X : Cx} {CX : CXT} {k : Nat} {f : Addr} {fd : FuncData} {ps : List Str} {sp : Sp} {dvs : List V} {ds : List Value} {E : XK} {x : Str} {p pos : Pos} {e : Expr} {es : List Expr} {t : TA}
theorem run_g {pins : List (Addr × Obj)} {σ : L2.St} {H : Hp} {s : Shared} {Q : VK} {us : List Value} {vs : List V} (gd : X.A.guards = some []) (F : FnG X.prog X.w X.K X.mg X.base CX k f fd ps sp) (hr : Room k X.A) (hb : Binds X.K fd ps ds) (hd : Vals dvs ds) (hx : Passes CX X E)
    (I : Inv X pins σ H s) (r : Vals vs us) (h : sp (vs ++ dvs) H Q E) : wpAny (model X.prog X.w) X.A (call (.ref f) us) (EP X pins σ Q) X.xe s := by
  have r2 := r.append hd
  have hl : (us ++ ds).length = ps.length := r2.length ▸ F.len _ _ _ _ h
  have key := F.run X.A X.stack s H ⟨us, []⟩ (us ++ ds) (vs ++ dvs) Q E gd hr I.env0 (hb s us I.kIn hl) r2 h
  refine wpAny_call (codeAny_mono key fun r s' hq => ?_)
  match r, hq with
  | .error e, hq => exact hx pins σ H s e s' I hq
  | .ok (.ret u), hq => exact I.after hq
/-- f(e, ..) -/
theorem pe_g (gd : X.A.guards = some []) (F : FnG X.prog X.w X.K X.mg X.base CX k f fd ps sp) (hr : Room k X.A) (hg : Gl X x) (hm : X.mg x = some (.ref f)) (hk : PySem.W.keepIn X.K (.ref f) = true) (hb : Binds X.K fd ps ds) (hd : Vals dvs ds) (hx : Passes CX X E)
    (ha : PA X (e :: es) t) (hdb : (x == ("__debug__" : Str)) = false := by decide) (he : starEach (e :: es) X.env = (false, eval e X.env) :: starEach es X.env := by rfl) (hpl : (backTo pos (starEach es X.env)).any (·.1) = false := by rfl) :
    PE X (.Call (.Name x p) (e :: es) [] pos) (tCall sp dvs E t) :=
  ⟨fun pins s σ H Q I h => wpAny_Call_Name_kw (ld_glob I hg hm (PySem.W.callWith_K (h₀ := X.base) I.ok.mod.kin hk (thn (ha.run pos pins s σ H _ I h) fun us s1 ⟨vs, H1, I1, r, q⟩ => ⟨I1.kIn, run_g gd F hr hb hd hx I1 r q⟩) he hpl) hdb)⟩
theorem pe_g0 (gd : X.A.guards = some []) (F : FnG X.prog X.w X.K X.mg X.base CX k f fd ps sp) (hr : Room k X.A) (hg : Gl X x) (hm : X.mg x = some (.ref f)) (hk : PySem.W.keepIn X.K (.ref f) = true) (hb : Binds X.K fd ps ds) (hd : Vals dvs ds) (hx : Passes CX X E)
    (hdb : (x == ("__debug__" : Str)) = false := by decide) : PE X (.Call (.Name x p) [] [] pos) (tCall sp dvs E tNil) :=
  ⟨fun pins s σ H Q I h => wpAny_Call_Name_kw (ld_glob I hg hm (PySem.W.callWith_K0 I.kIn hk (run_g (us := []) gd F hr hb hd hx I .nil h)) hdb)⟩
end

section
variable {P : Program} {w : World} {K : PySem.W.Frag} {mg : Str → Option Value} {base : Heap} {CX : CXT}
/-- a def, by its body -/
theorem fn_g {k : Nat} {f : Addr} {name qual : Str} {params : Arguments} {body : List Stmt} {scope : Scope} {dV kV doc pm cdv ct oc : Value} {an od : Option Addr}
    {osl : Array (Option Value)} {N ps : List Str} {sp : Sp} (lk : K.lookup f = some ⟨oc, od, .func (PySem.W.fnOf name qual params body scope dV kV doc pm an cdv ct), osl⟩) (hcd : PySem.W.codeIn K cdv qual = true) (S : FnScope N ps scope)
    (len : ∀ vs H Q E, sp vs H Q E → vs.length = ps.length)
    (hb : ∀ (A : Around) (outer : List Env) (s : Shared) (H : Hp) (vs : List V) (Q : VK) (E : XK), A.guards = some [] → Room k (A.deeper (envOfC qual scope s.heap.objs.size f cdv)) → sp vs H Q E →
      ∃ t, PSs (cxOf CX P w K mg base N qual scope f cdv A outer s H E) body t ∧ t { nx := fun _ H' => Q .non H', rt := Q } (L2.start N vs) H) :
    FnG P w K mg base CX (k + 1) f (PySem.W.fnOf name qual params body scope dV kV doc pm an cdv ct) ps sp := by
  refine ⟨len, fun A outer s H args us vs Q E gd hr e0 hbd r hsp => ?_⟩
  have kept : ∀ b o, base.get? b = some o → s.heap.get? b = some o := fun b o e => (e0.bs b o e).1
  have KX := e0.mod.kin.keeps kept
  have kinds : ∀ y ∈ ps.zip us, scope.names.lookup y.1 = some .local ∨ (scope.names.lookup y.1 = some .cell ∧ ((cellsFrom (s.heap.objs.size + 1) scope.names []).lookup y.1).isSome = true) := by
    rintro ⟨n, v⟩ hy
    exact (S.par n (List.of_mem_zip hy).1).imp id fun q => ⟨q, PySem.W.cellsFrom_some _ _ _ (.inl q)⟩
  refine codeAny_call_function hr.depth (KX _ _ lk) rfl S.co S.gen rfl (PySem.W.codeRec_of KX hcd) (hbd _ _ _ _ (wpAny_newFunctionEnv_cells S.kind kinds fun env he s1 x => ?_))
  subst he
  obtain ⟨t, ht, hq⟩ := hb A outer s H vs Q E gd (hr.deeper _) hsp
  have I := inv_start (CX := CX) (P := P) (mg := mg) (N := N) (cd := cdv) (E := E) S hr.hd e0 (len _ _ _ _ hsp) r x
  refine ⟨(e0.mod.nolimit.keeps kept).keeps x.toInCall.keep, codeAny_func (wpAny_mono (ht.run [] s1 _ H _ I hq) (fun fl s' hs => ?_) fun e s' hs => hs)⟩
  match fl, hs with
  | .ret u, ⟨v, σ', H', J, rv, q⟩ => exact ⟨v, H', J.os, J.bare, J.base, J.hok, rv, q⟩
  | .next, ⟨σ', H', J, q⟩ => exact ⟨V.non, H', J.os, J.bare, J.base, J.hok, rfl, q⟩
  | .brk, ⟨_, _, _, q⟩ => exact False.elim q
  | .cont, ⟨_, _, _, q⟩ => exact False.elim q
theorem okG {x qual : Str} {st : Stmt} {f : Addr} {fd : FuncData} {N ps : List Str} {k : Nat} {sp : Sp} (F : Fun K x qual st f fd) (S : FnScope N ps (defScope st)) (len : ∀ vs H Q E, sp vs H Q E → vs.length = ps.length)
    (hb : ∀ (cdv : Value) (A : Around) (outer : List Env) (s : Shared) (H : Hp) (vs : List V) (Q : VK) (E : XK), A.guards = some [] → Room k (A.deeper (envOfC qual (defScope st) s.heap.objs.size f cdv)) → sp vs H Q E →
      ∃ t, PSs (cxOf CX P w K mg base N qual (defScope st) f cdv A outer s H E) (defBody st) t ∧ t { nx := fun _ H' => Q .non H', rt := Q } (L2.start N vs) H) : FnG P w K mg base CX (k + 1) f fd ps sp := by
  obtain ⟨oc, od, kV, doc, pm, an, cdv, ct, osl, rfl, lk, hcd⟩ := F.ex
  exact fn_g lk hcd S len fun A outer s H vs Q E gd hr h => hb cdv A outer s H vs Q E gd hr h
end

/-! ### the law's own call -/
def scH (K : PySem.W.Frag) (a : Addr) (o : Obj) (xs : List V) : Hp := fun b => if b = a ∧ K.lookup a = none then some (.frz o (.lst xs)) else none
theorem scH_some {K : PySem.W.Frag} {a b : Addr} {o : Obj} {xs : List V} {u : HO} (h : scH K a o xs b = some u) : b = a ∧ K.lookup a = none ∧ u = .frz o (.lst xs) := by
  unfold scH at h
  by_cases c : b = a ∧ K.lookup a = none
  · rw [if_pos c] at h
    exact ⟨c.1, c.2, (Option.some.inj h).symm⟩
  · rw [if_neg c] at h
    cases h
theorem law_g {P : Program} {w : World} {K : PySem.W.Frag} {mg mb : Str → Option Value} {CX : CXT} {k : Nat} {fa a : Addr} {fd : FuncData} {x : Str} {sp : Sp} {s₁ : Shared} {vs : List Value} {ns : List Int}
    (KX : K.In s₁.heap) (hns : s₁.heap.Ns mainGlobals mg) (hb : s₁.heap.Ns builtinsNs mb) (hbb : ∀ x : Str, x ≠ "__name__" → mb x = bootBuiltins x) (hlim : s₁.heap.NoLimit) (hg : s₁.gens = #[])
    (ha : s₁.heap.get? a = some { cls := .type "list", data := .seq vs.toArray }) (hi : IntsAre vs ns) (hl : ns.length ≤ sizeLine) (hr : Room k callerA)
    (F : ∀ base : Heap, K.In base → base.Ns mainGlobals mg → FnG P w K mg base CX k fa fd [x] sp) (hbind : ∀ (s : Shared) (u : Value), BindsTo s fd ⟨[u], []⟩ [(x, u)])
    (hsp : ∀ H : Hp, Only H → SqL K H a (ns.map V.int) → sp [.ref a] H (fun v _ => v = .bl true) fun _ _ _ => False)
    (hCX : ∀ H e s', CX [] H s₁ (fun _ _ _ => False) e s' → False) :
    codeAny (model P w) callerA (.call (.ref fa) ⟨[.ref a], []⟩) (fun r s' => r = .ok (.ret (.bool true)) ∧ OldK s₁.heap s'.heap ∧ s'.os = s₁.os ∧ AllBare s'.gens) s₁ := by
  have rv := vals_ints hi
  obtain ⟨H, hH⟩ : ∃ H, H = scH K a { cls := .type "list", data := .seq vs.toArray } (ns.map V.int) := ⟨_, rfl⟩
  have some_ : ∀ {b : Addr} {u : HO}, H b = some u → b = a ∧ K.lookup a = none ∧ u = .frz { cls := .type "list", data := .seq vs.toArray } (.lst (ns.map V.int)) := fun e => scH_some (hH ▸ e)
  have only : Only H := fun b => by
    cases q : H b with
    | none => exact .inl rfl
    | some u =>
      obtain ⟨_, _, rfl⟩ := some_ q
      exact .inr ⟨_, _, rfl⟩
  have hok : HOk P w H s₁.heap := fun b u e => by
    obtain ⟨rfl, _, rfl⟩ := some_ e
    exact ⟨ha, by rw [List.length_map]; exact hl, vs, _, rv, ha⟩
  have hS : SqL K H a (ns.map V.int) := by
    cases hk : K.lookup a with
    | some o =>
      have e := KX a o hk
      rw [ha] at e
      cases e
      exact .inr ⟨_, vs.toArray, _, hk, rfl, rfl, rfl, by rw [List.size_toArray, hi.length]; exact hl, by simpa using rv⟩
    | none =>
      refine .inl (.inr ⟨{ cls := .type "list", data := .seq vs.toArray }, ?_⟩)
      rw [hH]
      exact if_pos ⟨rfl, hk⟩
  have dictFree : ∀ {b : Addr} {o : Obj} {es : Array DictEntry} {ep : Nat}, s₁.heap.get? b = some o → o.data = .dict es ep → H b = none := fun {b o es ep} e d => by
    cases q : H b with
    | none => rfl
    | some u =>
      obtain ⟨rfl, _, _⟩ := some_ q
      rw [ha] at e
      cases e
      exact nomatch (show Data.seq vs.toArray _ = Data.dict es ep from d)
  have nsB : ∀ {b : Addr} {m : Str → Option Value}, s₁.heap.Ns b m → (hidT s₁.heap H).Ns b m := fun ⟨o, es, ep, e, d, r⟩ => ⟨o, es, ep, hidT_get e (dictFree e d), d, r⟩
  have inB : K.In (hidT s₁.heap H) := fun b o e => hidT_get (KX b o e) (by
    cases q : H b with
    | none => rfl
    | some u =>
      obtain ⟨rfl, n, _⟩ := some_ q
      rw [n] at e
      cases e)
  have mod : Mod K mg (hidT s₁.heap H) := ⟨inB, nsB hns, ⟨mb, nsB hb, hbb⟩, let ⟨mc, h1, h2⟩ := hlim; ⟨mc, nsB h1, h2⟩⟩
  have none_ : ∀ {b : Addr} {P : Prop}, b ∈ ([] : List Addr) → P := fun h => absurd h (by simp)
  have e0 : Env0 P w K mg (hidT s₁.heap H) callerA [] s₁ H := ⟨rfl, mod, fun b o e => of_hidT e, Nat.le_of_eq (hidT_size _ _), trivial, fun b h => none_ h, hok, .of_eq hg⟩
  refine codeAny_mono ((F _ inB (nsB hns)).run callerA [] s₁ H ⟨[.ref a], []⟩ [.ref a] [.ref a] _ _ rfl hr e0 (hbind s₁ (.ref a)) (.cons rfl .nil) (hsp H only hS)) fun r s' h => ?_
  match r, h with
  | .error e, h => exact (hCX H e s' h).elim
  | .ok (.ret u), ⟨v, H', os, bare, un, hok', r', q⟩ =>
    have q' : v = .bl true := q
    subst q'
    obtain rfl : u = Value.bool true := r'
    refine ⟨rfl, OldK.of_keep fun b o e => ?_, os, bare⟩
    cases q : H b with
    | none => exact un.keep b o e q (fun z => none_ z) (fun z => none_ z)
    | some u =>
      obtain ⟨rfl, _, rfl⟩ := some_ q
      have e1 := (hok b _ q).1
      have e2 := (hok' b _ (un.frzs b _ _ q)).1
      rw [e] at e1
      cases e1
      exact e2
/-- the goal behind k_head, from the promise of the law's def -/
theorem walk_g {l : PySem.W.OpenLaw} {n k : Nat} {q : Program} {loose : List Str} {XP : (Str → Option Value) → Heap → Prop} {YP : World → Heap → Prop} {d : DefRec} {K : Params → PySem.W.Frag} {CX : World → CXT} {sp : World → Sp} {x : Str}
    (hn : l.most = some n) (hn2 : n ≤ sizeLine) (hdf : d.params.defaults = []) (hr : Room k callerA)
    (hY : ∀ (w : World) (h : Heap), YP w h → (K w.params).In h)
    (F : ∀ (w : World) (mg : Str → Option Value) (fa : Addr) (h : Heap), (K w.params).In h → h.Ns mainGlobals mg → mg d.name = some (.ref fa) →
      ∃ fd : FuncData, (∀ (s : Shared) (u : Value), BindsTo s fd ⟨[u], []⟩ [(x, u)]) ∧
        ∀ base : Heap, (K w.params).In base → base.Ns mainGlobals mg → FnG l.prog w (K w.params) mg base (CX w) k fa fd [x] (sp w))
    (hsp : ∀ (w : World) (H : Hp) (a : Addr) (ns : List Int), ns.length ≤ n → Only H → SqL (K w.params) H a (ns.map V.int) → sp w [.ref a] H (fun v _ => v = .bl true) fun _ _ _ => False)
    (hCX : ∀ (w : World) (H : Hp) (s : Shared) (e : Value) (s' : Shared), CX w [] H s (fun _ _ _ => False) e s' → False) :
    PySem.W.WalkO q loose XP YP l.row.toRowW d [] (fun f vs => PySem.call f vs) :=
  Att.attach_call hn hdf fun w s₀ s₁ mg mb fa o pm cd doc a vs ns G Y ho hd hcd hmg hobj hints hlen hg =>
    let ⟨fd, hb, hF⟩ := F w mg fa _ (hY w _ Y) G.T.g hmg
    law_g (hY w _ Y) G.T.g G.T.b G.T.builtins G.T.nolimit hg hobj hints (Nat.le_trans hlen hn2) hr hF hb (fun H hO hS => hsp w H a ns hlen hO hS) fun H e s' => hCX w H s₁ e s'
end DL
namespace DL
open PySem PySem.Spec PyProof.Rows L2
variable [TabT] [CacT]

/-! ### data as the model's own plain data -/
mutual
def D.py : D → Option PyData
  | .non => some .none
  | .bl b => some (.bool b)
  | .int i => some (.int i)
  | .str x => some (.str x)
  | .tup ds => (D.pys ds).map .tuple
  | .lst ds => (D.pys ds).map .list
  | .val _ => none
  | .dic _ => none
  | .dct _ => none
  | .ins _ _ => none
  | .exc _ _ => none
  | .scr _ => none
def D.pys : List D → Option (List PyData)
  | [] => some []
  | d :: ds => match D.py d, D.pys ds with
    | some p, some ps => some (p :: ps)
    | _, _ => none
end
section
variable {K : PySem.W.Frag} {G H : Hp}
mutual
theorem Is.dp (le : Lo G H) : ∀ {v : V} {d : D} {p : PyData}, Is K G v d → d.py = some p → Dp K H v p
  | _, _, _, .non, e => by
    cases e
    exact .non
  | _, _, _, .bl b, e => by
    cases e
    exact .bl b
  | _, _, _, .int i, e => by
    cases e
    exact .int i
  | _, _, _, .str x, e => by
    cases e
    exact .str x
  | _, _, _, .val v, e => by cases e
  | _, .tup ds, p, .tup h t, e => by
    cases q : D.pys ds with
    | none => simp [D.py, q] at e
    | some ps =>
      simp [D.py, q] at e
      subst e
      exact .tup (le.seqT h) (IsL.dp le t q)
  | _, .lst ds, p, .lst h t, e => by
    cases q : D.pys ds with
    | none => simp [D.py, q] at e
    | some ps =>
      simp [D.py, q] at e
      subst e
      exact .lst (.inl (.inl (le _ _ h))) (IsL.dp le t q)
  | _, _, _, .dic _ _, e => by cases e
  | _, _, _, .dct _ _, e => by cases e
  | _, _, _, .ins _ _, e => by cases e
  | _, _, _, .exc _ _ _, e => by cases e
  | _, _, _, .scr _, e => by cases e
theorem IsL.dp (le : Lo G H) : ∀ {vs : List V} {ds : List D} {ps : List PyData}, IsL K G vs ds → D.pys ds = some ps → DpAll K H vs ps
  | _, _, _, .nil, e => by
    cases e
    exact .nil
  | _, d :: ds, ps, .cons h t, e => by
    cases q : D.py d with
    | none => simp [D.pys, q] at e
    | some p =>
      cases q' : D.pys ds with
      | none => simp [D.pys, q, q'] at e
      | some ps' =>
        simp [D.pys, q, q'] at e
        subst e
        exact .cons (Is.dp le h q) (IsL.dp le t q')
end
end

/-! ### repr -/
def rRepr (K : PySem.W.Frag) : List V → Hp → VK → Prop := fun xs H Q => ∃ x p, xs = [x] ∧ Dp K H x p ∧ p.showable = true ∧ p.hasDict = false ∧ p.shown.length ≤ sizeLine ∧ p.depth ≤ 60 ∧ Q (.str p.shown) H
theorem call_repr {X : Cx} (gd : X.A.guards = some []) (hu : X.A.units + 64 < cLine) : CallR X (.builtin "repr") (rRepr X.K) := by
  intro pins s σ H xs us Q I r h
  obtain ⟨x, p, rfl, hd, hs, hnd, hz, hdep, q⟩ := h
  have sz : p.shown.length ≤ sizeLine := hz
  cases r with
  | cons r rr =>
    cases rr
    rename_i u
    have key : wpAny (model X.prog X.w) X.A (PySem.call (.builtin "repr") [u]) (EP X pins σ Q) X.xe s := by
      cases hd with
      | non =>
        cases r
        exact PySem.P.repr_of_none ⟨.str _, H, I.tok _, ⟨_, rfl⟩, by simpa [PyData.shown] using q⟩
      | bl b =>
        cases r
        exact PySem.P.repr_of_bool ⟨.str _, H, I.tok _, ⟨_, rfl⟩, by simpa [PyData.shown] using q⟩
      | int i =>
        obtain ⟨t, rfl⟩ := r
        exact PySem.P.repr_of_int (by simpa [PyData.showable] using hs) ⟨.str _, H, I.tok _, ⟨_, rfl⟩, by simpa [PyData.shown] using q⟩
      | str x =>
        obtain ⟨t, rfl⟩ := r
        exact PySem.P.repr_of_str ⟨.str _, H, I.tok _, ⟨_, rfl⟩, by simpa [PyData.shown] using q⟩ (by simpa [PyData.shown] using sz)
      | lst h1 h2 =>
        cases r
        obtain ⟨as, hr⟩ := Dp.reads I _ _ _ (Dp.lst h1 h2) rfl
        exact repr_of_reads' hr hs (PyData.noDict_hsm hnd) gd (by omega) (fun _ _ e => e) (fun h' w tk hk => ⟨.str _, H, I.kept (t' := tk) hk, ⟨_, rfl⟩, q⟩) sz
      | tup h1 h2 =>
        cases r
        obtain ⟨as, hr⟩ := Dp.reads I _ _ _ (Dp.tup h1 h2) rfl
        exact repr_of_reads' hr hs (PyData.noDict_hsm hnd) gd (by omega) (fun _ _ e => e) (fun h' w tk hk => ⟨.str _, H, I.kept (t' := tk) hk, ⟨_, rfl⟩, q⟩) sz
    exact key

/-! ### operators by data -/
section
variable {K : PySem.W.Frag} {P : D → Prop}
abbrev none_ : Addr → Prop := fun _ => False
theorem rd_I0 {f : Int → Int → Int} {i j : Int} (h : P (.int (f i j))) : RD K (rI0 fun i j => .int (f i j)) (.int i) (.int j) P := fun G H v u Q le a b q => by
  cases a
  cases b
  exact ⟨i, j, rfl, rfl, q _ _ G H (Ext.refl le) (Same.refl _) h (.int _)⟩
theorem rd_I {c : Int → Int → Prop} {f : Int → Int → Int} {i j : Int} (hc : c i j) (h : P (.int (f i j))) : RD K (rI c fun i j => .int (f i j)) (.int i) (.int j) P := fun G H v u Q le a b q => by
  cases a
  cases b
  exact ⟨i, j, rfl, rfl, hc, q _ _ G H (Ext.refl le) (Same.refl _) h (.int _)⟩
theorem rd_B0 {f : Int → Int → Bool} {i j : Int} (h : P (.bl (f i j))) : RD K (rI0 fun i j => .bl (f i j)) (.int i) (.int j) P := fun G H v u Q le a b q => by
  cases a
  cases b
  exact ⟨i, j, rfl, rfl, q _ _ G H (Ext.refl le) (Same.refl _) h (.bl _)⟩
theorem rd_eq {x y : D} {p r : PyData} {K' : PySem.W.Frag} (e1 : x.py = some p) (e2 : y.py = some r) (s1 : SeqAt.shaped p = true) (s2 : SeqAt.shaped r = true) (h : P (.bl (PyData.eqv p r))) (hK : K' = K := by rfl) : RD K (rEqD K') x y P := fun G H v u Q le a b q => by
  subst hK
  exact ⟨p, r, a.dp le e1, b.dp le e2, s1, s2, q _ _ G H (Ext.refl le) (Same.refl _) h (.bl _)⟩
theorem rd_ne {x y : D} {p r : PyData} {K' : PySem.W.Frag} (e1 : x.py = some p) (e2 : y.py = some r) (s1 : SeqAt.shaped p = true) (s2 : SeqAt.shaped r = true) (h : P (.bl (!PyData.eqv p r))) (hK : K' = K := by rfl) : RD K (rNeD K') x y P := fun G H v u Q le a b q => by
  subst hK
  exact ⟨p, r, a.dp le e1, b.dp le e2, s1, s2, q _ _ G H (Ext.refl le) (Same.refl _) h (.bl _)⟩
theorem rd_ixL {ds : List D} {i : Int} {d : D} {K' : PySem.W.Frag} (h : ∃ k : Nat, i = (k : Int) ∧ ds[k]? = some d) (p : P d) (hK : K' = K := by rfl) : RD K (rIxL K') (.lst ds) (.int i) P := fun G H v u Q le a b q => by
  subst hK
  obtain ⟨k, rfl, hk⟩ := h
  cases b
  cases a with
  | lst h1 h2 =>
    obtain ⟨w, e1, e2⟩ := h2.get hk
    exact ⟨_, _, _, w, rfl, rfl, .inl (.inl (le _ _ h1)), atI_nat e1, q w d G H (Ext.refl le) (Same.refl _) p e2⟩
theorem rd_ixT {ds : List D} {i : Int} {d : D} {K' : PySem.W.Frag} (h : ∃ k : Nat, i = (k : Int) ∧ ds[k]? = some d) (p : P d) (hK : K' = K := by rfl) : RD K (rIxT K') (.tup ds) (.int i) P := fun G H v u Q le a b q => by
  subst hK
  obtain ⟨k, rfl, hk⟩ := h
  cases b
  cases a with
  | tup h1 h2 =>
    obtain ⟨w, e1, e2⟩ := h2.get hk
    exact ⟨_, _, _, w, rfl, rfl, le.seqT h1, atI_nat e1, q w d G H (Ext.refl le) (Same.refl _) p e2⟩
/-- a tuple and a tuple -/
theorem rd_catT {xs ys : List D} {K' : PySem.W.Frag} (hl : xs.length + ys.length ≤ 100000) (p : P (.tup (xs ++ ys))) (hK : K' = K := by rfl) : RD K (rCatA K') (.tup xs) (.tup ys) P := fun G H v u Q le a b q => by
  subst hK
  cases a with
  | tup a1 a2 =>
    cases b with
    | tup b1 b2 =>
      refine ⟨_, _, _, _, rfl, rfl, le.seqT a1, le.seqT b1, ?_, fun e => ?_, fun e1 e2 => ?_, fun e1 e2 c hc => ?_⟩
      · rw [a2.length, b2.length]
        exact Nat.le_trans hl (by decide)
      · subst e
        cases a2
        exact q _ _ G H (Ext.refl le) (Same.refl _) p (.tup b1 b2)
      · subst e2
        cases b2
        rw [List.append_nil] at p
        exact q _ _ G H (Ext.refl le) (Same.refl _) p (.tup a1 a2)
      · exact q _ _ _ _ (Ext.new le hc (.tup _)) (same_new hc) p (.tup (.inl (.inl upd_same)) ((a2.mono (Ext.new (F := fun _ => False) le hc _).gg).append (b2.mono (Ext.new (F := fun _ => False) le hc _).gg)))
theorem rd_cat {xs ys : List D} (hl : xs.length + ys.length ≤ 100000) (p : P (.lst (xs ++ ys))) : RD K rCat (.lst xs) (.lst ys) P := fun G H v u Q le a b q => by
  cases a with
  | lst a1 a2 =>
    cases b with
    | lst b1 b2 =>
      refine ⟨_, _, _, _, rfl, rfl, le _ _ a1, le _ _ b1, ?_, fun c hc => ?_⟩
      · rw [a2.length, b2.length]
        exact Nat.le_trans hl (by decide)
      · exact q _ _ _ _ (Ext.new le hc (.lst _)) (same_new hc) p (.lst upd_same ((a2.mono (Ext.new (F := fun _ => False) le hc _).gg).append (b2.mono (Ext.new (F := fun _ => False) le hc _).gg)))
end

/-! ### calls by data -/
section
variable {K : PySem.W.Frag} {P : D → Prop} {r : List V → Hp → VK → Prop}
theorem IsL.one {G : Hp} {vs : List V} {d : D} (h : IsL K G vs [d]) : ∃ v, vs = [v] ∧ Is K G v d := by
  cases h with
  | cons h t =>
    cases t
    exact ⟨_, rfl, h⟩
theorem IsL.two {G : Hp} {vs : List V} {d e : D} (h : IsL K G vs [d, e]) : ∃ v u, vs = [v, u] ∧ Is K G v d ∧ Is K G u e := by
  cases h with
  | cons h t =>
    obtain ⟨u, rfl, k⟩ := t.one
    exact ⟨_, u, rfl, h, k⟩
theorem Is.int_inv {G : Hp} {v : V} {i : Int} (h : Is K G v (.int i)) : v = .int i := by
  cases h
  rfl
theorem Is.bl_inv {G : Hp} {v : V} {b : Bool} (h : Is K G v (.bl b)) : v = .bl b := by
  cases h
  rfl
theorem rc_int {i : Int} (p : P (.int i)) : RC1 K (fun xs H Q => (∃ i, xs = [.int i] ∧ Q (.int i) H) ∨ ∃ k, xs = [.bl k] ∧ Q (.int (if k then 1 else 0)) H) [.int i] P := fun G H vs Q le a q => by
  obtain ⟨v, rfl, k⟩ := a.one
  cases k
  exact .inl ⟨i, rfl, q _ _ G H (Ext.refl le) (Same.refl _) p (.int _)⟩
theorem rc_intB {b : Bool} (p : P (.int (if b then 1 else 0))) : RC1 K (fun xs H Q => (∃ i, xs = [.int i] ∧ Q (.int i) H) ∨ ∃ k, xs = [.bl k] ∧ Q (.int (if k then 1 else 0)) H) [.bl b] P := fun G H vs Q le a q => by
  obtain ⟨v, rfl, k⟩ := a.one
  cases k
  exact .inr ⟨b, rfl, q _ _ G H (Ext.refl le) (Same.refl _) p (.int _)⟩
theorem rc_abs {i : Int} (p : P (.int (if i < 0 then -i else i))) : RC1 K (fun xs H Q => ∃ i, xs = [.int i] ∧ Q (.int (if i < 0 then -i else i)) H) [.int i] P := fun G H vs Q le a q => by
  obtain ⟨v, rfl, k⟩ := a.one
  cases k
  exact ⟨i, rfl, q _ _ G H (Ext.refl le) (Same.refl _) p (.int _)⟩
theorem rc_max2 {i j : Int} (p : P (.int (if j > i then j else i))) : RC1 K (fun xs H Q => ∃ i j, xs = [.int i, .int j] ∧ Q (.int (if j > i then j else i)) H) [.int i, .int j] P := fun G H vs Q le a q => by
  obtain ⟨v, u, rfl, k, l⟩ := a.two
  cases k
  cases l
  exact ⟨i, j, rfl, q _ _ G H (Ext.refl le) (Same.refl _) p (.int _)⟩
theorem rc_min2 {i j : Int} (p : P (.int (if j < i then j else i))) : RC1 K (fun xs H Q => ∃ i j, xs = [.int i, .int j] ∧ Q (.int (if j < i then j else i)) H) [.int i, .int j] P := fun G H vs Q le a q => by
  obtain ⟨v, u, rfl, k, l⟩ := a.two
  cases k
  cases l
  exact ⟨i, j, rfl, q _ _ G H (Ext.refl le) (Same.refl _) p (.int _)⟩
theorem rc_lenL {ds : List D} {K' : PySem.W.Frag} (p : P (.int ds.length)) (hK : K' = K := by rfl) : RC1 K (fun xs H Q => ∃ p ys, xs = [.ref p] ∧ (SqL K' H p ys ∨ SqT K' H p ys) ∧ Q (.int ys.length) H) [.lst ds] P := fun G H vs Q le a q => by
  subst hK
  obtain ⟨v, rfl, k⟩ := a.one
  cases k with
  | lst h1 h2 => exact ⟨_, _, rfl, .inl (.inl (.inl (le _ _ h1))), by rw [h2.length]; exact q _ _ G H (Ext.refl le) (Same.refl _) p (.int _)⟩
theorem rc_lenT {ds : List D} {K' : PySem.W.Frag} (p : P (.int ds.length)) (hK : K' = K := by rfl) : RC1 K (fun xs H Q => ∃ p ys, xs = [.ref p] ∧ (SqL K' H p ys ∨ SqT K' H p ys) ∧ Q (.int ys.length) H) [.tup ds] P := fun G H vs Q le a q => by
  subst hK
  obtain ⟨v, rfl, k⟩ := a.one
  cases k with
  | tup h1 h2 => exact ⟨_, _, rfl, .inr (le.seqT h1), by rw [h2.length]; exact q _ _ G H (Ext.refl le) (Same.refl _) p (.int _)⟩
theorem rc_gcd {i j : Int} (p : P (.int ((Nat.gcd i.natAbs j.natAbs : Nat) : Int))) : RC1 K rGcd [.int i, .int j] P := fun G H vs Q le a q => by
  obtain ⟨v, u, rfl, k, l⟩ := a.two
  cases k
  cases l
  exact ⟨i, j, rfl, q _ _ G H (Ext.refl le) (Same.refl _) p (.int _)⟩
theorem rc_repr {x : D} {p : PyData} {K' : PySem.W.Frag} (e : x.py = some p) (s : p.showable = true) (nd : p.hasDict = false) (hz : p.shown.length ≤ sizeLine) (hd : p.depth ≤ 60) (h : P (.str p.shown)) (hK : K' = K := by rfl) : RC1 K (rRepr K') [x] P := fun G H vs Q le a q => by
  subst hK
  obtain ⟨v, rfl, k⟩ := a.one
  exact ⟨v, p, rfl, k.dp le e, s, nd, hz, hd, q _ _ G H (Ext.refl le) (Same.refl _) h (.str _)⟩
/-- tuple(list), tuple(tuple) -/
theorem rc_tupL {ds : List D} {K' : PySem.W.Frag} (p : P (.tup ds)) (hK : K' = K := by rfl) : RC1 K (fun xs H Q => ∃ p ys, xs = [.ref p] ∧ ((SqL K' H p ys ∧ ∀ l, H l = none → Q (.ref l) (upd H l (.tup ys))) ∨ (SqT K' H p ys ∧ Q (.ref p) H))) [.lst ds] P := fun G H vs Q le a q => by
  subst hK
  obtain ⟨v, rfl, k⟩ := a.one
  cases k with
  | lst h1 h2 =>
    refine ⟨_, _, rfl, .inl ⟨.inl (.inl (le _ _ h1)), fun l hl => ?_⟩⟩
    exact q _ _ _ _ (Ext.new le hl (.tup _)) (same_new hl) p (.tup (.inl (.inl upd_same)) (h2.mono (Ext.new (F := fun _ => False) le hl _).gg))
theorem rc_tupT {ds : List D} {K' : PySem.W.Frag} (p : P (.tup ds)) (hK : K' = K := by rfl) : RC1 K (fun xs H Q => ∃ p ys, xs = [.ref p] ∧ ((SqL K' H p ys ∧ ∀ l, H l = none → Q (.ref l) (upd H l (.tup ys))) ∨ (SqT K' H p ys ∧ Q (.ref p) H))) [.tup ds] P := fun G H vs Q le a q => by
  subst hK
  obtain ⟨v, rfl, k⟩ := a.one
  cases k with
  | tup h1 h2 => exact ⟨_, _, rfl, .inr ⟨le.seqT h1, q _ _ G H (Ext.refl le) (Same.refl _) p (.tup h1 h2)⟩⟩
theorem IsL.bls : ∀ {vs : List V} {bs : List Bool} {G : Hp}, IsL K G vs (bs.map .bl) → vs = bs.map V.bl
  | _, [], _, h => by
    cases h
    rfl
  | _, b :: bs, G, h => by
    cases h with
    | cons h t =>
      cases h
      rw [IsL.bls t]
      rfl
theorem rc_all {bs : List Bool} {K' : PySem.W.Frag} (p : P (.bl (bs.all id))) (hK : K' = K := by rfl) : RC1 K (rAll K') [.lst (bs.map .bl)] P := fun G H vs Q le a q => by
  subst hK
  obtain ⟨v, rfl, k⟩ := a.one
  cases k with
  | lst h1 h2 =>
    have e := h2.bls
    subst e
    exact ⟨_, bs, rfl, .inl (.inl (le _ _ h1)), q _ _ G H (Ext.refl le) (Same.refl _) p (.bl _)⟩
theorem rc_any {bs : List Bool} {K' : PySem.W.Frag} (p : P (.bl (bs.any id))) (hK : K' = K := by rfl) : RC1 K (rAny K') [.lst (bs.map .bl)] P := fun G H vs Q le a q => by
  subst hK
  obtain ⟨v, rfl, k⟩ := a.one
  cases k with
  | lst h1 h2 =>
    have e := h2.bls
    subst e
    exact ⟨_, bs, rfl, .inl (.inl (le _ _ h1)), q _ _ G H (Ext.refl le) (Same.refl _) p (.bl _)⟩
end
section
variable {C : Fx} {ρ : List Slot} {ta : TA}
/-- list(..) makes a new list -/
theorem en_list {K' : PySem.W.Frag} {P : List D → List Slot → Prop} (h : EvA C ta ρ fun ds ρ1 => ∃ xs, (ds = [.lst xs] ∨ ds = [.tup xs]) ∧ P xs ρ1) (hK : K' = C.K := by rfl) : EvN C (tCB (fun xs H Q => ∃ p ys, xs = [.ref p] ∧ (SqL K' H p ys ∨ SqT K' H p ys) ∧ ∀ l, H l = none → Q (.ref l) (upd H l (.lst ys))) ta) ρ P := fun σ G H Q S q => by
  subst hK
  refine h σ G H _ S fun vs ds G1 H1 ρ1 s1 p1 k1 => ?_
  obtain ⟨xs, e, p1⟩ := p1
  have go : ∀ {ys : List V}, IsL C.K G1 ys xs → ∀ l, H1 l = none → Q (.ref l) (upd H1 l (.lst ys)) := fun {ys} k l hl => by
    have n0 : H l = none := by
      cases z : H l with
      | none => rfl
      | some o =>
        obtain ⟨u, e⟩ := s1.ext.th l o z
        rw [hl] at e
        cases e
    exact q l ys xs G1 _ ρ1 (s1.trans (s1.st.keep (Ext.newM s1.st.le hl (.lst ys)))) p1 n0 (s1.st.le.free hl) upd_same k
  rcases e with rfl | rfl
  · obtain ⟨v, rfl, k⟩ := k1.one
    cases k with
    | lst h1 h2 => exact ⟨_, _, rfl, .inl (.inl (.inl (s1.st.le _ _ h1))), go h2⟩
  · obtain ⟨v, rfl, k⟩ := k1.one
    cases k with
    | tup h1 h2 => exact ⟨_, _, rfl, .inr (s1.st.le.seqT h1), go h2⟩
/-! ### slices -/
theorem eo_none {P : Option Int → List Slot → Prop} (h : P none ρ) : EvO C tNoPart ρ P := fun σ G H Q S q => q none G H ρ (Stp.refl S) h
theorem eo_some {te : TE} {P : Option Int → List Slot → Prop} (h : Ev C te ρ fun d ρ1 => ∃ i, d = .int i ∧ P (some i) ρ1) : EvO C (tPart te) ρ P := fun σ G H Q S q => by
  refine h σ G H _ S fun v d G1 H1 ρ1 s1 p1 k1 => ?_
  obtain ⟨i, rfl, p1⟩ := p1
  cases k1
  exact ⟨i, rfl, q _ G1 H1 ρ1 s1 p1⟩
end
end DL
namespace DL
open PySem PySem.Spec PyProof.Rows L2
variable [TabT] [CacT]

/-! ### one rule a sign -/
section
variable {X : Cx}
abbrev rStrAdd : R2 := fun x y H Q => ∃ i j, x = .str i ∧ y = .str j ∧ i.length + j.length ≤ sizeLine ∧ Q (.str (i ++ j)) H
abbrev rPlus (K : PySem.W.Frag) : R2 := fun x y H Q => (rI0 fun i j => .int (i + j)) x y H Q ∨ (rCat x y H Q ∨ (rCatA K x y H Q ∨ rStrAdd x y H Q))
theorem op_plus : OpR X (binaryOp .Add) (rPlus X.K) := OpR.or op_add (OpR.or op_cat (OpR.or op_catA op_add_str))
abbrev CDivG (i j : Int) : Prop := j ≠ 0 ∧ j.natAbs.log2 < 9000
theorem op_fdivG : OpR X (binaryOp .FloorDiv) (rI CDivG fun i j => .int (i.fdiv j)) := opI fun i j _ _ _ _ _ hc q => floordiv_int hc.1 q (.inl (PyProof.noPylong_of_log2 hc.2))
abbrev rTimes (K : PySem.W.Frag) : R2 := fun x y H Q => (rI CMulW fun i j => .int (i * j)) x y H Q ∨ (rRep x y H Q ∨ rRepT K x y H Q)
theorem op_times : OpR X (binaryOp .Mult) (rTimes X.K) := OpR.or op_mulW (OpR.or op_rep op_repT)
abbrev CPowG (i j : Int) : Prop := 0 ≤ j ∧ (Builtin.Int.intBits i : Int) * j ≤ 2 ^ 27
theorem op_powG : OpR X (binaryOp .Pow) (rI CPowG fun i j => .int (i ^ j.toNat)) := opI fun i j _ _ _ _ _ hc q => pow_int hc.1 hc.2 q
abbrev rCut (K : PySem.W.Frag) : V → Option Int → Option Int → Hp → VK → Prop := fun x lo hi H Q => rSlL K x lo hi H Q ∨ (rSlA K x lo hi H Q ∨ rSlS x lo hi H Q)
theorem sl_cut : SlR X (rCut X.K) := SlR.or sl_list (SlR.or sl_tupA sl_str)
end

section
variable {K : PySem.W.Frag} {P : D → Prop}
theorem rd_or1 {r r' : R2} {x y : D} (h : RD K r x y P) : RD K (fun x y H Q => r x y H Q ∨ r' x y H Q) x y P := fun G H v u Q le a b q => .inl (h G H v u Q le a b q)
theorem rd_or2 {r r' : R2} {x y : D} (h : RD K r' x y P) : RD K (fun x y H Q => r x y H Q ∨ r' x y H Q) x y P := fun G H v u Q le a b q => .inr (h G H v u Q le a b q)
theorem rd_strAdd {x y : Str} (hl : x.length + y.length ≤ 100000) (p : P (.str (x ++ y))) : RD K rStrAdd (.str x) (.str y) P := fun G H v u Q le a b q => by
  cases a
  cases b
  exact ⟨x, y, rfl, rfl, Nat.le_trans hl (by decide), q _ _ G H (Ext.refl le) (Same.refl _) p (.str _)⟩
theorem plus_int {i j : Int} (p : P (.int (i + j))) : RD K (rPlus K) (.int i) (.int j) P := rd_or1 (rd_I0 (f := fun i j => i + j) p)
theorem plus_lst {xs ys : List D} (hl : xs.length + ys.length ≤ 100000) (p : P (.lst (xs ++ ys))) : RD K (rPlus K) (.lst xs) (.lst ys) P := rd_or2 (rd_or1 (rd_cat hl p))
theorem plus_tup {xs ys : List D} (hl : xs.length + ys.length ≤ 100000) (p : P (.tup (xs ++ ys))) : RD K (rPlus K) (.tup xs) (.tup ys) P := rd_or2 (rd_or2 (rd_or1 (rd_catT hl p)))
theorem plus_str {x y : Str} (hl : x.length + y.length ≤ 100000) (p : P (.str (x ++ y))) : RD K (rPlus K) (.str x) (.str y) P := rd_or2 (rd_or2 (rd_or2 (rd_strAdd hl p)))
theorem times_int {i j : Int} (hc : CMulW i j) (p : P (.int (i * j))) : RD K (rTimes K) (.int i) (.int j) P := rd_or1 (rd_I hc p)
/-- (x, ..) * n, n two or more -/
theorem rd_repT {xs : List D} {n : Int} (h0 : xs ≠ []) (h1 : 2 ≤ n) (h2 : n ≤ 1000) (h3 : xs.length ≤ 1000) (p : P (.tup (List.replicate n.toNat xs).flatten)) : RD K (rRepT K) (.tup xs) (.int n) P := fun G H v u Q le a b q => by
  cases b
  cases a with
  | @tup c0 ws _ a1 a2 =>
    refine ⟨_, n, ws, rfl, rfl, le.seqT a1, fun e => h0 ?_, h1, h2, by rw [a2.length]; exact h3, fun c hc => ?_⟩
    · subst e
      cases a2
      rfl
    · have ex := Ext.new (F := fun _ => False) le hc (.tup (List.replicate n.toNat ws).flatten)
      have k := a2.mono ex.gg
      refine q _ _ _ _ ex (same_new hc) p (.tup (.inl (.inl upd_same)) ?_)
      generalize upd G c (.tup (List.replicate n.toNat ws).flatten) = G' at k
      induction n.toNat with
      | zero => exact .nil
      | succ m ih =>
        rw [List.replicate_succ, List.replicate_succ, List.flatten_cons, List.flatten_cons]
        exact k.append ih
theorem times_tup {xs : List D} {n : Int} (h0 : xs ≠ []) (h1 : 2 ≤ n) (h2 : n ≤ 1000) (h3 : xs.length ≤ 1000) (p : P (.tup (List.replicate n.toNat xs).flatten)) : RD K (rTimes K) (.tup xs) (.int n) P := rd_or2 (rd_or2 (rd_repT h0 h1 h2 h3 p))
theorem ix_lst {ds : List D} {i : Int} {d : D} (h : ∃ k : Nat, i = (k : Int) ∧ ds[k]? = some d) (p : P d) : RD K (rIx K) (.lst ds) (.int i) P := fun G H v u Q le a b q => .inl (rd_ixL h p rfl G H v u Q le a b q)
theorem ix_tupl {ds : List D} {i : Int} {d : D} (h : ∃ k : Nat, i = (k : Int) ∧ ds[k]? = some d) (p : P d) : RD K (rIx K) (.tup ds) (.int i) P := fun G H v u Q le a b q => .inr (.inl (rd_ixT h p rfl G H v u Q le a b q))
def cutD (ds : List D) (lo hi : Option Int) : List D := (ds.drop (HT.sIx ds.length 0 lo)).take (HT.sIx ds.length ds.length hi - HT.sIx ds.length 0 lo)
theorem IsL.cut {G : Hp} {vs : List V} {ds : List D} (h : IsL K G vs ds) (lo hi : Option Int) : IsL K G (cutV vs lo hi) (cutD ds lo hi) := by
  unfold cutV cutD
  rw [h.length]
  exact (h.drop _).take _
end
section
variable {C : Fx} {ρ : List Slot} {P : PD} {te : TE} {tl th : TO} {K' : PySem.W.Frag}
/-- x[lo:hi] -/
theorem ev_cut (h : Ev C te ρ fun x ρ1 => EvO C tl ρ1 fun l ρ2 => EvO C th ρ2 fun u ρ3 => (∃ ds, x = .lst ds ∧ P (.lst (cutD ds l u)) ρ3) ∨ (∃ ds, x = .tup ds ∧ P (.tup (cutD ds l u)) ρ3) ∨ ∃ z, x = .str z ∧ z.length ≤ 100000 ∧ P (.str (cutS z l u)) ρ3) (hK : K' = C.K := by rfl) : Ev C (tSl (rCut K') te tl th) ρ P := fun σ G H Q S q => by
  subst hK
  refine h σ G H _ S fun v x G1 H1 ρ1 s1 h1 i1 => h1 σ G1 H1 _ s1.st fun l G2 H2 ρ2 s2 h2 => h2 σ G2 H2 _ s2.st fun u G3 H3 ρ3 s3 h3 => ?_
  have i3 := (i1.mono s2.ext.gg).mono s3.ext.gg
  have s := (s1.trans s2).trans s3
  rcases h3 with ⟨ds, rfl, p⟩ | ⟨ds, rfl, p⟩ | ⟨z, rfl, hz, p⟩
  · cases i3 with
    | @lst _ ws _ k1 k2 =>
      refine .inl ⟨_, _, rfl, .inl (.inl (s3.st.le _ _ k1)), fun c hc => ?_⟩
      have ex := Ext.new (F := fun _ => False) s3.st.le hc (.lst (cutV ws l u))
      exact q _ _ _ _ ρ3 (s.trans (s3.st.keep ex)) p (.lst upd_same ((k2.mono ex.gg).cut l u))
  · cases i3 with
    | @tup _ ws _ k1 k2 =>
      refine .inr (.inl ⟨_, _, rfl, s3.st.le.seqT k1, fun e => ?_, fun e c hc => ?_⟩)
      · have e2 : cutD ds l u = ds := by
          unfold cutD
          rw [k2.length] at e
          rw [e.1, e.2]
          simp
        rw [e2] at p
        exact q _ _ G3 H3 ρ3 s p (.tup k1 k2)
      · have ex := Ext.new (F := fun _ => False) s3.st.le hc (.tup (cutV ws l u))
        exact q _ _ _ _ ρ3 (s.trans (s3.st.keep ex)) p (.tup (.inl (.inl upd_same)) ((k2.mono ex.gg).cut l u))
  · cases i3
    exact .inr (.inr ⟨z, rfl, Nat.le_trans hz (by decide), q _ _ G3 H3 ρ3 s p (.str _)⟩)
end

/-! ### isinstance -/
section
variable {K : PySem.W.Frag} {P : D → Prop}
def tyD : D → Option String
  | .non => some "NoneType"
  | .bl _ => some "bool"
  | .int _ => some "int"
  | .str _ => some "str"
  | .tup _ => some "tuple"
  | .lst _ => some "list"
  | .dic _ => some "dict"
  | _ => none
theorem SqT.ty {H : Hp} {a : Addr} {xs : List V} (h : SqT K H a xs) : TyX K H (.ref a) (.type "tuple") := by
  rcases h with (h | ⟨o, h⟩) | ⟨o, its, n, h1, h2, _⟩
  · exact .base (.tup h)
  · exact .fTuple h
  · exact .kTuple h1 h2
theorem Is.ty {G H : Hp} (le : Lo G H) {v : V} {d : D} {n : String} (h : Is K G v d) (e : tyD d = some n) : TyX K H v (.type n) := by
  cases h with
  | non =>
    cases e
    exact .base .non
  | bl b =>
    cases e
    exact .base (.bl b)
  | int i =>
    cases e
    exact .base (.int i)
  | str x =>
    cases e
    exact .base (.str x)
  | val v => cases e
  | tup h1 h2 =>
    cases e
    exact SqT.ty (le.seqT h1)
  | lst h1 h2 =>
    cases e
    exact .base (.lst (le _ _ h1))
  | dic h1 h2 =>
    cases e
    exact .base (.dK (le _ _ h1))
  | dct _ _ => cases e
  | ins _ _ => cases e
  | exc _ _ _ => cases e
  | scr _ => cases e
/-- isinstance(x, a built-in class) -/
theorem rc_isi {x : D} {n m : String} {b : Bool} {K' : PySem.W.Frag} (e : tyD x = some n) (k : kitB n m = some b) (h : P (.bl b)) (hK : K' = K := by rfl) : RC1 K (rIsi K') [x, .val (.ty m)] P := fun G H vs Q le a q => by
  subst hK
  obtain ⟨v, u, rfl, k1, k2⟩ := a.two
  cases k2
  exact ⟨v, .ty m, _, _, b, rfl, .ty m, k1.ty le e, kit_ty k, q _ _ G H (Ext.refl le) (Same.refl _) h (.bl _)⟩
end

/-! ### calls by short words -/
/-- the module's name x is a def with this promise -/
def Cal (P : Program) (w : World) (K : PySem.W.Frag) (mg : Str → Option Value) (base : Heap) (CX : CXT) (k : Nat) (x : Str) (ps : List Str) (dvs : List V) (sp : Sp) : Prop :=
  ∃ f fd ds, FnG P w K mg base CX k f fd ps sp ∧ mg x = some (.ref f) ∧ PySem.W.keepIn K (.ref f) = true ∧ Binds K fd ps ds ∧ Vals dvs ds
section
variable {X : Cx} {CX : CXT} {k : Nat} {ps : List Str} {sp : Sp} {dvs : List V} {E : XK} {x : Str} {p pos : Pos} {e : Expr} {es : List Expr} {t : TA}
theorem pe_cal (h : Cal X.prog X.w X.K X.mg X.base CX k x ps dvs sp) (gd : X.A.guards = some []) (hr : Room k X.A) (hx : Passes CX X E) (ha : PA X (e :: es) t) (hg : Gl X x := by rfl) (hdb : (x == ("__debug__" : Str)) = false := by decide) (he : starEach (e :: es) X.env = (false, eval e X.env) :: starEach es X.env := by rfl) (hpl : (backTo pos (starEach es X.env)).any (·.1) = false := by rfl) :
    PE X (.Call (.Name x p) (e :: es) [] pos) (tCall sp dvs E t) := by
  obtain ⟨f, fd, ds, F, hm, hk, hb, hd⟩ := h
  exact pe_g gd F hr hg hm hk hb hd hx ha hdb he hpl
theorem pe_cal0 (h : Cal X.prog X.w X.K X.mg X.base CX k x ps dvs sp) (gd : X.A.guards = some []) (hr : Room k X.A) (hx : Passes CX X E) (hg : Gl X x := by rfl) (hdb : (x == ("__debug__" : Str)) = false := by decide) : PE X (.Call (.Name x p) [] [] pos) (tCall sp dvs E tNil) := by
  obtain ⟨f, fd, ds, F, hm, hk, hb, hd⟩ := h
  exact pe_g0 gd F hr hg hm hk hb hd hx hdb
end
end DL
namespace DL
open PySem PySem.Spec PyProof.Rows L2
variable [TabT] [CacT]

/-- no name of a built-in is bound by the text -/
structure Bt (mg : Str → Option Value) : Prop where
  b_len : mg "len" = none
  b_abs : mg "abs" = none
  b_max : mg "max" = none
  b_min : mg "min" = none
  b_all : mg "all" = none
  b_any : mg "any" = none
  b_isinstance : mg "isinstance" = none
  b_repr : mg "repr" = none
  b_int : mg "int" = none
  b_bool : mg "bool" = none
  b_str : mg "str" = none
  b_tuple : mg "tuple" = none
  b_list : mg "list" = none
  b_dict : mg "dict" = none
  b_range : mg "range" = none
  b_zip : mg "zip" = none
  b_enumerate : mg "enumerate" = none
  b_set : mg "set" = none
  b_sorted : mg "sorted" = none
  b_sum : mg "sum" = none
theorem bt_len : bootBuiltins "len" = some (.builtin "len") := by decide +kernel
theorem bt_abs : bootBuiltins "abs" = some (.builtin "abs") := by decide +kernel
theorem bt_max : bootBuiltins "max" = some (.builtin "max") := by decide +kernel
theorem bt_min : bootBuiltins "min" = some (.builtin "min") := by decide +kernel
theorem bt_all : bootBuiltins "all" = some (.builtin "all") := by decide +kernel
theorem bt_any : bootBuiltins "any" = some (.builtin "any") := by decide +kernel
theorem bt_isinstance : bootBuiltins "isinstance" = some (.builtin "isinstance") := by decide +kernel
theorem bt_repr : bootBuiltins "repr" = some (.builtin "repr") := by decide +kernel
theorem bt_int : bootBuiltins "int" = some (.type "int") := by decide +kernel
theorem bt_bool : bootBuiltins "bool" = some (.type "bool") := by decide +kernel
theorem bt_str : bootBuiltins "str" = some (.type "str") := by decide +kernel
theorem bt_tuple : bootBuiltins "tuple" = some (.type "tuple") := by decide +kernel
theorem bt_list : bootBuiltins "list" = some (.type "list") := by decide +kernel
theorem bt_dict : bootBuiltins "dict" = some (.type "dict") := by decide +kernel

section
variable {K : PySem.W.Frag} {P : D → Prop}
theorem ru_neg {i : Int} (p : P (.int (-i))) : RU1 K (rU fun i => .int (-i)) (.int i) P := fun G H v Q le a q => by
  cases a
  exact ⟨i, rfl, q _ _ G H (Ext.refl le) (Same.refl _) p (.int _)⟩
theorem rd_isN {x : D} {b : Bool} (h : ∀ (G : Hp) (v : V), Is K G v x → decide (v = .non) = b) (p : P (.bl b)) : RD K (fun x y H Q => y = .non ∧ Q (.bl (decide (x = .non))) H) x .non P := fun G H v u Q le a c q => by
  cases c
  refine ⟨rfl, ?_⟩
  rw [h G v a]
  exact q _ _ G H (Ext.refl le) (Same.refl _) p (.bl _)
theorem rd_notN {x : D} {b : Bool} (h : ∀ (G : Hp) (v : V), Is K G v x → decide (v = .non) = b) (p : P (.bl (!b))) : RD K (fun x y H Q => y = .non ∧ Q (.bl (!decide (x = .non))) H) x .non P := fun G H v u Q le a c q => by
  cases c
  refine ⟨rfl, ?_⟩
  rw [h G v a]
  exact q _ _ G H (Ext.refl le) (Same.refl _) p (.bl _)
theorem isN_non {G : Hp} {v : V} (h : Is K G v .non) : decide (v = .non) = true := by
  cases h
  rfl
theorem isN_tup {G : Hp} {v : V} {ds : List D} (h : Is K G v (.tup ds)) : decide (v = .non) = false := by
  cases h
  rfl
theorem isN_lst {G : Hp} {v : V} {ds : List D} (h : Is K G v (.lst ds)) : decide (v = .non) = false := by
  cases h
  rfl
/-- len of a text, a list, a tuple -/
abbrev rLenA (K : PySem.W.Frag) : List V → Hp → VK → Prop := fun xs H Q => (∃ p ys, xs = [.ref p] ∧ (SqL K H p ys ∨ SqT K H p ys) ∧ Q (.int ys.length) H) ∨ (∃ z, xs = [.str z] ∧ z.length ≤ sizeLine ∧ Q (.int z.length) H)
theorem len_lst {ds : List D} (p : P (.int ds.length)) : RC1 K (rLenA K) [.lst ds] P := fun G H vs Q le a q => .inl (rc_lenL p rfl G H vs Q le a q)
theorem len_tup {ds : List D} (p : P (.int ds.length)) : RC1 K (rLenA K) [.tup ds] P := fun G H vs Q le a q => .inl (rc_lenT p rfl G H vs Q le a q)
theorem len_str {z : Str} (hz : z.length ≤ 100000) (p : P (.int z.length)) : RC1 K (rLenA K) [.str z] P := fun G H vs Q le a q => by
  obtain ⟨v, rfl, k⟩ := a.one
  cases k
  exact .inr ⟨z, rfl, Nat.le_trans hz (by decide), q _ _ G H (Ext.refl le) (Same.refl _) p (.int _)⟩
end
section
variable {C : Fx} {ρ : List Slot} {ta : TA} {te : TE}
/-- list(range(n)) -/
theorem en_listRg {P : List D → List Slot → Prop} (h : Ev C te ρ fun d ρ1 => ∃ n : Nat, d = .int (n : Int) ∧ n ≤ 100000 ∧ P (intsD 0 n) ρ1) : EvN C (tLstRg (tRg1 te)) ρ P := fun σ G H Q S q => by
  refine h σ G H _ S fun v d G1 H1 ρ1 s1 p1 k1 => ?_
  obtain ⟨n, rfl, hn, p1⟩ := p1
  cases k1
  refine ⟨n, rfl, ⟨by omega, by omega, by omega, by omega, by omega⟩, fun l hl => ?_⟩
  have n0 : H l = none := by
    cases z : H l with
    | none => rfl
    | some o =>
      obtain ⟨u, e⟩ := s1.ext.th l o z
      rw [hl] at e
      cases e
  refine q l (rgV 0 n) (intsD 0 n) G1 _ ρ1 (s1.trans (s1.st.keep (Ext.newM s1.st.le hl _))) p1 n0 (s1.st.le.free hl) upd_same ?_
  have key : ∀ (m : List Nat), IsL C.K G1 (m.map fun (i : Nat) => V.int (0 + (i : Int))) (m.map fun (k : Nat) => D.int (0 + (k : Int))) := fun m => by
    induction m with
    | nil => exact .nil
    | cons x m ih => exact .cons (.int _) ih
  have := key (List.range n)
  unfold rgV intsD
  rw [show ((n : Int) - 0).toNat = n by omega]
  exact this
end

/-- a def of the text, with its defaults -/
theorem okGD {P : Program} {w : World} {K : PySem.W.Frag} {mg : Str → Option Value} {base : Heap} {CX : CXT} {x qual : Str} {st : Stmt} {dvs : List V} {f : Addr} {fd : FuncData} {N ps : List Str} {k : Nat} {sp : Sp} (F : FunD K x qual (defArgs st) (defBody st) (defScope st) dvs [] f fd) (S : FnScope N ps (defScope st)) (len : ∀ vs H Q E, sp vs H Q E → vs.length = ps.length)
    (hb : ∀ (cdv : Value) (A : Around) (outer : List Env) (s : Shared) (H : Hp) (vs : List V) (Q : VK) (E : XK), A.guards = some [] → Room k (A.deeper (envOfC qual (defScope st) s.heap.objs.size f cdv)) → sp vs H Q E →
      ∃ t, PSs (cxOf CX P w K mg base N qual (defScope st) f cdv A outer s H E) (defBody st) t ∧ t { nx := fun _ H' => Q .non H', rt := Q } (L2.start N vs) H) : FnG P w K mg base CX (k + 1) f fd ps sp := by
  obtain ⟨oc, od, dV, kV, doc, pm, an, cdv, ct, osl, rfl, lk, hcd, _, _⟩ := F.ex
  exact fn_g lk hcd S len fun A outer s H vs Q E gd hr h => hb cdv A outer s H vs Q E gd hr h
/-- a promise over data has its arguments' number -/
theorem spD_len {K : PySem.W.Frag} {f : FS} {n : Nat} (h : ∀ ds R Z, f ds R Z → ds.length = n) : ∀ vs H Q E, spD K f vs H Q E → vs.length = n := fun vs H Q E ⟨G, ds, R, Z, _, k, hf, _⟩ => by
  rw [k.length]
  exact h ds R Z hf
theorem spP_len {K : PySem.W.Frag} {f : FP} {n : Nat} (h : ∀ k ds R Z, f k ds R Z → ds.length + 1 = n) : ∀ vs H Q E, spP K f vs H Q E → vs.length = n := fun vs H Q E ⟨a, ws, G, ds, k, R, Z, e, _, _, _, kk, hf, _⟩ => by
  rw [e, List.length_cons, kk.length]
  exact h k ds R Z hf
end DL
namespace DL
open PySem PySem.Spec PyProof.Rows L2
variable [TabT] [CacT]
theorem tup_times1 (l : Addr) (items : Array Value) (n : Nat) (dd : Option Addr) (sl : Array (Option Value)) (u : Tok) :
    Meets (Builtin.«tuple.__mul__» ⟨[.ref l, .int 1 u], []⟩) (fun _ R s => s.heap.get? l = some { cls := .type "tuple", dict := dd, data := .seq items n, slots := sl } ∧ R (.ok (.ret (.ref l))) s) :=
  .of_wp fun prog w A R s h => by
    obtain ⟨hp, g, d, tk, os⟩ := s
    obtain ⟨hl, h⟩ := h
    have f1 := AutoSeq1.idx_int
    wp_walk using wpAny_loadPart' hl
    exact ⟨_, rfl, h⟩
theorem tup_times0 (l : Addr) (items : Array Value) (n : Nat) (dd : Option Addr) (sl : Array (Option Value)) (u : Tok) (ne : items.isEmpty = false) :
    Meets (Builtin.«tuple.__mul__» ⟨[.ref l, .int 0 u], []⟩) (fun _ R s => s.heap.get? l = some { cls := .type "tuple", dict := dd, data := .seq items n, slots := sl } ∧
      R (.ok (.ret (Value.ref s.heap.objs.size))) { s with heap := s.heap.push { cls := Value.type "tuple", data := Data.seq #[] }, toks := s.toks }) :=
  .of_wp fun prog w A R s h => by
    obtain ⟨hp, g, d, tk, os⟩ := s
    obtain ⟨hl, h⟩ := h
    have f1 := AutoSeq1.idx_int
    have c1 : (items.isEmpty || (0 : Int) == 1) = false := by rw [ne]; rfl
    wp_walk using wpAny_loadPart' hl
    repeat (first
      | (refine wpAny_ite_false (decide_eq_false (by rw [c1]; exact Bool.false_ne_true)) ?_; wp_walk using wpAny_loadPart' hl))
    exact ⟨_, rfl, h⟩
def rRep01 (K : PySem.W.Frag) : R2 := fun x y H Q => ∃ l k xs, x = .ref l ∧ y = .int k ∧ SqT K H l xs ∧ xs ≠ [] ∧ ((k = 1 ∧ Q (.ref l) H) ∨ (k = 0 ∧ ∀ p, H p = none → Q (.ref p) (upd H p (.tup []))))
theorem op_rep01 {X : Cx} : OpR X (binaryOp .Mult) (rRep01 X.K) := by
  intro pins s σ H x y v u Q I rx ry h
  obtain ⟨l, k, xs, rfl, rfl, hT, hne, h⟩ := h
  cases rx
  obtain ⟨t, rfl⟩ := ry
  obtain ⟨its, r, ⟨⟨cls, dd, data, sl⟩, ho, hc, n, hd⟩, hs⟩ := I.tuple hT
  simp only at hc hd
  subst hc hd
  have ie : its.toArray.isEmpty = false := by
    cases its with
    | nil =>
      cases r
      exact absurd rfl hne
    | cons a b => rfl
  rcases h with ⟨rfl, q⟩ | ⟨rfl, q⟩
  · exact wpAny_binaryOp_repeat_ref (T := "tuple") (U := "int") (by decide) ⟨_, ho, rfl⟩ (fun s' => typeIs_int s' 1 t) noFill_tuple_mul F.fills_int_mul F.slot_int_rmul repeat_tuple F.slot_int_index.lookup
      (call_meets F.slot_int_rmul (typeIs_int s 1 t) F.entry_int_rmul (F.args_int_rmul_2 _ _) (int_rmul_tuple 1 t l its.toArray n dd sl)
        ⟨ho, rfl, ⟨_, ho, rfl⟩, call_meets F.slot_tuple_mul ⟨_, ho, rfl⟩ F.entry_tuple_mul (F.args_tuple_mul_2 _ _) (tup_times1 l its.toArray n dd sl t) ⟨ho, .ref l, H, I, rfl, q⟩⟩)
  · exact wpAny_binaryOp_repeat_ref (T := "tuple") (U := "int") (by decide) ⟨_, ho, rfl⟩ (fun s' => typeIs_int s' 0 t) noFill_tuple_mul F.fills_int_mul F.slot_int_rmul repeat_tuple F.slot_int_index.lookup
      (call_meets F.slot_int_rmul (typeIs_int s 0 t) F.entry_int_rmul (F.args_int_rmul_2 _ _) (int_rmul_tuple 0 t l its.toArray n dd sl)
        ⟨ho, rfl, ⟨_, ho, rfl⟩, call_meets F.slot_tuple_mul ⟨_, ho, rfl⟩ F.entry_tuple_mul (F.args_tuple_mul_2 _ _) (tup_times0 l its.toArray n dd sl t ie)
          ⟨ho, .ref s.heap.objs.size, _, I.laid (t' := s.toks) (o := .tup []) (fun b ob q => Heap.get?_push_of_some _ q) (Nat.le_refl _) ⟨Nat.zero_le _, [], .nil, IsTup.new _ _⟩, rfl, q _ (I.hok.fresh (Nat.le_refl _))⟩⟩)
abbrev rTimesA (K : PySem.W.Frag) : R2 := fun x y H Q => rTimes K x y H Q ∨ rRep01 K x y H Q
theorem op_timesA {X : Cx} : OpR X (binaryOp .Mult) (rTimesA X.K) := OpR.or op_times op_rep01
section
variable {K : PySem.W.Frag} {P : D → Prop}
theorem mul_int {i j : Int} (hc : CMulW i j) (p : P (.int (i * j))) : RD K (rTimesA K) (.int i) (.int j) P := rd_or1 (times_int hc p)
/-- (x, ..) * n -/
theorem mul_tup {xs : List D} {n : Nat} (h0 : xs ≠ []) (h2 : n ≤ 1000) (h3 : xs.length ≤ 1000) (p : P (.tup (List.replicate n xs).flatten)) : RD K (rTimesA K) (.tup xs) (.int (n : Int)) P := by
  by_cases h1 : 2 ≤ n
  · exact rd_or1 (times_tup h0 (by omega) (by omega) h3 (by simpa using p))
  · refine rd_or2 fun G H v u Q le a b q => ?_
    cases b
    cases a with
    | @tup c ws _ a1 a2 =>
      refine ⟨c, n, ws, rfl, rfl, le.seqT a1, fun e => h0 ?_, ?_⟩
      · subst e
        cases a2
        rfl
      · by_cases hn : n = 1
        · subst hn
          exact .inl ⟨rfl, q _ _ G H (Ext.refl le) (Same.refl _) p (by simpa using Is.tup a1 a2)⟩
        · have hn : n = 0 := by omega
          subst hn
          exact .inr ⟨rfl, fun d hd => q _ _ _ _ (Ext.new le hd (.tup [])) (same_new hd) p (.tup (.inl (.inl upd_same)) .nil)⟩
end
end DL
namespace DL
open PySem PySem.Spec PyProof.Rows L2
variable [TabT] [CacT]

/-! ### the script -/
section
variable {K : PySem.W.Frag} {P : D → Prop}
theorem len_scr {ns : List Int} (p : P (.int ns.length)) : RC1 K (rLenA K) [.scr ns] P := fun G H vs Q le a q => by
  obtain ⟨v, rfl, k⟩ := a.one
  cases k with
  | scr h => exact .inl ⟨_, _, rfl, .inl (le.seq h), by rw [List.length_map]; exact q _ _ G H (Ext.refl le) (Same.refl _) p (.int _)⟩
theorem ix_scr {ns : List Int} {i n : Int} (h : ∃ k : Nat, i = (k : Int) ∧ ns[k]? = some n) (p : P (.int n)) : RD K (rIx K) (.scr ns) (.int i) P := fun G H v u Q le a b q => by
  obtain ⟨k, rfl, hk⟩ := h
  cases b
  cases a with
  | scr h => exact .inl ⟨_, _, _, .int n, rfl, rfl, le.seq h, atI_nat (by rw [List.getElem?_map, hk]; rfl), q _ _ G H (Ext.refl le) (Same.refl _) p (.int _)⟩
end

/-! ### what one draws from -/
/-- a def that makes a new list to draw from -/
def spN (K : PySem.W.Frag) (f : List D → Prop) : Sp := fun vs H Q _ => ∃ G ds, Lo G H ∧ IsL K G vs ds ∧ f ds ∧ ∀ p G' H', Ext G H G' H' (fun _ => False) → H p = none → G' p = none → PotAt H' p 0 → Q (.ref p) H'
/-- te makes such a list -/
def EvQ (C : Fx) (te : TE) (ρ : List Slot) (P : List Slot → Prop) : Prop := ∀ (σ : L2.St) (G H : Hp) (Q : VK), Sg C G H σ ρ → (∀ p G' H' ρ', Stp C G H σ ρ G' H' ρ' → P ρ' → H p = none → G' p = none → PotAt H' p 0 → Q (.ref p) H') → te σ H Q
section
variable {C : Fx} {ρ : List Slot} {ta : TA} {te : TE} {E : XK} {Z : Addr → D → Prop} {po : Po} {i : Nat}
theorem eq_call {K' : PySem.W.Frag} {f : List D → Prop} {P : List Slot → Prop} (h : EvA C ta ρ fun ds ρ1 => f ds ∧ P ρ1) (hK : K' = C.K := by rfl) : EvQ C (tCall (spN K' f) [] E ta) ρ P := fun σ G H Q S q => by
  subst hK
  refine h σ G H _ S fun vs ds G1 H1 ρ1 s1 p1 k1 => ?_
  refine ⟨G1, ds, s1.st.le, by rw [List.append_nil]; exact k1, p1.1, fun p G' H' e n g pt => ?_⟩
  have n0 : H p = none := by
    cases z : H p with
    | none => rfl
    | some o =>
      obtain ⟨u, e⟩ := s1.ext.th p o z
      rw [n] at e
      cases e
  exact q p G' H' ρ1 (s1.trans (s1.st.keep e)) p1.2 n0 g pt
/-- slot i holds it now -/
theorem Sg.setQ {G H : Hp} {σ : L2.St} {p : Addr} {k : Nat} (S : Sg C G H σ ρ) (g : G p = none) (h : PotAt H p k) (h0 : C.H0 p = none) (nf : ∀ j, j ≠ i → ¬ Mt σ ρ j p) : Sg C G H (σ.set i (some (.ref p))) (ρ.set i (.pot p k)) := by
  refine ⟨S.ext, by rw [List.length_set, List.length_set, S.len], fun j s hs => ?_, fun j l a h1 h2 => ?_⟩
  · by_cases hj : j = i
    · subst hj
      have hl : j < ρ.length := by
        have := (List.getElem?_eq_some_iff.mp hs).1
        rwa [List.length_set] at this
      rw [List.getElem?_set_self hl] at hs
      cases hs
      exact ⟨_, List.getElem?_set_self (by rw [S.len]; exact hl), rfl, g, h, .inr h0⟩
    · rw [List.getElem?_set_ne (Ne.symm hj)] at hs ⊢
      exact S.sl j s hs
  · have key : ∀ {j : Nat} {a : Addr}, Mt (σ.set i (some (.ref p))) (ρ.set i (.pot p k)) j a → j = i → a = p := fun {j a} h e => by
      subst e
      have hl : j < σ.length := by
        have := h.lt
        rwa [List.length_set] at this
      have z : some (V.ref p) = some (.ref a) := h.here hl (by rw [← S.len]; exact hl)
      cases z
      rfl
    by_cases hj : j = i
    · by_cases hk : l = i
      · rw [hj, hk]
      · have e := key h1 hj
        subst e
        exact absurd (h2.ne hk) (nf l hk)
    · by_cases hk : l = i
      · have e := key h2 hk
        subst e
        exact absurd (h1.ne hj) (nf j hj)
      · exact S.dis j l a (h1.ne hj) (h2.ne hk)
/-- x = pot(..) -/
theorem xs_pot (h : EvQ C te ρ fun ρ1 => ∀ p, po.nx (ρ1.set i (.pot p 0))) : Xs C (tAsg te (gName i)) ρ po := fun σ G H Dn S hn hr hb hc =>
  h σ G H _ S fun p G1 H1 ρ1 s1 p1 n g pt => hn _ G1 H1 _ (s1.st.setQ g pt (h0_none S n) fun j _ m => nomt S s1 n m) s1.ext.gg (p1 p)
/-- f(pot(..), ..) -/
theorem ev_callPN {K' : PySem.W.Frag} {f : FP} {P : PD} {dvs : List V} {es : List D} (hE : Flies C.K C.G0 C.H0 C.F0 Z E) (hd : ∀ G, IsL C.K G dvs es) (h : EvQ C te ρ fun ρ1 => EvA C ta ρ1 fun ds ρ2 => f 0 (ds ++ es) (fun d _ => P d ρ2) Z) (hK : K' = C.K := by rfl) :
    Ev C (tCall (spP K' f) dvs E (tCons te ta)) ρ P := fun σ G H Q S q => by
  subst hK
  refine h σ G H _ S fun p G1 H1 ρ1 s1 p1 n g pt => ?_
  refine p1 σ G1 H1 _ s1.st fun vs ds G2 H2 ρ2 s2 p2 k2 => ?_
  have nf : ¬ Fp σ ρ1 p := fun ⟨j, m⟩ => nomt S s1 n m
  obtain ⟨x, y, z, pz, pr⟩ := pt
  have g2 : G2 p = none := s2.ext.nf _ _ pz ⟨(fun _ z => nomatch z), (fun _ z => nomatch z)⟩ g nf
  have pt2 : PotAt H2 p 0 := ⟨x, y, z, s2.ext.fr _ _ pz (fun _ z => nomatch z) nf (Cac.no g), pr⟩
  have s12 := s1.trans s2
  refine ⟨p, vs ++ dvs, G2, ds ++ es, 0, _, Z, rfl, s2.st.le, g2, pt2, k2.append (hd G2), p2, fun v d k' G' H' e gp ptp kd r => ?_, fun X dx v d G' H' e gx kk z => ?_⟩
  · -- the list that was drawn from is nobody's
    have nf2 : ∀ b, Fp σ ρ2 b → b ≠ p := fun b hb z => by
      subst z
      obtain ⟨_, ⟨xs, e⟩, _⟩ := S.fp_some (s12.sub _ hb)
      rw [n] at e
      cases e
    have ex : Ext G H G' H' (Fp σ ρ) := by
      refine ⟨s12.ext.gg.trans e.gg, e.gh, fun b o hb nt f nc => e.fr b o (s12.ext.fr b o hb nt f nc) nt (ne_of_none hb n) (s12.ext.cac hb nt f nc), fun b o hb t gb f => e.nf b o (s12.ext.fr b o hb t.1 f (Cac.no gb)) t (s12.ext.nf b o hb t gb f) (ne_of_none hb n), fun b o hb => ?_, fun t => e.tt (s12.ext.tt t), fun g => e.nt (s12.ext.nt g)⟩
      obtain ⟨u, hu⟩ := s12.ext.th b o hb
      exact e.th b u hu
    have nh0 : C.H0 p = none := h0_none S n
    refine q v d G' H' ρ2 ⟨ex, ⟨s12.st.ext.trans e fun b o hb z => ?_, s12.st.len, fun j s hs => ?_, s12.st.dis⟩, s12.sub⟩ r kd
    · subst z
      rw [nh0] at hb
      cases hb
    · obtain ⟨o, ho, qo⟩ := s12.st.sl j s hs
      refine ⟨o, ho, qo.move e.gg fun b u hm h nt g => ?_⟩
      have nb : b ≠ p := nf2 b ⟨j, _, _, ho, hs, hm⟩
      exact ⟨e.fr _ _ h nt.1 nb (Cac.no g), e.nf _ _ h nt g nb⟩
  · refine hE X dx v d G' H' (s12.st.ext.trans e fun b o hb z => ?_) gx kk z
    subst z
    rw [h0_none S n] at hb
    cases hb
end

/-! ### numbers -/
theorem mulW {i j : Int} {a b : Nat} (ha : i.natAbs < 2 ^ a) (hb : j.natAbs < 2 ^ b) (h : a + b ≤ 900000) : CMulW i j :=
  wide_mul (a := a + 1) (b := b + 1) (Nat.lt_of_lt_of_le ha (Nat.pow_le_pow_right (by decide) (Nat.le_succ _))) (Nat.lt_of_lt_of_le hb (Nat.pow_le_pow_right (by decide) (Nat.le_succ _))) (Nat.succ_pos _) (Nat.succ_pos _) (by omega)
theorem log2W {i : Int} {a n : Nat} (ha : i.natAbs < 2 ^ a) (h : a < n) : i.natAbs.log2 < n :=
  Nat.lt_of_lt_of_le (PySem.Flt.log2_lt_of (Nat.succ_pos a) (Nat.lt_of_lt_of_le ha (Nat.pow_le_pow_right (by decide) (Nat.le_succ _)))) (by omega)
theorem fdivG {i j : Int} {a : Nat} (h : j ≠ 0) (ha : j.natAbs < 2 ^ a) (h9 : a < 9000) : CDivG i j := ⟨h, log2W ha h9⟩
theorem powG {i j : Int} {a : Nat} (h : 0 ≤ j) (ha : i.natAbs < 2 ^ a) (h2 : ((a : Int) + 2) * j ≤ 2 ^ 27) : CPowG i j := by
  refine ⟨h, Int.le_trans (Int.mul_le_mul_of_nonneg_right ?_ h) h2⟩
  have : i.natAbs.log2 < a + 1 := log2W ha (Nat.lt_succ_self _)
  unfold Builtin.Int.intBits
  split <;> omega
theorem natAbs_lt {i : Int} {a : Nat} (h0 : -(2 ^ a : Int) < i) (h1 : i < 2 ^ a) : i.natAbs < 2 ^ a := by
  have e : ((2 ^ a : Nat) : Int) = (2 ^ a : Int) := by simp
  have : ((i.natAbs : Nat) : Int) < ((2 ^ a : Nat) : Int) := by
    rw [e]
    omega
  exact Int.ofNat_lt.mp this
end DL
namespace DL
variable [TabT] [CacT]
theorem nbM {i : Int} {a b : Nat} (h : i.natAbs < 2 ^ a) (e : a ≤ b) : i.natAbs < 2 ^ b := Nat.lt_of_lt_of_le h (Nat.pow_le_pow_right (by decide) e)
theorem nbA {i j : Int} {a : Nat} (hi : i.natAbs < 2 ^ a) (hj : j.natAbs < 2 ^ a) : (i + j).natAbs < 2 ^ (a + 1) := by
  have e : 2 ^ (a + 1) = 2 ^ a + 2 ^ a := by rw [Nat.pow_succ]; omega
  rw [e]
  omega
theorem nbS {i j : Int} {a : Nat} (hi : i.natAbs < 2 ^ a) (hj : j.natAbs < 2 ^ a) : (i - j).natAbs < 2 ^ (a + 1) := by
  have e : 2 ^ (a + 1) = 2 ^ a + 2 ^ a := by rw [Nat.pow_succ]; omega
  rw [e]
  omega
theorem nbX {i j : Int} {a b : Nat} (hi : i.natAbs < 2 ^ a) (hj : j.natAbs < 2 ^ b) : (i * j).natAbs < 2 ^ (a + b) := L2.wide_lt hi hj
theorem fmod_rng {i j : Int} (h : 0 < j) : 0 ≤ i.fmod j ∧ i.fmod j < j := by
  rw [Int.fmod_eq_emod_of_nonneg _ (by omega)]
  exact ⟨Int.emod_nonneg _ (by omega), Int.emod_lt_of_pos _ h⟩
end DL
namespace DL
open PySem PySem.Spec PyProof.Rows L2
variable [TabT] [CacT]
theorem xs_then {C : Fx} {t u : TS} {ρ : List Slot} {N : List Slot → Prop} {Dn : Ends} {σ : L2.St} {G H : Hp} (h : Xs C t ρ { nx := N, rt := fun _ _ => False }) (S : Sg C G H σ ρ) (k : ∀ σ' G' H' ρ', Sg C G' H' σ' ρ' → N ρ' → u Dn σ' H') : tSeq t u Dn σ H :=
  h σ G H { Dn with nx := u Dn } S (fun σ' G' H' ρ' s _ p => k σ' G' H' ρ' s p) (fun _ _ _ _ _ _ _ _ z => z.elim) (fun _ _ _ _ _ _ z => z.elim) fun _ _ _ _ _ _ z => z.elim
end DL
namespace DL
open PySem PySem.Spec PyProof.Rows L2
variable [TabT] [CacT]
theorem rd_k {r : PySem.W.Frag → R2} {K K' : PySem.W.Frag} {x y : D} {P : D → Prop} (hK : K' = K) (h : RD K (r K) x y P) : RD K (r K') x y P := hK ▸ h
theorem rc_k {r : PySem.W.Frag → List V → Hp → VK → Prop} {K K' : PySem.W.Frag} {xs : List D} {P : D → Prop} (hK : K' = K) (h : RC1 K (r K) xs P) : RC1 K (r K') xs P := hK ▸ h
end DL
namespace DL
variable [TabT] [CacT]
theorem bit_nb (b : Bool) : (if b = true then (1 : Int) else 0).natAbs < 2 ^ 2 := by cases b <;> decide
theorem bit_mul {x : Int} (h : 0 ≤ x) (b : Bool) : 0 ≤ x * (if b = true then (1 : Int) else 0) ∧ x * (if b = true then (1 : Int) else 0) ≤ x := by
  cases b
  · simp [h]
  · simp [h]
end DL
namespace DL
open PySem PySem.Spec PyProof.Rows L2
variable [TabT] [CacT]
section
variable {C : Fx} {ρ : List Slot} {ta tb : TE} {po : Po} {i j : Nat}
theorem xs_parDD (h : Ev C ta ρ fun x ρ1 => Ev C tb ρ1 fun y ρ2 => po.nx ((ρ2.set i (.dat x)).set j (.dat y))) : Xs C (tPar i j (tCons ta (tCons tb tNil))) ρ po := fun σ G H Dn S hn hr hb hc => by
  refine h σ G H _ S fun v x G1 H1 ρ1 s1 p1 k1 => p1 σ G1 H1 _ s1.st fun u y G2 H2 ρ2 s2 p2 k2 => ?_
  exact ⟨v, u, rfl, hn _ G2 H2 _ ((s2.st.setD (k1.mono s2.ext.gg)).setD k2) (s1.ext.gg.trans s2.ext.gg) p2⟩
theorem xs_parDN (h : Ev C ta ρ fun x ρ1 => EvN C tb ρ1 fun ys ρ2 => po.nx ((ρ2.set i (.dat x)).set j (.own ys))) : Xs C (tPar i j (tCons ta (tCons tb tNil))) ρ po := fun σ G H Dn S hn hr hb hc => by
  refine h σ G H _ S fun v x G1 H1 ρ1 s1 p1 k1 => p1 σ G1 H1 _ s1.st fun q us ys G2 H2 ρ2 s2 p2 n g hq k2 => ?_
  refine ⟨v, .ref q, rfl, hn _ G2 H2 _ ((s2.st.setD (k1.mono s2.ext.gg)).setO g hq k2 (h0_none s1.st n) fun l hl m => ?_) (s1.ext.gg.trans s2.ext.gg) p2⟩
  exact nomt s1.st s2 n (mt_setD s2.st.len m)
theorem xs_parNN (hij : i ≠ j) (h : EvN C ta ρ fun xs ρ1 => EvN C tb ρ1 fun ys ρ2 => po.nx ((ρ2.set i (.own xs)).set j (.own ys))) : Xs C (tPar i j (tCons ta (tCons tb tNil))) ρ po := fun σ G H Dn S hn hr hb hc => by
  refine h σ G H _ S fun p vs xs G1 H1 ρ1 s1 p1 n1 g1 hp1 k1 => p1 σ G1 H1 _ s1.st fun q us ys G2 H2 ρ2 s2 p2 n2 g2 hp2 k2 => ?_
  have nf : ¬ Fp σ ρ1 p := fun ⟨l, m⟩ => nomt S s1 n1 m
  have e1 : H2 p = some (.lst vs) := s2.ext.fr _ _ hp1 (fun _ z => nomatch z) nf (Cac.no g1)
  have f1 : G2 p = none := s2.ext.nf _ _ hp1 ⟨(fun _ z => nomatch z), (fun _ z => nomatch z)⟩ g1 nf
  have pq : q ≠ p := fun e => by
    rw [e] at n2
    rw [n2] at hp1
    cases hp1
  have S1 := s2.st.setO (i := i) f1 e1 (k1.mono s2.ext.gg) (h0_none S n1) fun l _ m => nomt S (s1.trans s2) n1 m
  refine ⟨.ref p, .ref q, rfl, hn _ G2 H2 _ (S1.setO (i := j) g2 hp2 k2 (h0_none s1.st n2) fun l hl m => ?_) (s1.ext.gg.trans s2.ext.gg) p2⟩
  by_cases hl2 : l = i
  · subst hl2
    have hs : l < σ.length := by
      have := m.lt
      rwa [List.length_set] at this
    have z : some (V.ref p) = some (.ref q) := m.here hs (by rw [← s2.st.len]; exact hs)
    cases z
    exact pq rfl
  · exact nomt s1.st s2 n2 (m.ne hl2)
end
end DL
namespace DL
variable [TabT] [CacT]
/-! ### sums of fractions -/
abbrev Pq := Rat × Rat
def val (p : Pq) : Rat := p.1 * p.2
def sumP (ps : List Pq) : Rat := (ps.map val).foldl (· + ·) 0
theorem foldl_add (l : List Rat) (a : Rat) : l.foldl (· + ·) a = a + l.foldl (· + ·) 0 := by
  induction l generalizing a with
  | nil => simp [Rat.add_zero]
  | cons x l ih =>
    rw [List.foldl_cons, List.foldl_cons, ih (a + x), ih (0 + x), Rat.zero_add, Rat.add_assoc]
theorem sumP_nil : sumP [] = 0 := rfl
theorem sumP_cons (p : Pq) (ps : List Pq) : sumP (p :: ps) = val p + sumP ps := by
  unfold sumP
  rw [List.map_cons, List.foldl_cons, foldl_add, Rat.zero_add]
theorem sumP_append (ps qs : List Pq) : sumP (ps ++ qs) = sumP ps + sumP qs := by
  induction ps with
  | nil => rw [List.nil_append, sumP_nil, Rat.zero_add]
  | cons p ps ih => rw [List.cons_append, sumP_cons, sumP_cons, ih, Rat.add_assoc]
theorem sumP_perm {ps qs : List Pq} (h : ps.Perm qs) : sumP ps = sumP qs := by
  induction h with
  | nil => rfl
  | cons x _ ih => rw [sumP_cons, sumP_cons, ih]
  | swap x y l => rw [sumP_cons, sumP_cons, sumP_cons, sumP_cons, ← Rat.add_assoc, ← Rat.add_assoc, Rat.add_comm (val y)]
  | trans _ _ ih1 ih2 => exact ih1.trans ih2
theorem sumP_take {ps : List Pq} {i : Nat} {p : Pq} (h : ps[i]? = some p) : sumP (ps.take (i + 1)) = sumP (ps.take i) + val p := by
  rw [List.take_add_one, h, sumP_append]
  show sumP (ps.take i) + sumP [p] = _
  rw [sumP_cons, sumP_nil, Rat.add_zero]
/-- uncut -/
def stepU (s : Int × Nat) (p : Pq) : Int × Nat := (s.1 * ((p.1.den * p.2.den : Nat) : Int) + p.1.num * p.2.num * (s.2 : Int), s.2 * (p.1.den * p.2.den))
def unc (ps : List Pq) : Int × Nat := ps.foldl stepU (0, 1)
theorem unc_take {ps : List Pq} {i : Nat} {p : Pq} (h : ps[i]? = some p) : unc (ps.take (i + 1)) = stepU (unc (ps.take i)) p := by
  unfold unc
  rw [List.take_add_one, h]
  simp [List.foldl_append]
theorem step_val {s : Int × Nat} {p : Pq} (h : s.2 ≠ 0) : mkRat (stepU s p).1 (stepU s p).2 = mkRat s.1 s.2 + val p := by
  have e : val p = mkRat (p.1.num * p.2.num) (p.1.den * p.2.den) := by
    unfold val
    rw [← Rat.mkRat_mul_mkRat, Rat.mkRat_self, Rat.mkRat_self]
  rw [e, Rat.mkRat_add_mkRat _ _ h (Nat.mul_ne_zero p.1.den_nz p.2.den_nz)]
  rfl
theorem unc_val (ps : List Pq) : (unc ps).2 ≠ 0 ∧ mkRat (unc ps).1 (unc ps).2 = sumP ps := by
  have key : ∀ (ps : List Pq) (s : Int × Nat), s.2 ≠ 0 → (ps.foldl stepU s).2 ≠ 0 ∧ mkRat (ps.foldl stepU s).1 (ps.foldl stepU s).2 = mkRat s.1 s.2 + sumP ps := by
    intro ps
    induction ps with
    | nil => exact fun s h => ⟨h, by rw [sumP_nil, Rat.add_zero]; rfl⟩
    | cons p ps ih =>
      intro s h
      have h2 : (stepU s p).2 ≠ 0 := Nat.mul_ne_zero h (Nat.mul_ne_zero p.1.den_nz p.2.den_nz)
      obtain ⟨a, b⟩ := ih _ h2
      exact ⟨a, by rw [List.foldl_cons, b, step_val h, sumP_cons, Rat.add_assoc]⟩
  obtain ⟨a, b⟩ := key ps (0, 1) (by decide)
  refine ⟨a, b.trans ?_⟩
  rw [show mkRat (0 : Int) 1 = 0 from by decide +kernel, Rat.zero_add]
/-- small -/
def Sm (c : Nat) (q : Rat) : Prop := q.num.natAbs < 2 ^ c ∧ q.den < 2 ^ c
def SmP (c : Nat) (p : Pq) : Prop := Sm c p.1 ∧ Sm c p.2
theorem Sm.mono {c d : Nat} {q : Rat} (h : Sm c q) (e : c ≤ d) : Sm d q := ⟨Nat.lt_of_lt_of_le h.1 (Nat.pow_le_pow_right (by decide) e), Nat.lt_of_lt_of_le h.2 (Nat.pow_le_pow_right (by decide) e)⟩
theorem mul_lt_pow {a b c d : Nat} (h : a < 2 ^ c) (k : b < 2 ^ d) : a * b < 2 ^ (c + d) := by
  rw [Nat.pow_add]
  exact Nat.mul_lt_mul'' h k
theorem unc_small {c : Nat} : ∀ (ps : List Pq), (∀ p ∈ ps, SmP c p) → (unc ps).1.natAbs < 2 ^ ((2 * c + 1) * (ps.length + 1)) ∧ (unc ps).2 < 2 ^ ((2 * c + 1) * ps.length + 1) := by
  have key : ∀ (ps : List Pq) (s : Int × Nat) (m : Nat), (∀ p ∈ ps, SmP c p) → s.1.natAbs < 2 ^ ((2 * c + 1) * (m + 1)) → s.2 < 2 ^ ((2 * c + 1) * m + 1) → (ps.foldl stepU s).1.natAbs < 2 ^ ((2 * c + 1) * (m + ps.length + 1)) ∧ (ps.foldl stepU s).2 < 2 ^ ((2 * c + 1) * (m + ps.length) + 1) := by
    intro ps
    induction ps with
    | nil => exact fun s m _ h k => ⟨h, k⟩
    | cons p ps ih =>
      intro s m hp h k
      obtain ⟨⟨a1, a2⟩, b1, b2⟩ := hp p (by simp)
      have hd : p.1.den * p.2.den < 2 ^ (c + c) := mul_lt_pow a2 b2
      have h2 : (stepU s p).2 < 2 ^ ((2 * c + 1) * (m + 1) + 1) := by
        have := mul_lt_pow k hd
        refine Nat.lt_of_lt_of_le this (Nat.pow_le_pow_right (by decide) ?_)
        rw [Nat.mul_add (2 * c + 1) m 1]
        omega
      have h1 : (stepU s p).1.natAbs < 2 ^ ((2 * c + 1) * (m + 1 + 1)) := by
        have x1 : (s.1 * ((p.1.den * p.2.den : Nat) : Int)).natAbs < 2 ^ ((2 * c + 1) * (m + 1) + (c + c)) := nbX h (by rw [Int.natAbs_natCast]; exact hd)
        have x2 : (p.1.num * p.2.num * (s.2 : Int)).natAbs < 2 ^ ((c + c) + ((2 * c + 1) * m + 1)) := nbX (nbX a1 b1) (by simpa using k)
        have e1 : (2 * c + 1) * (m + 1 + 1) = (2 * c + 1) * (m + 1) + (c + c) + 1 := by
          rw [Nat.mul_add (2 * c + 1) (m + 1) 1]
          omega
        rw [e1]
        refine nbA x1 (nbM x2 ?_)
        rw [Nat.mul_add (2 * c + 1) m 1]
        omega
      have := ih (stepU s p) (m + 1) (fun q hq => hp q (by simp [hq])) h1 h2
      rw [List.foldl_cons, List.length_cons]
      rw [show m + (ps.length + 1) = m + 1 + ps.length by omega]
      exact this
  intro ps hp
  have := key ps (0, 1) 0 hp (by simp; exact Nat.pow_pos (by decide)) (by simp)
  simpa [unc] using this
theorem mk_small {n : Int} {d a : Nat} (hd : d ≠ 0) (h : n.natAbs < 2 ^ a) : (mkRat n d).num.natAbs < 2 ^ a ∧ (mkRat n d).den ≤ d := by
  refine ⟨?_, ?_⟩
  · rw [Rat.num_mkRat, if_neg hd]
    have : (n / ((d.gcd n.natAbs : Nat) : Int)).natAbs ≤ n.natAbs := by
      have hg : 0 < d.gcd n.natAbs := Nat.gcd_pos_of_pos_left n.natAbs (Nat.pos_of_ne_zero hd)
      have hdv : ((d.gcd n.natAbs : Nat) : Int) ∣ n := Int.dvd_natAbs.mp (Int.ofNat_dvd.mpr (Nat.gcd_dvd_right _ _))
      obtain ⟨q, hq⟩ := hdv
      generalize ((d.gcd n.natAbs : Nat)) = g at hg hq
      subst hq
      rw [Int.mul_ediv_cancel_left q (by omega), Int.natAbs_mul]
      exact Nat.le_mul_of_pos_left _ (by omega)
    omega
  · rw [Rat.den_mkRat, if_neg hd]
    exact Nat.div_le_self _ _
theorem sum_small {c : Nat} {ps : List Pq} (h : ∀ p ∈ ps, SmP c p) : (sumP ps).num.natAbs < 2 ^ ((2 * c + 1) * (ps.length + 1)) ∧ (sumP ps).den < 2 ^ ((2 * c + 1) * ps.length + 1) := by
  obtain ⟨h0, h1⟩ := unc_val ps
  obtain ⟨a, b⟩ := unc_small ps h
  rw [← h1]
  have := mk_small h0 a
  exact ⟨this.1, Nat.lt_of_le_of_lt this.2 b⟩
theorem sum_Sm {c d : Nat} {ps : List Pq} (h : ∀ p ∈ ps, SmP c p) (e : (2 * c + 1) * (ps.length + 1) ≤ d) (e2 : 1 ≤ c) : Sm d (sumP ps) := by
  obtain ⟨a, b⟩ := sum_small h
  refine ⟨Nat.lt_of_lt_of_le a (Nat.pow_le_pow_right (by decide) e), Nat.lt_of_lt_of_le b (Nat.pow_le_pow_right (by decide) ?_)⟩
  rw [Nat.mul_add] at e
  omega
/-- the fraction of a number as data -/
def frq (q : Rat) : D := .tup [.int q.num, .int (q.den : Int)]
theorem frq_mk {t l : Int} (h : 0 < l) : frq (mkRat t l.toNat) = .tup [.int (t.fdiv ((Nat.gcd t.natAbs l.natAbs : Nat) : Int)), .int (l.fdiv ((Nat.gcd t.natAbs l.natAbs : Nat) : Int))] := by
  have hl : l.toNat ≠ 0 := by omega
  have el : l.toNat = l.natAbs := by omega
  unfold frq
  rw [Rat.num_mkRat, Rat.den_mkRat, if_neg hl, if_neg hl, el, Nat.gcd_comm l.natAbs]
  have e2 : (l.natAbs : Int) = l := by omega
  rw [Int.fdiv_eq_ediv_of_nonneg _ (by omega), Int.fdiv_eq_ediv_of_nonneg _ (by omega), Int.natCast_ediv, e2]
end DL
namespace DL
open PySem PySem.Spec PyProof.Rows L2
variable [TabT] [CacT]
/-- a halt between two statements -/
theorem xs_mid {C : Fx} {t u : TS} {ρ : List Slot} {po : Po} (N : List Slot → Prop) (h1 : Xs C t ρ { po with nx := N }) (h2 : ∀ ρ', N ρ' → Xs C u ρ' po) : Xs C (tSeq t u) ρ po :=
  xs_seq (h1.imp (fun ρ' n => h2 ρ' n) (fun _ _ h => h) (fun _ h => h) fun _ h => h)
theorem step_mk (s q r : Rat) : s + q * r = mkRat (s.num * (q.den : Int) * (r.den : Int) + q.num * r.num * (s.den : Int)) (s.den * q.den * r.den) := by
  have e : q * r = mkRat (q.num * r.num) (q.den * r.den) := by rw [← Rat.mkRat_mul_mkRat, Rat.mkRat_self, Rat.mkRat_self]
  rw [e]
  conv => lhs; lhs; rw [← Rat.mkRat_self s]
  rw [Rat.mkRat_add_mkRat _ _ s.den_nz (Nat.mul_ne_zero q.den_nz r.den_nz)]
  congr 1
  · simp only [Int.natCast_mul, Int.mul_assoc]
  · rw [Nat.mul_assoc]
theorem sm_take {c d : Nat} {ps : List Pq} (h : ∀ p ∈ ps, SmP c p) (hc : (2 * c + 1) * (ps.length + 2) ≤ d) (h1 : 1 ≤ c) (i : Nat) : Sm d (sumP (ps.take i)) := by
  refine sum_Sm (fun p hp => h p (List.mem_of_mem_take hp)) (Nat.le_trans (Nat.mul_le_mul_left _ ?_) hc) h1
  rw [List.length_take]
  omega
end DL
namespace DL
open PySem PySem.Spec PyProof.Rows L2
variable [TabT] [CacT]
/-- repr of a fraction -/
def frT (q : Rat) : Str := (PyData.tuple [.int q.num, .int (q.den : Int)]).shown
theorem frT_len {q : Rat} (h : Sm 1919 q) : (frT q).length ≤ 100000 := by
  have l1 : (PySem.Str.ofString (toString q.num)).length ≤ 1921 := int_text_len_1921 (log2W (a := 1919) h.1 (by decide))
  have l2 : (PySem.Str.ofString (toString (q.den : Int))).length ≤ 1921 := int_text_len_1921 (log2W (a := 1919) (by rw [Int.natAbs_natCast]; exact h.2) (by decide))
  have e : frT q = (("(" : Str) ++ ((PySem.Str.ofString (toString q.num)) ++ ", " ++ (PySem.Str.ofString (toString (q.den : Int))))) ++ (")" : Str) := by
    unfold frT
    rfl
  rw [e]
  rw [Str.length_append, Str.length_append, Str.length_append, Str.length_append]
  have a1 : ("(" : Str).length = 1 := rfl
  have a2 : (", " : Str).length = 2 := rfl
  have a3 : (")" : Str).length = 1 := rfl
  omega
theorem repr_frq {K K' : PySem.W.Frag} {P : D → Prop} {q : Rat} (hK : K' = K) (h : Sm 1919 q) (p : P (.str (frT q))) : RC1 K (rRepr K') [frq q] P := by
  refine rc_k (r := rRepr) hK (rc_repr (p := .tuple [.int q.num, .int (q.den : Int)]) rfl ?_ rfl (Nat.le_trans (frT_len h) (by decide)) (by simp [PyData.depth, PyData.depthAll]) p)
  simp only [PyData.showable, PyData.showableAll, Bool.and_true, Bool.and_eq_true, decide_eq_true_eq]
  exact ⟨log2W (a := 1919) h.1 (by decide), log2W (a := 1919) (by rw [Int.natAbs_natCast]; exact h.2) (by decide)⟩
theorem eqv_str (x : Str) : PyData.eqv (.str x) (.str x) = true := by simp [PyData.eqv]
theorem eqv_fr (q : Rat) : PyData.eqv (.tuple [.int q.num, .int (q.den : Int)]) (.tuple [.int q.num, .int (q.den : Int)]) = true := by simp [PyData.eqv, PyData.eqvAll]
/-- == and !=: by data, or of plain values -/
abbrev rEqA (K : PySem.W.Frag) : R2 := fun x y H Q => rEqD K x y H Q ∨ rEq x y H Q
abbrev rNeA (K : PySem.W.Frag) : R2 := fun x y H Q => rNeD K x y H Q ∨ rNe x y H Q
theorem op_eqA {X : Cx} (hu : X.A.units + 64 < cLine) : OpR X (compareOp .Eq) (rEqA X.K) := OpR.or (op_eqD hu) op_eq
theorem op_neA {X : Cx} (hu : X.A.units + 64 < cLine) : OpR X (compareOp .NotEq) (rNeA X.K) := OpR.or (op_neD hu) op_ne
/-- two fractions that are the same, != and == -/
theorem ne_fr {K K' : PySem.W.Frag} {P : D → Prop} {q r : Rat} (hK : K' = K) (e : q = r) (p : P (.bl false)) : RD K (rNeA K') (frq q) (frq r) P := by
  subst e
  refine rd_k (r := rNeA) hK (rd_or1 (rd_ne rfl rfl (by rfl) (by rfl) ?_))
  rw [eqv_fr]
  exact p
theorem eq_fr {K K' : PySem.W.Frag} {P : D → Prop} {q r : Rat} (hK : K' = K) (e : q = r) (p : P (.bl true)) : RD K (rEqA K') (frq q) (frq r) P := by
  subst e
  refine rd_k (r := rEqA) hK (rd_or1 (rd_eq rfl rfl (by rfl) (by rfl) ?_))
  rw [eqv_fr]
  exact p
theorem ne_str {K K' : PySem.W.Frag} {P : D → Prop} {x y : Str} (hK : K' = K) (p : P (.bl (!decide (x = y)))) : RD K (rNeA K') (.str x) (.str y) P := by
  refine rd_k (r := rNeA) hK (rd_or2 fun G H v u Q le a b q => ?_)
  cases a
  cases b
  refine ⟨rfl, ?_⟩
  have e : (!decide (V.str x = V.str y)) = !decide (x = y) := by
    congr 1
    exact decide_eq_decide.mpr ⟨fun h => V.str.inj h, fun h => by rw [h]⟩
  rw [e]
  exact q _ _ G H (Ext.refl le) (Same.refl _) p (.bl _)
theorem eq_str {K K' : PySem.W.Frag} {P : D → Prop} {x y : Str} (hK : K' = K) (p : P (.bl (decide (x = y)))) : RD K (rEqA K') (.str x) (.str y) P := by
  refine rd_k (r := rEqA) hK (rd_or2 fun G H v u Q le a b q => ?_)
  cases a
  cases b
  refine ⟨rfl, ?_⟩
  have e : decide (V.str x = V.str y) = decide (x = y) := decide_eq_decide.mpr ⟨fun h => V.str.inj h, fun h => by rw [h]⟩
  rw [e]
  exact q _ _ G H (Ext.refl le) (Same.refl _) p (.bl _)
end DL
namespace DL
open PySem PySem.Spec PyProof.Rows L2
variable [TabT] [CacT]
theorem ne_strS {K K' : PySem.W.Frag} {P : D → Prop} {x y : Str} (hK : K' = K) (e : x = y) (p : P (.bl false)) : RD K (rNeA K') (.str x) (.str y) P := by
  subst e
  exact ne_str hK (by simpa using p)
theorem perm_map_inv {α β : Type} {f : α → β} {ys zs : List β} (h : ys.Perm zs) : ∀ l : List α, zs = l.map f → ∃ os : List α, os.Perm l ∧ ys = os.map f := by
  induction h with
  | nil =>
    intro l e
    cases l with
    | nil => exact ⟨[], List.Perm.refl _, rfl⟩
    | cons a l => cases e
  | cons x _ ih =>
    intro l e
    cases l with
    | nil => cases e
    | cons a l =>
      injection e with e1 e2
      obtain ⟨os, h1, h2⟩ := ih l e2
      exact ⟨a :: os, h1.cons a, by rw [List.map_cons, ← h2, e1]⟩
  | swap x y l' =>
    intro l e
    cases l with
    | nil => cases e
    | cons a l =>
      cases l with
      | nil => cases e
      | cons b l =>
        injection e with e1 e2
        injection e2 with e2 e3
        exact ⟨b :: a :: l, List.Perm.swap _ _ _, by rw [List.map_cons, List.map_cons, ← e1, ← e2, ← e3]⟩
  | trans _ _ ih1 ih2 =>
    intro l e
    obtain ⟨os, h1, h2⟩ := ih2 l e
    obtain ⟨os', h3, h4⟩ := ih1 os h2
    exact ⟨os', h3.trans h1, h4⟩
theorem sm_one : Sm 17 (1 : Rat) := ⟨by decide, by decide⟩
theorem frq_two (q : Rat) : frq (2 * q) = .tup [.int ((2 * q.num).fdiv ((Nat.gcd 2 q.den : Nat) : Int)), .int ((q.den : Int).fdiv ((Nat.gcd 2 q.den : Nat) : Int))] := by
  have e : 2 * q = mkRat (2 * q.num) ((q.den : Int).toNat) := by
    rw [Int.toNat_natCast]
    conv => lhs; rhs; rw [← Rat.mkRat_self q]
    rw [show (2 : Rat) = mkRat 2 1 from by decide +kernel, Rat.mkRat_mul_mkRat, Nat.one_mul]
  rw [e, frq_mk (by have := q.den_pos; omega)]
  have g : Nat.gcd (2 * q.num).natAbs (q.den : Int).natAbs = Nat.gcd 2 q.den := by
    rw [Int.natAbs_natCast, Int.natAbs_mul]
    exact Nat.Coprime.gcd_mul_right_cancel 2 q.reduced
  rw [g]
theorem sm_two {c : Nat} {q : Rat} (h : Sm c q) : Sm (c + 1) (2 * q) := by
  have e : 2 * q = mkRat (2 * q.num) q.den := by
    conv => lhs; rhs; rw [← Rat.mkRat_self q]
    rw [show (2 : Rat) = mkRat 2 1 from by decide +kernel, Rat.mkRat_mul_mkRat, Nat.one_mul]
  rw [e]
  have e2 : (2 * q.num).natAbs < 2 ^ (c + 1) := by
    rw [Int.natAbs_mul, Nat.pow_succ]
    have := h.1
    show 2 * _ < _
    omega
  have := mk_small q.den_nz e2
  exact ⟨this.1, Nat.lt_of_le_of_lt this.2 (Nat.lt_of_lt_of_le h.2 (Nat.pow_le_pow_right (by decide) (by omega)))⟩
theorem mul_mk (q r : Rat) : q * r = mkRat (q.num * r.num) (((q.den : Int) * (r.den : Int)).toNat) := by
  rw [← Int.natCast_mul, Int.toNat_natCast, ← Rat.mkRat_mul_mkRat, Rat.mkRat_self, Rat.mkRat_self]
theorem sm_mul {c d : Nat} {q r : Rat} (h : Sm c q) (k : Sm d r) : Sm (c + d) (q * r) := by
  have e : q * r = mkRat (q.num * r.num) (q.den * r.den) := by rw [← Rat.mkRat_mul_mkRat, Rat.mkRat_self, Rat.mkRat_self]
  rw [e]
  have := mk_small (Nat.mul_ne_zero q.den_nz r.den_nz) (nbX h.1 k.1)
  exact ⟨this.1, Nat.lt_of_le_of_lt this.2 (mul_lt_pow h.2 k.2)⟩
theorem sm_neg {c : Nat} {q : Rat} (h : Sm c q) : Sm c (-q) := by
  refine ⟨?_, ?_⟩
  · rw [Rat.neg_num, Int.natAbs_neg]
    exact h.1
  · rw [Rat.neg_den]
    exact h.2
theorem frq_neg (q : Rat) : frq (-q) = .tup [.int (-q.num), .int (q.den : Int)] := by
  unfold frq
  rw [Rat.neg_num, Rat.neg_den]
theorem sumP_mul (ps : List Pq) (f : Pq → Pq) (k : Rat) (h : ∀ p ∈ ps, val (f p) = k * val p) : sumP (ps.map f) = k * sumP ps := by
  induction ps with
  | nil => simp [sumP_nil]
  | cons p ps ih =>
    rw [List.map_cons, sumP_cons, sumP_cons, ih fun q hq => h q (by simp [hq]), h p (by simp), Rat.mul_add]
theorem sumP_congr (ps : List Pq) (f : Pq → Pq) (h : ∀ p ∈ ps, val (f p) = val p) : sumP (ps.map f) = sumP ps := by
  induction ps with
  | nil => rfl
  | cons p ps ih => rw [List.map_cons, sumP_cons, sumP_cons, ih fun q hq => h q (by simp [hq]), h p (by simp)]
theorem val_one (q : Rat) : val (q, 1) = q := Rat.mul_one q
end DL
namespace DL
open PySem PySem.Spec PyProof.Rows L2
variable [TabT] [CacT]

/-! ### the rules for a frame whose names are bound in a walk -/
section
variable {X : Cx} {K : PySem.W.Frag}
theorem kIx (h : X.K = K) : IxR X (rIx K) := h ▸ ix_seq
theorem kCut (h : X.K = K) : SlR X (rCut K) := h ▸ sl_cut
theorem kPlus (h : X.K = K) : OpR X (binaryOp .Add) (rPlus K) := h ▸ op_plus
theorem kTimes (h : X.K = K) : OpR X (binaryOp .Mult) (rTimesA K) := h ▸ op_timesA
theorem kEq (h : X.K = K) (hu : X.A.units + 64 < cLine) : OpR X (compareOp .Eq) (rEqA K) := h ▸ op_eqA hu
theorem kNe (h : X.K = K) (hu : X.A.units + 64 < cLine) : OpR X (compareOp .NotEq) (rNeA K) := h ▸ op_neA hu
theorem kLenA (h : X.K = K) : CallR X (.builtin "len") (rLenA K) := h ▸ (CallR.or call_len_seq call_len_str)
theorem kIsi (h : X.K = K) : CallR X (.builtin "isinstance") (rIsi K) := h ▸ call_isi
end
end DL
namespace DL
open PySem PySem.Spec PyProof.Rows L2
variable [TabT] [CacT]

/-! ### errors as values -/
/-- isinstance of an error that is held as a value -/
def rIsX (K : PySem.W.Frag) : List V → Hp → VK → Prop := fun xs H Q => ∃ (a C dx : Addr) (c : V) (cv : Value) (b : Bool) (fs : List (Str × V)), xs = [.ref a, c] ∧ H a = some (ExV a C dx) ∧ H dx = some (.xd fs) ∧ ExcC K C ∧ ClsV c cv ∧ PySem.W.kitOne K (.ref C) cv = some b ∧ Q (.bl b) H
theorem exv_inst {P : Program} {w : World} {H : Hp} {h : Heap} {a C dx : Addr} {fs : List (Str × V)} (hok : HOk P w H h) (ea : H a = some (ExV a C dx)) (ed : H dx = some (.xd fs)) :
    ∃ (oe od : Obj) (mA : Str → Option Value), PySem.W.InstAt h a oe C (some od) ∧ (∀ n, PySem.W.lookIn n od = some (mA n)) ∧ ∀ n, RelO (fs.lookup n) (mA n) := by
  obtain ⟨⟨oe, vs, ho, hz, hd⟩, _, _⟩ := hok a _ ea
  obtain ⟨mA, hns, hr⟩ := (show ObjOk P w H h dx (.xd fs) from hok dx _ ed)
  obtain ⟨od, hod, hl⟩ := lookIn_ns hns
  refine ⟨oe, od, mA, ⟨ho, hz.1, ?_, ?_⟩, hl, hr⟩
  · unfold PySem.W.notCls
    rw [hd] <;> rfl
  · rw [hz.2]
    exact hod
theorem call_isX {X : Cx} : CallR X (.builtin "isinstance") (rIsX X.K) := by
  intro pins s σ H xs us Q I r h
  obtain ⟨a, C, dx, c, cv, b, fs, rfl, ea, ed, T, kc, ek, q⟩ := h
  obtain ⟨u1, u2, rfl, r1, r2⟩ := vals2 r
  obtain rfl : u2 = cv := kc.eq r2
  cases (show u1 = Value.ref a from r1)
  obtain ⟨oe, od, mA, J, _, _⟩ := exv_inst I.hok ea ed
  have hcl : (PySem.W.clsIn X.K C).isSome = true := by
    obtain ⟨cd, hc, _⟩ := PySem.W.any_some T.hd
    rw [hc]
    rfl
  exact PySem.W.kia_one (PySem.W.kitx_exc (x := a) (ox := oe) (od := some od) hcl T.hg T.hk T.hs T.ha T.hn T.ht T.hm) I.kIn J ek (fun z => nomatch z) fun tk => ⟨.bl b, H, I.tok tk, rfl, q⟩
/-- error.f -/
def tXv (K : PySem.W.Frag) (f : Str) (te : TE) : TE := fun σ H Q => te σ H fun x H1 => ∃ (a C dx : Addr) (fs : List (Str × V)) (v : V), x = .ref a ∧ H1 a = some (ExV a C dx) ∧ H1 dx = some (.xd fs) ∧ XfC K C ∧ PySem.W.findIn K (.ref C) f = some none ∧ fs.lookup f = some v ∧ Q v H1
theorem pe_xv {X : Cx} {e : Expr} {te : TE} {pos : Pos} {f : Str} (he : PE X e te) (hb : attributeBase e f X.env (eval e X.env) = eval e X.env := by rfl) : PE X (.Attribute e f pos) (tXv X.K f te) := by
  constructor
  intro pins s σ H Q I h
  refine attr_of hb (thn (he.run pins s σ H _ I h) fun u s1 hh => ?_)
  obtain ⟨x, H1, I1, rx, a, C, dx, fs, v, rfl, ea, ed, T, hno, l, q⟩ := hh
  cases (show u = Value.ref a from rx)
  obtain ⟨oe, od, mA, J, hl, hr⟩ := exv_inst I1.hok ea ed
  obtain ⟨u, hu, ru⟩ := RelO.some_of (v := v) (o := mA f) (by rw [← l]; exact hr f)
  have hf : PySem.W.findObj X.K C (some od) f = some (.value u) := PySem.W.findObj_own T.hdC hno rfl (by rw [hl, hu])
  exact HandSPX.exc_get I1.kIn J T.ga T.gg T.exC hf (handed_of ru) ⟨v, H1, I1.tok _, ru, q⟩
/-- C(e, ..) as a value, C's own __init__ keeping sp -/
def tMkV (C : Addr) (sp : Sp) (ta : TA) : TE := fun σ H Q => ta σ H fun vs H1 => vs.length ≤ 1000 ∧ ∀ a, H1 a = none → sp (.ref a :: vs) (upd H1 a (exo a C none))
  (fun v H2 => v = .non ∧ ∃ (d : Addr) (fs : List (Str × V)), H2 a = some (exo a C (some d)) ∧ H2 d = some (exd d fs) ∧ Q (.ref a) (upd (upd H2 a (ExV a C d)) d (.xd fs))) (fun _ _ _ => False)
/-- what is being made stands as an error -/
theorem inv_exv {X : Cx} {pins : List (Addr × Obj)} {σ : L2.St} {H : Hp} {s : Shared} {a C d : Addr} {fs : List (Str × V)} (I : Inv X pins σ H s) (ea : H a = some (exo a C (some d))) (ed : H d = some (exd d fs)) : Inv X pins σ (upd (upd H a (ExV a C d)) d (.xd fs)) s := by
  obtain ⟨t1, ho⟩ := exo_at I.hok ea
  obtain ⟨mA, hns, rel⟩ := exd_at I.hok ed
  have hda : d ≠ a := fun z => by
    obtain ⟨o, es, ep, e1, e2, _⟩ := hns
    rw [z, ho] at e1
    cases Option.some.inj e1
    cases e2
  have J : Inv X pins σ (upd H a (ExV a C d)) s := I.write (t' := s.toks) (h' := s.heap) (x := a) (e := a) (o := ExV a C d) (by rw [ea]; exact True.intro) (.inl rfl) (fun _ _ _ z => z) ⟨_, ho⟩
    ⟨⟨_, _, ho, ⟨rfl, rfl⟩, rfl⟩, ⟨_, ho⟩, fun h1 h2 z k => by
      obtain ⟨oe, vs, q1, q2⟩ := z
      exact ⟨oe, vs, k _ q1, q2⟩⟩
  obtain ⟨o, es, ep, e1, e2⟩ := hns
  exact J.write (t' := s.toks) (h' := s.heap) (x := d) (e := d) (o := .xd fs) (by rw [upd_ne hda, ed]; exact True.intro) (.inl rfl) (fun _ _ _ z => z) ⟨_, e1⟩ ⟨mA, ⟨o, es, ep, e1, e2⟩, rel⟩
theorem pe_mkV {X : Cx} {CX : CXT} {x : Str} {C fI : Addr} {k : Nat} {fd : FuncData} {ps : List Str} {sp : Sp} {e : Expr} {es : List Expr} {ta : TA} {p pos : Pos} (gd : X.A.guards = some []) (T : OexC X.K C) (iC : PySem.W.findIn X.K (.ref C) "__init__" = some (some (.ref fI)))
    (tI : PySem.W.typeIn X.K (.ref fI) = some (.type "function")) (F1 : FnG X.prog X.w X.K X.mg X.base CX k fI fd ps sp) (hr : Room (k + 1) X.A) (hb : Binds X.K fd ps []) (hx : Passes CX X (fun _ _ _ => False)) (hg : Gl X x) (hm : X.mg x = some (.ref C)) (ha : PA X (e :: es) ta)
    (hdb : (x == ("__debug__" : Str)) = false := by decide) (he : starEach (e :: es) X.env = (false, eval e X.env) :: starEach es X.env := by rfl) (hpl : (backTo pos (starEach es X.env)).any (·.1) = false := by rfl) : PE X (.Call (.Name x p) (e :: es) [] pos) (tMkV C sp ta) := by
  constructor
  intro pins s σ H Q I h
  obtain ⟨nm, qn, N, bs, bm, sn, sub, ab, col, dd, k0, k1, k2, k3, k5, hC, hbm⟩ := T.cls
  refine wpAny_Call_Name_kw (ld_glob I hg hm (PySem.W.callWith_K (h₀ := X.base) I.ok.mod.kin T.kC (thn (ha.run pos pins s σ H _ I h) fun us s1 hh => ?_) he hpl) hdb)
  obtain ⟨vs, H1, I1, r1, hz, q1⟩ := hh
  refine ⟨I1.kIn, ?_⟩
  show wpAny _ _ (call (.ref C) us) _ _ _
  obtain ⟨hp, g, dr, tk, os⟩ := s1
  obtain ⟨a, rfl⟩ : ∃ a, a = hp.objs.size + 1 := ⟨_, rfl⟩
  have hn : H1 (hp.objs.size + 1) = none := I1.hok.fresh (Nat.le_succ _)
  have hq := q1 _ hn
  obtain ⟨h2, eh2⟩ : ∃ h2, h2 = (hp.push (PySem.W.kdv_tup us)).push (PySem.HandSPX.excO C hp.objs.size) := ⟨_, rfl⟩
  have hget : h2.get? (hp.objs.size + 1) = some (PySem.HandSPX.excO C hp.objs.size) := by
    rw [eh2]
    heap_get
  have I2 : Inv X pins σ (upd H1 (hp.objs.size + 1) (exo (hp.objs.size + 1) C none)) ⟨h2, g, dr, tk, os⟩ := I1.laid (t' := tk) (h' := h2) (fun b o z => by
    rw [eh2]
    exact Heap.get?_push_of_some _ (Heap.get?_push_of_some _ z)) (Nat.le_succ _) (exo_ok hget)
  have r2 : Vals (V.ref (hp.objs.size + 1) :: vs) (Value.ref (hp.objs.size + 1) :: us) := .cons rfl r1
  have hl : (Value.ref (hp.objs.size + 1) :: us ++ []).length = ps.length := by
    rw [← F1.len _ _ _ _ hq, List.append_nil]
    exact r2.length.symm
  have hus : us.length ≤ sizeLine := by
    have := r1.length
    rw [sizeLine_eq]
    omega
  have bd := hb ⟨h2, g, dr, tk, os⟩ (Value.ref (hp.objs.size + 1) :: us) I2.kIn hl
  rw [List.append_nil] at bd
  have key := F1.run (X.A.under (.builtin "type.__call__" ⟨.ref C :: us, []⟩)) X.stack ⟨h2, g, dr, tk, os⟩ _ ⟨Value.ref (hp.objs.size + 1) :: us, []⟩ _ _ _ (fun _ _ _ => False) gd (hr.make C us []) (I2.env0.make C us []) bd r2 hq
  rw [eh2] at key I2
  refine wpAny_call (PySem.HandSPX.call_own F.excBase_ValueError (fun Y => PySem.HandSPX.refsVE_contains Y bm hbm) (I1.kIn _ _ hC) (PySem.W.looks_findIn I1.kIn iC) (fun self => PySem.W.bind_fn I1.kIn self tI) hus (codeAny_mono key fun r s' hq' => ?_))
  match r, hq' with
  | .error er, hq' => exact hx pins σ _ _ er s' I2 hq'
  | .ok (.ret u), hq' =>
    obtain ⟨v, H2, I3, rv, ev, d, fs, ea, ed, q2⟩ := I2.after hq'
    subst ev
    exact ⟨rv, .ref (hp.objs.size + 1), _, inv_exv I3 ea ed, rfl, q2⟩
end DL
namespace DL
open PySem PySem.Spec PyProof.Rows L2
variable [TabT] [CacT]

/-! ### errors as data -/
/-- __init__(self, value): value is kept -/
def spInit (K : PySem.W.Frag) : Sp := fun vs H Q _ => ∃ (a C : Addr) (v : V), vs = [.ref a, v] ∧ OexC K C ∧ PySem.W.findIn K (.ref C) "value" = some none ∧ H a = some (exo a C none) ∧
  ∀ dx, H dx = none → dx ≠ a → Q .non (upd (upd H dx (exd dx [("value", v)])) a (exo a C (some dx)))
theorem spInit_len {K : PySem.W.Frag} (vs : List V) (H : Hp) (Q : VK) (E : XK) (h : spInit K vs H Q E) : vs.length = 2 := by
  obtain ⟨a, C, v, rfl, _⟩ := h
  rfl
theorem upd_comm {H : Hp} {a b : Addr} {o u : HO} (h : a ≠ b) : upd (upd H a o) b u = upd (upd H b u) a o := by
  funext c
  by_cases ha : c = a
  · subst ha
    rw [upd_ne h, upd_same, upd_same]
  · by_cases hb : c = b
    · subst hb
      rw [upd_same, upd_ne ha, upd_same]
    · rw [upd_ne hb, upd_ne ha, upd_ne ha, upd_ne hb]
theorem upd_upd {H : Hp} {a : Addr} {o u : HO} : upd (upd H a o) a u = upd H a u := by
  funext c
  by_cases ha : c = a
  · subst ha
    rw [upd_same, upd_same]
  · rw [upd_ne ha, upd_ne ha, upd_ne ha]
section
variable {C : Fx} {ρ : List Slot} {ta : TA} {te : TE} {K' : PySem.W.Frag} {Cl : Addr}
theorem ev_mkV {P : PD} (T : OexC C.K Cl) (hv : PySem.W.findIn C.K (.ref Cl) "value" = some none) (h : EvA C ta ρ fun ds ρ1 => ∃ d, ds = [d] ∧ P (.exc Cl d) ρ1) (hK : K' = C.K := by rfl) : Ev C (tMkV Cl (spInit K') ta) ρ P := fun σ G H Q S q => by
  subst hK
  refine h σ G H _ S fun vs ds G1 H1 ρ1 s1 p1 k1 => ?_
  obtain ⟨d, rfl, p1⟩ := p1
  obtain ⟨v, rfl, k2⟩ := k1.one
  refine ⟨Nat.le_of_ble_eq_true rfl, fun a ha => ⟨a, Cl, v, rfl, T, hv, upd_same, fun dx hdx hne => ⟨rfl, dx, [("value", v)], upd_same, by rw [upd_ne hne]; exact upd_same, ?_⟩⟩⟩
  have hd1 : H1 dx = none := by
    rw [upd_ne hne] at hdx
    exact hdx
  have e : upd (upd (upd (upd (upd H1 a (exo a Cl none)) dx (exd dx [("value", v)])) a (exo a Cl (some dx))) a (ExV a Cl dx)) dx (.xd [("value", v)]) = upd (upd H1 a (ExV a Cl dx)) dx (.xd [("value", v)]) := by
    rw [upd_upd, upd_comm (H := upd H1 a (exo a Cl none)) hne, upd_upd, upd_upd]
  rw [e]
  have x1 : Ext G1 H1 (upd G1 a (ExV a Cl dx)) (upd H1 a (ExV a Cl dx)) (fun _ => False) := Ext.new s1.st.le ha _
  have x2 : Ext (upd G1 a (ExV a Cl dx)) (upd H1 a (ExV a Cl dx)) (upd (upd G1 a (ExV a Cl dx)) dx (.xd [("value", v)])) (upd (upd H1 a (ExV a Cl dx)) dx (.xd [("value", v)])) (fun _ => False) := Ext.new x1.gh (by rw [upd_ne hne]; exact hd1) _
  refine q (.ref a) (.exc Cl d) _ _ ρ1 (s1.trans (s1.st.keep (x1.trans x2 fun _ _ _ h => h.elim))) p1 ?_
  exact .exc (by rw [upd_ne hne.symm]; exact upd_same) upd_same (k2.mono (x1.gg.trans x2.gg))
/-- error.value -/
theorem ev_xv {P : PD} (h : Ev C te ρ fun x ρ1 => ∃ Cl d, x = .exc Cl d ∧ XfC C.K Cl ∧ PySem.W.findIn C.K (.ref Cl) "value" = some none ∧ P d ρ1) (hK : K' = C.K := by rfl) : Ev C (tXv K' "value" te) ρ P := fun σ G H Q S q => by
  subst hK
  refine h σ G H _ S fun v x G1 H1 ρ1 s1 p1 k1 => ?_
  obtain ⟨Cl, d, rfl, T, hv, p1⟩ := p1
  cases k1 with
  | exc k1 k2 k3 => exact ⟨_, Cl, _, _, _, rfl, s1.st.le _ _ k1, s1.st.le _ _ k2, T, hv, rfl, q _ d G1 H1 ρ1 s1 p1 k3⟩
/-- isinstance, of data or of an error -/
abbrev rIsA (K : PySem.W.Frag) : List V → Hp → VK → Prop := fun xs H Q => rIsi K xs H Q ∨ rIsX K xs H Q
theorem call_isA {X : Cx} : CallR X (.builtin "isinstance") (rIsA X.K) := CallR.or call_isi call_isX
theorem kIsA {X : Cx} {K : PySem.W.Frag} (h : X.K = K) : CallR X (.builtin "isinstance") (rIsA K) := h ▸ call_isA
theorem rc_isX {K K' : PySem.W.Frag} {P : D → Prop} {d : D} {c : V} {cv : Value} {b : Bool} (hK : K' = K) (T : ExcC K Cl) (kc : ClsV c cv) (e : PySem.W.kitOne K (.ref Cl) cv = some b) (h : P (.bl b)) : RC1 K (rIsA K') [.exc Cl d, .val c] P := fun G H vs Q le a q => by
  subst hK
  obtain ⟨v, u, rfl, k1, k2⟩ := a.two
  cases k2
  cases k1 with
  | exc k1 k2 k3 => exact .inr ⟨_, Cl, _, c, cv, b, _, rfl, le _ _ k1, le _ _ k2, T, kc, e, q _ _ G H (Ext.refl le) (Same.refl _) h (.bl _)⟩
theorem rc_isD {K K' : PySem.W.Frag} {P : D → Prop} {x : D} {n m : String} {b : Bool} (hK : K' = K) (e : tyD x = some n) (k : kitB n m = some b) (h : P (.bl b)) : RC1 K (rIsA K') [x, .val (.ty m)] P := fun G H vs Q le a q => .inl (rc_isi e k h hK G H vs Q le a q)
/-- raise C(e) -/
theorem xs_raise {E : XK} {Z : Addr → D → Prop} {po : Po} (T : OexC C.K Cl) (hv : PySem.W.findIn C.K (.ref Cl) "value" = some none) (hE : Flies C.K C.G0 C.H0 C.F0 Z E) (h : EvA C ta ρ fun ds ρ1 => ∃ d, ds = [d] ∧ Z Cl d) (hK : K' = C.K := by rfl) :
    Xs C (fun _ σ H => tMkO Cl (spInit K') [] ta σ H fun cls d H' => E cls d H') ρ po := fun σ G H Dn S hn hr hb hc => by
  subst hK
  refine h σ G H _ S fun vs ds G1 H1 ρ1 s1 p1 k1 => ?_
  obtain ⟨d, rfl, p1⟩ := p1
  obtain ⟨v, rfl, k2⟩ := k1.one
  refine ⟨Nat.le_of_ble_eq_true rfl, fun a ha => ⟨a, Cl, v, rfl, T, hv, upd_same, fun dx hdx hne => ⟨rfl, dx, [("value", v)], upd_same, by rw [upd_ne hne]; exact upd_same, ?_, ?_⟩⟩⟩
  · rw [upd_ne hne] at hdx
    exact hdx
  have hd1 : H1 dx = none := by
    rw [upd_ne hne] at hdx
    exact hdx
  have e : upd (del (upd (upd (upd H1 a (exo a Cl none)) dx (exd dx [("value", v)])) a (exo a Cl (some dx))) a) dx (.xd [("value", v)]) = upd H1 dx (.xd [("value", v)]) := by
    funext b
    by_cases hb : b = dx
    · subst hb
      rw [upd_same, upd_same]
    · rw [upd_ne hb, upd_ne hb]
      by_cases ha' : b = a
      · subst ha'
        rw [del_same, ha]
      · rw [del_ne ha', upd_ne ha', upd_ne hb, upd_ne ha']
  rw [e]
  have x1 : Ext G1 H1 (upd G1 dx (.xd [("value", v)])) (upd H1 dx (.xd [("value", v)])) (fun _ => False) := Ext.new s1.st.le hd1 _
  exact hE Cl dx v d _ _ (s1.st.ext.trans x1 fun _ _ _ h => h.elim) upd_same (k2.mono x1.gg) p1
end
/-- C(e) as what is raised -/
theorem pmk_g {X : Cx} {CX : CXT} {x : Str} {Cl fI : Addr} {k : Nat} {fd : FuncData} {ps : List Str} {sp : Sp} {e : Expr} {es : List Expr} {ta : TA} {p pos : Pos} (gd : X.A.guards = some []) (T : OexC X.K Cl) (iC : PySem.W.findIn X.K (.ref Cl) "__init__" = some (some (.ref fI)))
    (tI : PySem.W.typeIn X.K (.ref fI) = some (.type "function")) (F1 : FnG X.prog X.w X.K X.mg X.base CX k fI fd ps sp) (hr : Room (k + 1) X.A) (hb : Binds X.K fd ps []) (hx : Passes CX X (fun _ _ _ => False)) (hg : Gl X x) (hm : X.mg x = some (.ref Cl)) (ha : PA X (e :: es) ta)
    (hdb : (x == ("__debug__" : Str)) = false := by decide) (he : starEach (e :: es) X.env = (false, eval e X.env) :: starEach es X.env := by rfl) (hpl : (backTo pos (starEach es X.env)).any (·.1) = false := by rfl) : PMk X (.Call (.Name x p) (e :: es) [] pos) (tMkO Cl sp [] ta) := by
  intro pins s σ H Q I h
  obtain ⟨nm, qn, N, bs, bm, sn, sub, ab, col, dd, k0, k1, k2, k3, k5, hC, hbm⟩ := T.cls
  refine wpAny_Call_Name_kw (ld_glob I hg hm (PySem.W.callWith_K (h₀ := X.base) I.ok.mod.kin T.kC (thn (ha.run pos pins s σ H _ I h) fun us s1 hh => ?_) he hpl) hdb)
  obtain ⟨vs, H1, I1, r1, hz, q1⟩ := hh
  refine ⟨I1.kIn, ?_⟩
  show wpAny _ _ (call (.ref Cl) us) _ _ _
  obtain ⟨hp, g, dr, tk, os⟩ := s1
  have hn : H1 (hp.objs.size + 1) = none := I1.hok.fresh (Nat.le_succ _)
  have hq := q1 _ hn
  rw [List.append_nil] at hq
  obtain ⟨h2, eh2⟩ : ∃ h2, h2 = (hp.push (PySem.W.kdv_tup us)).push (PySem.HandSPX.excO Cl hp.objs.size) := ⟨_, rfl⟩
  have kk : ∀ b o, hp.get? b = some o → h2.get? b = some o := fun b o z => by
    rw [eh2]
    exact Heap.get?_push_of_some _ (Heap.get?_push_of_some _ z)
  have hget : h2.get? (hp.objs.size + 1) = some (PySem.HandSPX.excO Cl hp.objs.size) := by
    rw [eh2]
    heap_get
  have I2 : Inv X pins σ (upd H1 (hp.objs.size + 1) (exo (hp.objs.size + 1) Cl none)) ⟨h2, g, dr, tk, os⟩ := I1.laid (t' := tk) (h' := h2) kk (Nat.le_succ _) (exo_ok hget)
  have r2 : Vals (V.ref (hp.objs.size + 1) :: vs) (Value.ref (hp.objs.size + 1) :: us) := .cons rfl r1
  have hl : (Value.ref (hp.objs.size + 1) :: us ++ []).length = ps.length := by
    rw [← F1.len _ _ _ _ hq, List.append_nil]
    exact r2.length.symm
  have hus : us.length ≤ sizeLine := by
    have := r1.length
    rw [sizeLine_eq]
    omega
  have bd := hb ⟨h2, g, dr, tk, os⟩ (Value.ref (hp.objs.size + 1) :: us) I2.kIn hl
  rw [List.append_nil] at bd
  have key := F1.run (X.A.under (.builtin "type.__call__" ⟨.ref Cl :: us, []⟩)) X.stack ⟨h2, g, dr, tk, os⟩ _ ⟨Value.ref (hp.objs.size + 1) :: us, []⟩ _ _ _ (fun _ _ _ => False) gd (hr.make Cl us []) (I2.env0.make Cl us []) bd r2 hq
  rw [eh2] at key I2 kk
  refine wpAny_call (PySem.HandSPX.call_own F.excBase_ValueError (fun Y => PySem.HandSPX.refsVE_contains Y bm hbm) (I1.kIn _ _ hC) (PySem.W.looks_findIn I1.kIn iC) (fun self => PySem.W.bind_fn I1.kIn self tI) hus (codeAny_mono key fun r s' hq' => ?_))
  match r, hq' with
  | .error er, hq' => exact hx pins σ _ _ er s' I2 hq'
  | .ok (.ret u), ⟨v, H2, os2, bare2, un2, hok2, rv, ev, d, fs, ea, ed, hd1, q2⟩ =>
    subst ev
    obtain ⟨h3, g3, d3, t3, os3⟩ := s'
    exact ⟨rv, mk_end (raises_own T.exC T.tyC) I1 (Nat.le_succ _) kk un2 hok2 os2 bare2 ea ed hd1 q2⟩
end DL
namespace DL
open PySem PySem.Spec PyProof.Rows L2
variable [TabT] [CacT]

/-! ### an error that is caught and kept -/
section
variable {X : Cx} {pins : List (Addr × Obj)} {σ : L2.St} {H : Hp} {s : Shared}
/-- an object of ours that nothing tracks is tracked from now on -/
theorem inv_track {a : Addr} {o : HO} {oe : Obj} {vs : Array Value} (I : Inv X pins σ H s) (ha : s.heap.get? a = some oe) (hd : oe.data = .fields vs) (na : H a = none) (nL : a ≠ X.env.locals)
    (n0 : ∀ u, X.s_0.heap.get? a = some u → X.H_0 a = none → a ∉ X.ex → False) (np : ∀ p ∈ X.pn ++ pins, p.1 ≠ a) (new : ObjOk X.prog X.w (upd H a o) s.heap a o) : Inv X pins σ (upd H a o) s where
  ok := I.ok
  os := I.os
  bare := I.bare
  base := {
    keep := I.base.keep
    slot := I.base.slot
    free := fun b u q n hx => by
      have hb : b ≠ a := fun z => by
        subst z
        exact n0 u q n hx
      rw [upd_ne hb]
      exact I.base.free b u q n hx
    there := I.base.there
    tups := fun b xs q => by
      have h1 := I.base.tups b xs q
      rw [upd_ne (ne_of_none h1 na)]
      exact h1
    frzs := fun b u xs q => by
      have h1 := I.base.frzs b u xs q
      rw [upd_ne (ne_of_none h1 na)]
      exact h1
    tbls := fun b ps q => by
      obtain ⟨more, h1⟩ := I.base.tbls b ps q
      exact ⟨more, by rw [upd_ne (ne_of_none h1 na)]; exact h1⟩ }
  loc := I.loc
  cell := I.cell
  free := by
    rw [upd_ne nL.symm]
    exact I.free
  freeC := fun y c e => by
    obtain ⟨v, oc, hc, hv⟩ := I.cell y c e
    rw [upd_ne fun z => by
      rw [z, ha] at hc
      cases hc
      rw [hd] at hv
      cases hv]
    exact I.freeC y c e
  pin := fun p hp => by
    obtain ⟨h1, h2, h3⟩ := I.pin p hp
    exact ⟨h1, by rw [upd_ne (np p hp)]; exact h2, h3⟩
  hok := fun b u e => by
    by_cases hb : b = a
    · subst hb
      rw [upd_same] at e
      cases e
      exact new
    · rw [upd_ne hb] at e
      refine (I.hok b u e).stay (fun _ _ _ z => z) (fun c z => ?_) fun c xs z => ?_
      · rw [upd_ne (ne_of_none z na)]
        exact z
      · rw [upd_ne (ne_of_none z na)]
        exact z
  len := I.len
/-- within a suite, nothing pinned -/
theorem inv_suite {a : Addr} (I : Inv X pins σ H s) : Inv (X.suite a (X.pn ++ pins)) [] σ H s :=
  ⟨I.ok.suite _ _, I.os, I.bare, I.base, I.loc, I.cell, I.free, I.freeC, fun p hp => I.pin p (by simpa using hp), I.hok, I.len⟩
theorem inv_unsuite {a : Addr} (I : Inv (X.suite a (X.pn ++ pins)) [] σ H s) (ok : X.Ok) : Inv X pins σ H s :=
  ⟨ok, I.os, I.bare, I.base, I.loc, I.cell, I.free, I.freeC, fun p hp => I.pin p (by simpa using hp), I.hok, I.len⟩
end
/-- what 'except x as n' wishes, the error kept: slot i is n's -/
def wKeep (K : PySem.W.Frag) (c : Value) (i : Nat) (ts : TS) (Dn : Ends) : WX := fun cls d σ H =>
  ∃ C dx, cls = .ref C ∧ d = some dx ∧ PySem.W.exmOne K cls c = some true ∧ ∀ a, H a = none →
    ts { nx := fun σ' H' => Dn.nx (σ'.set i none) H', rt := Dn.rt, bk := fun σ' H' => Dn.bk (σ'.set i none) H', ct := fun σ' H' => Dn.ct (σ'.set i none) H' } (σ.set i (some (.ref a))) (upd H a (ExV a C dx))
section
variable {X : Cx} {x n : Str} {c : Value} {i : Nat} {body suite : List Stmt} {b₀ : Stmt} {np pos pos' : Pos} {tb : WX → TS} {ts : TS}
set_option maxHeartbeats 4000000 in
theorem ps_try_keep (hs : X.stack = X.env :: X.outer) (hf : X.env.frame = some X.env.locals) (hN : X.N.Nodup) (hi : X.N[i]? = some n) (hln : X.env.kindOf n = some .local) (hc : Names X x c)
    (hb : ∀ (W : WX) (pn : List (Addr × Obj)) (xe : Value → Shared → Prop), Takes (X.tr pn xe) W → PassesOwn (model X.prog X.w) X.A X.env xe → PSs (X.tr pn xe) body (tb W))
    (hsu : ∀ (a : Addr) (pn : List (Addr × Obj)), PSs (X.suite a pn) (b₀ :: suite) ts) :
    PS X (.Try body [.ExceptHandler (some (.Name x np)) (some n) (b₀ :: suite) pos'] [] [] pos) (fun Dn σ H => tb (wKeep X.K c i ts Dn) Dn σ H) := by
  constructor
  intro pins s σ H Dn I h
  have ok := I.ok
  have frm : X.A.frames = some (X.env :: X.outer) := hs ▸ ok.frames
  refine wpAny_Try_except (wpAny_mono ((hb (wKeep X.K c i ts Dn) (X.pn ++ pins) (fun e s₁ => wpAny (model X.prog X.w) X.A (noteFrame e X.env) (fun _ s₂ => wpAny (model X.prog X.w) X.A (setFlight e none) (fun _ s₃ =>
      wpAny (model X.prog X.w) X.A (handleBy e X.env [.ExceptHandler (some (.Name x np)) (some n) (b₀ :: suite) pos']) (SP X pins Dn) X.xe s₃) X.xe s₂) X.xe s₁) (fun u t hx => ?_) PassesOwn.looking).run [] s σ H Dn (I.toTry _) h) (fun f s1 hsp => ?_) (fun _ _ z => z))
  · obtain ⟨a, B, sI, pins', σ', H', cls, d, rfl, J0, nb, up, sky, na, os, ag, C, dx, rfl, rfl, hm, hyes⟩ := hx
    have J : Inv X pins σ' H' sI := J0.ofTry ok
    have sk : Sky B (X.env :: X.outer) a (Zc (.ref C) (some dx)) X.env.locals t.heap := hs ▸ sky
    refine Sky.land Zc.steady frm hf sk fun h3 f3 up3 => ?_
    have L3 : Inv X pins σ' H' { t with heap := h3 } := J.landed nb f3.1 (up.trans up3) os ag
    obtain ⟨oe3, vs3, e3, z3, d3⟩ := f3.there
    have off : a ∉ frs (X.env :: X.outer) := fun hmem => by
      obtain ⟨_, o', e', hnf⟩ := f3.2.2.1.mem hmem
      rw [e3] at e'
      cases e'
      exact hnf _ d3
    have nL : a ≠ X.env.locals := fun z => off (List.mem_filterMap.mpr ⟨X.env, List.mem_cons_self, by rw [hf, z]⟩)
    have nF : a ∉ X.fs := fun hmem => by
      obtain ⟨e, he, q⟩ := List.mem_filterMap.mp hmem
      exact off (List.mem_filterMap.mpr ⟨e, List.mem_cons_of_mem _ he, q⟩)
    have gone : ∀ u, sI.heap.get? a = some u → False := fun u q => by
      have z := nb a u q (by rw [hs]; exact off)
      rw [f3.2.1] at z
      cases z
    refine wpAny_handleBy_cons (codeAny_handlers_test ?_) (fun q => by cases q)
    have T3 := L3.suite e3 d3 na nL nF
    have LM := PySem.W.exm_one (M := model X.prog X.w) L3.kIn (fun A Q E s k q => wpAny_typeOf_ref (k _ _ e3) (by rw [z3.1]; exact q)) hm
    have look : ∀ {Q : Value → Shared → Prop} {E : Value → Shared → Prop}, Q c { t with heap := h3 } → wpAny (model X.prog X.w) (X.A.mark (some (.ref a))) (eval (.Name x np) X.env) Q E { t with heap := h3 } := by
      intro Q E q
      obtain ⟨hg, hdbg, hk⟩ := hc
      rcases hk with hk | ⟨hk, hv, hnn⟩
      · exact ld_glob (X := X.suite a ((a, oe3) :: (X.pn ++ pins))) T3 hg hk q hdbg
      · exact ld_blt (X := X.suite a ((a, oe3) :: (X.pn ++ pins))) T3 hg hk hv q hnn hdbg
    refine look (LM.here (codeAny_handlers_suite_as (HandSPX.lands_againZ f3 fun h4 f4 up4 => ?_)))
    have L4 : Inv X pins σ' H' { t with heap := h4 } := J.landed nb f4.1 ((up.trans up3).trans up4) os ag
    obtain ⟨oe4, vs4, e4, z4, d4⟩ := f4.there
    have L5 : Inv X pins σ' (upd H' a (ExV a C dx)) { t with heap := h4 } := inv_track L4 e4 d4 na nL (fun u q n hx => gone u (J.base.keep a u q n nF hx)) (fun p hp z => gone p.2 (z ▸ (J.pin p hp).1))
      ⟨⟨oe4, vs4, e4, z4, d4⟩, ⟨_, e4⟩, fun h1 h2 q k => by
        obtain ⟨o, v, q1, q2⟩ := q
        exact ⟨o, v, k _ q1, q2⟩⟩
    refine store_ok (X := X.suite a (X.pn ++ pins)) (v := .ref a) (inv_suite L5) hN hi (.inl hln) rfl (fun s5 S5 => ?_) (.inr hln)
    refine wpAny_mono ((hsu a (X.pn ++ pins)).run [] s5 _ _ _ S5 (hyes a na)) (fun f s6 hsp => ?_) (fun _ _ z => z.elim)
    have fin : ∀ {σ6 : L2.St} {H6 : Hp} {Q : Shared → Prop}, Inv (X.suite a (X.pn ++ pins)) [] σ6 H6 s6 → (∀ s7, Inv X pins (σ6.set i none) H6 s7 → Q s7) →
        wpAny (model X.prog X.w) X.A (do bindName X.env n .none; unbindBehindTheSuite X.env n pos') (fun _ s7 => Q s7) X.xe s6 := fun S6 hq => gone_ok (inv_unsuite S6 ok) hN hi hln hq
    match f, hsp with
    | .next, ⟨σ6, H6, S6, q6⟩ => exact fin S6 fun s7 J7 => ⟨_, _, J7, q6⟩
    | .brk, ⟨σ6, H6, S6, q6⟩ => exact fin S6 fun s7 J7 => ⟨_, _, J7, q6⟩
    | .cont, ⟨σ6, H6, S6, q6⟩ => exact fin S6 fun s7 J7 => ⟨_, _, J7, q6⟩
    | .ret u, ⟨v6, σ6, H6, S6, r6, q6⟩ => exact fin S6 fun s7 J7 => ⟨_, _, _, J7, r6, q6⟩
  · match f, hsp with
    | .next, ⟨σ', H', J, q⟩ => exact wpAny_execs_nil ⟨σ', H', J.ofTry ok, q⟩
    | .brk, ⟨σ', H', J, q⟩ => exact ⟨σ', H', J.ofTry ok, q⟩
    | .cont, ⟨σ', H', J, q⟩ => exact ⟨σ', H', J.ofTry ok, q⟩
    | .ret u, ⟨v, σ', H', J, r, q⟩ => exact ⟨v, σ', H', J.ofTry ok, r, q⟩
end
end DL
namespace DL
open PySem PySem.Spec PyProof.Rows L2 LamX
variable [TabT] [CacT]

/-! ### a lambda handed to a def, guards and tables told -/
section
variable {X : Cx} {pins : List (Addr × Obj)} {σ : L2.St} {H HZ : Hp} {s s1 : Shared}
/-- as ExtN, and nothing that is tracked goes -/
structure ExtT (H H1 : Hp) : Prop where
  n : ExtN H H1
  th : ∀ b o, H b = some o → ∃ u, H1 b = some u
theorem lam_new {T : List (Addr × Str)} {c P : Addr} {params : Arguments} {body : Expr} {scope : Scope} {pos : Pos} {E : Value → Shared → Prop} {Q : Value → Shared → Prop} (I : Inv X pins σ H s) (B : TabB X.base X.mg c P) (hcode : X.env.code = .ref c)
    (hm : (P, X.env.qual ++ "<lambda>") ∈ T) (hu : ∀ p ∈ T, p.1 = P → p.2 = X.env.qual ++ "<lambda>") (tabs : Tabs T H) (hdef : defaultsOf params X.env = ([], [])) (hfree : ∀ y ∈ scope.names, y.2 = .free → ∃ c, X.env.cells.lookup y.1 = some c)
    (h : ∀ (f c' : Addr) (pm ctv : Value) (H1 : Hp) (s' : Shared), Inv X pins σ H1 s' → ExtT H H1 → Tabs T H1 →
      s'.heap.get? f = some (PySem.W.kla_obj "<lambda>" (X.env.qual ++ "<lambda>") params body scope (cloFrom X.env.cells scope.names []) pm c' ctv) → H1 f = none → f ∉ frs X.stack → H1 c' = some (CodeO c' (X.env.qual ++ "<lambda>")) → Q (.ref f) s') :
    wpAny (model X.prog X.w) X.A (eval (.Lambda params body scope pos) X.env) Q E s := by
  obtain ⟨ps, hP, ht, told⟩ := tabs _ hm
  have hB : s.heap.BuiltinsAt X.mg P := B.bm.keeps I.bk
  have oP : s.heap.get? P = some { cls := .none, data := .fields ps } := I.hok P _ hP
  have off : ∀ f, s.heap.objs.size ≤ f → f ∉ frs X.stack := fun f hf z => by
    rcases List.mem_cons.mp (I.stkSub _ z) with e | e
    · exact absurd (Nat.lt_of_lt_of_le (e ▸ I.lt) hf) (Nat.lt_irrefl _)
    · exact I.nofs hf e
  refine PySem.W.kla_eval hdef ?_
  cases hc : codeAmong pos ps.toList with
  | some cv =>
    obtain ⟨c', rfl, hco⟩ := told pos cv hc
    refine PySem.W.kla_makeFunctionHit (mg := X.mg) (c := c) (P := P) (ps := ps) (closure_ok hfree) I.ok.glob (I.mod.glob.keeps I.bk) hcode (B.code.keeps I.bk) oP ht hc hB fun ctv h2 tk hx hz => ?_
    exact h h2.objs.size c' _ ctv H _ (I.kept (t' := tk) fun b o e => Heap.get?_push_of_some _ (hx b o e)) ⟨ExtN.refl H, fun b o e => ⟨o, e⟩⟩ tabs (Heap.get?_push_size _ rfl) (I.hok.fresh hz) (off _ hz) hco
  | none =>
    refine PySem.W.kla_makeFunction (mg := X.mg) (c := c) (P := P) (ps := ps) (closure_ok hfree) I.ok.glob (I.mod.glob.keeps I.bk) hcode (B.code.keeps I.bk) oP ht hc B.gP hB fun c' ctv h2 tk hx hge hlt hrec htb => ?_
    obtain ⟨c2, oc, vs, t, ec, hoc, hd, hv⟩ := hrec
    cases ec
    have big : s.heap.objs.size ≤ h2.objs.size := Nat.le_trans hge (Nat.le_of_lt hlt)
    have nC : H c' = none := I.hok.fresh hge
    have J := inv_table (t' := tk) (more := #[rawInt pos.line, rawInt pos.col, .ref c']) (h' := h2.push (PySem.W.kla_obj "<lambda>" (X.env.qual ++ "<lambda>") params body scope (cloFrom X.env.cells scope.names []) ((X.mg "__name__").getD .none) c' ctv)) I hP
      (fun b o hb e => Heap.get?_push_of_some _ (hx b o hb e)) (Heap.get?_push_of_some _ htb) hge ⟨oc, vs, t, Heap.get?_push_of_some _ hoc, hd, hv⟩
    obtain ⟨H1, eH1⟩ : ∃ H1, H1 = upd (upd H P (.tbl (ps ++ #[rawInt pos.line, rawInt pos.col, .ref c']))) c' (CodeO c' (X.env.qual ++ "<lambda>")) := ⟨_, rfl⟩
    rw [← eH1] at J
    have hE : ExtN H H1 := fun b o e n => by
      have nb : b ≠ P := fun z => by
        rw [z, hP] at e
        exact n ps (Option.some.inj e).symm
      rw [eH1, upd_ne (ne_of_none e nC), upd_ne nb]
      exact e
    have atP : H1 P = some (.tbl (ps ++ #[rawInt pos.line, rawInt pos.col, .ref c'])) := by
      rw [eH1, upd_ne (ne_of_none hP nC)]
      exact upd_same
    have hT : ExtT H H1 := ⟨hE, fun b o e => by
      by_cases hb : b = P
      · exact ⟨_, hb ▸ atP⟩
      · exact ⟨o, by rw [eH1, upd_ne (ne_of_none e nC), upd_ne hb]; exact e⟩⟩
    refine h h2.objs.size c' _ ctv H1 _ J hT (fun p hp => ?_) (Heap.get?_push_size _ rfl) ?_ (off _ big) (by rw [eH1]; exact upd_same)
    · by_cases hb : p.1 = P
      · rw [hu p hp hb, hb]
        have eL : (ps ++ #[rawInt pos.line, rawInt pos.col, .ref c']).toList = ps.toList ++ [rawInt pos.line, rawInt pos.col, .ref c'] := by simp
        refine ⟨_, atP, by rw [eL]; exact PySem.TriplesOk_snoc _ _ _ _ ht, fun p' cv q => ?_⟩
        rw [eL] at q
        rcases among_app _ ht q with z | z
        · obtain ⟨c0, e1, e2⟩ := told p' cv z
          exact ⟨c0, e1, hE _ _ e2 codeO_ne⟩
        · exact ⟨c', z, by rw [eH1]; exact upd_same⟩
      · obtain ⟨qs, a1, a2, a3⟩ := tabs p hp
        refine ⟨qs, by rw [eH1, upd_ne (ne_of_none a1 nC), upd_ne hb]; exact a1, a2, fun p' cv q => ?_⟩
        obtain ⟨c0, e1, e2⟩ := a3 p' cv q
        exact ⟨c0, e1, hE _ _ e2 codeO_ne⟩
    · rw [eH1, upd_ne (Nat.ne_of_gt hlt), upd_ne (Nat.ne_of_gt (Nat.lt_of_lt_of_le (Heap.lt_size oP) big))]
      exact I.hok.fresh big
/-- x(), in the def that got the lambda -/
theorem act_g {CXg : CXT} {Eg : XK} {Ng : List Str} {qg : Str} {sg : Scope} {g f c' : Addr} {cdg pm ctv : Value} {params : Arguments} {body : Expr} {scope : Scope} {k i : Nat} {a : Str} {pn : List (Addr × Obj)} {xe : Value → Shared → Prop} {W : WX} {tb : XK → TE} {p1 p2 : Pos}
    (I : Inv X pins σ H s) (gd : X.A.guards = some []) (L : LamS X.env.scope scope) (hf : s.heap.get? f = some (PySem.W.kla_obj "<lambda>" (X.env.qual ++ "<lambda>") params body scope (cloFrom X.env.cells scope.names []) pm c' ctv)) (hfn : H f = none) (hfr : f ∉ frs X.stack)
    (hbind : bindArgs (PySem.W.kla_fn "<lambda>" (X.env.qual ++ "<lambda>") params body scope (cloFrom X.env.cells scope.names []) pm (.ref c') ctv) ⟨[], []⟩ = pure [])
    (tk : Takes ((cxOf CXg X.prog X.w X.K X.mg X.base Ng qg sg g cdg X.A X.stack s H Eg).tr pn xe) W) (hr : Room (k + 1) (X.A.deeper (envOfC qg sg s.heap.objs.size g cdg)))
    (hbody : ∀ (A : Around) (outer : List Env) (s : Shared) (H : Hp) (E : XK), A.guards = some [] → Room k (A.deeper (lamEnv X scope s.heap.objs.size f c')) → PE (lamCx X A outer s H E scope f c') body (tb E))
    (hN : Ng[i]? = some a) (hv : Vis sg a) (hd : (a == ("__debug__" : Str)) = false := by decide) (hcd : (a == ("__classdict__" : Str)) = false := by decide) :
    PE ((cxOf CXg X.prog X.w X.K X.mg X.base Ng qg sg g cdg X.A X.stack s H Eg).tr pn xe) (.Call (.Name a p1) [] [] p2)
      (fun σZ HZ Q => σZ[i]? = some (some (.ref f)) ∧ HZ c' = some (CodeO c' (X.env.qual ++ "<lambda>")) ∧ ∃ E : XK, (∀ cls d H', E cls d H' → W cls d σZ H') ∧ tb E σ HZ Q) := by
  constructor
  intro pZ sZ σZ HZ Q IZ ⟨hs, hc, E, hW, ht⟩
  have hvar := (pe_var (X := (cxOf CXg X.prog X.w X.K X.mg X.base Ng qg sg g cdg X.A X.stack s H Eg).tr pn xe) (pos := p1) (i := i) hN hv hd hcd).run pZ sZ σZ HZ (fun v H1 => v = .ref f ∧ H1 = HZ) IZ ⟨.ref f, hs, rfl, rfl⟩
  refine wpAny_Call_Name_kw (thn hvar fun u s1 hh => ?_)
  obtain ⟨v, H1, J, r1, rfl, rfl⟩ := hh
  cases (show u = Value.ref f from r1)
  have of1 : s1.heap.get? f = some (PySem.W.kla_obj "<lambda>" (X.env.qual ++ "<lambda>") params body scope (cloFrom X.env.cells scope.names []) pm c' ctv) := J.base.keep f _ hf hfn hfr (fun z => nomatch (show f ∈ ([] : List Addr) from z))
  refine PySem.W.callWith_F0 ⟨_, _, _, _, of1⟩ ?_
  have un : Un (frs X.stack) [] H H1 s.heap s1.heap := J.base
  obtain ⟨⟨oc, vs, t, hoc, hdc, hvc⟩, _, _⟩ := J.hok c' _ hc
  have key : codeAny (model X.prog X.w) (X.A.deeper (envOfC qg sg s.heap.objs.size g cdg)) (.call (.ref f) ⟨[], []⟩) (CR (L2.CX X.prog X.w) (envOfC qg sg s.heap.objs.size g cdg :: X.stack) X.prog X.w H1 s1 Q E) s1 := by
    refine PySem.W.kla_callFunE hr.depth of1 rfl L.co L.gen rfl ⟨c', oc, vs, t, rfl, hoc, hdc, hvc⟩ ?_
    rw [hbind]
    refine wpAny_pure (wpAny_newFunctionEnv (fun y hy => (L.own y hy).2) (fun y hy => absurd hy (by simp)) (fun h₁ hns hsb => ?_) L.kind)
    refine ⟨J.nolimit.fresh _ hsb, ?_⟩
    show codeAny _ _ (.expr body (lamEnv X scope s1.heap.objs.size f c')) _ _
    have stay : ∀ b o, s1.heap.get? b = some o → h₁.get? b = some o := fun b o e => hsb.extBut b o (Nat.ne_of_lt (Heap.lt_size e)) (Heap.get?_push_of_some _ e)
    have JL : Inv (lamCx X (X.A.deeper (envOfC qg sg s.heap.objs.size g cdg)) (envOfC qg sg s.heap.objs.size g cdg :: X.stack) s1 H1 E scope f c') [] σ H1 { s1 with heap := h₁, toks := s1.toks + ([] : List (Str × Value)).length } :=
      lam_start2 I L J.env0 hr.hd un hns stay
    refine PySem.W.kla_codeExpr (wpAny_mono ((hbody (X.A.deeper (envOfC qg sg s.heap.objs.size g cdg)) _ s1 H1 E gd (hr.deeper _)).run [] _ _ H1 Q JL ht) (fun v s' hq => ?_) fun _ _ hq => hq)
    obtain ⟨w', H', J', rv, q⟩ := hq
    exact ⟨w', H', J'.os, J'.bare, J'.base, J'.hok, rv, q⟩
  refine wpAny_call (codeAny_mono key fun r s' hq => ?_)
  match r, hq with
  | .error e, hq => exact tk e s' (XE.of_call J hW hq)
  | .ok (.ret u), hq => exact J.after hq
end
/-- the def that calls what it got: a calls it; TT: what it makes of the lambda's reading -/
def GivesG (X : Cx) (Ng : List Str) (x : Str) (sg : Scope) (g : Addr) (cdg : Value) (bg : List Stmt) (a : Str) (q : Str) (TT : (XK → Hp → VK → Prop) → Hp → VK → Prop) : Prop :=
  ∀ (f c' : Addr) (s : Shared) (H : Hp) (Q : VK) (tl : XK → Hp → VK → Prop),
    (∀ (W : WX) (pn : List (Addr × Obj)) (xe : Value → Shared → Prop) (p1 p2 : Pos), Takes ((cxOf C8.CX0 X.prog X.w X.K X.mg X.base Ng x sg g cdg X.A X.stack s H C8.E0).tr pn xe) W →
      PE ((cxOf C8.CX0 X.prog X.w X.K X.mg X.base Ng x sg g cdg X.A X.stack s H C8.E0).tr pn xe) (.Call (.Name a p1) [] [] p2) (fun σZ HZ Q => σZ[0]? = some (some (.ref f)) ∧ HZ c' = some (CodeO c' q) ∧ ∃ E : XK, (∀ cls d H', E cls d H' → W cls d σZ H') ∧ tl E HZ Q)) →
    H c' = some (CodeO c' q) → TT tl H Q →
    ∃ t, PSs (cxOf C8.CX0 X.prog X.w X.K X.mg X.base Ng x sg g cdg X.A X.stack s H C8.E0).nox bg t ∧ t { nx := fun _ H' => Q .non H', rt := Q } (L2.start Ng [.ref f]) H
/-- x(lambda: body) -/
def tLamG (T : List (Addr × Str)) (TT : (XK → Hp → VK → Prop) → Hp → VK → Prop) (t : XK → TE) : TE := fun σ H Q => Tabs T H ∧ ∀ H1, ExtT H H1 → Tabs T H1 → TT (fun E H' Q' => t E σ H' Q') H1 Q
section
variable {X : Cx}
theorem pe_lamG {T : List (Addr × Str)} {TT : (XK → Hp → VK → Prop) → Hp → VK → Prop} {x a : Str} {g c P : Addr} {k : Nat} {pg : Arguments} {bg : List Stmt} {sg : Scope} {dV kV doc pm cdv ct oc : Value} {an od : Option Addr} {osl : Array (Option Value)} {Ng : List Str}
    {params : Arguments} {body : Expr} {scope : Scope} {t : XK → TE} {p lpos pos : Pos} (gd : X.A.guards = some []) (hg : Gl X x) (hm : X.mg x = some (.ref g)) (hk : PySem.W.keepIn X.K (.ref g) = true)
    (lk : X.K.lookup g = some ⟨oc, od, .func (PySem.W.fnOf x x pg bg sg dV kV doc pm an cdv ct), osl⟩) (hcg : PySem.W.codeIn X.K cdv x = true) (hb : L2.Binds X.K (PySem.W.fnOf x x pg bg sg dV kV doc pm an cdv ct) [a] []) (Sg : FnScope Ng [a] sg) (hNg : Ng[0]? = some a) (hva : Vis sg a)
    (hG : GivesG X Ng x sg g cdv bg a (X.env.qual ++ "<lambda>") TT)
    (B : TabB X.base X.mg c P) (hcode : X.env.code = .ref c) (hmT : (P, X.env.qual ++ "<lambda>") ∈ T) (hu : ∀ p ∈ T, p.1 = P → p.2 = X.env.qual ++ "<lambda>") (hr : Room (k + 2) X.A) (L : LamS X.env.scope scope) (hdef : defaultsOf params X.env = ([], []))
    (hbind : ∀ (q : Str) (cl : List (Str × Addr)) (pm cv ctv : Value), bindArgs (PySem.W.kla_fn "<lambda>" q params body scope cl pm cv ctv) ⟨[], []⟩ = pure [])
    (hbody : ∀ (A : Around) (outer : List Env) (s : Shared) (H : Hp) (E : XK) (f c' : Addr), A.guards = some [] → Room k (A.deeper (lamEnv X scope s.heap.objs.size f c')) → PE (lamCx X A outer s H E scope f c') body (t E))
    (hdb : (x == ("__debug__" : Str)) = false := by decide) (hd : (a == ("__debug__" : Str)) = false := by decide) (hcd : (a == ("__classdict__" : Str)) = false := by decide) :
    PE X (.Call (.Name x p) [.Lambda params body scope lpos] [] pos) (tLamG T TT t) := by
  constructor
  intro pins s σ H Q I ⟨hT, h⟩
  refine wpAny_Call_Name_kw (ld_glob I hg hm (PySem.W.callWith_K (h₀ := X.base) I.ok.mod.kin hk ?_ (by rfl) (by rfl)) hdb)
  show wpAny _ _ (spliced ((false, eval (.Lambda params body scope lpos) X.env) :: backTo pos (starEach [] X.env))) _ _ s
  refine Calls.spliced_cons (lam_new I B hcode hmT hu hT hdef (L.has I.ok) fun f c' pm' ctv H1 s' J eN T1 hf hfn hfr hco => ?_)
  refine Calls.spliced_nil ⟨J.kIn, ?_⟩
  have key : codeAny (model X.prog X.w) X.A (.call (.ref g) ⟨[.ref f], []⟩) (CR C8.CX0 X.stack X.prog X.w H1 s' Q C8.E0) s' :=
    run_ofS (N := Ng) (ps := [a]) (us := [.ref f]) (vs := [.ref f]) lk hcg Sg hr J.env0 (hb s' [.ref f] J.kIn rfl) (.cons rfl .nil) rfl fun hr' => by
      obtain ⟨t', d', q'⟩ := hG f c' s' H1 Q (fun E H' Q' => t E σ H' Q') (fun W pn xe p1 p2 tk => act_g (i := 0) J gd L hf hfn hfr (hbind _ _ _ _ _) tk hr' (fun A outer s H E gA hr2 => hbody A outer s H E f c' gA hr2) hNg hva hd hcd) hco (h H1 eN T1)
      exact ⟨t', d'.nox, q'⟩
  refine wpAny_call (codeAny_mono key fun r s2 hq => ?_)
  match r, hq with
  | .error e, hq => exact (show False from hq).elim
  | .ok (.ret u), hq => exact J.after hq
end
end DL
namespace DL
open PySem PySem.Spec PyProof.Rows L2 LamX
variable [TabT] [CacT]

/-- a reading, its end weakened -/
def tWeak (t : TE) : TE := fun σ H Q => ∃ Q' : VK, (∀ v H', Q' v H' → Q v H') ∧ t σ H Q'
theorem pe_weak {X : Cx} {e : Expr} {t : TE} (h : PE X e t) : PE X e (tWeak t) := by
  constructor
  intro pins s σ H Q I ⟨Q', hw, ht⟩
  refine wpAny_mono (h.run pins s σ H Q' I ht) (fun u s' hq => ?_) fun _ _ z => z
  obtain ⟨v, H', J, r, q⟩ := hq
  exact ⟨v, H', J, r, hw v H' q⟩
/-- caught, back = (None, None); try: back = call() except C as error: caught = error; return (caught, back) -/
def TTh (K : PySem.W.Frag) (CT : Addr) : (XK → Hp → VK → Prop) → Hp → VK → Prop := fun tl H Q => ∀ l0, H l0 = none →
  tl (fun cls d H' => ∃ C dx, cls = .ref C ∧ d = some dx ∧ PySem.W.exmOne K cls (.ref CT) = some true ∧ ∀ a, H' a = none → ∀ l, upd H' a (ExV a C dx) l = none → Q (.ref l) (upd (upd H' a (ExV a C dx)) l (.tup [.ref a, .non])))
    (upd H l0 (.tup [.non, .non])) (fun v H1 => ∀ l, H1 l = none → Q (.ref l) (upd H1 l (.tup [.non, v])))
/-! ### the same over data -/
/-- what the lambda's body makes, where it may raise: looked at from slots that are data -/
def EvL (K : PySem.W.Frag) (t : XK → TE) (ρ : List Slot) (P : D → Prop) (Z : Addr → D → Prop) : Prop := ∀ (G H : Hp) (E : XK), Flies K G H (fun _ => False) Z E → Ev ⟨K, G, H, fun _ => False⟩ (t E) ρ fun d _ => P d
/-- the slots that are data -/
def dats : List Slot → List Slot := List.map fun s => match s with
  | .dat d => .dat d
  | _ => .un
theorem dats_get {ρ : List Slot} {i : Nat} {s : Slot} (h : (dats ρ)[i]? = some s) : s = .un ∨ ∃ d, s = .dat d ∧ ρ[i]? = some (.dat d) := by
  unfold dats at h
  rw [List.getElem?_map] at h
  obtain ⟨r, hr, rfl⟩ := Option.map_eq_some_iff.mp h
  cases r with
  | dat d => exact .inr ⟨d, rfl, hr⟩
  | un => exact .inl rfl
  | own ds => exact .inl rfl
  | pot a k => exact .inl rfl
  | obj x => exact .inl rfl
  | tre x => exact .inl rfl
theorem sg_dats {C : Fx} {G H : Hp} {σ : L2.St} {ρ : List Slot} (S : Sg C G H σ ρ) {G1 H1 : Hp} (e : Ext G H G1 H1 fun _ => False) : Sg ⟨C.K, G1, H1, fun _ => False⟩ G1 H1 σ (dats ρ) := by
  refine ⟨Ext.refl e.gh, by unfold dats; rw [List.length_map]; exact S.len, fun i s hs => ?_, fun i j a m _ => ?_⟩
  · rcases dats_get hs with rfl | ⟨d, rfl, hd⟩
    · have hl : i < σ.length := by
        rw [S.len]
        have := (List.getElem?_eq_some_iff.mp hs).1
        unfold dats at this
        rwa [List.length_map] at this
      exact ⟨σ[i], List.getElem?_eq_getElem hl, trivial⟩
    · obtain ⟨o, ho, v, e1, k⟩ := S.sl i _ hd
      exact ⟨o, ho, v, e1, k.mono e.gg⟩
  · exfalso
    obtain ⟨s, h, hm⟩ := m.slot
    rcases dats_get h with z | ⟨d, z, _⟩ <;> subst z <;> cases hm
theorem ev_heard {C : Fx} {CT : Addr} {t : XK → TE} {ρ : List Slot} {P : PD} {R : D → Prop} {Z : Addr → D → Prop} {K' : PySem.W.Frag} (hT : Tabs TabT.T C.H0) (hN : NoT C.G0) (hb : EvL C.K t (dats ρ) R Z)
    (hR : ∀ d, R d → P (.tup [.non, d]) ρ) (hZ : ∀ Cl d, Z Cl d → PySem.W.exmOne C.K (.ref Cl) (.ref CT) = some true ∧ P (.tup [.exc Cl d, .non]) ρ) (hK : K' = C.K := by rfl) : Ev C (tLamG TabT.T (TTh K' CT) t) ρ P := fun σ G H Q S q => by
  subst hK
  refine ⟨S.ext.tt hT, fun H1 eT T1 l0 hl0 => ?_⟩
  have gh1 : Lo G H1 := fun b o e => by
    have k := S.le b o e
    obtain ⟨u, hu⟩ := Ky.so k
    have nt : ∀ ps, u ≠ .tbl ps := fun ps z => by
      rw [hu, z] at k
      cases o with
      | ins C dx fs =>
        obtain ⟨fs', e2, _⟩ := k
        cases e2
      | tbl qs => exact S.ext.nt hN b qs e
      | _ => cases k
    rw [eT.n b u hu nt]
    rw [hu] at k
    exact k
  have x1 : Ext G H G H1 (fun _ => False) := ⟨Same.refl G, gh1, fun b o e n _ _ => eT.n b o e n, fun _ _ _ _ g _ => g, eT.th, fun _ => T1, fun g => g⟩
  have x2 : Ext G H1 (upd G l0 (.tup [.non, .non])) (upd H1 l0 (.tup [.non, .non])) (fun _ => False) := Ext.new x1.gh hl0 _
  have x := x1.trans x2 fun _ _ _ z => z.elim
  have S2 := sg_dats S x
  refine hb _ _ _ (fun Cl dx v d G' H' e hg k hz => ?_) σ _ _ _ S2 fun v d G' H' ρ' s r k l hl => ?_
  · obtain ⟨em, p⟩ := hZ Cl d hz
    refine ⟨Cl, dx, rfl, rfl, em, fun a ha l hl => ?_⟩
    have y1 : Ext G' H' (upd G' a (ExV a Cl dx)) (upd H' a (ExV a Cl dx)) (fun _ => False) := Ext.new e.gh ha _
    have y2 : Ext (upd G' a (ExV a Cl dx)) (upd H' a (ExV a Cl dx)) (upd (upd G' a (ExV a Cl dx)) l (.tup [.ref a, .non])) (upd (upd H' a (ExV a Cl dx)) l (.tup [.ref a, .non])) (fun _ => False) := Ext.new y1.gh hl _
    have y := (x.trans e fun _ _ _ z => z.elim).trans (y1.trans y2 fun _ _ _ z => z.elim) fun _ _ _ z => z.elim
    refine q (.ref l) (.tup [.exc Cl d, .non]) _ _ ρ (S.keep y) p (.tup (.inl (.inl upd_same)) (.cons ?_ (.cons .non .nil)))
    exact Is.mono y2.gg (.exc upd_same (y1.gg _ _ hg) (k.mono y1.gg))
  · have e := s.st.ext
    have y1 : Ext G' H' (upd G' l (.tup [.non, v])) (upd H' l (.tup [.non, v])) (fun _ => False) := Ext.new e.gh hl _
    have y := (x.trans e fun _ _ _ z => z.elim).trans y1 fun _ _ _ z => z.elim
    exact q (.ref l) (.tup [.non, d]) _ _ ρ (S.keep y) (hR d r) (.tup (.inl (.inl upd_same)) (.cons .non (.cons (k.mono y1.gg) .nil)))
end DL
namespace DL
open PySem PySem.Spec PyProof.Rows L2 LamX
variable [TabT] [CacT]
/-! ### the law's own call, with tables of code objects -/
/-- the heap at the law's call: the script, unless it is written, and the tables -/
def tbH (K : PySem.W.Frag) (ts : List Addr) (a : Addr) (o : Obj) (xs : List V) : Hp := fun b => if b ∈ ts then some (.tbl #[]) else scH K a o xs b
theorem tbH_some {K : PySem.W.Frag} {ts : List Addr} {a b : Addr} {o : Obj} {xs : List V} {u : HO} (h : tbH K ts a o xs b = some u) : (b ∈ ts ∧ u = .tbl #[]) ∨ (b ∉ ts ∧ b = a ∧ K.lookup a = none ∧ u = .frz o (.lst xs)) := by
  unfold tbH at h
  by_cases c : b ∈ ts
  · rw [if_pos c] at h
    exact .inl ⟨c, (Option.some.inj h).symm⟩
  · rw [if_neg c] at h
    exact .inr ⟨c, scH_some h⟩
theorem law_gT {P : Program} {w : World} {K : PySem.W.Frag} {mg mb : Str → Option Value} {CX : CXT} {k : Nat} {fa a : Addr} {cs : List (Addr × Addr)} {fd : FuncData} {x : Str} {sp : Sp} {s₁ : Shared} {vs : List Value} {ns : List Int}
    (KX : K.In s₁.heap) (hns : s₁.heap.Ns mainGlobals mg) (hb : s₁.heap.Ns builtinsNs mb) (hbb : ∀ x : Str, x ≠ "__name__" → mb x = bootBuiltins x) (hlim : s₁.heap.NoLimit) (hg : s₁.gens = #[])
    (tabs : ∀ p ∈ cs, s₁.heap.get? p.2 = some { cls := .none, data := .fields #[] }) (notK : ∀ p ∈ cs, K.lookup p.2 = none) (code : ∀ p ∈ cs, PySem.W.CodeHd s₁.heap p.1 p.2)
    (hbm : ∃ (bm : Addr) (ob : Obj), mg "__builtins__" = some (.ref bm) ∧ bm ≠ builtinsNs ∧ s₁.heap.get? bm = some ob ∧ ob.cls = .type "module" ∧ ob.dict = some builtinsNs ∧ ob.data = .plain)
    (ha : s₁.heap.get? a = some { cls := .type "list", data := .seq vs.toArray }) (hi : IntsAre vs ns) (hl : ns.length ≤ sizeLine) (hr : Room k callerA)
    (F : ∀ base : Heap, K.In base → base.Ns mainGlobals mg → (∀ p ∈ cs, TabB base mg p.1 p.2) → FnG P w K mg base CX k fa fd [x] sp) (hbind : ∀ (s : Shared) (u : Value), BindsTo s fd ⟨[u], []⟩ [(x, u)])
    (hsp : ∀ H : Hp, (∀ p ∈ cs, H p.2 = some (.tbl #[])) → SqL K H a (ns.map V.int) → sp [.ref a] H (fun v _ => v = .bl true) fun _ _ _ => False)
    (hCX : ∀ H e s', CX [] H s₁ (fun _ _ _ => False) e s' → False) :
    codeAny (model P w) callerA (.call (.ref fa) ⟨[.ref a], []⟩) (fun r s' => r = .ok (.ret (.bool true)) ∧ OldK s₁.heap s'.heap ∧ s'.os = s₁.os ∧ AllBare s'.gens) s₁ := by
  have rv := vals_ints hi
  obtain ⟨ts, ets⟩ : ∃ ts, ts = cs.map (·.2) := ⟨_, rfl⟩
  have inT : ∀ p ∈ cs, p.2 ∈ ts := fun p hp => ets ▸ List.mem_map.mpr ⟨p, hp, rfl⟩
  have ofT : ∀ b ∈ ts, ∃ p ∈ cs, p.2 = b := fun b hb => List.mem_map.mp (ets ▸ hb)
  obtain ⟨H, hH⟩ : ∃ H, H = tbH K ts a { cls := .type "list", data := .seq vs.toArray } (ns.map V.int) := ⟨_, rfl⟩
  have some_ : ∀ {b : Addr} {u : HO}, H b = some u → (b ∈ ts ∧ u = .tbl #[]) ∨ (b ∉ ts ∧ b = a ∧ K.lookup a = none ∧ u = .frz { cls := .type "list", data := .seq vs.toArray } (.lst (ns.map V.int))) := fun e => tbH_some (hH ▸ e)
  have atT : ∀ b ∈ ts, H b = some (.tbl #[]) := fun b hb => by
    rw [hH]
    exact if_pos hb
  have getT : ∀ b ∈ ts, s₁.heap.get? b = some { cls := .none, data := .fields #[] } := fun b hb => by
    obtain ⟨p, hp, rfl⟩ := ofT b hb
    exact tabs p hp
  have aT : a ∉ ts := fun z => by
    have q := getT a z
    rw [ha] at q
    exact nomatch (show Data.seq vs.toArray _ = Data.fields #[] from congrArg Obj.data (Option.some.inj q))
  have hok : HOk P w H s₁.heap := fun b u e => by
    rcases some_ e with ⟨hb, rfl⟩ | ⟨_, rfl, _, rfl⟩
    · exact getT b hb
    · exact ⟨ha, by rw [List.length_map]; exact hl, vs, _, rv, ha⟩
  have hS : SqL K H a (ns.map V.int) := by
    cases hk : K.lookup a with
    | some o =>
      have e := KX a o hk
      rw [ha] at e
      cases e
      exact .inr ⟨_, vs.toArray, _, hk, rfl, rfl, rfl, by rw [List.size_toArray, hi.length]; exact hl, by simpa using rv⟩
    | none =>
      refine .inl (.inr ⟨{ cls := .type "list", data := .seq vs.toArray }, ?_⟩)
      rw [hH]
      unfold tbH
      rw [if_neg aT]
      exact if_pos ⟨rfl, hk⟩
  -- what is neither a sequence nor a table is not tracked
  have free : ∀ {b : Addr} {o : Obj}, s₁.heap.get? b = some o → (∀ us n, o.data ≠ .seq us n) → o.data ≠ .fields #[] → H b = none := fun {b o} e n1 n2 => by
    cases q : H b with
    | none => rfl
    | some u =>
      rcases some_ q with ⟨hb, _⟩ | ⟨_, rfl, _, _⟩
      · rw [getT b hb] at e
        cases e
        exact (n2 rfl).elim
      · rw [ha] at e
        cases e
        exact (n1 _ _ rfl).elim
  have dictFree : ∀ {b : Addr} {o : Obj} {es : Array DictEntry} {ep : Nat}, s₁.heap.get? b = some o → o.data = .dict es ep → H b = none := fun e d => free e (fun us n z => by rw [d] at z; cases z) (fun z => by rw [d] at z; cases z)
  have nsB : ∀ {b : Addr} {m : Str → Option Value}, s₁.heap.Ns b m → (hidT s₁.heap H).Ns b m := fun ⟨o, es, ep, e, d, r⟩ => ⟨o, es, ep, hidT_get e (dictFree e d), d, r⟩
  have inB : K.In (hidT s₁.heap H) := fun b o e => hidT_get (KX b o e) (by
    cases q : H b with
    | none => rfl
    | some u =>
      rcases some_ q with ⟨hb, _⟩ | ⟨_, rfl, n, _⟩
      · obtain ⟨p, hp, rfl⟩ := ofT b hb
        rw [notK p hp] at e
        cases e
      · rw [n] at e
        cases e)
  have mod : Mod K mg (hidT s₁.heap H) := ⟨inB, nsB hns, ⟨mb, nsB hb, hbb⟩, let ⟨mc, h1, h2⟩ := hlim; ⟨mc, nsB h1, h2⟩⟩
  have none_ : ∀ {b : Addr} {P : Prop}, b ∈ ([] : List Addr) → P := fun h => absurd h (by simp)
  have tb : ∀ p ∈ cs, TabB (hidT s₁.heap H) mg p.1 p.2 := fun p hp => by
    have hp2 := tabs p hp
    refine ⟨?_, ?_, fun z => ?_⟩
    · obtain ⟨o, us, file, tf, flags, tg, inF, text, tt, e1, c1, c2, c3, rest⟩ := code p hp
      refine ⟨o, us, file, tf, flags, tg, inF, text, tt, hidT_get e1 (free e1 (fun us' n z => ?_) fun z => ?_), c1, c2, c3, rest⟩
      · rw [c2] at z
        cases z
      · rw [c2] at z
        cases z
        simp at c3
    · obtain ⟨bm, ob, b1, b2, b3, b4, b5, b6⟩ := hbm
      refine ⟨bm, ob, b1, b2, fun z => ?_, fun z => ?_, hidT_get b3 (free b3 (fun us n z => ?_) fun z => ?_), b4, b5, b6⟩
      · obtain ⟨o, es, ep, e, d, _⟩ := hns
        rw [z, e] at b3
        cases b3
        rw [d] at b6
        cases b6
      · rw [z, hp2] at b3
        cases b3
        cases b6
      · rw [b6] at z
        cases z
      · rw [b6] at z
        cases z
    · obtain ⟨o, es, ep, e, d, _⟩ := hns
      rw [z, hp2] at e
      cases e
      cases d
  have e0 : Env0 P w K mg (hidT s₁.heap H) callerA [] s₁ H := ⟨rfl, mod, fun b o e => of_hidT e, Nat.le_of_eq (hidT_size _ _), trivial, fun b h => none_ h, hok, .of_eq hg⟩
  refine codeAny_mono ((F _ inB (nsB hns) tb).run callerA [] s₁ H ⟨[.ref a], []⟩ [.ref a] [.ref a] _ _ rfl hr e0 (hbind s₁ (.ref a)) (.cons rfl .nil) (hsp H (fun p hp => atT _ (inT p hp)) hS)) fun r s' h => ?_
  match r, h with
  | .error e, h => exact (hCX H e s' h).elim
  | .ok (.ret u), ⟨v, H', os, bare, un, hok', r', q⟩ =>
    have q' : v = .bl true := q
    subst q'
    obtain rfl : u = Value.bool true := r'
    have same : ∀ b o, b ∉ ts → s₁.heap.get? b = some o → s'.heap.get? b = some o := fun b o nb e => by
      cases q : H b with
      | none => exact un.keep b o e q (fun z => none_ z) (fun z => none_ z)
      | some u =>
        rcases some_ q with ⟨hb, _⟩ | ⟨_, rfl, _, rfl⟩
        · exact absurd hb nb
        · have e1 := (hok b _ q).1
          have e2 := (hok' b _ (un.frzs b _ _ q)).1
          rw [e] at e1
          cases e1
          exact e2
    have grown : ∀ p ∈ cs, ∃ more : Array Value, s'.heap.get? p.2 = some { cls := .none, data := .fields more } := fun p hp => by
      obtain ⟨more, z⟩ := un.tbls p.2 #[] (atT _ (inT p hp))
      exact ⟨_, hok' p.2 _ z⟩
    refine ⟨rfl, ⟨fun b o e => ?_, fun b o e => ?_⟩, os, bare⟩
    · by_cases hb : b ∈ ts
      · obtain ⟨p, hp, rfl⟩ := ofT b hb
        obtain ⟨more, hm⟩ := grown p hp
        rw [tabs p hp] at e
        cases e
        exact .inr (.inl ⟨((code p hp).tab (tabs p hp)).isCodeTable, rfl, #[], more, rfl, by rw [Array.empty_append]; exact hm⟩)
      · exact .inl (same b o hb e)
    · by_cases hb : b ∈ ts
      · obtain ⟨p, hp, rfl⟩ := ofT b hb
        obtain ⟨more, hm⟩ := grown p hp
        exact ⟨_, hm⟩
      · exact ⟨o, same b o hb e⟩
/-- the goal behind k_head, from the promise of the law's def, with tables -/
theorem walk_gT {l : PySem.W.OpenLaw} {n k : Nat} {q : Program} {loose : List Str} {XP : (Str → Option Value) → Heap → Prop} {YP : World → Heap → Prop} {d : DefRec} {K : Params → PySem.W.Frag} {CX : World → CXT} {x : Str}
    (hn : l.most = some n) (hn2 : n ≤ sizeLine) (hdf : d.params.defaults = []) (hr : Room k callerA)
    (hY : ∀ (w : World) (h : Heap), YP w h → (K w.params).In h)
    (F : ∀ (w : World) (mg : Str → Option Value) (fa : Addr) (h : Heap), YP w h → (K w.params).In h → h.Ns mainGlobals mg → mg d.name = some (.ref fa) →
      ∃ (fd : FuncData) (cs : List (Addr × Addr)) (sp : Sp), (∀ p ∈ cs, h.get? p.2 = some { cls := .none, data := .fields #[] }) ∧ (∀ p ∈ cs, (K w.params).lookup p.2 = none) ∧ (∀ p ∈ cs, PySem.W.CodeHd h p.1 p.2) ∧ (∀ (s : Shared) (u : Value), BindsTo s fd ⟨[u], []⟩ [(x, u)]) ∧
        (∀ (H : Hp) (a : Addr) (ns : List Int), ns.length ≤ n → (∀ p ∈ cs, H p.2 = some (.tbl #[])) → SqL (K w.params) H a (ns.map V.int) → sp [.ref a] H (fun v _ => v = .bl true) fun _ _ _ => False) ∧
        ∀ base : Heap, (K w.params).In base → base.Ns mainGlobals mg → (∀ p ∈ cs, TabB base mg p.1 p.2) → FnG l.prog w (K w.params) mg base (CX w) k fa fd [x] sp)
    (hCX : ∀ (w : World) (H : Hp) (s : Shared) (e : Value) (s' : Shared), CX w [] H s (fun _ _ _ => False) e s' → False) :
    PySem.W.WalkO q loose XP YP l.row.toRowW d [] (fun f vs => PySem.call f vs) :=
  Att.attach_callB hn hdf fun w s₀ s₁ mg mb fa o pm cd doc a vs ns G Y ho hd hcd hmg hobj hints hlen hbits hg =>
    let ⟨fd, cs, sp, h1, h2, h3, hb, hs, hF⟩ := F w mg fa _ Y (hY w _ Y) G.T.g hmg
    law_gT (hY w _ Y) G.T.g G.T.b G.T.builtins G.T.nolimit hg h1 h2 h3 G.T.bmain hobj hints (Nat.le_trans hlen hn2) hr hF hb (fun H hH hS => hs H a ns hlen hH hS) fun H e s' => hCX w H s₁ e s'
end DL
namespace DL
open PySem PySem.Spec PyProof.Rows L2 LamX
variable [TabT] [CacT]

/-! ### dicts of plain values: made, shown -/
def scalV : V → Option PyData
  | .non => some .none
  | .bl b => some (.bool b)
  | .int i => some (.int i)
  | .str x => some (.str x)
  | _ => none
def keyP : Key → PyData
  | .inl i => .int i
  | .inr x => .str x
theorem scal_reads {h : Heap} {v : V} {u : Value} {p : PyData} (e : scalV v = some p) (r : RelV v u) : Reads h u p [] := by
  cases v with
  | non =>
    cases e
    cases (show u = Value.none from r)
    exact .none
  | bl b =>
    cases e
    cases (show u = Value.bool b from r)
    exact .bool b
  | int i =>
    cases e
    obtain ⟨t, rfl⟩ := (show ∃ t, u = Value.int i t from r)
    exact .int i t
  | str x =>
    cases e
    obtain ⟨t, rfl⟩ := (show ∃ t, u = Value.str x t from r)
    exact .str x t
  | _ => cases e
/-- the items of a dict, as they are shown -/
inductive KvP : List (Key × V) → List (PyData × PyData) → Prop
  | nil : KvP [] []
  | cons {k : Key} {v : V} {p : PyData} {kvs : List (Key × V)} {ps : List (PyData × PyData)} : scalV v = some p → KvP kvs ps → KvP ((k, v) :: kvs) ((keyP k, p) :: ps)
theorem kvp_reads {P : Program} {w : World} {h : Heap} : ∀ {kvs : List (Key × V)} {ps : List (PyData × PyData)} {vs : List (Key × Value)} {es : List DictEntry}, KvP kvs ps → KV kvs vs → Pairs (mixKind P w) es vs →
    ReadsAll h (es.map (·.key)) (ps.map (·.1)) [] ∧ ReadsAll h (es.map (·.val)) (ps.map (·.2)) []
  | _, _, _, _, .nil, .nil, .nil => ⟨.nil, .nil⟩
  | _, _, _, _, .cons (k := k) (p := p) e t, .cons r t', .cons (e := en) hk hv t'' => by
    obtain ⟨h1, h2⟩ := kvp_reads t t' t''
    obtain ⟨r1, r2⟩ := r
    refine ⟨.cons (as := []) ?_ h1, .cons (as := []) (show Reads h en.val p [] by rw [hv]; exact scal_reads e r2) h2⟩
    show Reads h en.key (keyP k) []
    rw [← r1] at hk
    rcases keyIs_shape hk with ⟨i, t, e1, e2⟩ | ⟨x, t, e1, e2⟩
    · rw [e2]
      cases e1
      exact .int i t
    · rw [e2]
      cases e1
      exact .str x t
/-- repr of such a dict -/
def rReprD (K : PySem.W.Frag) : List V → Hp → VK → Prop := fun xs H Q => ∃ a kvs ps, xs = [.ref a] ∧ H a = some (.dK kvs) ∧ KvP kvs ps ∧ (PyData.dict ps).showable = true ∧ (PyData.dict ps).shown.length ≤ 100000 ∧ (PyData.dict ps).depth ≤ 60 ∧ Q (.str (PyData.dict ps).shown) H
theorem call_reprD {X : Cx} (gd : X.A.guards = some []) (hu : X.A.units + 64 < cLine) : CallR X (.builtin "repr") (rReprD X.K) := by
  intro pins s σ H xs us Q I r h
  obtain ⟨a, kvs, ps, rfl, ha, kp, hs, hz, hd, q⟩ := h
  have sz : (PyData.dict ps).shown.length ≤ sizeLine := Nat.le_trans hz (by decide)
  obtain ⟨u, rfl, r1⟩ : ∃ u, us = [u] ∧ RelV (.ref a) u := by
    cases r with
    | cons r rr =>
      cases rr
      exact ⟨_, rfl, r⟩
  cases (show u = Value.ref a from r1)
  obtain ⟨_, hsys, vs, kv, o, es, ep, ho, hx, hd2, _, pr, _⟩ := (show ObjOk X.prog X.w H s.heap a (.dK kvs) from I.hok a _ ha)
  obtain ⟨r1, r2⟩ := kvp_reads (h := s.heap) kp kv pr
  have hr : Reads s.heap (.ref a) (.dict ps) (a :: [] ++ []) := .dict ho hx.1 hd2 r1 r2
  refine repr_of_reads' hr hs (fun _ hm => ?_) gd (by omega) (fun _ _ e => e) (fun h' w tk hk => ⟨.str _, H, I.kept (t' := tk) hk, ⟨_, rfl⟩, q⟩) sz
  have : sysModules = a := by simpa using hm
  rw [this] at hsys
  simp at hsys
abbrev rReprA (K : PySem.W.Frag) : List V → Hp → VK → Prop := fun xs H Q => rRepr K xs H Q ∨ rReprD K xs H Q
theorem call_reprA {X : Cx} (gd : X.A.guards = some []) (hu : X.A.units + 64 < cLine) : CallR X (.builtin "repr") (rReprA X.K) := CallR.or (call_repr gd hu) (call_reprD gd hu)
/-! ### over data -/
section
variable {C : Fx} {ρ : List Slot}
theorem ev_dnew {P : PD} (h : P (.dic []) ρ) : Ev C tDNewK ρ P := fun σ G H Q S q p hp =>
  q (.ref p) (.dic []) _ _ ρ (S.keep (Ext.new S.le hp _)) h (.dic upd_same .nil)
theorem ev_disp1 {P : PD} {k : Str} {i : Int} (h : P (.dic [(.inr k, .int i)]) ρ) : Ev C (tDisp [(tC (.str k), tC (.int i))]) ρ P := fun σ G H Q S q p hp => by
  refine ⟨upd_same, [(.inr k, .int i)], rfl, Nat.le_of_ble_eq_true rfl, ?_⟩
  rw [upd_upd]
  exact q (.ref p) (.dic [(.inr k, .int i)]) _ _ ρ (S.keep (Ext.new S.le hp _)) h (.dic upd_same (.cons (.int i) .nil))
end
/-- what repr shows of a value -/
inductive Shows : D → Str → Prop
  | py {d : D} {p : PyData} : d.py = some p → p.showable = true → p.hasDict = false → p.shown.length ≤ sizeLine → p.depth ≤ 60 → Shows d p.shown
  | d0 : Shows (.dic []) (PyData.dict []).shown
  | d1 {k : Str} {i : Int} : (PyData.dict [(.str k, .int i)]).showable = true → (PyData.dict [(.str k, .int i)]).shown.length ≤ 100000 → Shows (.dic [(.inr k, .int i)]) (PyData.dict [(.str k, .int i)]).shown
theorem rc_reprA {K K' : PySem.W.Frag} {P : D → Prop} {d : D} {x : Str} (hK : K' = K) (h : Shows d x) (p : P (.str x)) : RC1 K (rReprA K') [d] P := fun G H vs Q le a q => by
  subst hK
  cases h with
  | py h1 h2 h3 h4 h5 => exact .inl (rc_repr h1 h2 h3 h4 h5 p rfl G H vs Q le a q)
  | d0 =>
    obtain ⟨v, rfl, k⟩ := a.one
    cases k with
    | dic k1 k2 =>
      cases k2
      exact .inr ⟨_, [], [], rfl, le _ _ k1, .nil, rfl, by decide +kernel, by decide +kernel, q _ _ G H (Ext.refl le) (Same.refl _) p (.str _)⟩
  | d1 h1 h2 =>
    obtain ⟨v, rfl, k⟩ := a.one
    cases k with
    | dic k1 k2 =>
      cases k2 with
      | cons c1 c2 =>
        cases c1
        cases c2
        exact .inr ⟨_, _, _, rfl, le _ _ k1, .cons rfl .nil, h1, h2, by simp [PyData.depth, PyData.depthKv, keyP], q _ _ G H (Ext.refl le) (Same.refl _) p (.str _)⟩
end DL
namespace DL
open PySem PySem.Spec PyProof.Rows L2 LamX
variable [TabT] [CacT]
section
variable {C : Fx} {ρ : List Slot} {ta tb tc : TE} {r r' : R2}
/-- a op b op c -/
theorem ev_chain {P : PD} (h : Ev C ta ρ fun x ρ1 => Ev C tb ρ1 fun y ρ2 => RD C.K r x y fun z => ∃ k, z = .bl k ∧ (k = true → Ev C tc ρ2 fun c ρ3 => RD C.K r' y c fun d => P d ρ3) ∧ (k = false → P (.bl false) ρ2)) : Ev C (tChain r r' ta tb tc) ρ P := fun σ G H Q S q => by
  refine h σ G H _ S fun v x G1 H1 ρ1 s1 p1 k1 => p1 σ G1 H1 _ s1.st fun u y G2 H2 ρ2 s2 p2 k2 => ?_
  refine p2 G2 H2 v u _ s2.st.le (k1.mono s2.ext.gg) k2 fun z d G3 H3 e3 _ pz kz => ?_
  obtain ⟨b, rfl, ht, hf⟩ := pz
  cases kz
  have s3 := s2.st.keep e3
  refine ⟨b, rfl, ?_⟩
  cases b with
  | true => exact ht rfl σ G3 H3 _ s3.st fun w c G4 H4 ρ3 s4 p4 k4 => p4 G4 H4 u w _ s4.st.le ((k2.mono e3.gg).mono s4.ext.gg) k4 fun z' d' G5 H5 e5 _ pd kd => q z' d' G5 H5 ρ3 ((((s1.trans s2).trans s3).trans s4).trans (s4.st.keep e5)) pd kd
  | false => exact q _ _ G3 H3 ρ2 ((s1.trans s2).trans s3) (hf rfl) (.bl _)
end
/-- a def that may raise, where it doesn't -/
theorem passN {X : Cx} : Passes (L2.CX X.prog X.w) X (fun _ _ _ => False) := fun _ _ _ _ _ _ _ h => by
  obtain ⟨_, _, _, _, _, _, _, _, _, _, _, _, z⟩ := h
  exact z.elim
/-! ### defs that make lambdas: the tables stand -/
def spPT (K : PySem.W.Frag) (f : FP) : Sp := fun vs H Q E => Tabs TabT.T H ∧ ∃ a ws G ds k R Z, vs = .ref a :: ws ∧ NoT G ∧ Lo G H ∧ G a = none ∧ PotAt H a k ∧ IsL K G ws ds ∧ f k ds R Z ∧
  (∀ v d k' G' H', Ext G H G' H' (fun b => b = a) → G' a = none → PotAt H' a k' → Is K G' v d → R d k' → Q v H') ∧ Flies K G H (fun b => b = a) Z E
theorem spPT_len {K : PySem.W.Frag} {f : FP} {n : Nat} (h : ∀ k ds R Z, f k ds R Z → ds.length + 1 = n) : ∀ vs H Q E, spPT K f vs H Q E → vs.length = n := fun vs H Q E ⟨_, a, ws, G, ds, k, R, Z, e, _, _, _, _, kk, hf, _⟩ => by
  rw [e, List.length_cons, kk.length]
  exact h k ds R Z hf
theorem ev_callPT {C : Fx} {ρ : List Slot} {ta : TA} {P : PD} {E : XK} {Z : Addr → D → Prop} {K' : PySem.W.Frag} {f : FP} {i : Nat} {dvs : List V} {es : List D} (hT : Tabs TabT.T C.H0) (hN : NoT C.G0) (hE : Flies C.K C.G0 C.H0 C.F0 Z E) (hd : ∀ G, IsL C.K G dvs es) (hi : ∃ a k, ρ[i]? = some (.pot a k))
    (h : EvA C ta ρ fun ds ρ1 => ∃ a k, ρ1[i]? = some (.pot a k) ∧ f k (ds ++ es) (fun d k' => P d (ρ1.set i (.pot a k'))) Z) (hK : K' = C.K := by rfl) : Ev C (tCall (spPT K' f) dvs E (tCons (tVar i) ta)) ρ P := fun σ G H Q S q => by
  subst hK
  obtain ⟨a0, k0, hi⟩ := hi
  obtain ⟨o, ho, rfl, _⟩ := S.sl i _ hi
  refine ⟨_, ho, h σ G H _ S fun vs ds G1 H1 ρ1 s1 p1 k1 => ?_⟩
  obtain ⟨a, k, e1, p1⟩ := p1
  obtain ⟨o, ho2, rfl, g1, g2, g3⟩ := s1.st.sl i _ e1
  rw [ho] at ho2
  cases ho2
  refine ⟨s1.st.ext.tt hT, a0, vs ++ dvs, G1, ds ++ es, k, _, Z, rfl, s1.st.ext.nt hN, s1.st.le, g1, g2, k1.append (hd G1), p1, fun v d k' G' H' e g p kd r => q v d G' H' _ (s1.trans (s1.st.drew e1 e g p)) r kd, fun X dx v d G' H' e g kk z => ?_⟩
  refine hE X dx v d G' H' (s1.st.ext.trans e fun x u hx hf => ?_) g kk z
  subst hf
  rcases g3 with g3 | g3
  · exact g3
  · rw [g3] at hx
    cases hx
def spDT (K : PySem.W.Frag) (f : FS) : Sp := fun vs H Q E => Tabs TabT.T H ∧ ∃ G ds R Z, NoT G ∧ Lo G H ∧ IsL K G vs ds ∧ f ds R Z ∧ (∀ v d G' H', Ext G H G' H' (fun _ => False) → Is K G' v d → R d → Q v H') ∧ Flies K G H (fun _ => False) Z E
theorem spDT_len {K : PySem.W.Frag} {f : FS} {n : Nat} (h : ∀ ds R Z, f ds R Z → ds.length = n) : ∀ vs H Q E, spDT K f vs H Q E → vs.length = n := fun vs H Q E ⟨_, G, ds, R, Z, _, _, k, hf, _⟩ => by
  rw [k.length]
  exact h ds R Z hf
/-! ### == and != of lists of other lengths -/
def rEqL (b : Bool) : R2 := fun x y H Q => ∃ a c xs ys, x = .ref a ∧ y = .ref c ∧ H a = some (.lst xs) ∧ H c = some (.lst ys) ∧ xs.length ≠ ys.length ∧ Q (.bl b) H
theorem lst_is {P : Program} {w : World} {H : Hp} {h : Heap} {a : Addr} {xs : List V} (hok : HOk P w H h) (e : H a = some (.lst xs)) : ∃ its : List Value, h.IsList a its.toArray ∧ its.length = xs.length := by
  obtain ⟨_, its, n, rv, ho⟩ := (show ObjOk P w H h a (.lst xs) from hok a _ e)
  exact ⟨its, ⟨_, ho, rfl, n, rfl⟩, rv.length.symm⟩
theorem op_eqL {X : Cx} (hu : X.A.units + 64 < cLine) : OpR X (compareOp .Eq) (rEqL false) := by
  intro pins s σ H x y v u Q I rx ry h
  obtain ⟨a, c, xs, ys, rfl, rfl, ha, hc, hl, q⟩ := h
  cases (show v = Value.ref a from rx)
  cases (show u = Value.ref c from ry)
  obtain ⟨its, l1, n1⟩ := lst_is I.hok ha
  obtain ⟨jts, l2, n2⟩ := lst_is I.hok hc
  refine PySem.SeqAt.eq_list_lengthsAt l1 l2 ?_ (by omega) ⟨.bl false, H, I, rfl, q⟩
  simp only [List.size_toArray, n1, n2, bne_iff_ne, ne_eq]
  exact hl
theorem op_neL {X : Cx} (hu : X.A.units + 64 < cLine) : OpR X (compareOp .NotEq) (rEqL true) := by
  intro pins s σ H x y v u Q I rx ry h
  obtain ⟨a, c, xs, ys, rfl, rfl, ha, hc, hl, q⟩ := h
  cases (show v = Value.ref a from rx)
  cases (show u = Value.ref c from ry)
  obtain ⟨its, l1, n1⟩ := lst_is I.hok ha
  obtain ⟨jts, l2, n2⟩ := lst_is I.hok hc
  have hs : ((its.toArray).size != (jts.toArray).size) = true := by
    simp only [List.size_toArray, n1, n2, bne_iff_ne, ne_eq]
    exact hl
  exact PySem.SeqAt.RcNeAt.lists_lengths l1 l2 hs (by omega) X.prog X.w _ _ ⟨.bl true, H, I, rfl, q⟩
abbrev rEqB (K : PySem.W.Frag) : R2 := fun x y H Q => rEqA K x y H Q ∨ rEqL false x y H Q
abbrev rNeB (K : PySem.W.Frag) : R2 := fun x y H Q => rNeA K x y H Q ∨ rEqL true x y H Q
theorem op_eqB {X : Cx} (hu : X.A.units + 64 < cLine) : OpR X (compareOp .Eq) (rEqB X.K) := OpR.or (op_eqA hu) (op_eqL hu)
theorem op_neB {X : Cx} (hu : X.A.units + 64 < cLine) : OpR X (compareOp .NotEq) (rNeB X.K) := OpR.or (op_neA hu) (op_neL hu)
theorem rd_lens {K : PySem.W.Frag} {P : D → Prop} {b : Bool} {xs ys : List D} (hl : xs.length ≠ ys.length) (p : P (.bl b)) : RD K (rEqL b) (.lst xs) (.lst ys) P := fun G H v u Q le k1 k2 q => by
  cases k1 with
  | lst a1 a2 =>
    cases k2 with
    | lst b1 b2 => exact ⟨_, _, _, _, rfl, rfl, le _ _ a1, le _ _ b1, by rw [a2.length, b2.length]; exact hl, q _ _ G H (Ext.refl le) (Same.refl _) p (.bl b)⟩
theorem isN_exc {K : PySem.W.Frag} {G : Hp} {v : V} {C : Addr} {d : D} (h : Is K G v (.exc C d)) : decide (v = .non) = false := by
  cases h
  rfl
end DL
namespace DL
open PySem PySem.Spec PyProof.Rows L2 LamX
variable [TabT] [CacT]
/-- the heap without its tables -/
def noTbl (H : Hp) : Hp := fun b => match H b with
  | some (.tbl _) => none
  | u => u
theorem noTbl_some {H : Hp} {b : Addr} {o : HO} (e : noTbl H b = some o) : H b = some o ∧ ∀ ps, o ≠ .tbl ps := by
  unfold noTbl at e
  cases q : H b with
  | none =>
    rw [q] at e
    cases e
  | some u =>
    rw [q] at e
    cases u with
    | tbl ps => cases e
    | _ =>
      cases e
      exact ⟨rfl, fun ps z => nomatch z⟩
theorem noTbl_of {H : Hp} {b : Addr} {o : HO} (e : H b = some o) (n : ∀ ps, o ≠ .tbl ps) : noTbl H b = some o := by
  unfold noTbl
  rw [e]
  cases o with
  | tbl ps => exact absurd rfl (n ps)
  | _ => rfl
theorem spDT_start {K : PySem.W.Frag} {H : Hp} {a : Addr} {ns : List Int} {f : FS} (hT : Tabs TabT.T H) (hS : SqL K H a (ns.map V.int)) (hf : f [.scr ns] (fun d => d = .bl true) fun _ _ => False) : spDT K f [.ref a] H (fun v _ => v = .bl true) fun _ _ _ => False := by
  refine ⟨hT, noTbl H, [.scr ns], _, _, fun b ps e => (noTbl_some e).2 ps rfl, fun b o e => Ky.of (noTbl_some e).1, .cons (.scr ?_) .nil, hf, fun v d G' H' e i r => ?_, Flies.none⟩
  · rcases hS with (h | ⟨o, h⟩) | h
    · exact .inl (.inl (noTbl_of h fun ps z => nomatch z))
    · exact .inl (.inr ⟨o, noTbl_of h fun ps z => nomatch z⟩)
    · exact .inr h
  · subst r
    cases i
    rfl
end DL
/-! t[::-1] of a tuple -/
namespace DL
open PySem PySem.Spec PyProof.Rows L2 LamX HT
section
variable {prog : Program} {w : World} {A : Around} {E : Value → Shared → Prop} {s : Shared}
theorem adjust_rev (n : Nat) : Builtin.Slice.sliceAdjust none none (-1) (n : Int) = ((n : Int) - 1, -1) := by
  unfold Builtin.Slice.sliceAdjust
  simp
theorem places_rev (n : Nat) : Builtin.Slice.slicePlaces ((n : Int) - 1) (-1) (-1) = n := by
  unfold Builtin.Slice.slicePlaces
  rw [if_neg (by decide)]
  by_cases h : (n : Int) - 1 > -1
  · rw [if_pos h, show (-(-1) : Int) = 1 by decide, Int.ediv_one]
    omega
  · rw [if_neg h]
    omega
theorem sliceApplied_rev {sl : Addr} {vl vu vs : Value} {n : Nat} {Q : Int × Int × Nat → Shared → Prop} (hs : s.heap.IsSliceOf sl vl vu vs) (pl : IsPart vl none) (pu : IsPart vu none) (ps : IsPart vs (some (-1)))
    (h : Q ((n : Int) - 1, -1, n) s) : wpAny (model prog w) A (Builtin.Slice.sliceApplied (.ref sl) (pure (n : Int))) Q E s := by
  obtain ⟨os, hos, hcs, hds⟩ := id hs
  unfold Builtin.Slice.sliceApplied Builtin.Slice.sliceFields
  refine wpAny_bind (wpAny_bind (wpAny_field hos hds (x := vl) rfl (wpAny_bind (wpAny_field hos hds (x := vu) rfl (wpAny_bind (wpAny_field hos hds (x := vs) rfl (wpAny_pure ?_)))))))
  refine wpAny_bind (slicePart_ ps ?_)
  show wpAny _ _ (if ((-1 : Int) == 0) = true then _ else _) _ _ s
  rw [if_neg (by decide)]
  refine wpAny_bind (slicePart_ pl (wpAny_bind (slicePart_ pu (wpAny_bind (wpAny_pure ?_)))))
  show wpAny _ _ (match Builtin.Slice.sliceAdjust none none (-1) (n : Int) with | (lo, hi) => pure (lo, (-1 : Int), Builtin.Slice.slicePlaces lo hi (-1))) _ _ s
  rw [adjust_rev n]
  show wpAny _ _ (pure ((n : Int) - 1, (-1 : Int), Builtin.Slice.slicePlaces ((n : Int) - 1) (-1) (-1))) _ _ s
  rw [places_rev]
  exact wpAny_pure h
theorem fm_congr {α β : Type} {f g : α → Option β} : ∀ {l : List α}, (∀ x ∈ l, f x = g x) → l.filterMap f = l.filterMap g
  | [], _ => rfl
  | x :: l, h => by
    rw [List.filterMap_cons, List.filterMap_cons, h x (by simp), fm_congr fun y hy => h y (by simp [hy])]
theorem pick_rev (xs : Array Value) : ((List.range xs.size).filterMap fun (k : Nat) => xs[(((xs.size : Int) - 1) + (k : Int) * (-1)).toNat]?).toArray = xs.toList.reverse.toArray := by
  have e : ((List.range xs.size).filterMap fun (k : Nat) => xs[(((xs.size : Int) - 1) + (k : Int) * (-1)).toNat]?) = ((List.range xs.size).map fun k => xs.size - 1 - k).filterMap (xs[·]?) := by
    rw [List.filterMap_map]
    refine fm_congr fun k hk => ?_
    have hk := List.mem_range.mp hk
    show xs[(((xs.size : Int) - 1) + (k : Int) * (-1)).toNat]? = xs[xs.size - 1 - k]?
    have : (((xs.size : Int) - 1) + (k : Int) * (-1)).toNat = xs.size - 1 - k := by omega
    rw [this]
  rw [e, PySem.W.krv_range, List.filterMap_reverse, PySem.W.krv_all]
theorem getItem_tuple_rev {t sl : Addr} {items : Array Value} {vl vu vs : Value} {Q : Value → Shared → Prop} (ht : IsTup s.heap t items) (hs : s.heap.IsSliceOf sl vl vu vs) (pl : IsPart vl none) (pu : IsPart vu none) (ps : IsPart vs (some (-1)))
    (h : Q (.ref s.heap.objs.size) { s with heap := s.heap.push { cls := .type "tuple", data := .seq items.toList.reverse.toArray } })
    (hsz : items.size ≤ sizeLine) : wpAny (model prog w) A (getItem (.ref t) (.ref sl)) Q E s := by
  have htake : sizeOk (.seq items.toList.reverse.toArray) := by
    show items.toList.reverse.toArray.size ≤ sizeLine
    rw [List.size_toArray, List.length_reverse, Array.length_toList]
    omega
  obtain ⟨os, hos, hcs, hds⟩ := id hs
  have hTs : s.TypeIs (.ref sl) "slice" := ⟨os, hos, hcs⟩
  unfold getItem
  try with_reducible refine wpAny_holding ?_
  first | refine wpAny_bind (wpAny_pure ?_) | skip
  refine wpAny_bind (wpAny_sequenceKey ht.typeIs (by decide) ?_)
  refine wpAny_bind (wpAny_callSpecial?_slot (name := Str.ofString "__getitem__") ht.typeIs PyProof.Rows.slot_tuple_getitem
    (wpAny_call_entry PyProof.Rows.slot_tuple_getitem ht.typeIs entry_tuple_getitem ?_ (args_tuple_getitem _ _)))
  show wpAny _ _ (Builtin.Tuple.tupleItemsOf (.ref t) >>= _) _ _ s
  refine wpAny_bind (tupleItemsOf_ ht ?_)
  refine wpAny_bind (wpAny_typeOf hTs ?_)
  rw [if_pos (by decide)]
  refine wpAny_bind (sliceApplied_rev hs pl pu ps ?_)
  have hno : ¬ ((((items.size : Int) - 1) == 0 && (-1 : Int) == 1 && items.size == items.size) = true) := by
    rw [show ((-1 : Int) == 1) = false from by decide]
    simp
  show wpAny _ _ (if (((items.size : Int) - 1) == 0 && (-1 : Int) == 1 && items.size == items.size) = true then _ else _) _ _ s
  rw [if_neg hno, pick_rev]
  first
    | exact wpAny_bind (m := Builtin.Tuple.tupleExact _) (wpAny_newObj_type (wpAny_pure ⟨_, rfl, wpAny_pure h⟩) htake)
    | exact wpAny_bind (m := Builtin.Tuple.tupleExact _) (wpAny_newObj_type (wpAny_bind (wpAny_pure (wpAny_pure ⟨_, rfl, wpAny_pure h⟩))) htake)
    | exact wpAny_bind (wpAny_bind (m := Builtin.Tuple.tupleExact _) (wpAny_newObj_type (wpAny_pure (wpAny_pure ⟨_, rfl, wpAny_pure h⟩)) htake))
    | exact wpAny_bind (wpAny_bind (m := Builtin.Tuple.tupleExact _) (wpAny_newObj_type (wpAny_pure ⟨_, rfl, wpAny_pure h⟩) htake))
end
def tRevT (K : PySem.W.Frag) (te : TE) : TE := fun σ H Q => te σ H fun x H1 => ∃ a xs, x = .ref a ∧ SqT K H1 a xs ∧ ∀ p, H1 p = none → Q (.ref p) (upd H1 p (.tup xs.reverse))
theorem pe_revT {X : Cx} {e : Expr} {te : TE} {k : Nat} {p1 p2 p3 pos : Pos} (he : PE X e te) : PE X (.Subscript e (.Slice none none (some (.UnaryOp .USub (.Constant (.int 1) k p1) p2)) p3) pos) (tRevT X.K te) := by
  refine ⟨fun pins s σ H Q I h => ?_⟩
  refine Subscript_ (thn (he.run pins s σ H _ I h) fun v s1 ⟨x, H1, I1, r1, q1⟩ => ?_)
  obtain ⟨a, xs, ex, hx, q⟩ := q1
  subst ex
  cases r1
  have hst : PO X (some (.UnaryOp .USub (.Constant (.int 1) k p1) p2)) (tPart (tUn (rU fun i => .int (-i)) (tC (.int 1)))) := po_some (pe_un un_neg pe_int)
  refine wpAny_Slice (thn (po_none.run pins s1 σ H1 (fun o H2 => o = none ∧ H2 = H1) I1 ⟨rfl, rfl⟩) fun vl s2 ⟨l, H2, I2, pl, el, e2⟩ => ?_)
  subst el e2
  refine thn (po_none.run pins s2 σ H2 (fun o H3 => o = none ∧ H3 = H2) I2 ⟨rfl, rfl⟩) fun vu s3 ⟨u, H3, I3, pu, eu, e3⟩ => ?_
  subst eu e3
  refine thn (hst.run pins s3 σ H3 (fun o H4 => o = some (-1) ∧ H4 = H3) I3 ⟨1, rfl, -1, rfl, rfl, rfl⟩) fun vs s4 ⟨o, H4, I4, ps, eo, e4⟩ => ?_
  subst eo e4
  have I5 : Inv X pins σ H4 { s4 with heap := s4.heap.push { cls := .type "slice", data := .fields #[vl, vu, vs] } } := I4.kept (t' := s4.toks) fun b ob q => Heap.get?_push_of_some _ q
  obtain ⟨its, r, ht, hz⟩ := I5.tuple hx
  have hlen := r.length
  show wpAny (model X.prog X.w) X.A (subscriptTail e (.Slice none none (some (.UnaryOp .USub (.Constant (.int 1) k p1) p2)) p3) (.ref a) (.ref s4.heap.objs.size)) (EP X pins σ Q) X.xe { s4 with heap := s4.heap.push { cls := .type "slice", data := .fields #[vl, vu, vs] } }
  refine tail_any (ops := [.ref a, .ref s4.heap.objs.size]) ht.typeIs PyProof.Rows.slot_tuple_getitem.lookup ?_ (by with_unfolding_all rfl)
  refine getItem_tuple_rev ht (Heap.IsSliceOf.new _ vl vu vs) pl pu ps ?_ (by rw [List.size_toArray]; omega)
  refine ⟨.ref _, _, I5.laid (t' := s4.toks) (o := .tup xs.reverse) (fun b ob q => Heap.get?_push_of_some _ q) (Nat.le_refl _) ?_, rfl, q _ (I5.hok.fresh (Nat.le_refl _))⟩
  exact ⟨by rw [List.length_reverse]; exact hz, _, r.reverse, IsTup.new _ _⟩
section
variable [TabT] [CacT] {C : Fx} {ρ : List Slot} {P : PD} {te : TE}
theorem ev_revT {K' : PySem.W.Frag} (h : Ev C te ρ fun x ρ1 => ∃ ds, x = .tup ds ∧ P (.tup ds.reverse) ρ1) (hK : K' = C.K := by rfl) : Ev C (tRevT K' te) ρ P := fun σ G H Q S q => by
  subst hK
  refine h σ G H _ S fun v x G1 H1 ρ1 s1 p1 k1 => ?_
  obtain ⟨ds, rfl, p1⟩ := p1
  cases k1 with
  | @tup _ ws _ a1 a2 =>
    refine ⟨_, ws, rfl, s1.st.le.seqT a1, fun c hc => ?_⟩
    have ex := Ext.new (F := fun _ => False) s1.st.le hc (.tup ws.reverse)
    exact q _ _ _ _ ρ1 (s1.trans (s1.st.keep ex)) p1 (.tup (.inl (.inl upd_same)) (a2.mono ex.gg).rev)
end
end DL
/-! data of bounded depth, length and numbers -/
namespace DL
open PySem PySem.Spec PyProof.Rows L2
def leafD (c : Nat) (d : D) : Prop := d = .non ∨ (∃ b, d = .bl b) ∨ (∃ i : Int, d = .int i ∧ i.natAbs < 2 ^ c) ∨ ∃ x : Str, d = .str x ∧ x.cps.size ≤ c ∧ (PyData.str x).canLay0 = true
def Gd (c L : Nat) : Nat → D → Prop
  | 0, d => leafD c d
  | n + 1, d => leafD c d ∨ ∃ ds : List D, (d = .tup ds ∨ d = .lst ds) ∧ ds.length ≤ L ∧ ∀ e ∈ ds, Gd c L n e
/-- tuples of tuples .. of integers -/
def Bn (c L : Nat) : Nat → D → Prop
  | 0, d => ∃ i : Int, d = .int i ∧ i.natAbs < 2 ^ c
  | n + 1, d => (∃ i : Int, d = .int i ∧ i.natAbs < 2 ^ c) ∨ ∃ ds : List D, d = .tup ds ∧ ds.length ≤ L ∧ ∀ e ∈ ds, Bn c L n e
variable [TabT] [CacT]
section
variable {c c' L L' n n' : Nat} {d : D} {ds : List D}
theorem leafD.mono (h : leafD c d) (e : c ≤ c') : leafD c' d := by
  rcases h with h | h | ⟨i, h, b⟩ | ⟨x, h, b, o⟩
  · exact .inl h
  · exact .inr (.inl h)
  · exact .inr (.inr (.inl ⟨i, h, nbM b e⟩))
  · exact .inr (.inr (.inr ⟨x, h, Nat.le_trans b e, o⟩))
theorem leafD.gd (h : leafD c d) : Gd c L n d := by
  cases n with
  | zero => exact h
  | succ n => exact .inl h
theorem Gd.int {i : Int} (h : i.natAbs < 2 ^ c) : Gd c L n (.int i) := leafD.gd (.inr (.inr (.inl ⟨i, rfl, h⟩)))
theorem Gd.non : Gd c L n .non := leafD.gd (.inl rfl)
theorem Gd.bl {b : Bool} : Gd c L n (.bl b) := leafD.gd (.inr (.inl ⟨b, rfl⟩))
theorem Gd.str {x : Str} (h : x.cps.size ≤ c) (o : (PyData.str x).canLay0 = true) : Gd c L n (.str x) := leafD.gd (.inr (.inr (.inr ⟨x, rfl, h, o⟩)))
theorem Gd.tup (h : ds.length ≤ L) (k : ∀ e ∈ ds, Gd c L n e) : Gd c L (n + 1) (.tup ds) := .inr ⟨ds, .inl rfl, h, k⟩
theorem Gd.lst (h : ds.length ≤ L) (k : ∀ e ∈ ds, Gd c L n e) : Gd c L (n + 1) (.lst ds) := .inr ⟨ds, .inr rfl, h, k⟩
theorem Gd.mono (hc : c ≤ c') (hL : L ≤ L') : ∀ {n n' : Nat} {d : D}, n ≤ n' → Gd c L n d → Gd c' L' n' d
  | 0, _, _, _, h => leafD.gd (leafD.mono h hc)
  | n + 1, 0, _, hn, _ => absurd hn (by omega)
  | n + 1, n' + 1, d, hn, h => by
    rcases h with h | ⟨ds, e, l, k⟩
    · exact .inl (leafD.mono h hc)
    · exact .inr ⟨ds, e, Nat.le_trans l hL, fun x hx => Gd.mono hc hL (by omega) (k x hx)⟩
theorem Bn.gd : ∀ {n : Nat} {d : D}, Bn c L n d → Gd c L n d
  | 0, d, ⟨i, e, h⟩ => .inr (.inr (.inl ⟨i, e, h⟩))
  | n + 1, d, .inl ⟨i, e, h⟩ => .inl (.inr (.inr (.inl ⟨i, e, h⟩)))
  | n + 1, d, .inr ⟨ds, e, l, k⟩ => .inr ⟨ds, .inl e, l, fun x hx => Bn.gd (k x hx)⟩
theorem Gd.tup_inv (h : Gd c L n (.tup ds)) : ∃ m, n = m + 1 ∧ ds.length ≤ L ∧ ∀ e ∈ ds, Gd c L m e := by
  have nl : ¬ leafD c (.tup ds) := fun h => by
    rcases h with h | ⟨_, h⟩ | ⟨_, h, _⟩ | ⟨_, h, _⟩ <;> cases h
  cases n with
  | zero => exact absurd h nl
  | succ n =>
    rcases h with h | ⟨es, e, l, k⟩
    · exact absurd h nl
    · rcases e with e | e
      · cases e
        exact ⟨n, rfl, l, k⟩
      · cases e
theorem Gd.int_inv {i : Int} (h : Gd c L n (.int i)) : i.natAbs < 2 ^ c := by
  have lf : leafD c (.int i) → i.natAbs < 2 ^ c := fun h => by
    rcases h with h | ⟨_, h⟩ | ⟨_, h, b⟩ | ⟨_, h, _⟩
    · cases h
    · cases h
    · cases h
      exact b
    · cases h
  cases n with
  | zero => exact lf h
  | succ n =>
    rcases h with h | ⟨es, e, l, k⟩
    · exact lf h
    · rcases e with e | e <;> cases e
/-- the type is told -/
theorem Gd.ty : ∀ {n : Nat} {d : D}, Gd c L n d → ∃ t, tyD d = some t := by
  have lf : ∀ {d : D}, leafD c d → ∃ t, tyD d = some t := fun h => by
    rcases h with rfl | ⟨_, rfl⟩ | ⟨_, rfl, _⟩ | ⟨_, rfl, _⟩ <;> exact ⟨_, rfl⟩
  intro n d h
  cases n with
  | zero => exact lf h
  | succ n =>
    rcases h with h | ⟨es, e, l, k⟩
    · exact lf h
    · rcases e with rfl | rfl <;> exact ⟨_, rfl⟩
end
/-! ### as the model's own plain data -/
def Wt (c L : Nat) : Nat → Nat
  | 0 => c
  | n + 1 => L * (Wt c L n + 1) + c
structure PyOk (B n w : Nat) (p : PyData) : Prop where
  lay : p.canLay0 = true
  dep : p.depth ≤ n
  wt : p.weight ≤ w
  sh : p.intsShort B = true
  ok : p.showable = true
structure PysOk (B n w : Nat) (ps : List PyData) : Prop where
  lay : PyData.canLayAll0 ps = true
  dep : PyData.depthAll ps ≤ n
  wt : PyData.weightAll ps ≤ ps.length * (w + 1)
  sh : PyData.intsShortAll B ps = true
  ok : PyData.showableAll ps = true
theorem int_shown {i : Int} {c : Nat} (h : i.natAbs < 2 ^ c) : (PyData.int i).shown.length ≤ c + 2 := by
  have e : (PyData.int i).shown = PySem.Str.ofString (toString i) := rfl
  rw [e, PySem.ofString_length]
  exact PySem.int_text_length_le (Nat.succ_pos c) (log2W h (Nat.lt_succ_self c))
theorem leaf_py {c L n : Nat} (hc : c < 1900) {d : D} (h : leafD c d) : ∃ p, d.py = some p ∧ PyOk (c + 2) n c p := by
  rcases h with rfl | ⟨b, rfl⟩ | ⟨i, rfl, h⟩ | ⟨x, rfl, h, o⟩
  · exact ⟨_, rfl, rfl, Nat.zero_le _, Nat.zero_le _, rfl, rfl⟩
  · exact ⟨_, rfl, rfl, Nat.zero_le _, Nat.zero_le _, rfl, rfl⟩
  · refine ⟨_, rfl, rfl, Nat.zero_le _, ?_, ?_, ?_⟩
    · show (if i == 0 then 0 else i.natAbs.log2 + 1) ≤ c
      by_cases z : i = 0
      · subst z
        exact Nat.zero_le _
      · rw [if_neg (by simpa using z)]
        exact (Nat.log2_lt (by omega)).mpr h
    · simp only [PyData.intsShort, decide_eq_true_eq]
      exact int_shown h
    · simp only [PyData.showable, decide_eq_true_eq]
      exact log2W h (by omega)
  · exact ⟨_, rfl, o, Nat.zero_le _, h, rfl, rfl⟩
theorem pys_of {B n w : Nat} : ∀ {ds : List D}, (∀ e ∈ ds, ∃ p, e.py = some p ∧ PyOk B n w p) → ∃ ps, D.pys ds = some ps ∧ ps.length = ds.length ∧ PysOk B n w ps
  | [], _ => ⟨[], rfl, rfl, rfl, Nat.zero_le _, Nat.zero_le _, rfl, rfl⟩
  | d :: ds, h => by
    obtain ⟨p, e, k⟩ := h d (by simp)
    obtain ⟨ps, e2, l2, k2⟩ := pys_of (ds := ds) fun x hx => h x (List.mem_cons_of_mem _ hx)
    refine ⟨p :: ps, by simp [D.pys, e, e2], by simp [l2], ?_, ?_, ?_, ?_, ?_⟩
    · simp only [PyData.canLayAll0, k.lay, k2.lay, Bool.and_self]
    · have := k.dep
      have := k2.dep
      simp only [PyData.depthAll]
      omega
    · have a := k.wt
      have b := k2.wt
      simp only [PyData.weightAll, List.length_cons, Nat.succ_mul]
      omega
    · simp only [PyData.intsShortAll, k.sh, k2.sh, Bool.and_self]
    · simp only [PyData.showableAll, k.ok, k2.ok, Bool.and_self]
theorem Gd.py {c L : Nat} (hc : c < 1900) : ∀ {n : Nat} {d : D}, Gd c L n d → ∃ p, d.py = some p ∧ PyOk (c + 2) n (Wt c L n) p
  | 0, d, h => leaf_py (L := L) hc h
  | n + 1, d, h => by
    rcases h with h | ⟨ds, e, l, k⟩
    · obtain ⟨p, e, k⟩ := leaf_py (L := L) (n := n + 1) hc h
      exact ⟨p, e, k.lay, k.dep, Nat.le_trans k.wt (Nat.le_add_left _ _), k.sh, k.ok⟩
    · obtain ⟨ps, e2, l2, k2⟩ := pys_of fun x hx => Gd.py hc (k x hx)
      have hw : PyData.weightAll ps ≤ Wt c L (n + 1) := by
        refine Nat.le_trans k2.wt (Nat.le_trans (Nat.mul_le_mul_right _ (by omega : ps.length ≤ L)) (Nat.le_add_right _ _))
      rcases e with rfl | rfl
      · refine ⟨.tuple ps, by simp [D.py, e2], ?_, ?_, ?_, ?_, ?_⟩
        · simpa only [PyData.canLay0] using k2.lay
        · simp only [PyData.depth]
          have := k2.dep
          omega
        · simpa only [PyData.weight] using hw
        · simpa only [PyData.intsShort] using k2.sh
        · simpa only [PyData.showable] using k2.ok
      · refine ⟨.list ps, by simp [D.py, e2], ?_, ?_, ?_, ?_, ?_⟩
        · simpa only [PyData.canLay0] using k2.lay
        · simp only [PyData.depth]
          have := k2.dep
          omega
        · simpa only [PyData.weight] using hw
        · simpa only [PyData.intsShort] using k2.sh
        · simpa only [PyData.showable] using k2.ok
theorem Gd.shows {c L n : Nat} {d : D} (h : Gd c L n d) (h6 : 6 ≤ c) (hc : c < 1900) (hn : n ≤ 60) (hw : (c + 4) * Wt c L n + (c + 2) ≤ 2 ^ 24) : ∃ x, Shows d x := by
  obtain ⟨p, e, k⟩ := h.py hc
  have h1 := PyData.shown_le (c + 2) (by omega) p (PyData.leavesShort_of_canLay0 (c + 2) p k.lay k.sh)
  refine ⟨_, .py e k.ok (PyData.hasDict_of_canLay p k.lay) (Nat.le_trans h1 (Nat.le_trans ?_ hw)) (Nat.le_trans k.dep hn)⟩
  exact Nat.add_le_add_right (Nat.mul_le_mul (by omega) k.wt) _
theorem Gd.shaped {c L n : Nat} {d : D} (h : Gd c L n d) (hc : c < 1900) (hn : n ≤ 60) : ∃ p, d.py = some p ∧ SeqAt.shaped p = true := by
  obtain ⟨p, e, k⟩ := h.py hc
  refine ⟨p, e, ?_⟩
  unfold SeqAt.shaped
  rw [k.lay, Bool.true_and]
  exact decide_eq_true (Nat.le_trans k.dep (by omega))
end DL
/-! which data are fractions; of which type data are -/
namespace DL
open PySem PySem.Spec PyProof.Rows L2
def Ty1 (d : D) : Prop := ∃ t, tyD d = some t
def Ty2 (d : D) : Prop := Ty1 d ∧ ∀ xs, d = .tup xs → ∀ x ∈ xs, Ty1 x
def Ty3 (d : D) : Prop := Ty1 d ∧ ∀ xs, d = .tup xs → xs.length ≤ 1000 ∧ ∀ x ∈ xs, Ty2 x
def isT : D → Bool
  | .tup _ => true
  | _ => false
def isIB : D → Bool
  | .int _ => true
  | .bl _ => true
  | _ => false
def isBo : D → Bool
  | .bl _ => true
  | _ => false
def isSt : D → Bool
  | .str _ => true
  | _ => false
def isI : D → Bool
  | .int _ => true
  | _ => false
section
variable [TabT] [CacT] {K K' : PySem.W.Frag} {P : D → Prop} {d : D}
theorem isi_tup (hK : K' = K) (h : Ty1 d) (p : P (.bl (isT d))) : RC1 K (rIsi K') [d, .val (.ty "tuple")] P := by
  subst hK
  obtain ⟨n, hn⟩ := h
  cases d <;> first | (cases hn; done) | exact rc_isi (b := true) rfl (by decide +kernel) p | exact rc_isi (b := false) rfl (by decide +kernel) p
theorem isi_int (hK : K' = K) (h : Ty1 d) (p : P (.bl (isIB d))) : RC1 K (rIsi K') [d, .val (.ty "int")] P := by
  subst hK
  obtain ⟨n, hn⟩ := h
  cases d <;> first | (cases hn; done) | exact rc_isi (b := true) rfl (by decide +kernel) p | exact rc_isi (b := false) rfl (by decide +kernel) p
theorem isi_bool (hK : K' = K) (h : Ty1 d) (p : P (.bl (isBo d))) : RC1 K (rIsi K') [d, .val (.ty "bool")] P := by
  subst hK
  obtain ⟨n, hn⟩ := h
  cases d <;> first | (cases hn; done) | exact rc_isi (b := true) rfl (by decide +kernel) p | exact rc_isi (b := false) rfl (by decide +kernel) p
theorem isi_str (hK : K' = K) (h : Ty1 d) (p : P (.bl (isSt d))) : RC1 K (rIsi K') [d, .val (.ty "str")] P := by
  subst hK
  obtain ⟨n, hn⟩ := h
  cases d <;> first | (cases hn; done) | exact rc_isi (b := true) rfl (by decide +kernel) p | exact rc_isi (b := false) rfl (by decide +kernel) p
theorem isa_tup (hK : K' = K) (h : Ty1 d) (p : P (.bl (isT d))) : RC1 K (rIsA K') [d, .val (.ty "tuple")] P := fun G H vs Q le a q => .inl (isi_tup hK h p G H vs Q le a q)
theorem isa_int (hK : K' = K) (h : Ty1 d) (p : P (.bl (isIB d))) : RC1 K (rIsA K') [d, .val (.ty "int")] P := fun G H vs Q le a q => .inl (isi_int hK h p G H vs Q le a q)
theorem isa_bool (hK : K' = K) (h : Ty1 d) (p : P (.bl (isBo d))) : RC1 K (rIsA K') [d, .val (.ty "bool")] P := fun G H vs Q le a q => .inl (isi_bool hK h p G H vs Q le a q)
theorem isa_str (hK : K' = K) (h : Ty1 d) (p : P (.bl (isSt d))) : RC1 K (rIsA K') [d, .val (.ty "str")] P := fun G H vs Q le a q => .inl (isi_str hK h p G H vs Q le a q)
/-- == and != of integers, of truths -/
theorem ne_int {i j : Int} (hK : K' = K) (p : P (.bl (!(i == j)))) : RD K (rNeA K') (.int i) (.int j) P := rd_k (r := rNeA) hK (rd_or1 (rd_ne (p := .int i) (r := .int j) rfl rfl rfl rfl p))
theorem eq_int {i j : Int} (hK : K' = K) (p : P (.bl (i == j))) : RD K (rEqA K') (.int i) (.int j) P := rd_k (r := rEqA) hK (rd_or1 (rd_eq (p := .int i) (r := .int j) rfl rfl rfl rfl p))
theorem eqv_bl (a b : Bool) : PyData.eqv (.bool a) (.bool b) = (a == b) := by cases a <;> cases b <;> rfl
theorem ne_bl {a b : Bool} (hK : K' = K) (p : P (.bl (!(a == b)))) : RD K (rNeA K') (.bl a) (.bl b) P := rd_k (r := rNeA) hK (rd_or1 (rd_ne (p := .bool a) (r := .bool b) rfl rfl rfl rfl (by rw [eqv_bl]; exact p)))
end
theorem isT_inv {d : D} (h : isT d = true) : ∃ xs, d = .tup xs := by
  cases d <;> first | exact ⟨_, rfl⟩ | cases h
theorem isI_inv {d : D} (h : isI d = true) : ∃ i, d = .int i := by
  cases d <;> first | exact ⟨_, rfl⟩ | cases h
theorem isI_of {d : D} (h : isIB d = true) (h2 : isBo d = false) : ∃ i, d = .int i := by
  cases d <;> first | exact ⟨_, rfl⟩ | (cases h; done) | (cases h2; done)
theorem isI_eq (d : D) : isI d = (isIB d && !isBo d) := by cases d <;> rfl
def isF : D → Bool
  | .tup [.int t, .int l] => decide (1 ≤ l) && decide (Nat.gcd t.natAbs l.natAbs = 1)
  | _ => false
def areF : D → Bool
  | .tup xs => xs.all isF
  | _ => false
theorem isF_not {d : D} (h : isT d = false) : isF d = false := by
  cases d <;> first | rfl | cases h
theorem areF_not {d : D} (h : isT d = false) : areF d = false := by
  cases d <;> first | rfl | cases h
theorem isF_len {xs : List D} (h : xs.length ≠ 2) : isF (.tup xs) = false := by
  match xs, h with
  | [], _ => rfl
  | [x], _ => cases x <;> rfl
  | [x, y], h => exact absurd rfl h
  | x :: y :: z :: r, _ => cases x <;> first | rfl | (cases y <;> rfl)
theorem isF_two (x y : D) : isF (.tup [x, y]) = true → isI x = true ∧ isI y = true := by
  intro h
  cases x <;> cases y <;> first | exact ⟨rfl, rfl⟩ | (cases h; done)
theorem isF_frq (q : Rat) : isF (frq q) = true := by
  have h1 : (1 : Int) ≤ (q.den : Int) := by have := q.den_pos; omega
  have h2 : Nat.gcd q.num.natAbs (q.den : Int).natAbs = 1 := by rw [Int.natAbs_natCast]; exact q.reduced
  show (decide (1 ≤ (q.den : Int)) && decide (Nat.gcd q.num.natAbs (q.den : Int).natAbs = 1)) = true
  rw [decide_eq_true h1, decide_eq_true h2]
  rfl
theorem isF_inv {d : D} (h : isF d = true) : ∃ q : Rat, d = frq q := by
  obtain ⟨xs, rfl⟩ : ∃ xs, d = .tup xs := isT_inv (by
    cases e : isT d with
    | true => rfl
    | false => rw [isF_not e] at h; cases h)
  have hl : xs.length = 2 := by
    by_cases e : xs.length = 2
    · exact e
    · rw [isF_len e] at h
      cases h
  match xs, hl, h with
  | [x, y], _, h =>
    obtain ⟨h1, h2⟩ := isF_two x y h
    obtain ⟨t, rfl⟩ := isI_inv h1
    obtain ⟨l, rfl⟩ := isI_inv h2
    have h : (decide (1 ≤ l) && decide (Nat.gcd t.natAbs l.natAbs = 1)) = true := h
    simp only [Bool.and_eq_true, decide_eq_true_eq] at h
    refine ⟨⟨t, l.natAbs, by omega, h.2⟩, ?_⟩
    show D.tup [.int t, .int l] = D.tup [.int t, .int (l.natAbs : Int)]
    rw [show (l.natAbs : Int) = l by omega]
theorem allF_inv : ∀ {xs : List D}, xs.all isF = true → ∃ qs : List Rat, xs = qs.map frq
  | [], _ => ⟨[], rfl⟩
  | x :: xs, h => by
    rw [List.all_cons, Bool.and_eq_true] at h
    obtain ⟨q, rfl⟩ := isF_inv h.1
    obtain ⟨qs, rfl⟩ := allF_inv h.2
    exact ⟨q :: qs, rfl⟩
theorem areF_inv {d : D} (h : areF d = true) : ∃ qs : List Rat, d = .tup (qs.map frq) := by
  obtain ⟨xs, rfl⟩ : ∃ xs, d = .tup xs := isT_inv (by
    cases e : isT d with
    | true => rfl
    | false => rw [areF_not e] at h; cases h)
  obtain ⟨qs, rfl⟩ := allF_inv h
  exact ⟨qs, rfl⟩
theorem take_map {α β : Type} {f : α → β} {xs : List α} {i : Nat} {d : α} (h : xs[i]? = some d) : (xs.take (i + 1)).map f = (xs.take i).map f ++ [f d] := by
  rw [List.take_add_one, h]
  simp
end DL
namespace DL
open PySem PySem.Spec PyProof.Rows L2
section
variable {ds : List D}
theorem cut_mem {lo hi : Option Int} {e : D} (h : e ∈ cutD ds lo hi) : e ∈ ds := by
  unfold cutD at h
  exact List.mem_of_mem_drop (List.mem_of_mem_take h)
theorem cut_len (ds : List D) (lo hi : Option Int) : (cutD ds lo hi).length ≤ ds.length := by
  unfold cutD
  rw [List.length_take, List.length_drop]
  omega
theorem cut_to {k : Nat} (h : k ≤ ds.length) : cutD ds none (some (k : Int)) = ds.take k := by
  unfold cutD
  rw [HT.sIx_nat, HT.sIx_none, Nat.min_eq_left h]
  simp
theorem cut_from {k : Nat} (h : k ≤ ds.length) : cutD ds (some (k : Int)) none = ds.drop k := by
  unfold cutD
  rw [HT.sIx_nat, HT.sIx_none, Nat.min_eq_left h]
  exact List.take_of_length_le (by rw [List.length_drop]; omega)
theorem cut_last (ds : List D) : (cutD ds (some (-1)) none).length ≤ 1 := by
  unfold cutD
  rw [List.length_take, List.length_drop, HT.sIx_none]
  have e : HT.sIx ds.length 0 (some (-1)) = (-1 + (ds.length : Int)).toNat := by
    unfold HT.sIx
    simp
  rw [e]
  omega
end
section
variable [TabT] [CacT] {K K' : PySem.W.Frag} {P : D → Prop} {ds : List D}
theorem pys_nil (h : D.pys ds = some []) : ds = [] := by
  cases ds with
  | nil => rfl
  | cons d ds =>
    exfalso
    simp only [D.pys] at h
    cases e : d.py with
    | none => rw [e] at h; cases h
    | some p =>
      cases e2 : D.pys ds with
      | none => rw [e, e2] at h; cases h
      | some ps => rw [e, e2] at h; cases h
theorem ne_nil (hK : K' = K) (h : ∃ p, (D.tup ds).py = some p ∧ SeqAt.shaped p = true) (p : P (.bl (!ds.isEmpty))) : RD K (rNeA K') (.tup ds) (.tup []) P := by
  obtain ⟨q, e, sh⟩ := h
  refine rd_k (r := rNeA) hK (rd_or1 (rd_ne (p := q) (r := .tuple []) e rfl sh rfl ?_))
  have key : PyData.eqv q (.tuple []) = ds.isEmpty := by
    cases z : D.pys ds with
    | none => simp [D.py, z] at e
    | some ps =>
      simp [D.py, z] at e
      subst e
      cases ps with
      | nil =>
        rw [pys_nil z]
        rfl
      | cons a as =>
        cases ds with
        | nil => simp [D.pys] at z
        | cons d ds => rfl
  rw [key]
  exact p
end
end DL
/-! looks at written data -/
namespace DL
open PySem PySem.Spec PyProof.Rows L2
def leafb (c : Nat) : D → Bool
  | .non => true
  | .bl _ => true
  | .int i => decide (i.natAbs < 2 ^ c)
  | .str x => decide (x.cps.size ≤ c) && (PyData.str x).canLay0
  | _ => false
def gdb (c L : Nat) : Nat → D → Bool
  | 0, d => leafb c d
  | n + 1, .tup ds => decide (ds.length ≤ L) && ds.all (gdb c L n)
  | n + 1, .lst ds => decide (ds.length ≤ L) && ds.all (gdb c L n)
  | n + 1, d => leafb c d
theorem leafb_ok {c : Nat} {d : D} (h : leafb c d = true) : leafD c d := by
  cases d with
  | non => exact .inl rfl
  | bl b => exact .inr (.inl ⟨b, rfl⟩)
  | int i => exact .inr (.inr (.inl ⟨i, rfl, of_decide_eq_true h⟩))
  | str x =>
    have h : (decide (x.cps.size ≤ c) && (PyData.str x).canLay0) = true := h
    rw [Bool.and_eq_true] at h
    exact .inr (.inr (.inr ⟨x, rfl, of_decide_eq_true h.1, h.2⟩))
  | _ => cases h
variable [TabT] [CacT]
theorem gdb_ok {c L : Nat} : ∀ {n : Nat} {d : D}, gdb c L n d = true → Gd c L n d
  | 0, d, h => by
    unfold gdb at h
    exact leafb_ok h
  | n + 1, d, h => by
    cases d with
    | tup ds =>
      have h : (decide (ds.length ≤ L) && ds.all (gdb c L n)) = true := h
      rw [Bool.and_eq_true, List.all_eq_true] at h
      exact .tup (of_decide_eq_true h.1) fun e he => gdb_ok (h.2 e he)
    | lst ds =>
      have h : (decide (ds.length ≤ L) && ds.all (gdb c L n)) = true := h
      rw [Bool.and_eq_true, List.all_eq_true] at h
      exact .lst (of_decide_eq_true h.1) fun e he => gdb_ok (h.2 e he)
    | _ => exact .inl (leafb_ok h)
/-- small fractions as such data -/
theorem frq_bn {c L n : Nat} {q : Rat} (h : Sm c q) (hL : 2 ≤ L) : Bn c L (n + 1) (frq q) := by
  have a : Bn c L n (.int q.num) := by
    cases n with
    | zero => exact ⟨_, rfl, h.1⟩
    | succ n => exact .inl ⟨_, rfl, h.1⟩
  have b : Bn c L n (.int (q.den : Int)) := by
    have h2 : ((q.den : Int)).natAbs < 2 ^ c := by rw [Int.natAbs_natCast]; exact h.2
    cases n with
    | zero => exact ⟨_, rfl, h2⟩
    | succ n => exact .inl ⟨_, rfl, h2⟩
  refine .inr ⟨_, rfl, hL, fun e he => ?_⟩
  simp only [List.mem_cons, List.not_mem_nil, or_false] at he
  rcases he with rfl | rfl
  · exact a
  · exact b
theorem frs_bn {c L n : Nat} {qs : List Rat} (h : ∀ q ∈ qs, Sm c q) (hL : 2 ≤ L) (hl : qs.length ≤ L) : Bn c L (n + 2) (.tup (qs.map frq)) := by
  refine .inr ⟨_, rfl, by rw [List.length_map]; exact hl, fun e he => ?_⟩
  obtain ⟨q, hq, rfl⟩ := List.mem_map.mp he
  exact frq_bn (h q hq) hL
theorem frq_sm {c L n : Nat} {q : Rat} (h : Gd c L n (frq q)) : Sm c q := by
  obtain ⟨m, rfl, _, k⟩ := Gd.tup_inv h
  have a := (k (.int q.num) (by simp)).int_inv
  have b := (k (.int (q.den : Int)) (by simp)).int_inv
  rw [Int.natAbs_natCast] at b
  exact ⟨a, b⟩
theorem Gd.ty2 {c L n : Nat} {d : D} (h : Gd c L n d) : Ty2 d := by
  refine ⟨h.ty, fun xs e x hx => ?_⟩
  subst e
  obtain ⟨m, rfl, _, k⟩ := h.tup_inv
  exact (k x hx).ty
theorem Gd.ty3 {c L n : Nat} {d : D} (h : Gd c L n d) (hL : L ≤ 1000) : Ty3 d := by
  refine ⟨h.ty, fun xs e => ?_⟩
  subst e
  obtain ⟨m, rfl, l, k⟩ := h.tup_inv
  exact ⟨Nat.le_trans l hL, fun x hx => (k x hx).ty2⟩
/-- .. or one of two dicts -/
def Vc (d : D) : Prop := Gd 27 6 3 d ∨ d = .dic [] ∨ d = .dic [(.inr "a", .int 1)]
theorem Vc.ty3 {d : D} (h : Vc d) : Ty3 d := by
  rcases h with h | rfl | rfl
  · exact h.ty3 (by decide)
  · exact ⟨⟨_, rfl⟩, fun _ e => nomatch e⟩
  · exact ⟨⟨_, rfl⟩, fun _ e => nomatch e⟩
theorem Vc.shows {d : D} (h : Vc d) : ∃ x, Shows d x := by
  rcases h with h | rfl | rfl
  · exact h.shows (by decide) (by decide) (by decide) (by decide +kernel)
  · exact ⟨_, .d0⟩
  · exact ⟨_, .d1 (by decide +kernel) (by decide +kernel)⟩
theorem Vc.frs {qs : List Rat} (h : Vc (.tup (qs.map frq))) : qs.length ≤ 6 ∧ ∀ q ∈ qs, Sm 27 q := by
  rcases h with h | h | h
  · obtain ⟨m, e, l, k⟩ := h.tup_inv
    rw [List.length_map] at l
    exact ⟨l, fun q hq => frq_sm (k _ (List.mem_map.mpr ⟨q, hq, rfl⟩))⟩
  · cases h
  · cases h
end DL
/-! texts among bent data; in; == of lists of truths; errors by many classes -/
namespace DL
open PySem PySem.Spec PyProof.Rows L2
/-- what the bending of a text may come to -/
structure SOk (c : Nat) (x : Str) : Prop where
  s0 : leafb c (.str x) = true
  s1 : leafb (c + 1) (.str (x ++ ("x" : Str))) = true
  s2 : leafb (c + 1) (.str (cutS x none (some (-1)))) = true
  s3 : leafb (c + 1) (.str (Txt.upper x)) = true
  l : x.length ≤ 1000
def sokb (c : Nat) (x : Str) : Bool := leafb c (.str x) && (leafb (c + 1) (.str (x ++ ("x" : Str))) && (leafb (c + 1) (.str (cutS x none (some (-1)))) && (leafb (c + 1) (.str (Txt.upper x)) && decide (x.length ≤ 1000))))
theorem sokb_ok {c : Nat} {x : Str} (h : sokb c x = true) : SOk c x := by
  unfold sokb at h
  simp only [Bool.and_eq_true, decide_eq_true_eq] at h
  exact ⟨h.1, h.2.1, h.2.2.1, h.2.2.2.1, h.2.2.2.2⟩
/-- integers and such texts, in tuples -/
def Bm (c L : Nat) (SS : Str → Prop) : Nat → D → Prop
  | 0, d => (∃ i : Int, d = .int i ∧ i.natAbs < 2 ^ c) ∨ ∃ x, d = .str x ∧ SS x
  | n + 1, d => ((∃ i : Int, d = .int i ∧ i.natAbs < 2 ^ c) ∨ ∃ x, d = .str x ∧ SS x) ∨ ∃ ds : List D, d = .tup ds ∧ ds.length ≤ L ∧ ∀ e ∈ ds, Bm c L SS n e
def bmb (c L : Nat) (ss : List Str) : Nat → D → Bool
  | _, .int i => decide (i.natAbs < 2 ^ c)
  | _, .str x => ss.contains x
  | n + 1, .tup ds => decide (ds.length ≤ L) && ds.all (bmb c L ss n)
  | _, _ => false
/-- what isinstance, the making and the fields of an own error ask -/
structure Cok (K : PySem.W.Frag) (fI C : Addr) : Prop where
  T : OexC K C
  v : PySem.W.findIn K (.ref C) "value" = some none
  i : PySem.W.findIn K (.ref C) "__init__" = some (some (.ref fI))
  x : ExcC K C
  xf : XfC K C
variable [TabT] [CacT]
theorem bm_case {c L n : Nat} {SS : Str → Prop} {d : D} (h : Bm c L SS n d) : (∃ i : Int, d = .int i ∧ i.natAbs < 2 ^ c) ∨ (∃ x, d = .str x ∧ SS x) ∨ ∃ m ds, n = m + 1 ∧ d = .tup ds ∧ ds.length ≤ L ∧ ∀ e ∈ ds, Bm c L SS m e := by
  cases n with
  | zero =>
    rcases h with h | h
    · exact .inl h
    · exact .inr (.inl h)
  | succ n =>
    rcases h with (h | h) | ⟨ds, e, l, k⟩
    · exact .inl h
    · exact .inr (.inl h)
    · exact .inr (.inr ⟨n, ds, rfl, e, l, k⟩)
theorem Bm.gd {c L : Nat} {SS : Str → Prop} (hS : ∀ x, SS x → SOk c x) : ∀ {n : Nat} {d : D}, Bm c L SS n d → Gd c L n d
  | n, d, h => by
    rcases bm_case h with ⟨i, rfl, hi⟩ | ⟨x, rfl, hx⟩ | ⟨m, ds, rfl, rfl, hl, he⟩
    · exact .int hi
    · exact leafD.gd (leafb_ok (hS x hx).s0)
    · exact .tup hl fun e h => Bm.gd hS (he e h)
theorem bmb_ok {c L : Nat} {ss : List Str} : ∀ {n : Nat} {d : D}, bmb c L ss n d = true → Bm c L (fun x => x ∈ ss) n d
  | 0, d, h => by
    cases d with
    | int i => exact .inl ⟨i, rfl, of_decide_eq_true (by simpa [bmb] using h)⟩
    | str x => exact .inr ⟨x, rfl, by simpa [bmb] using h⟩
    | _ => simp [bmb] at h
  | n + 1, d, h => by
    cases d with
    | int i => exact .inl (.inl ⟨i, rfl, of_decide_eq_true (by simpa [bmb] using h)⟩)
    | str x => exact .inl (.inr ⟨x, rfl, by simpa [bmb] using h⟩)
    | tup ds =>
      have h : (decide (ds.length ≤ L) && ds.all (bmb c L ss n)) = true := by simpa [bmb] using h
      rw [Bool.and_eq_true, List.all_eq_true] at h
      exact .inr ⟨ds, rfl, of_decide_eq_true h.1, fun e he => bmb_ok (h.2 e he)⟩
    | _ => simp [bmb] at h
section
variable {C : Fx} {ρ : List Slot} {te : TE} {P : PD}
theorem ev_upper (h : Ev C te ρ fun d ρ1 => ∃ x, d = .str x ∧ x.length ≤ 5592405 ∧ P (.str (Txt.upper x)) ρ1) : Ev C (tM0 (fun x xs H Q => ∃ a, x = .str a ∧ xs = [] ∧ a.length ≤ 5592405 ∧ Q (.str (Txt.upper a)) H) te) ρ P := fun σ G H Q S q => by
  refine h σ G H _ S fun v d G1 H1 ρ1 s1 p1 k1 => ?_
  obtain ⟨x, rfl, l, p1⟩ := p1
  cases k1
  exact ⟨⟨x, rfl⟩, x, rfl, rfl, l, q _ _ G1 H1 ρ1 s1 p1 (.str _)⟩
end
section
variable {K K' : PySem.W.Frag} {P : D → Prop}
theorem pys_bls : ∀ bs : List Bool, D.pys (bs.map .bl) = some (bs.map .bool)
  | [] => rfl
  | b :: bs => by
    simp only [List.map_cons, D.pys, pys_bls bs]
    rfl
theorem bls_ok : ∀ bs : List Bool, PyData.canLayAll0 (bs.map .bool) = true ∧ PyData.depthAll (bs.map .bool) = 0
  | [] => ⟨rfl, rfl⟩
  | b :: bs => by
    obtain ⟨h1, h2⟩ := bls_ok bs
    refine ⟨?_, ?_⟩
    · simp only [List.map_cons, PyData.canLayAll0, h1, Bool.and_true]
      rfl
    · simp only [List.map_cons, PyData.depthAll, h2, PyData.depth]
      rfl
theorem bls_shaped (bs : List Bool) : SeqAt.shaped (.list (bs.map .bool)) = true := by
  obtain ⟨h1, h2⟩ := bls_ok bs
  unfold SeqAt.shaped
  simp only [PyData.canLay0, h1, PyData.depth, h2]
  decide
theorem bls_eqv : ∀ bs : List Bool, PyData.eqvAll (bs.map .bool) (bs.map .bool) = true
  | [] => rfl
  | b :: bs => by
    simp only [List.map_cons, PyData.eqvAll, bls_eqv bs, Bool.and_true]
    cases b <;> rfl
/-- != of two lists of the same truths -/
theorem ne_bls {bs cs : List Bool} (hK : K' = K) (e : bs = cs) (p : P (.bl false)) : RD K (rNeA K') (.lst (bs.map .bl)) (.lst (cs.map .bl)) P := by
  subst e
  refine rd_k (r := rNeA) hK (rd_or1 (rd_ne (p := .list (bs.map .bool)) (r := .list (bs.map .bool)) (by simp [D.py, pys_bls]) (by simp [D.py, pys_bls]) (bls_shaped bs) (bls_shaped bs) ?_))
  have e : PyData.eqv (.list (bs.map .bool)) (.list (bs.map .bool)) = true := by
    simp only [PyData.eqv, bls_eqv]
  rw [e]
  exact p
theorem rd_inD {x y : D} {d : PyData} {ds : List PyData} (hK : K' = K) (e1 : x.py = some d) (e2 : y.py = some (.list ds)) (s1 : SeqAt.shaped d = true) (s2 : SeqAt.shaped (.list ds) = true) (p : P (.bl (ds.any fun z => PyData.eqv z d))) : RD K (rInD K') x y P := fun G H v u Q le a b q => by
  subst hK
  exact ⟨d, ds, a.dp le e1, b.dp le e2, s1, s2, q _ _ G H (Ext.refl le) (Same.refl _) p (.bl _)⟩
/-- a truth among truths -/
theorem in_bls {b : Bool} {bs : List Bool} (hK : K' = K) (p : P (.bl (bs.any fun z => z == b))) : RD K (rInD K') (.bl b) (.lst (bs.map .bl)) P := by
  refine rd_inD hK (d := .bool b) (ds := bs.map .bool) rfl (by simp [D.py, pys_bls]) rfl (bls_shaped bs) ?_
  have e : ((bs.map PyData.bool).any fun z => PyData.eqv z (.bool b)) = bs.any fun z => z == b := by
    rw [List.any_map]
    exact congrArg (List.any bs) (funext fun z => eqv_bl z b)
  rw [e]
  exact p
/-- isinstance of an error held as a value -/
theorem isa_exc {Cl C' : Addr} {d : D} {b : Bool} (hK : K' = K) (T : ExcC K Cl) (e : PySem.W.kitOne K (.ref Cl) (.ref C') = some b) (h : P (.bl b)) : RC1 K (rIsA K') [.exc Cl d, .val (.ref C')] P := rc_isX hK T (.own _) e h
end
/-- .. or one of two dicts, deeper -/
def Vd (d : D) : Prop := Gd 27 6 4 d ∨ d = .dic [] ∨ d = .dic [(.inr "a", .int 1)]
theorem Vc.vd {d : D} (h : Vc d) : Vd d := by
  rcases h with h | h | h
  · exact .inl (h.mono (Nat.le_refl _) (Nat.le_refl _) (by decide))
  · exact .inr (.inl h)
  · exact .inr (.inr h)
theorem Vd.shows {d : D} (h : Vd d) : ∃ x, Shows d x := by
  rcases h with h | rfl | rfl
  · exact h.shows (by decide) (by decide) (by decide) (by decide +kernel)
  · exact ⟨_, .d0⟩
  · exact ⟨_, .d1 (by decide +kernel) (by decide +kernel)⟩
end DL
/-! x, *xs = a list -/
namespace DL
open PySem PySem.Spec PyProof.Rows L2
section
variable {prog : Program} {w : World} {A : Around} {E : Value → Shared → Prop} {s : Shared}
theorem star_list {l : Addr} {x : Value} {its : List Value} {Q : List Value → Shared → Prop} (hl : s.heap.IsList l (x :: its).toArray) (hh : A.handled = none) (hz : its.length ≤ 16000)
    (h : ∀ (h' : Heap) (tk : Nat), (∀ b o, s.heap.get? b = some o → h'.get? b = some o) → Q [x, .ref h'.objs.size] { s with heap := h'.push { cls := .type "list", data := .seq its.toArray }, toks := tk }) :
    wpAny (model prog w) A (unpackItems (.ref l) 2 (some 1)) Q E s := by
  have hll : l < s.heap.objs.size := by
    obtain ⟨o, ho, _⟩ := hl
    exact Heap.lt_size ho
  have hne : l ≠ s.heap.objs.size := Nat.ne_of_lt hll
  have hsz : (x :: its).toArray.size = its.length + 1 := by simp
  unfold unpackItems
  refine wpAny_bind (m := notIterableAtAll (.ref l)) ?_
  · unfold notIterableAtAll
    exact wpAny_bind (wpAny_specialOf hl.typeIs slot_list_iter.lookup (wpAny_pure (by
      simp only [Bool.false_eq_true, if_false]
      refine wpAny_bind (wpAny_holding (wpAny_pyIter_list hl ?_))
      refine wpAny_bind (wpAny_holding (PySem.W.kun_draw hne 1 0 _ _ ⟨_, Heap.get?_push_size _ rfl, rfl, rfl⟩ (hl.push _) (by omega) fun g hit same => ?_))
      have hl1 : g.IsList l (x :: its).toArray := (hl.push _).extBut same.extBut hne
      have up : ∀ b o, s.heap.get? b = some o → g.get? b = some o := fun b o e => same.extBut b o (Nat.ne_of_lt (Heap.lt_size e)) (Heap.get?_push_of_some _ e)
      have hit1 := hit
      obtain ⟨oi, hoi, _⟩ := hit1
      have hl2 := hl1
      obtain ⟨ol, hol, _⟩ := hl2
      rw [if_neg (by simp)]
      refine wpAny_bind (wpAny_holding (PySem.W.kun_collect (s := { s with heap := g }) (T := "list_iterator") (.inr (.inr (.inl rfl))) (Walks.list (A := A.in1) hh s.heap.objs.size l hne (x :: its).toArray) (fun j u st => st.1.typeIs) (k := 1) (by omega) ⟨hit, hl1⟩ (Heap.lt_size hoi) (Heap.lt_size hol) (fun g2 tk keep => ?_) (by rw [sizeLine_eq]; omega)))
      have er : (x :: its).toArray.toList.drop 1 = its := by simp
      rw [er]
      show wpAny _ _ (if its.length < 2 - 1 - 1 then _ else _) _ _ _
      rw [if_neg (by omega)]
      show wpAny _ _ (newList (its.take (its.length - (2 - 1 - 1))) >>= fun d => pure ((x :: its).toArray.toList.take 1 ++ [d] ++ its.drop (its.length - (2 - 1 - 1)))) _ _ _
      rw [show its.length - (2 - 1 - 1) = its.length by omega, List.take_length, List.drop_length]
      refine wpAny_bind (wpAny_newList (wpAny_pure ?_))
      exact h g2 tk fun b o e => keep b o (Nat.ne_of_lt (Heap.lt_size e)) (up b o e))))
end
/-- x, *xs = .. -/
def gStar (K : PySem.W.Frag) (t : TGs) : TG := fun v σ H Q => ∃ a x xs, v = .ref a ∧ SqL K H a (x :: xs) ∧ xs.length ≤ 16000 ∧ ∀ p, H p = none → t [x, .ref p] σ (upd H p (.lst xs)) Q
theorem pg_star {X : Cx} {x y : Str} {k : Nat} {px py sp pos : Pos} {t : TGs} (hc : X.calm = true) (h : PGs X [.Name x px, .Name y py] t) : PG X (.Tuple [.Name x px, .Starred (.Name y py) sp] k pos) (gStar X.K t) := by
  refine ⟨fun pins s σ H v u Q I r hw => ?_⟩
  obtain ⟨a, v1, vs, e1, hq, hz, hw⟩ := hw
  subst e1
  cases r
  obtain ⟨its, rv, pl, hsz⟩ := I.list hq
  have hl := pl.isList
  cases rv with
  | @cons _ u1 _ us r1 r2 =>
    rw [PyProof.Rows.assign_Tuple]
    refine wpAny_bind (wpAny_standAt ?_)
    unfold unpack
    show wpAny _ _ (holding [Value.ref a] (unpackItems (.ref a) 2 (some 1)) >>= fun vs => assignInOrder ((assignEach [.Name x px, .Name y py] X.env).map (·.2)) vs) _ _ _
    refine wpAny_bind (wpAny_holding (star_list hl (I.ok.hd hc) (by rw [← r2.length]; exact hz) fun g tk up => ?_))
    have I1 : Inv X pins σ H { s with heap := g, toks := tk } := I.kept up
    have hf : H g.objs.size = none := I1.hok.fresh (Nat.le_refl _)
    have I2 : Inv X pins σ (upd H g.objs.size (.lst vs)) { s with heap := g.push { cls := .type "list", data := .seq us.toArray }, toks := tk } := I1.laid (t' := tk) (fun b o q => Heap.get?_push_of_some _ q) (Nat.le_refl _)
      ⟨by rw [sizeLine_eq]; omega, us, 0, r2, Heap.get?_push_size _ rfl⟩
    exact h.run pins _ σ _ [v1, .ref g.objs.size] _ Q I2 (.cons r1 (.cons rfl .nil)) (hw _ hf)
section
variable [TabT] [CacT] {C : Fx} {ρ : List Slot} {te : TE} {po : Po} {i j : Nat}
theorem xs_star {K' : PySem.W.Frag} (h : Ev C te ρ fun d ρ1 => ∃ x xs, d = .lst (x :: xs) ∧ xs.length ≤ 16000 ∧ po.nx ((ρ1.set i (.dat x)).set j (.dat (.lst xs)))) (hK : K' = C.K := by rfl) : Xs C (tAsg te (gStar K' (gCons (gName i) (gCons (gName j) gNil)))) ρ po := fun σ G H Dn S hn hr hb hc => by
  subst hK
  refine h σ G H _ S fun v d G1 H1 ρ1 s1 p1 k1 => ?_
  obtain ⟨x, xs, rfl, hz, p1⟩ := p1
  cases k1 with
  | lst a1 a2 =>
    cases a2 with
    | @cons v1 vs _ _ b1 b2 =>
      refine ⟨_, v1, vs, rfl, .inl (.inl (s1.st.le _ _ a1)), by rw [b2.length]; exact hz, fun p hp => ?_⟩
      have ex := Ext.new (F := fun _ => False) s1.st.le hp (.lst vs)
      have s2 := s1.trans (s1.st.keep ex)
      refine ⟨v1, _, rfl, .ref p, _, rfl, rfl, ?_⟩
      exact hn _ _ _ _ ((s2.st.setD (b1.mono ex.gg)).setD (.lst upd_same (b2.mono ex.gg))) (s1.ext.gg.trans ex.gg) p1
end
end DL
/-! len(set(texts)) -/
namespace DL
open PySem PySem.Spec PyProof.Rows L2
/-- so many unlike ones among the first i -/
structure Met (P : Program) (w : World) (h : Heap) (D : Addr) (xs : List Str) (m : Nat) : Prop where
  at_ : h.SetOf (strKind P w) D (fun y => decide (y ∈ xs)) m
  le : m ≤ xs.length
  iff : m = xs.length ↔ xs.Nodup
theorem Met.nil {P : Program} {w : World} {h : Heap} {D : Addr} (hS : h.SetOf (strKind P w) D (fun _ => false) 0) : Met P w h D [] 0 :=
  ⟨SetOf_congr hS (fun y => by simp) rfl, Nat.le_refl _, by simp⟩
theorem Met.snoc {P : Program} {w : World} {h h' : Heap} {D : Addr} {xs : List Str} {x : Str} {m : Nat} (M : Met P w h D xs m)
    (hS : h'.SetOf (strKind P w) D (fun y => decide (y ∈ xs) || decide (y = x)) (if decide (x ∈ xs) then m else m + 1)) : ∃ m', Met P w h' D (xs ++ [x]) m' := by
  have ln : (xs ++ [x]).length = xs.length + 1 := by simp
  have nd : (xs ++ [x]).Nodup ↔ xs.Nodup ∧ x ∉ xs := by
    rw [List.nodup_append]
    constructor
    · intro ⟨a, _, c⟩
      exact ⟨a, fun z => c x z x (by simp) rfl⟩
    · intro ⟨a, c⟩
      exact ⟨a, by simp, fun y hy z hz e => c (by rw [List.mem_singleton.mp hz] at e; exact e ▸ hy)⟩
  refine ⟨_, SetOf_congr hS (fun y => ?_) rfl, ?_, ?_⟩
  · by_cases h1 : y ∈ xs <;> by_cases h2 : y = x <;> simp [h1, h2]
  · have := M.le
    rw [ln]
    split <;> omega
  · rw [ln, nd]
    have a := M.le
    have b := M.iff
    by_cases hx : x ∈ xs
    · rw [if_pos (by simpa using hx)]
      constructor
      · intro e
        omega
      · intro ⟨_, c⟩
        exact absurd hx c
    · rw [if_neg (by simpa using hx)]
      constructor
      · intro e
        exact ⟨b.mp (by omega), hx⟩
      · intro ⟨c, _⟩
        have := b.mpr c
        omega
theorem Met.keep {P : Program} {w : World} {h h' : Heap} {D : Addr} {xs : List Str} {m : Nat} (M : Met P w h D xs m) (k : ∀ o, h.get? D = some o → h'.get? D = some o) : Met P w h' D xs m := by
  obtain ⟨⟨o, es, ep, t, ho, rest⟩, a, b⟩ := M
  exact ⟨⟨o, es, ep, t, k _ ho, rest⟩, a, b⟩
section
variable {prog : Program} {w : World} {A : Around} {R : Result → Shared → Prop} {I : Addr} {fp wr : List Addr} {G : Array GenState → Array GenState → Prop} {n : Nat} {P : Nat → Value → Prop} {St : Nat → Shared → Prop}
theorem set_loop (W : WalksS prog w A.in1 I fp wr G n P St) {D : Addr} (nf : D ∉ fp) {xs : List Str} (hn : xs.length = n) (hn2 : n < 4000) (hv : ∀ i v, P i v → ∃ t, v = .str (xs.getD i Str.empty) t) :
    ∀ (k i m : Nat) (s : Shared), n - i = k → i ≤ n → St i s → Met prog w s.heap D (xs.take i) m → (∀ s' m', Moved (D :: wr) G s s' → Met prog w s'.heap D xs m' → R (.ok (.ret .none)) s') →
      codeAny (model prog w) A (.builtin "set.update.loop" ⟨[.ref D, .ref I], []⟩) R s
  | 0, i, m, s, hk, hi, hst, M, done => by
    have e : i = n := by omega
    refine codeAny_builtin F.entry_set_update_loop ?_
    rw [Around.under_plainId F.plain_set_update_loop _]
    show wpAny _ A.in1 (pyNext (.ref I) >>= _) _ _ s
    refine wpAny_bind (W.done s _ _ (e ▸ hst) fun s2 mv => wpAny_pure (done s2 m (mv.mono fun b hb => List.mem_cons_of_mem _ hb) ?_))
    have M2 := M.keep (h' := s2.heap) fun o ho => mv.heap D o (fun z => nf (W.sub _ z)) ho
    rwa [e, ← hn, List.take_length] at M2
  | k + 1, i, m, s, hk, hi, hst, M, done => by
    have hlt : i < n := by omega
    refine codeAny_builtin F.entry_set_update_loop ?_
    rw [Around.under_plainId F.plain_set_update_loop _]
    show wpAny _ A.in1 (pyNext (.ref I) >>= _) _ _ s
    refine wpAny_bind (W.item i s _ _ hlt hst fun v s2 hp hst2 mv => ?_)
    obtain ⟨t, rfl⟩ := hv i v hp
    obtain ⟨x, hx⟩ : ∃ x, x = xs.getD i Str.empty := ⟨_, rfl⟩
    rw [← hx]
    have M2 := M.keep (h' := s2.heap) fun o ho => mv.heap D o (fun z => nf (W.sub _ z)) ho
    show wpAny _ A.in1 (holding [Value.str x t] (setAdd D (.str x t)) >>= _) _ _ s2
    refine wpAny_bind (wpAny_holding ?_)
    unfold setAdd
    have lm : m ≤ i := Nat.le_trans M.le (by rw [List.length_take]; omega)
    refine wpAny_holding (wpAny_bind ((strKind prog w).pyHash (k := x) (strKind_is _ _ _ _) ?_))
    refine wpAny_setAddHashed_of (knd := strKind prog w) (s := { s2 with toks := s2.toks + 1 }) (strKind_is _ _ _ _) rfl M2.at_ (by unfold scanBound; omega) fun g sb hS => ?_
    obtain ⟨m3, M3⟩ := M2.snoc hS
    have hd : xs[i]? = some x := by
      have h0 : i < xs.length := by omega
      rw [hx, List.getD_eq_getElem?_getD, List.getElem?_eq_getElem h0]
      rfl
    have et : xs.take i ++ [x] = xs.take (i + 1) := by
      rw [List.take_add_one, hd]
      rfl
    rw [et] at M3
    refine wpAny_pure ⟨plainId_quiet F.plain_set_update_loop _, set_loop W nf hn hn2 hv k (i + 1) m3 _ (by omega) hlt (W.frame _ s2 _ _ hst2 (Nat.le_succ _) fun b hb o e => ?_) M3 fun s4 m4 mv4 M4 => ?_⟩
    · exact (sb.2 b fun z => nf (z ▸ hb)).trans e
    · exact done s4 m4 (Moved.trans W.gtrans ((mv.mono fun b hb => List.mem_cons_of_mem _ hb).then_heap (Nat.le_succ _) fun b o hb e => (sb.2 b fun z => hb (z ▸ List.mem_cons_self)).trans e) mv4) M4
end
end DL
namespace DL
open PySem PySem.Spec PyProof.Rows L2
section
variable {prog : Program} {w : World} {A : Around} {E : Value → Shared → Prop} {s : Shared}
/-- a new set, empty -/
abbrev setO0 (b : Bool) : Obj := { cls := .type "set", dict := none, data := .set #[] 0 (.fresh 0 0 b) }
theorem call_setL {l : Addr} {items : Array Value} {xs : List Str} {Q : Value → Shared → Prop} (hh : A.handled = none) (hl : s.heap.IsList l items) (hi : StrsAre items.toList xs) (hn : xs.length < 4000)
    (h : ∀ (g : Heap) (tk m : Nat), Met prog w g s.heap.objs.size xs m → (∀ b o, b < s.heap.objs.size → s.heap.get? b = some o → g.get? b = some o) → Q (.ref s.heap.objs.size) { s with heap := g, toks := tk }) :
    wpAny (model prog w) A (call (.type "set") [.ref l]) Q E s := by
  have hmro := F.called_set.mro
  obtain ⟨c0, c1, hmro⟩ := hmro
  have k1 := F.called_set.made
  have k2 := F.called_set.sub
  have k3 := F.called_set.notType
  have k4 := F.called_set.canCreate
  have k5 := F.typeCall_set_1 (.ref l)
  have k6 := F.called_set.init.lookup
  have k7 := F.called_set.init.bind (.ref s.heap.objs.size)
  have k8 := F.sub_list_set
  have k9 := F.sub_list_frozenset
  have k10 : (Value.type "list" == Value.type "dict") = false := by decide
  refine wpAny_call (codeAny_of_tree (wpAny_pure ⟨Code.quiet_builtin _ (by decide +kernel), codeAny_builtin F.entry_type_call ?_⟩))
  rw [Around.under_plain (weight_type_call_type "set" [.ref l] []) rfl]
  repeat (any_goals (first | assumption | wp_step))
  refine codeAny_mono (code_set_new_1 (.ref l) (E := E) (Q₁ := fun r s1 => ∃ b, r = .ref s.heap.objs.size ∧ s1 = { s with heap := s.heap.push (setO0 b) }) fun b => ⟨b, rfl, rfl⟩) fun r s1 hr => ?_
  match r, hr with
  | .error e, hr => exact hr
  | .ok .next, hr => exact hr.elim
  | .ok .brk, hr => exact hr.elim
  | .ok .cont, hr => exact hr.elim
  | .ok (.ret r), ⟨b0, e1, e2⟩ =>
    subst e1 e2
    have at0 : (s.heap.push (setO0 b0)).get? s.heap.objs.size = some (setO0 b0) := Heap.get?_push_size _ rfl
    have ty0 : Shared.TypeIs { s with heap := s.heap.push (setO0 b0) } (.ref s.heap.objs.size) "set" := ⟨_, at0, rfl⟩
    repeat (any_goals (first | assumption | wp_step))
    refine codeAny_mono (codeAny_call_builtin (R := wants (fun r s2 => r = .none ∧ ∃ g tk m, s2 = { s with heap := g, toks := tk } ∧ Met prog w g s.heap.objs.size xs m ∧ (∀ b o, b < s.heap.objs.size → s.heap.get? b = some o → g.get? b = some o)) E)
      F.called_set.init.plain F.entry_set_init (check_set_init_1 ty0 ?_)) fun r2 s2 hr2 => ?_
    · have hlS : l < s.heap.objs.size := by
        obtain ⟨o, ho, _⟩ := hl
        exact Heap.lt_size ho
      have hl1 : (s.heap.push (setO0 b0)).IsList l items := hl.push _
      have hl1' := hl1
      obtain ⟨⟨ol1, ol2, ol3, ol4⟩, hol, hc, nl, hd⟩ := hl1'
      simp only at hc hd
      subst hc hd
      unfold Builtin.«set.__init__» noKeywords Builtin.Frozenset.updateFrom
      generalize hPI : pyIter = PI
      wp_walk
      subst hPI
      refine wpAny_pyIter_list hl1 (wpAny_bind (wpAny_runValue ?_))
      have hh3 : A.in1.in1.in1.handled = none := by simp [hh]
      have sz : (s.heap.push (setO0 b0)).objs.size = s.heap.objs.size + 1 := Heap.size_push ..
      have ne1 : l ≠ (s.heap.push (setO0 b0)).objs.size := fun e => by
        rw [sz] at e
        exact absurd e (Nat.ne_of_lt (Nat.lt_succ_of_lt hlS))
      have nf : s.heap.objs.size ∉ [(s.heap.push (setO0 b0)).objs.size, l] := by
        simp only [List.mem_cons, List.not_mem_nil, or_false, not_or]
        refine ⟨fun e => ?_, fun e => ?_⟩
        · rw [sz] at e
          exact absurd e (Nat.ne_of_lt (Nat.lt_succ_self _))
        · exact absurd e.symm (Nat.ne_of_lt hlS)
      have hlen : xs.length = items.size := by rw [← StrsAre.len_eq hi, Array.length_toList]
      refine set_loop ((Walks.list hh3 _ l ne1 items).toS) nf hlen (by omega) (fun i v hv => SS.strs_at hi i v (by rw [Array.getElem?_toList]; exact hv)) (items.size - 0) 0 0 _ rfl (Nat.zero_le _) ⟨⟨_, Heap.get?_push_size _ rfl, rfl, rfl⟩, hl1.push _⟩ ?_ fun s3 m mv M => ?_
      · exact .nil ((setObjOf_fresh (knd := strKind prog w) b0).setOf (Heap.get?_push_of_some _ at0) (by unfold scanBound; omega))
      · obtain ⟨g, g1, g2, tk, g3⟩ := s3
        have e1 : g1 = s.gens := mv.gens
        have e2 : g2 = s.drawn := mv.drawn
        have e3 : g3 = s.os := mv.os
        subst e1 e2 e3
        refine wpAny_pure (wpAny_pure ⟨rfl, g, tk, m, rfl, M, fun b o hb e => mv.heap b o ?_ (Heap.get?_push_of_some _ (Heap.get?_push_of_some _ e))⟩)
        simp only [List.mem_cons, List.not_mem_nil, or_false, not_or]
        refine ⟨fun e => ?_, fun e => ?_⟩
        · exact absurd e (Nat.ne_of_lt hb)
        · have e2 : b = (s.heap.push (setO0 b0)).objs.size := e
          rw [show (s.heap.push (setO0 b0)).objs.size = s.heap.objs.size + 1 from Heap.size_push ..] at e2
          exact absurd e2 (Nat.ne_of_lt (Nat.lt_succ_of_lt hb))
    · match r2, hr2 with
      | .error e, hr2 => exact hr2
      | .ok .next, hr2 => exact hr2.elim
      | .ok .brk, hr2 => exact hr2.elim
      | .ok .cont, hr2 => exact hr2.elim
      | .ok (.ret r), ⟨e1, g, tk, m, e2, M, kp⟩ =>
        subst e1 e2
        repeat (any_goals (first | assumption | wp_step))
        exact h g tk m M kp
end
end DL
/-! enumerate(list, start=k) -/
namespace DL
open PySem PySem.Spec PyProof.Rows L2
section
variable {M : Model} {A : Around} {E : Value → Shared → Prop} {s : Shared} {env : Env}
theorem callWith_typeKw {pos : Pos} {T : String} {e : Expr} {rest : List Expr} {kws : List Keyword} {Q : Value → Shared → Prop}
    (h : wpAny M A (spliced (backTo pos (starEach (e :: rest) env))) (fun vs s1 => wpAny M A (evalAll ((backToKw pos (keywordEach kws env)).map (·.2)))
      (fun kvs s2 => wpAny M A (call (.type T) vs (((backToKw pos (keywordEach kws env)).filterMap (·.1)).zip kvs)) Q E s2) E s1) E s)
    (he : backTo pos (starEach (e :: rest) env) = (false, eval e env) :: backTo pos (starEach rest env) := by rfl)
    (hplain : (backTo pos (starEach (e :: rest) env)).any (·.1) = false := by rfl)
    (hall : (backToKw pos (keywordEach kws env)).all (·.1.isSome) = true := by rfl)
    (hkw : (backToKw pos (keywordEach kws env)).any (·.1.isNone) = false := by rfl) :
    wpAny M A (callWith pos (.type T) [] (backTo pos (starEach (e :: rest) env)) (backToKw pos (keywordEach kws env))) Q E s := by
  have key : wpAny M A (evalArgs (.type T) true (backTo pos (starEach (e :: rest) env)) (backToKw pos (keywordEach kws env))) (fun a s1 => wpAny M A (call (.type T) a.pos a.kw) Q E s1) E s := by
    rw [he] at h ⊢
    exact evalArgs_kwB hall h
  unfold callWith
  refine wpAny_bind (wpAny_holding (wpAny_mono key (fun a s₁ h₁ => wpAny_bind (wpAny_standAt ?_)) fun _ _ x => x))
  simp only [hplain, hkw, Bool.or_false]
  refine wpAny_bind (wpAny_pure ?_)
  exact wpAny_bind (wpAny_mono h₁ (fun r s₂ hr => wpAny_bind (wpAny_holding (wpAny_point (wpAny_pure hr)))) fun _ _ x => x)
end
/-- the list at a as it stands at each turn, counted from k, in new pairs -/
def IteS (K : PySem.W.Frag) (k : Int) (a : Addr) : It :=
  ⟨fun i H => ∃ (xs : List V) (x : V), SqL K H a xs ∧ xs[i]? = some x, fun i H v H' => ∃ T x, v = .ref T ∧ H T = none ∧ H' = upd H T (.tup [.int (k + (i : Nat)), x]) ∧ ∀ xs, SqL K H a xs → xs[i]? = some x, fun i H => ∃ xs : List V, SqL K H a xs ∧ xs.length = i⟩
theorem turn_enumS {P : Program} {w : World} {K : PySem.W.Frag} {elts : List Expr} {kk : Nat} {tpos : Pos} (k : Int) (a e it : Addr) :
    Turn P w K (.Tuple elts kk tpos) (IteS K k a) [e, it] e (fun i h => (∃ old, IsEnum h e it (k + (i : Nat)) old) ∧ h.IsListIter it a i ∧ e ≠ it ∧ e ≠ a ∧ a ≠ it) where
  mem := by simp
  obj := fun i h st b hb => by
    obtain ⟨⟨old, he⟩, ⟨o, ho, hc, hd⟩, _⟩ := st
    have e' : b = e ∨ b = it := by simpa using hb
    rcases e' with z | z
    · rw [z]; exact ⟨_, he, fun v q => nomatch q⟩
    · rw [z]; exact ⟨o, ho, fun v q => by rw [hd] at q; cases q⟩
  keep := fun i h h' st k => let ⟨⟨old, he⟩, hi, hne⟩ := st; ⟨⟨old, k e (by simp) _ he⟩, hi.at fun o q => k it (by simp) o q, hne⟩
  item := by
    intro X hP hw hK hc i pins s σ H E I hf st hg
    subst hP hw hK
    obtain ⟨⟨old, he⟩, hit, hne, hea, hai⟩ := st
    obtain ⟨xs, x, hq, hx⟩ := hg
    obtain ⟨its, rv, p, hz⟩ := I.list hq
    obtain ⟨u, hu, ru⟩ := rv.get hx
    have hel : e < s.heap.objs.size := Heap.lt_size he
    have hil : it < s.heap.objs.size := by obtain ⟨_, q, _⟩ := hit; exact Heap.lt_size q
    have hlt : i < its.toArray.size := by
      have := (List.getElem?_eq_some_iff.mp hu).1
      simpa using this
    refine wpAny_pyNext_enum_itemC (Draws.list (by rw [Around.in1]; exact I.ok.hd hc) it a hai its.toArray) he ⟨hit, p.isList⟩ hlt hne (by simp [hne, hea]) fun x1 h' tk hx1 ho hst' hT hsz hk => ?_
    obtain ⟨hit', _⟩ := hst'
    have ex : x1 = u := by
      have hx1 : its.toArray[i]? = some x1 := hx1
      rw [List.getElem?_toArray, hu] at hx1
      exact (Option.some.inj hx1).symm
    subst ex
    refine ⟨_, rfl, wpAny_letOwnedTupleGo_enum (s := { s with heap := h', toks := tk + 1 }) ho fun h'' he' sb => ?_⟩
    have hT2 : h''.get? s.heap.objs.size = some { cls := .type "tuple", data := .seq #[.int (k + (i : Nat)) tk, x1] } := (sb.2 _ (Nat.ne_of_gt hel)).trans hT
    have new : ObjOk X.prog X.w (upd H s.heap.objs.size (.tup [.int (k + (i : Nat)), x])) h'' s.heap.objs.size (.tup [.int (k + (i : Nat)), x]) :=
      ⟨by show 2 ≤ sizeLine; decide, [.int (k + (i : Nat)) tk, x1], .cons ⟨_, rfl⟩ (.cons ru .nil), ⟨_, hT2, rfl, _, rfl⟩⟩
    have I1 : Inv X pins σ (upd H s.heap.objs.size (.tup [.int (k + (i : Nat)), x])) { s with heap := h'', toks := tk + 1 } :=
      I.turnedNew (ch := [e, it]) (fun b ob hb q => (sb.2 b (fun z => hb (by simp [z]))).trans (hk b ob (fun z => hb (by simp [z])) (fun z => hb (by simp [z])) q)) hf (Nat.le_refl _) new
    refine ⟨.ref s.heap.objs.size, _, I1, rfl, ⟨_, x, rfl, I.hok.fresh (Nat.le_refl _), rfl, fun ys hy => by rw [I.list_inj hy hq]; exact hx⟩, ⟨⟨x1, ?_⟩, hit'.at fun o q => (sb.2 it (Ne.symm hne)).trans q, hne, hea, hai⟩, fun b hb => ?_⟩
    · have e1 : k + ((i + 1 : Nat) : Int) = k + (i : Int) + 1 := by omega
      rw [e1]; exact he'
    · have hb' : b < s.heap.objs.size := by
        have e' : b = e ∨ b = it := by simpa using hb
        rcases e' with z | z
        · rw [z]; exact hel
        · rw [z]; exact hil
      rw [upd_ne (Nat.ne_of_lt hb')]
      exact (hf b hb).1
  done := by
    intro X hP hw hK hc i pins s σ H E I hf st hg
    subst hP hw hK
    obtain ⟨⟨old, he⟩, hit, hne, hea, hai⟩ := st
    obtain ⟨xs, hq, hx⟩ := hg
    obtain ⟨its, rv, p, hz⟩ := I.list hq
    obtain ⟨f0, f1, f2, f3, f4, f5⟩ := hf it (by simp)
    have hl := rv.length
    have hs : its.toArray.size = i := by simp; omega
    subst hs
    exact wpAny_pyNext_enum_endD (Draws.list (by rw [Around.in1]; exact I.ok.hd hc) it a hai its.toArray) he ⟨hit, p.isList⟩ fun h' eb => ⟨rfl, I.turned (t' := s.toks) (fun b o hb q => eb b o hb q) f0 f1 f3 f4 f5⟩
  self := fun A i s Q E st h => let ⟨⟨_, he⟩, _⟩ := st; wpAny_pyIter_enum he h
def iEnumS (K : PySem.W.Frag) (ta tk : TA) : TI := fun σ H R => ta σ H fun vs H1 => tk σ H1 fun ks H2 => ∃ (a : Addr) (xs : List V) (k : Int), vs = [.ref a] ∧ ks = [.int k] ∧ SqL K H2 a xs ∧ -(2 ^ 63) ≤ k ∧ k < 2 ^ 63 ∧ R (IteS K k a) H2
theorem pi_enumS {X : Cx} {e e2 : Expr} {ta tk : TA} {p pos tpos kpos : Pos} {elts : List Expr} {kk : Nat} (hg : Gl X "enumerate") (hm : X.mg "enumerate" = none) (ha : PA X [e] ta) (hk : PK X [⟨some "start", e2, kpos⟩] tk)
    (he : backTo pos (starEach [e] X.env) = (false, eval e X.env) :: backTo pos (starEach [] X.env) := by rfl) (hpl : (backTo pos (starEach [e] X.env)).any (·.1) = false := by rfl) :
    PI X (.Tuple elts kk tpos) (.Call (.Name "enumerate" p) [e] [⟨some "start", e2, kpos⟩] pos) (iEnumS X.K ta tk) := by
  refine ⟨fun pins s σ H R I h => ?_⟩
  refine wpAny_Call_Name_kw (ld_blt I hg hm boot_enumerate ?_)
  refine callWith_typeKw (thn (ha.run pos pins s σ H _ I h) fun us s1 ⟨vs, H1, I1, r1, q1⟩ => thn (hk.run pos pins s1 σ H1 _ I1 q1) fun ws s2 ⟨zs, H2, I2, r2, q2⟩ => ?_) he hpl
  obtain ⟨a, xs, k, e1, e2, hq, k0, k1, q⟩ := q2
  subst e1 e2
  cases r1 with
  | cons r rr =>
    cases rr
    cases r
    cases r2 with
    | cons r rr =>
      cases rr
      obtain ⟨t, rfl⟩ := r
      obtain ⟨its, rv, p', hz⟩ := I2.list hq
      show wpAny _ _ (call (.type "enumerate") [.ref a] [(Str.ofString "start", .int k t)]) _ _ _
      refine enum_begins_start (begins_list a its.toArray) p'.isList k0 k1 fun h' he hit hsz hk => wpAny_pyIter_enum he ?_
      have I3 : Inv X pins σ H2 { s2 with heap := h' } := I2.kept (t' := s2.toks) hk
      have hla : a < s2.heap.objs.size := by
        obtain ⟨_, q, _⟩ := p'.isList
        exact Heap.lt_size q
      refine ⟨s2.heap.objs.size + 1, [s2.heap.objs.size + 1, s2.heap.objs.size], _, _, H2, rfl, I3, turn_enumS k a (s2.heap.objs.size + 1) s2.heap.objs.size, ⟨⟨.none, ?_⟩, ⟨_, hit, rfl, rfl⟩, Nat.succ_ne_self _, Ne.symm (Nat.ne_of_lt (Nat.lt_succ_of_lt hla)), Nat.ne_of_lt hla⟩, fun b hb => ?_, q⟩
      · have e1 : k + ((0 : Nat) : Int) = k := by omega
        rw [e1]
        exact he
      · have e' : b = s2.heap.objs.size + 1 ∨ b = s2.heap.objs.size := by simpa using hb
        have hle : s2.heap.objs.size ≤ b := by
          rcases e' with z | z
          · rw [z]; exact Nat.le_add_right _ _
          · rw [z]; exact Nat.le_refl _
        exact I2.fpOk hle (I2.hok.fresh hle)
/-- (k, d), (k + 1, e), .. -/
def pairsZ (k : Int) : Nat → List D → List D
  | _, [] => []
  | i, d :: ds => .tup [.int (k + (i : Nat)), d] :: pairsZ k (i + 1) ds
theorem pairsZ_len (k : Int) : ∀ (i : Nat) (ds : List D), (pairsZ k i ds).length = ds.length
  | _, [] => rfl
  | i, d :: ds => by
    show (pairsZ k (i + 1) ds).length + 1 = ds.length + 1
    rw [pairsZ_len]
theorem pairsZ_get {k : Int} : ∀ {ds : List D} {i j : Nat} {d : D}, (pairsZ k i ds)[j]? = some d → ∃ e, ds[j]? = some e ∧ d = .tup [.int (k + ((i + j : Nat) : Int)), e]
  | [], _, _, _, h => by simp [pairsZ] at h
  | e :: ds, i, 0, d, h => ⟨e, rfl, by
    have h : some (D.tup [.int (k + (i : Nat)), e]) = some d := h
    cases h
    rfl⟩
  | e :: ds, i, j + 1, d, h => by
    have h : (pairsZ k (i + 1) ds)[j]? = some d := h
    obtain ⟨e', h1, h2⟩ := pairsZ_get h
    exact ⟨e', h1, by rw [h2]; congr 4; omega⟩
section
variable [TabT] [CacT] {C : Fx} {ρ : List Slot} {ta tk : TA} {K : PySem.W.Frag} {G : Hp} {ds : List D}
theorem wd_enumS {k : Int} {a : Addr} {vs : List V} (h : G a = some (.lst vs)) (t : IsL K G vs ds) : WD K G (IteS K k a) (pairsZ k 0 ds) :=
  ⟨fun i H hi s => by
    rw [pairsZ_len] at hi
    have hi : i < vs.length := by rw [t.length]; exact hi
    exact ⟨vs, vs[i], .inl (.inl (s.lst h)), List.getElem?_eq_getElem hi⟩, fun H s => ⟨vs, .inl (.inl (s.lst h)), by rw [pairsZ_len, t.length]⟩, fun i H x H' d s e y => by
    obtain ⟨d', f1, rfl⟩ := pairsZ_get e
    obtain ⟨T, y1, rfl, nT, e2, e3⟩ := y
    obtain ⟨v, g1, g2⟩ := t.get f1
    rw [e3 vs (.inl (.inl (s.lst h)))] at g1
    cases g1
    refine .inr ⟨T, _, _, rfl, nT, e2, rfl, .cons ?_ (.cons g2 .nil)⟩
    simpa using Is.int (K := K) (G := G) (k + (i : Int))⟩
theorem ei_enumS {K' : PySem.W.Frag} {P : List D → List Slot → Prop} (h : EvA C ta ρ fun ds ρ1 => EvA C tk ρ1 fun ks ρ2 => ∃ es k, ds = [.lst es] ∧ ks = [.int k] ∧ -(2 ^ 63) ≤ k ∧ k < 2 ^ 63 ∧ P (pairsZ k 0 es) ρ2) (hK : K' = C.K := by rfl) : EvI C (iEnumS K' ta tk) ρ P := fun σ G H R S q => by
  subst hK
  refine h σ G H _ S fun vs ds G1 H1 ρ1 s1 p1 k1 => ?_
  refine p1 σ G1 H1 _ s1.st fun ks es G2 H2 ρ2 s2 p2 k2 => ?_
  obtain ⟨es, k, rfl, rfl, b0, b1, p2⟩ := p2
  cases k1 with
  | cons k1 k3 =>
    cases k3
    cases k2 with
    | cons k2 k4 =>
      cases k4
      cases k2
      cases k1 with
      | lst k1 k5 => exact ⟨_, _, k, rfl, rfl, .inl (.inl (s2.st.le _ _ (s2.ext.gg _ _ k1))), b0, b1, q _ _ G2 H2 ρ2 (s1.trans s2) p2 (wd_enumS (s2.ext.gg _ _ k1) (k5.mono s2.ext.gg))⟩
end
end DL
/-! texts: split, join, in, sgns, rows of words, len(set) -/
namespace PySem.SeqAt
open PySem Calls
theorem str_eq_declines_dict (b : Str) (u : Tok) (l : Addr) (c : Value) (es : Array DictEntry) (n : Nat) (dd : Option Addr) (sl : Array (Option Value)) :
    Meets (Builtin.«str.__eq__» ⟨[.str b u, .ref l], []⟩) (fun _ R s => s.heap.get? l = some { cls := c, dict := dd, data := .dict es n, slots := sl } ∧ R (.ok (.ret .notImplemented)) s) :=
  .of_wp fun prog w A R s h => by obtain ⟨hp, g, d, tk, os⟩ := s; obtain ⟨hl, h⟩ := h; wp_walk using wpAny_loadPart' hl, wpAny_load hl; exact ⟨_, rfl, h⟩
theorem dict_eq_declines_str (b : Str) (u : Tok) (l : Addr) (es : Array DictEntry) (n : Nat) (dd : Option Addr) (sl : Array (Option Value)) :
    Meets (Builtin.«dict.__eq__» ⟨[.ref l, .str b u], []⟩) (fun _ R s => s.heap.get? l = some { cls := .type "dict", dict := dd, data := .dict es n, slots := sl } ∧ R (.ok (.ret .notImplemented)) s) :=
  .of_wp fun prog w A R s h => by obtain ⟨hp, g, d, tk, os⟩ := s; obtain ⟨hl, h⟩ := h; wp_walk using wpAny_loadPart' hl, wpAny_load hl; refine wpAny_of_eq F.sub_str_dict ?_; wp_walk; exact ⟨_, rfl, h⟩
end PySem.SeqAt
namespace PySem.SeqAt
open PySem Calls
theorem EqAt.str_dict {A : Around} {s : Shared} {l : Addr} {es : Array DictEntry} {n : Nat} {dd : Option Addr} {sl : Array (Option Value)} (b : Str) (u : Tok) (ho : s.heap.get? l = some { cls := .type "dict", dict := dd, data := .dict es n, slots := sl }) (hu : A.units < cLine) : EqAt A s (.str b u) (.ref l) false := fun prog w E Q h => by
  have rc : RcAt A s (.str b u) (.ref l) false := fun prog w E Q h => 
    rc_eq_decline_or (k := false) (typeIs_str s b u) ⟨_, ho, rfl⟩ (by decide) F.sub_dict_str F.slot_str_eq F.slot_dict_eq_refl
      (fun _ hq => call_meets F.slot_str_eq (typeIs_str s b u) F.entry_str_eq (F.args_str_eq_2 _ _) (str_eq_declines_dict b u l (.type "dict") es n dd sl) ⟨ho, hq⟩)
      (fun _ hq => call_meets F.slot_dict_eq_refl ⟨_, ho, rfl⟩ F.entry_dict_eq (F.args_dict_eq_2 _ _) (dict_eq_declines_str b u l es n dd sl) ⟨ho, hq⟩)
      (fun _ hq => wpAny_of_eq (rfl : isSame (.str b u) (.ref l) = pure false) hq) (.inr hu) h
  unfold eqBool
  refine wpAny_holding ?_
  refine wpAny_ite_split (fun hab => absurd (eq_of_beq hab) nofun) (fun _ => ?_)
  exact wpAny_bind (rc prog w E _ (wpAny_truthy_bool h))
end PySem.SeqAt
namespace DL
open PySem PySem.Spec PyProof.Rows L2
def txs (xs : List Str) : List D := xs.map .str
theorem txs_len (xs : List Str) : (txs xs).length = xs.length := by simp [txs]
theorem txs_get {xs : List Str} {i : Nat} {d : D} (h : (txs xs)[i]? = some d) : ∃ x, xs[i]? = some x ∧ d = .str x := by
  unfold txs at h
  rw [List.getElem?_map] at h
  cases q : xs[i]? with
  | none => simp [q] at h
  | some x =>
    rw [q] at h
    exact ⟨x, rfl, (Option.some.inj h).symm⟩
/-- x in y: a flat one in a list or tuple of flat ones; one sign in a text; deep ones -/
def rInDT (K : PySem.W.Frag) : R2 := fun x y H Q => ∃ d ds, Dp K H x d ∧ Dp K H y (.tuple ds) ∧ SeqAt.shaped d = true ∧ SeqAt.shaped (.tuple ds) = true ∧ Q (.bl (ds.any fun z => PyData.eqv z d)) H
def rNotInDT (K : PySem.W.Frag) : R2 := fun x y H Q => ∃ d ds, Dp K H x d ∧ Dp K H y (.tuple ds) ∧ SeqAt.shaped d = true ∧ SeqAt.shaped (.tuple ds) = true ∧ Q (.bl (!ds.any fun z => PyData.eqv z d)) H
def rInSign : R2 := fun x y H Q => ∃ (c : Nat) (z : Str), x = .str ⟨#[c]⟩ ∧ y = .str z ∧ Q (.bl (decide (c ∈ z.cps.toList))) H
abbrev rInA (K : PySem.W.Frag) : R2 := fun x y H Q => rIn K false x y H Q ∨ rInSign x y H Q ∨ rInD K x y H Q ∨ rInDT K x y H Q
/-- a dict not in a tuple of texts -/
def rNotInTd (K : PySem.W.Frag) : R2 := fun x y H Q => ∃ a kvs p, ∃ xs : List Str, x = .ref a ∧ H a = some (.dK kvs) ∧ y = .ref p ∧ SqT K H p (xs.map V.str) ∧ Q (.bl true) H
abbrev rNotInA (K : PySem.W.Frag) : R2 := fun x y H Q => rIn K true x y H Q ∨ rNotInD K x y H Q ∨ rNotInDT K x y H Q ∨ rNotInTd K x y H Q
section
variable {X : Cx} {K : PySem.W.Frag}
theorem op_inDT (hu : X.A.units + 65 < cLine) : OpR X (compareOp .In) (rInDT X.K) := by
  intro pins s σ H x y v u Q I rx ry h
  obtain ⟨d, ds, hd, he, sd, se, q⟩ := h
  obtain ⟨as, r1⟩ := Dp.reads I d x v hd rx
  obtain ⟨bs, r2⟩ := Dp.reads I (.tuple ds) y u he ry
  exact SeqAt.in_tuple_reads r2 r1 (SeqAt.canLay_of_shaped se) (SeqAt.canLay_of_shaped sd) (room_in_shaped sd hu) ⟨.bl _, H, I, rfl, q⟩
theorem op_notInDT (hu : X.A.units + 65 < cLine) : OpR X (compareOp .NotIn) (rNotInDT X.K) := by
  intro pins s σ H x y v u Q I rx ry h
  obtain ⟨d, ds, hd, he, sd, se, q⟩ := h
  obtain ⟨as, r1⟩ := Dp.reads I d x v hd rx
  obtain ⟨bs, r2⟩ := Dp.reads I (.tuple ds) y u he ry
  exact SeqAt.notIn_tuple_reads r2 r1 (SeqAt.canLay_of_shaped se) (SeqAt.canLay_of_shaped sd) (room_in_shaped sd hu) ⟨.bl _, H, I, rfl, q⟩
theorem op_inA (hu : X.A.units + 65 < cLine) : OpR X (compareOp .In) (rInA X.K) := OpR.or op_in_seq (OpR.or op_in_sign (OpR.or (op_inD hu) (op_inDT hu)))
theorem op_notInTd (hu : X.A.units + 65 < cLine) : OpR X (compareOp .NotIn) (rNotInTd X.K) := by
  intro pins s σ H x y v u Q I rx ry h
  obtain ⟨a, kvs, p, xs, rfl, ha, rfl, hp, q⟩ := h
  cases (show v = Value.ref a from rx)
  cases (show u = Value.ref p from ry)
  obtain ⟨_, _, vs, _, o, es, ep, h1, h2, h3, _⟩ := dk_of I.hok ha
  obtain ⟨its, r, pl, hz⟩ := I.tuple hp
  have st := strs_of_vals r
  obtain ⟨cls, dd, data, sl⟩ := o
  have hcls := h2.1
  simp only at hcls h3
  subst hcls h3
  refine SeqAt.notIn_tupleAt (fun _ => false) pl (fun w hw => ?_) ⟨.bl _, H, I, rfl, ?_⟩
  · obtain ⟨i, hi⟩ := List.getElem?_of_mem (show w ∈ its by simpa using hw)
    have hv := SS.strs_at st i w hi
    obtain ⟨t, rfl⟩ := hv
    refine SeqAt.EqAt.str_dict _ t h1 ?_
    show X.A.units + 1 < cLine
    omega
  · rw [show (!its.toArray.any fun _ => false) = true by simp]
    exact q
theorem op_notInA (hu : X.A.units + 65 < cLine) : OpR X (compareOp .NotIn) (rNotInA X.K) := OpR.or op_notIn_seq (OpR.or (op_notInD hu) (OpR.or (op_notInDT hu) (op_notInTd hu)))
theorem kIn (h : X.K = K) (hu : X.A.units + 65 < cLine) : OpR X (compareOp .In) (rInA K) := h ▸ op_inA hu
theorem kNotIn (h : X.K = K) (hu : X.A.units + 65 < cLine) : OpR X (compareOp .NotIn) (rNotInA K) := h ▸ op_notInA hu
end
section
variable [TabT] [CacT] {K K' : PySem.W.Frag} {G : Hp} {P : D → Prop}
theorem IsL.txs : ∀ {vs : List V} {xs : List Str}, IsL K G vs (DL.txs xs) → vs = xs.map V.str
  | _, [], .nil => rfl
  | _, x :: xs, .cons h t => by
    cases h
    rw [IsL.txs t]
    rfl
theorem isL_txs : ∀ (xs : List Str), IsL K G (xs.map V.str) (DL.txs xs)
  | [] => .nil
  | x :: xs => .cons (.str x) (isL_txs xs)
theorem inV_txs (x : Str) (xs : List Str) : inV (.str x) (xs.map V.str) = decide (x ∈ xs) := by
  unfold inV
  rw [List.any_map]
  induction xs with
  | nil => simp
  | cons y ys ih =>
    rw [List.any_cons, ih]
    show ((y == x) || _) = _
    by_cases h : y = x
    · subst h
      simp
    · have h2 : ¬ x = y := fun e => h e.symm
      simp [h, h2, List.mem_cons]
theorem flat_txs : ∀ xs : List Str, (xs.map V.str).all flatV = true
  | [] => rfl
  | x :: xs => by
    rw [List.map_cons, List.all_cons, flat_txs xs]
    rfl
theorem in_txsT {x : Str} {xs : List Str} (hK : K' = K) (p : P (.bl (decide (x ∈ xs)))) : RD K (rInA K') (.str x) (.tup (txs xs)) P := fun G H v u Q le a b q => by
  subst hK
  cases a
  cases b with
  | tup h1 h2 =>
    have e := h2.txs
    subst e
    refine .inl ⟨_, _, rfl, .inr (le.seqT h1), rfl, flat_txs xs, q _ _ G H (Ext.refl le) (Same.refl _) ?_ (.bl _)⟩
    rw [if_neg (by simp), inV_txs]
    exact p
theorem in_txsL {x : Str} {xs : List Str} (hK : K' = K) (p : P (.bl (decide (x ∈ xs)))) : RD K (rInA K') (.str x) (.lst (txs xs)) P := fun G H v u Q le a b q => by
  subst hK
  cases a
  cases b with
  | lst h1 h2 =>
    have e := h2.txs
    subst e
    refine .inl ⟨_, _, rfl, .inl (.inl (.inl (le _ _ h1))), rfl, flat_txs xs, q _ _ G H (Ext.refl le) (Same.refl _) ?_ (.bl _)⟩
    rw [if_neg (by simp), inV_txs]
    exact p
theorem notIn_txsT {x : Str} {xs : List Str} (hK : K' = K) (p : P (.bl (!decide (x ∈ xs)))) : RD K (rNotInA K') (.str x) (.tup (txs xs)) P := fun G H v u Q le a b q => by
  subst hK
  cases a
  cases b with
  | tup h1 h2 =>
    have e := h2.txs
    subst e
    refine .inl ⟨_, _, rfl, .inr (le.seqT h1), rfl, flat_txs xs, q _ _ G H (Ext.refl le) (Same.refl _) ?_ (.bl _)⟩
    rw [if_pos rfl, inV_txs]
    exact p
theorem in_sign {c : Nat} {z : Str} (hK : K' = K) (p : P (.bl (decide (c ∈ z.cps.toList)))) : RD K (rInA K') (.str ⟨#[c]⟩) (.str z) P := fun G H v u Q le a b q => by
  cases a
  cases b
  exact .inr (.inl ⟨c, z, rfl, rfl, q _ _ G H (Ext.refl le) (Same.refl _) p (.bl _)⟩)
theorem in_dpT {x y : D} {d : PyData} {ds : List PyData} (hK : K' = K) (e1 : x.py = some d) (e2 : y.py = some (.tuple ds)) (s1 : SeqAt.shaped d = true) (s2 : SeqAt.shaped (.tuple ds) = true) (p : P (.bl (ds.any fun z => PyData.eqv z d))) : RD K (rInA K') x y P := fun G H v u Q le a b q => by
  subst hK
  exact .inr (.inr (.inr ⟨d, ds, a.dp le e1, b.dp le e2, s1, s2, q _ _ G H (Ext.refl le) (Same.refl _) p (.bl _)⟩))
theorem in_dpL {x y : D} {d : PyData} {ds : List PyData} (hK : K' = K) (e1 : x.py = some d) (e2 : y.py = some (.list ds)) (s1 : SeqAt.shaped d = true) (s2 : SeqAt.shaped (.list ds) = true) (p : P (.bl (ds.any fun z => PyData.eqv z d))) : RD K (rInA K') x y P := fun G H v u Q le a b q => by
  subst hK
  exact .inr (.inr (.inl ⟨d, ds, a.dp le e1, b.dp le e2, s1, s2, q _ _ G H (Ext.refl le) (Same.refl _) p (.bl _)⟩))
theorem notIn_dpT {x y : D} {d : PyData} {ds : List PyData} (hK : K' = K) (e1 : x.py = some d) (e2 : y.py = some (.tuple ds)) (s1 : SeqAt.shaped d = true) (s2 : SeqAt.shaped (.tuple ds) = true) (p : P (.bl (!ds.any fun z => PyData.eqv z d))) : RD K (rNotInA K') x y P := fun G H v u Q le a b q => by
  subst hK
  exact .inr (.inr (.inl ⟨d, ds, a.dp le e1, b.dp le e2, s1, s2, q _ _ G H (Ext.refl le) (Same.refl _) p (.bl _)⟩))
theorem notIn_dicT {kvs : List (Key × D)} {xs : List Str} (hK : K' = K) (p : P (.bl true)) : RD K (rNotInA K') (.dic kvs) (.tup (txs xs)) P := fun G H v u Q le a b q => by
  subst hK
  cases a with
  | dic k1 k2 =>
    cases b with
    | tup h1 h2 =>
      have e := h2.txs
      subst e
      exact .inr (.inr (.inr ⟨_, _, _, xs, rfl, le _ _ k1, rfl, le.seqT h1, q _ _ G H (Ext.refl le) (Same.refl _) p (.bl _)⟩))
/-- == of texts -/
theorem ne_strA {x y : Str} (h1 : PyData.strOk x = true) (h2 : PyData.strOk y = true) (hK : K' = K) (p : P (.bl (!(x == y)))) : RD K (rNeA K') (.str x) (.str y) P := by
  refine rd_k (r := rNeA) hK (rd_or1 (rd_ne (p := .str x) (r := .str y) rfl rfl ?_ ?_ p))
  · show (PyData.strOk x && decide (0 ≤ 64)) = true
    rw [h1]
    rfl
  · show (PyData.strOk y && decide (0 ≤ 64)) = true
    rw [h2]
    rfl
theorem pys_txs : ∀ xs : List Str, D.pys (txs xs) = some (xs.map .str)
  | [] => rfl
  | x :: xs => by
    show D.pys (.str x :: txs xs) = _
    simp only [D.pys, pys_txs xs]
    rfl
theorem txs_ok : ∀ xs : List Str, (∀ x ∈ xs, PyData.strOk x = true) → PyData.canLayAll0 (xs.map .str) = true ∧ PyData.depthAll (xs.map .str) = 0
  | [], _ => ⟨rfl, rfl⟩
  | x :: xs, h => by
    obtain ⟨h1, h2⟩ := txs_ok xs fun y hy => h y (List.mem_cons_of_mem _ hy)
    refine ⟨?_, ?_⟩
    · simp only [List.map_cons, PyData.canLayAll0, h1, Bool.and_true]
      exact h x (by simp)
    · simp only [List.map_cons, PyData.depthAll, h2, PyData.depth]
      rfl
theorem row_shaped {xs : List Str} (h : ∀ x ∈ xs, PyData.strOk x = true) : SeqAt.shaped (.tuple (xs.map .str)) = true := by
  obtain ⟨h1, h2⟩ := txs_ok xs h
  unfold SeqAt.shaped
  simp only [PyData.canLay0, h1, PyData.depth, h2]
  decide
theorem row_eqv : ∀ xs ys : List Str, PyData.eqvAll (xs.map .str) (ys.map .str) = decide (xs = ys)
  | [], [] => rfl
  | [], y :: ys => rfl
  | x :: xs, [] => rfl
  | x :: xs, y :: ys => by
    show ((x == y) && PyData.eqvAll (xs.map .str) (ys.map .str)) = _
    rw [row_eqv xs ys]
    by_cases h : x = y <;> by_cases h2 : xs = ys <;> simp [h, h2]
/-- != of rows of texts -/
theorem ne_row {xs ys : List Str} (h1 : ∀ x ∈ xs, PyData.strOk x = true) (h2 : ∀ x ∈ ys, PyData.strOk x = true) (hK : K' = K) (p : P (.bl (!decide (xs = ys)))) : RD K (rNeA K') (.tup (txs xs)) (.tup (txs ys)) P := by
  refine rd_k (r := rNeA) hK (rd_or1 (rd_ne (p := .tuple (xs.map .str)) (r := .tuple (ys.map .str)) (by simp [D.py, pys_txs]) (by simp [D.py, pys_txs]) (row_shaped h1) (row_shaped h2) ?_))
  have e : PyData.eqv (.tuple (xs.map .str)) (.tuple (ys.map .str)) = decide (xs = ys) := by
    simp only [PyData.eqv, row_eqv]
  rw [e]
  exact p
/-- rows of texts, several -/
def rws (xs : List (List Str)) : List D := xs.map fun x => .tup (txs x)
theorem pys_rws : ∀ xs : List (List Str), D.pys (rws xs) = some (xs.map fun x => .tuple (x.map .str))
  | [] => rfl
  | x :: xs => by
    show D.pys (.tup (txs x) :: rws xs) = _
    simp only [D.pys, pys_rws xs, D.py, pys_txs]
    rfl
theorem rws_ok : ∀ xs : List (List Str), (∀ x ∈ xs, ∀ y ∈ x, PyData.strOk y = true) → PyData.canLayAll0 (xs.map fun x => .tuple (x.map .str)) = true ∧ PyData.depthAll (xs.map fun x => .tuple (x.map .str)) ≤ 1
  | [], _ => ⟨rfl, by decide⟩
  | x :: xs, h => by
    obtain ⟨h1, h2⟩ := rws_ok xs fun y hy => h y (List.mem_cons_of_mem _ hy)
    obtain ⟨h3, h4⟩ := txs_ok x (h x (by simp))
    refine ⟨?_, ?_⟩
    · simp only [List.map_cons, PyData.canLayAll0, h1, Bool.and_true, PyData.canLay0, h3]
    · simp only [List.map_cons, PyData.depthAll, PyData.depth, h4]
      omega
theorem rws_shapedL {xs : List (List Str)} (h : ∀ x ∈ xs, ∀ y ∈ x, PyData.strOk y = true) : SeqAt.shaped (.list (xs.map fun x => .tuple (x.map .str))) = true := by
  obtain ⟨h1, h2⟩ := rws_ok xs h
  unfold SeqAt.shaped
  simp only [PyData.canLay0, h1, PyData.depth, Bool.true_and]
  exact decide_eq_true (by omega)
theorem rws_shapedT {xs : List (List Str)} (h : ∀ x ∈ xs, ∀ y ∈ x, PyData.strOk y = true) : SeqAt.shaped (.tuple (xs.map fun x => .tuple (x.map .str))) = true := by
  obtain ⟨h1, h2⟩ := rws_ok xs h
  unfold SeqAt.shaped
  simp only [PyData.canLay0, h1, PyData.depth, Bool.true_and]
  exact decide_eq_true (by omega)
theorem rws_any (xs : List (List Str)) (y : List Str) : ((xs.map fun x => PyData.tuple (x.map .str)).any fun z => PyData.eqv z (.tuple (y.map .str))) = decide (y ∈ xs) := by
  induction xs with
  | nil => simp
  | cons x xs ih =>
    rw [List.map_cons, List.any_cons, ih]
    simp only [PyData.eqv, row_eqv]
    by_cases h : x = y
    · subst h
      simp
    · have h2 : ¬ y = x := fun e => h e.symm
      simp [h, h2, List.mem_cons]
theorem in_rwsL {y : List Str} {xs : List (List Str)} (h : ∀ x ∈ xs, ∀ y ∈ x, PyData.strOk y = true) (h2 : ∀ x ∈ y, PyData.strOk x = true) (hK : K' = K) (p : P (.bl (decide (y ∈ xs)))) : RD K (rInA K') (.tup (txs y)) (.lst (rws xs)) P :=
  in_dpL hK (d := .tuple (y.map .str)) (ds := xs.map fun x => .tuple (x.map .str)) (by simp [D.py, pys_txs]) (by simp [D.py, pys_rws]) (row_shaped h2) (rws_shapedL h) (by rw [rws_any]; exact p)
theorem in_rwsT {y : List Str} {xs : List (List Str)} (h : ∀ x ∈ xs, ∀ y ∈ x, PyData.strOk y = true) (h2 : ∀ x ∈ y, PyData.strOk x = true) (hK : K' = K) (p : P (.bl (decide (y ∈ xs)))) : RD K (rInA K') (.tup (txs y)) (.tup (rws xs)) P :=
  in_dpT hK (d := .tuple (y.map .str)) (ds := xs.map fun x => .tuple (x.map .str)) (by simp [D.py, pys_txs]) (by simp [D.py, pys_rws]) (row_shaped h2) (rws_shapedT h) (by rw [rws_any]; exact p)
end
section
variable [TabT] [CacT] {C : Fx} {ρ : List Slot} {to te ta : TE} {G : Hp}
/-- the sgns of a text -/
def sgns (x : Str) : List D := x.cps.toList.map fun c => .str ⟨#[c]⟩
theorem sgns_len (x : Str) : (sgns x).length = x.length := by simp [sgns, Str.length]
theorem wd_str {K : PySem.W.Frag} {x : Str} : WD K G (Its x) (sgns x) :=
  ⟨fun i H hi s => by
    rw [sgns_len] at hi
    exact hi, fun H s => by
    rw [sgns_len]
    exact Nat.le_refl _, fun i H v H' d s e y => by
    obtain ⟨rfl, c, hc, rfl⟩ := y
    refine .inl ⟨rfl, ?_⟩
    unfold sgns at e
    have hc2 : x.cps.toList[i]? = some c := by rw [Array.getElem?_toList]; exact hc
    rw [List.getElem?_map, hc2] at e
    cases e
    exact .str _⟩
theorem ei_str {P : List D → List Slot → Prop} (h : Ev C te ρ fun d ρ1 => ∃ x, d = .str x ∧ P (sgns x) ρ1) : EvI C (iStr te) ρ P := fun σ G H R S q => by
  refine h σ G H _ S fun v d G1 H1 ρ1 s1 p1 k1 => ?_
  obtain ⟨x, rfl, p1⟩ := p1
  cases k1
  exact ⟨x, rfl, q _ _ G1 H1 ρ1 s1 p1 wd_str⟩
abbrev rSplit : V → List V → Hp → VK → Prop := fun x xs H Q => ∃ a b, x = .str a ∧ xs = [.str b] ∧ (b.length == 0) = false ∧ a.length + 2 ≤ sizeLine ∧ rNewStrs (Txt.split a b) H Q
abbrev rJoin (K : PySem.W.Frag) : V → List V → Hp → VK → Prop := fun x xs H Q => ∃ a p, ∃ ys : List Str, x = .str a ∧ xs = [.ref p] ∧ (SqL K H p (ys.map V.str) ∨ SqT K H p (ys.map V.str)) ∧
    (ys.map (·.length)).sum + ys.length * a.length ≤ 16777216 ∧ Q (.str (Txt.join a ys)) H
theorem en_split {P : List D → List Slot → Prop} (h : Ev C to ρ fun d ρ1 => ∃ a, d = .str a ∧ Ev C te ρ1 fun e ρ2 => ∃ b, e = .str b ∧ (b.length == 0) = false ∧ a.length ≤ 100000 ∧ P (txs (Txt.split a b)) ρ2) : EvN C (tM1 rSplit to te) ρ P := fun σ G H Q S q => by
  refine h σ G H _ S fun v d G1 H1 ρ1 s1 p1 k1 => ?_
  obtain ⟨a, rfl, p1⟩ := p1
  cases k1
  refine ⟨⟨a, rfl⟩, p1 σ G1 H1 _ s1.st fun u e G2 H2 ρ2 s2 p2 k2 => ?_⟩
  obtain ⟨b, rfl, hb, hl, p2⟩ := p2
  cases k2
  refine ⟨a, b, rfl, rfl, hb, Nat.le_trans (Nat.add_le_add_right hl 2) (by decide), fun p hp => ?_⟩
  have s12 := s1.trans s2
  have n0 : H p = none := by
    cases z : H p with
    | none => rfl
    | some o =>
      obtain ⟨u, e⟩ := s12.ext.th p o z
      rw [hp] at e
      cases e
  have e := Ext.newM (F := fun _ => False) s12.st.le hp (.lst ((Txt.split a b).map V.str))
  exact q p _ _ G2 _ ρ2 (s12.trans (s12.st.keep e)) p2 n0 (s12.st.le.free hp) upd_same (isL_txs _)
theorem ev_join {K' : PySem.W.Frag} {P : PD} (h : Ev C to ρ fun d ρ1 => ∃ a, d = .str a ∧ Ev C te ρ1 fun e ρ2 => ∃ ys, (e = .lst (txs ys) ∨ e = .tup (txs ys)) ∧ (ys.map (·.length)).sum + ys.length * a.length ≤ 16777216 ∧ P (.str (Txt.join a ys)) ρ2) (hK : K' = C.K := by rfl) : Ev C (tM1 (rJoin K') to te) ρ P := fun σ G H Q S q => by
  subst hK
  refine h σ G H _ S fun v d G1 H1 ρ1 s1 p1 k1 => ?_
  obtain ⟨a, rfl, p1⟩ := p1
  cases k1
  refine ⟨⟨a, rfl⟩, p1 σ G1 H1 _ s1.st fun u e G2 H2 ρ2 s2 p2 k2 => ?_⟩
  obtain ⟨ys, he, hl, p2⟩ := p2
  have s12 := s1.trans s2
  rcases he with rfl | rfl
  · cases k2 with
    | lst h1 h2 =>
      have e := h2.txs
      subst e
      exact ⟨a, _, ys, rfl, rfl, .inl (.inl (.inl (s2.st.le _ _ h1))), hl, q _ _ G2 H2 ρ2 s12 p2 (.str _)⟩
  · cases k2 with
    | tup h1 h2 =>
      have e := h2.txs
      subst e
      exact ⟨a, _, ys, rfl, rfl, .inr (s2.st.le.seqT h1), hl, q _ _ G2 H2 ρ2 s12 p2 (.str _)⟩
end
/-- len(set(names)) -/
def tLenSetS (K : PySem.W.Frag) (ta : TE) : TE := fun σ H Q => ta σ H fun x H1 => ∃ (l : Addr) (xs : List Str), x = .ref l ∧ SqL K H1 l (xs.map V.str) ∧ xs.length < 4000 ∧ ∀ m : Nat, m ≤ xs.length → (m = xs.length ↔ xs.Nodup) → Q (.int (m : Nat)) H1
theorem pe_lenSetS {X : Cx} {a : Expr} {ta : TE} {p p2 q pos : Pos} (hg : Gl X "len") (hm : X.mg "len" = none) (hg2 : Gl X "set") (hm2 : X.mg "set" = none) (ha : PE X a ta) (hc : X.calm = true := by rfl)
    (na : starEach [a] X.env = (false, eval a X.env) :: starEach [] X.env := by rfl) : PE X (.Call (.Name "len" p) [.Call (.Name "set" p2) [a] [] q] [] pos) (tLenSetS X.K ta) := by
  refine ⟨fun pins s σ H Q I h => ?_⟩
  refine Call_ (ld_blt I hg hm boot_len ?_)
  refine PyProof.Rows.callWith_builtin1 (PyProof.Rows.args_cons ?_ rfl) rfl rfl
  refine Call_ (ld_blt I hg2 hm2 boot_set ?_)
  refine PyProof.Rows.callWith_type1 (PyProof.Rows.args_cons (thn (ha.run pins s σ H _ I h) fun v s1 ⟨x, H1, I1, r1, q1⟩ => PyProof.Rows.args_nil ?_) na) na rfl
  obtain ⟨l, xs, rfl, hq, hl, q1⟩ := q1
  cases r1
  obtain ⟨its, r, pl, hz⟩ := I1.list hq
  refine call_setL (I1.ok.hd hc) pl.isList (by simpa using strs_of_vals r) hl fun h' tk m M hk => ?_
  refine PyProof.Rows.args_nil ?_
  obtain ⟨o, es, ep, t, ho, hex, hd, _, _, _, hf, hn⟩ := M.at_
  have I2 : Inv X pins σ H1 { s1 with heap := h', toks := tk } := I1.kept fun b o e => hk b o (Heap.lt_size e) e
  have hm := M.le
  exact call_len_set ho hex hd hf (by rw [hn] <;> omega) ⟨.int (m : Nat), H1, I2.tok _, ⟨_, by rw [hn]⟩, q1 m hm M.iff⟩
theorem ev_lenSet [TabT] [CacT] {C : Fx} {ρ : List Slot} {te : TE} {P : PD} {K' : PySem.W.Frag} (h : Ev C te ρ fun d ρ1 => ∃ xs, d = .lst (txs xs) ∧ xs.length < 4000 ∧ ∀ m : Nat, m ≤ xs.length → (m = xs.length ↔ xs.Nodup) → P (.int (m : Nat)) ρ1) (hK : K' = C.K := by rfl) : Ev C (tLenSetS K' te) ρ P := fun σ G H Q S q => by
  subst hK
  refine h σ G H _ S fun v d G1 H1 ρ1 s1 p1 k1 => ?_
  obtain ⟨xs, rfl, hl, p1⟩ := p1
  cases k1 with
  | lst h1 h2 =>
    have e := h2.txs
    subst e
    exact ⟨_, xs, rfl, .inl (.inl (s1.st.le _ _ h1)), hl, fun m a b => q _ _ G1 H1 ρ1 s1 (p1 m a b) (.int _)⟩
end DL
namespace DL
open PySem PySem.Spec PyProof.Rows L2
variable [TabT] [CacT]
/-- != of two texts, whatever they are -/
theorem ne_strF {K K' : PySem.W.Frag} {P : D → Prop} {x y : Str} (p : P (.bl (!decide (x = y)))) : RD K (rNeA K') (.str x) (.str y) P := by
  refine rd_or2 fun G H v u Q le a b q => ?_
  cases a
  cases b
  refine ⟨rfl, q _ _ G H (Ext.refl le) (Same.refl _) ?_ (.bl _)⟩
  have e : decide (V.str x = V.str y) = decide (x = y) := decide_eq_decide.mpr ⟨fun h => by cases h; rfl, fun h => by rw [h]⟩
  rw [e]
  exact p
end DL
/-! objects of own classes: made, their fields -/
namespace DL
open PySem PySem.Spec PyProof.Rows L2
variable [TabT] [CacT]
section
variable {X : Cx} {CX : CXT} {k : Nat} {f C : Addr} {fd : FuncData} {ps : List Str} {sp : Sp} {E : XK} {x : Str} {p pos : Pos} {e : Expr} {es : List Expr} {t : TA}
theorem run_mkG {pins : List (Addr × Obj)} {σ : L2.St} {H : Hp} {s : Shared} {Q : VK} {us : List Value} {vs : List V} (gd : X.A.guards = some []) (M : Mk X.K C f) (F : FnG X.prog X.w X.K X.mg X.base CX k f fd ps sp) (hr : Room (k + 1) X.A) (hb : Binds X.K fd ps [])
    (hx : Passes CX X E) (I : Inv X pins σ H s) (r : Vals vs us)
    (h : ∀ x dx, H x = none → H dx = none → dx ≠ x → sp (.ref x :: (vs ++ [])) (upd (upd H dx (.own x)) x (.ins C dx [])) (fun v H2 => v = .non ∧ Q (.ref x) H2) E) :
    wpAny (model X.prog X.w) X.A (call (.ref C) us) (EP X pins σ Q) X.xe s := by
  have hq := h (s.heap.objs.size + 1) s.heap.objs.size (I.hok.fresh (Nat.le_succ _)) (I.hok.fresh (Nat.le_refl _)) (Nat.ne_of_lt (Nat.lt_succ_self _))
  rw [List.append_nil] at hq
  have I2 := Inv.made (C := C) I
  have r2 : Vals (V.ref (s.heap.objs.size + 1) :: vs) (Value.ref (s.heap.objs.size + 1) :: us) := .cons rfl r
  have hl : (Value.ref (s.heap.objs.size + 1) :: us ++ []).length = ps.length := by
    have e := r2.length
    rw [F.len _ _ _ _ hq] at e
    rw [List.append_nil]
    exact e.symm
  have bd := hb _ (Value.ref (s.heap.objs.size + 1) :: us) I2.kIn hl
  rw [List.append_nil] at bd
  refine wpAny_call (make_map (f := f) I.kIn M.makes M.init (beq_iff_eq.mp M.fn) (codeAny_mono (F.run _ X.stack _ _ ⟨Value.ref (s.heap.objs.size + 1) :: us, []⟩ (Value.ref (s.heap.objs.size + 1) :: us) _ _ E gd (hr.make C us [])
    (I2.env0.make C us []) bd r2 hq) fun r s' hq' => ?_))
  match r, hq' with
  | .error e, hq' => exact hx pins σ _ _ e s' I2 hq'
  | .ok (.ret u), hq' =>
    obtain ⟨v, H', I3, rv, ev, q3⟩ := I2.after hq'
    subst ev
    exact ⟨rv, ⟨V.ref (s.heap.objs.size + 1), H', I3, rfl, q3⟩⟩
theorem pe_makeG (gd : X.A.guards = some []) (M : Mk X.K C f) (F : FnG X.prog X.w X.K X.mg X.base CX k f fd ps sp) (hr : Room (k + 1) X.A) (hb : Binds X.K fd ps []) (hx : Passes CX X E) (hg : Gl X x) (hm : X.mg x = some (.ref C))
    (ha : PA X (e :: es) t) (hdb : (x == ("__debug__" : Str)) = false := by decide) (he : starEach (e :: es) X.env = (false, eval e X.env) :: starEach es X.env := by rfl) (hpl : (backTo pos (starEach es X.env)).any (·.1) = false := by rfl) :
    PE X (.Call (.Name x p) (e :: es) [] pos) (tMake C sp [] E t) := by
  refine ⟨fun pins s σ H Q I h => ?_⟩
  refine wpAny_Call_Name_kw (ld_glob I hg hm ?_ hdb)
  refine PySem.W.callWith_K (h₀ := X.base) I.ok.mod.kin M.kp (thn (ha.run pos pins s σ H _ I h) fun us s1 ⟨vs, H1, I1, r, q⟩ => ⟨I1.kIn, ?_⟩) he hpl
  exact run_mkG gd M F hr hb hx I1 r q
end
/-- the promise of an __init__: ds the arguments behind self; what the fields are at its end -/
abbrev FI := List D → (List (Str × D) → Prop) → (Addr → D → Prop) → Prop
def spI (K : PySem.W.Frag) (Cl : Addr) (f : FI) : Sp := fun vs H Q E => ∃ a dx ws G ds R Z, vs = .ref a :: ws ∧ Lo G H ∧ G a = none ∧ H a = some (.ins Cl dx []) ∧ IsL K G ws ds ∧ f ds R Z ∧
  (∀ fs us G' H', Ext G H G' H' (fun b => b = a) → G' a = none → H' a = some (.ins Cl dx us) → IsF K G' us fs → R fs → Q .non H') ∧ Flies K G H (fun b => b = a) Z E
theorem spI_len {K : PySem.W.Frag} {Cl : Addr} {f : FI} {n : Nat} (h : ∀ ds R Z, f ds R Z → ds.length + 1 = n) : ∀ vs H Q E, spI K Cl f vs H Q E → vs.length = n := fun vs H Q E ⟨a, dx, ws, G, ds, R, Z, e, _, _, _, kk, hf, _⟩ => by
  rw [e, List.length_cons, kk.length]
  exact h ds R Z hf
theorem IsF.mono' {K : PySem.W.Frag} {G G' : Hp} (e : Same G G') {us : List (Str × V)} {fs : List (Str × D)} (h : IsF K G us fs) : IsF K G' us fs := IsF.mono e h
theorem IsF.look {K : PySem.W.Frag} {G : Hp} {f : Str} {d : D} : ∀ {us : List (Str × V)} {fs : List (Str × D)}, IsF K G us fs → fs.lookup f = some d → ∃ v, us.lookup f = some v ∧ Is K G v d
  | _, _, .nil, e => by cases e
  | _, _, @IsF.cons _ _ k v us d' ds h t, e => by
    by_cases q : f == k
    · simp only [List.lookup_cons, q] at e ⊢
      cases e
      exact ⟨v, rfl, h⟩
    · have q : (f == k) = false := by simpa using q
      simp only [List.lookup_cons, q] at e ⊢
      exact IsF.look t e
theorem IsF.none {K : PySem.W.Frag} {G : Hp} {f : Str} : ∀ {us : List (Str × V)} {fs : List (Str × D)}, IsF K G us fs → fs.lookup f = none → us.lookup f = none
  | _, _, .nil, e => rfl
  | _, _, @IsF.cons _ _ k v us d' ds h t, e => by
    by_cases q : f == k
    · simp only [List.lookup_cons, q] at e
      cases e
    · have q : (f == k) = false := by simpa using q
      simp only [List.lookup_cons, q] at e ⊢
      exact IsF.none t e
theorem IsF.len {K : PySem.W.Frag} {G : Hp} : ∀ {us : List (Str × V)} {fs : List (Str × D)}, IsF K G us fs → us.length = fs.length
  | _, _, .nil => rfl
  | _, _, .cons h t => by rw [List.length_cons, List.length_cons, IsF.len t]
/-- C(..) -/
theorem ev_make {C : Fx} {ρ : List Slot} {ta : TA} {E : XK} {Z : Addr → D → Prop} {P : PD} {K' : PySem.W.Frag} {Cl : Addr} {f : FI} (hE : Flies C.K C.G0 C.H0 C.F0 Z E) (h : EvA C ta ρ fun ds ρ1 => f ds (fun fs => P (.ins Cl fs) ρ1) Z) (hK : K' = C.K := by rfl) : Ev C (tMake Cl (spI K' Cl f) [] E ta) ρ P := fun σ G H Q S q => by
  subst hK
  refine h σ G H _ S fun vs ds G1 H1 ρ1 s1 p1 k1 => fun x dx hx hdx ne => ?_
  have x1 : Ext G1 H1 G1 (upd H1 dx (.own x)) (fun _ => False) := Ext.newM s1.st.le hdx _
  have hx2 : upd H1 dx (.own x) x = none := by
    rw [upd_ne ne.symm]
    exact hx
  have x2 : Ext G1 (upd H1 dx (.own x)) G1 (upd (upd H1 dx (.own x)) x (.ins Cl dx [])) (fun _ => False) := Ext.newM x1.gh hx2 _
  have x3 := x1.trans x2 fun _ _ _ h => h
  have gx : G1 x = Option.none := s1.st.le.free hx
  refine ⟨x, dx, vs, G1, ds, _, Z, by rw [List.append_nil], x2.gh, gx, upd_same, k1, p1, fun fs us G' H' e g hh kf r => ⟨rfl, ?_⟩, fun Xc dxx v d G' H' e g kk z => ?_⟩
  · have sg : Same G' (upd G' x (.ins Cl dx us)) := fun b u e1 => by
      rw [upd_ne (ne_of_none e1 g)]
      exact e1
    have sh : Lo (upd G' x (.ins Cl dx us)) H' := fun b u e1 => by
      by_cases hb : b = x
      · subst hb
        rw [upd_same] at e1
        rw [hh]
        exact Ky.of e1
      · rw [upd_ne hb] at e1
        exact (e.gh b u e1).mono sg
    have nx : ∀ {b : Addr} {o : HO}, H1 b = some o → b ≠ x := fun {b o} e1 z => by
      rw [z, hx] at e1
      cases e1
    have x4 : Ext G1 H1 (upd G' x (.ins Cl dx us)) H' (fun _ => False) := ⟨e.gg.trans sg, sh, fun b o e1 t _ nc => by
        refine e.fr b o (x3.fr b o e1 t (fun z => z) nc) t (nx e1) (x3.cac e1 t (fun z => z) nc), fun b o e1 t q1 _ => by
        rw [upd_ne (nx e1)]
        exact e.nf b o (x3.fr b o e1 t.1 (fun z => z) (Cac.no q1)) t q1 (nx e1), fun b o e1 => by
        obtain ⟨u, e2⟩ := x3.th b o e1
        exact e.th b u e2, fun t => e.tt (x3.tt t), fun g => (e.nt g).upd fun _ z => nomatch z⟩
    exact q _ _ _ _ ρ1 (s1.trans (s1.st.keep x4)) r (.ins upd_same (kf.mono' sg))
  · have x5 : Ext G1 H1 G' H' (fun _ => False) := ⟨e.gg, e.gh, fun b o e1 t _ nc => e.fr b o (x3.fr b o e1 t (fun z => z) nc) t (fun z => (by rw [z, hx] at e1; cases e1)) (x3.cac e1 t (fun z => z) nc), fun b o e1 t q1 _ => by
      exact e.nf b o (x3.fr b o e1 t.1 (fun z => z) (Cac.no q1)) t q1 fun z => (by rw [z, hx] at e1; cases e1), fun b o e1 => by
      obtain ⟨u, e2⟩ := x3.th b o e1
      exact e.th b u e2, fun t => e.tt (x3.tt t), e.nt⟩
    exact hE Xc dxx v d G' H' (s1.st.ext.trans x5 fun _ _ _ z => z.elim) g kk z
/-- o.f of a made one -/
theorem ev_fld {C : Fx} {ρ : List Slot} {te : TE} {P : PD} {K' : PySem.W.Frag} {f : Str} (h : Ev C te ρ fun d ρ1 => ∃ Cl fs x, d = .ins Cl fs ∧ Cls C.K Cl ∧ NoAttr C.K Cl f ∧ fs.lookup f = some x ∧ P x ρ1) (hK : K' = C.K := by rfl) (hc : f ∉ cacN := by decide) : Ev C (tFld K' te f) ρ P := fun σ G H Q S q => by
  subst hK
  refine h σ G H _ S fun v d G1 H1 ρ1 s1 p1 k1 => ?_
  obtain ⟨Cl, fs, x, rfl, c, n, l, p1⟩ := p1
  cases k1 with
  | ins h1 h2 =>
    obtain ⟨u, e1, e2⟩ := h2.look l
    obtain ⟨fs', e3, e4⟩ := s1.st.le.look h1
    exact ⟨_, _, _, _, u, rfl, e3, c, n, (e4 f hc).trans e1, q u x G1 H1 ρ1 s1 p1 e2⟩
/-- self.f, self being made -/
theorem ev_self {C : Fx} {ρ : List Slot} {P : PD} {K' : PySem.W.Frag} {f : Str} {a Cl dx : Addr} {us : List (Str × V)} {fs : List (Str × D)} {x : D} (hi : ρ[0]? = some (.dat (.val (.ref a)))) (ha : C.H0 a = some (.ins Cl dx us)) (g0 : C.G0 a = none) (nf : ¬ C.F0 a) (kf : IsF C.K C.G0 us fs) (c : Cls C.K Cl) (n : NoAttr C.K Cl f) (l : fs.lookup f = some x) (p : P x ρ) (hK : K' = C.K := by rfl) :
    Ev C (tFld K' (tVar 0) f) ρ P := fun σ G H Q S q => by
  subst hK
  obtain ⟨o, ho, v, rfl, hv⟩ := S.sl 0 _ hi
  cases hv
  obtain ⟨u, e1, e2⟩ := (kf.mono' S.ext.gg).look l
  exact ⟨_, ho, a, Cl, dx, us, u, rfl, S.ext.fr a _ ha (fun _ z => nomatch z) nf (Cac.no g0), c, n, e1, q u x G H ρ (Stp.refl S) p e2⟩
end DL
/-! fields of what is being made -/
namespace DL
open PySem PySem.Spec PyProof.Rows L2
def putD (f : Str) (v : D) : List (Str × D) → List (Str × D)
  | [] => [(f, v)]
  | (g, x) :: r => if g = f then (g, v) :: r else (g, x) :: putD f v r
variable [TabT] [CacT]
theorem IsF.put {K : PySem.W.Frag} {G : Hp} {f : Str} {v : V} {d : D} (h : Is K G v d) : ∀ {us : List (Str × V)} {fs : List (Str × D)}, IsF K G us fs → IsF K G (putF f v us) (putD f d fs)
  | _, _, .nil => .cons h .nil
  | _, _, @IsF.cons _ _ k v' us d' ds h' t => by
    unfold putF putD
    by_cases q : k = f
    · rw [if_pos q, if_pos q]
      exact .cons h t
    · rw [if_neg q, if_neg q]
      exact .cons h' (IsF.put h t)
def Plain (ρ : List Slot) : Prop := ∀ (i : Nat) (s : Slot), ρ[i]? = some s → s = .un ∨ ∃ d, s = .dat d
theorem Plain.mt {σ : L2.St} {ρ : List Slot} {i : Nat} {a : Addr} (p : Plain ρ) (m : Mt σ ρ i a) : False := by
  obtain ⟨s, h, hm⟩ := m.slot
  rcases p i _ h with z | ⟨d, z⟩ <;> subst z <;> cases hm
theorem Plain.fp {σ : L2.St} {ρ : List Slot} {a : Addr} (p : Plain ρ) (m : Fp σ ρ a) : False := by
  obtain ⟨i, m⟩ := m
  exact p.mt m
section
variable {K : PySem.W.Frag} {G H G1 H1 : Hp} {σ : L2.St} {ρ : List Slot} {a Cl dx : Addr} {us us' : List (Str × V)}
/-- from here on -/
theorem Sg.root {C : Fx} (S : Sg C G H σ ρ) (p : Plain ρ) (F : Addr → Prop) : Sg ⟨C.K, G, H, F⟩ G H σ ρ := by
  refine ⟨Ext.refl S.le, S.len, fun i s hs => ?_, fun i j b m => (p.mt m).elim⟩
  obtain ⟨o, ho, q⟩ := S.sl i s hs
  refine ⟨o, ho, ?_⟩
  rcases p i s hs with rfl | ⟨d, rfl⟩
  · trivial
  · exact q
theorem Same.poke (g : Lo G H) (n : G a = none) (o : HO) : Lo G (upd H a o) := fun b u e => by
  rw [upd_ne (ne_of_none e n)]
  exact g b u e
theorem Sg.poke {C : Fx} (S : Sg C G H σ ρ) (p : Plain ρ) (n : G a = none) (o : HO) (F : Addr → Prop) : Sg ⟨C.K, G, upd H a o, F⟩ G (upd H a o) σ ρ := by
  refine ⟨Ext.refl (Same.poke S.le n o), S.len, fun i s hs => ?_, fun i j b m => (p.mt m).elim⟩
  obtain ⟨o, ho, q⟩ := S.sl i s hs
  refine ⟨o, ho, ?_⟩
  rcases p i s hs with rfl | ⟨d, rfl⟩
  · trivial
  · exact q
theorem Ext.poke (e : Ext G H G1 H1 (fun b => b = a)) (n : G1 a = none) (h : H1 a = some (.ins Cl dx us)) : Ext G H G1 (upd H1 a (.ins Cl dx us')) (fun b => b = a) := by
  refine ⟨e.gg, Same.poke e.gh n _, fun b o q t nb nc => ?_, e.nf, fun b o q => ?_, fun t => tabs_upd h (fun _ z => nomatch z) (fun _ z => nomatch z) (e.tt t), e.nt⟩
  · rw [upd_ne nb]
    exact e.fr b o q t nb nc
  · by_cases hb : b = a
    · subst hb
      exact ⟨_, upd_same⟩
    · rw [upd_ne hb]
      exact e.th b o q
/-- statements that set fields -/
def XI (K : PySem.W.Frag) (Gs Hs : Hp) (a Cl dx : Addr) (ts : TS) (ρ : List Slot) (fs : List (Str × D)) (R : List (Str × D) → Prop) : Prop :=
  ∀ (σ : L2.St) (G H : Hp) (Dn : Ends) (us : List (Str × V)), Sg ⟨K, G, H, fun _ => False⟩ G H σ ρ → Ext Gs Hs G H (fun b => b = a) → G a = none → H a = some (.ins Cl dx us) → IsF K G us fs →
  (∀ σ' G' H' us' fs', Ext Gs Hs G' H' (fun b => b = a) → G' a = none → H' a = some (.ins Cl dx us') → IsF K G' us' fs' → R fs' → Dn.nx σ' H') → ts Dn σ H
/-- what is read while self is being made -/
def EI (K : PySem.W.Frag) (Gs Hs : Hp) (a Cl dx : Addr) (te : TE) (ρ : List Slot) (fs : List (Str × D)) (P : D → Prop) : Prop :=
  ∀ (G H : Hp) (us : List (Str × V)), Ext Gs Hs G H (fun b => b = a) → G a = none → H a = some (.ins Cl dx us) → IsF K G us fs → Ev ⟨K, G, H, fun _ => False⟩ te ρ fun d ρ1 => ρ1 = ρ ∧ P d
theorem xi_last {Gs Hs : Hp} {te : TE} {f : Str} {fs : List (Str × D)} {R : List (Str × D) → Prop} {K' : PySem.W.Frag} (hp : Plain ρ) (hi : ρ[0]? = some (.dat (.val (.ref a)))) (c : Cls K Cl) (n : NoAttr K Cl f) (hl : fs.length < 1000)
    (h : EI K Gs Hs a Cl dx te ρ fs fun d => R (putD f d fs)) (hK : K' = K := by rfl) : XI K Gs Hs a Cl dx (sFld K' (tVar 0) te f) ρ fs R := fun σ G H Dn us S e ga ha kf q => by
  subst hK
  refine h G H us e ga ha kf σ G H _ S fun v d G1 H1 ρ1 s1 p1 k1 => ?_
  obtain ⟨rfl, p1⟩ := p1
  obtain ⟨o, ho, v0, rfl, hv⟩ := s1.st.sl 0 _ hi
  cases hv
  have ha1 : H1 a = some (.ins Cl dx us) := s1.st.ext.fr a _ ha (fun _ z => nomatch z) (fun z => z) (Cac.no ga)
  have ga1 : G1 a = none := s1.st.ext.nf a _ ha ⟨(fun _ z => nomatch z), (fun _ z => nomatch z)⟩ ga (fun z => z)
  have e1 := e.trans s1.st.ext fun _ _ _ z => z.elim
  have kf1 := kf.mono' s1.st.ext.gg
  refine ⟨_, ho, a, Cl, dx, us, rfl, ha1, c, n, by rw [kf.len]; exact hl, ?_⟩
  exact q σ G1 _ _ _ (e1.poke ga1 ha1) ga1 upd_same (kf1.put k1) p1
theorem xi_fld {Gs Hs : Hp} {te : TE} {f : Str} {u : TS} {fs : List (Str × D)} {R : List (Str × D) → Prop} {K' : PySem.W.Frag} (hp : Plain ρ) (hi : ρ[0]? = some (.dat (.val (.ref a)))) (c : Cls K Cl) (n : NoAttr K Cl f) (hl : fs.length < 1000)
    (h : EI K Gs Hs a Cl dx te ρ fs fun d => XI K Gs Hs a Cl dx u ρ (putD f d fs) R) (hK : K' = K := by rfl) : XI K Gs Hs a Cl dx (tSeq (sFld K' (tVar 0) te f) u) ρ fs R := fun σ G H Dn us S e ga ha kf q => by
  subst hK
  refine h G H us e ga ha kf σ G H _ S fun v d G1 H1 ρ1 s1 p1 k1 => ?_
  obtain ⟨rfl, p1⟩ := p1
  obtain ⟨o, ho, v0, rfl, hv⟩ := s1.st.sl 0 _ hi
  cases hv
  have ha1 : H1 a = some (.ins Cl dx us) := s1.st.ext.fr a _ ha (fun _ z => nomatch z) (fun z => z) (Cac.no ga)
  have ga1 : G1 a = none := s1.st.ext.nf a _ ha ⟨(fun _ z => nomatch z), (fun _ z => nomatch z)⟩ ga (fun z => z)
  have e1 := e.trans s1.st.ext fun _ _ _ z => z.elim
  have kf1 := kf.mono' s1.st.ext.gg
  refine ⟨_, ho, a, Cl, dx, us, rfl, ha1, c, n, by rw [kf.len]; exact hl, ?_⟩
  exact p1 σ G1 _ Dn _ (s1.st.poke hp ga1 _ _) (e1.poke ga1 ha1) ga1 upd_same (kf1.put k1) q
/-- the statements ahead of the first field: po.nx holds of plain slots behind them -/
theorem fin_I {N : List Str} {t u : TS} {Q : VK} {R : List (Str × D) → Prop} {vs : List V} {ds : List D} (le : Lo G H) (ga : G a = none) (ha : H a = some (.ins Cl dx [])) (k : IsL K G vs ds)
    (hq : ∀ fs us G' H', Ext G H G' H' (fun b => b = a) → G' a = none → H' a = some (.ins Cl dx us) → IsF K G' us fs → R fs → Q .non H')
    (h : Xs ⟨K, G, H, fun _ => False⟩ t (.dat (.val (.ref a)) :: (ds.map .dat ++ List.replicate (N.length - (ds.length + 1)) .un)) { nx := fun ρ => Plain ρ ∧ XI K G H a Cl dx u ρ [] R, rt := fun _ _ => False }) :
    tSeq t u { nx := fun _ H' => Q .non H', rt := Q } (start N (.ref a :: vs)) H := by
  have S0 := start_sg (N := N) (vs := .ref a :: vs) (ds := .val (.ref a) :: ds) le (.cons (.val _) k) fun _ => False
  refine h _ G H { nx := u { nx := fun _ H' => Q .non H', rt := Q }, rt := Q } S0 (fun σ' G' H' ρ' s e p => ?_) (fun v d σ' G' H' ρ' s kd r => r.elim) (fun _ _ _ _ _ _ z => z.elim) (fun _ _ _ _ _ _ z => z.elim)
  have e1 : Ext G H G' H' (fun b => b = a) := s.ext.mono fun _ z => z.elim
  exact p.2 σ' G' H' _ [] (s.root p.1 _) e1 (s.ext.nf a _ ha ⟨(fun _ z => nomatch z), (fun _ z => nomatch z)⟩ ga fun z => z) (s.ext.fr a _ ha (fun _ z => nomatch z) (fun z => z) (Cac.no ga)) .nil fun σ2 G2 H2 us2 fs2 e2 g2 h2 k2 r2 => hq fs2 us2 G2 H2 e2 g2 h2 k2 r2
/-- an own list is frozen ahead of what follows -/
theorem xs_freeze {C : Fx} {ρ : List Slot} {po : Po} {t : TS} {i : Nat} {ds : List D} (hi : ρ[i]? = some (.own ds)) (h : Xs C t (ρ.set i (.dat (.lst ds))) po) : Xs C t ρ po := fun σ G H Dn S hn hr hb hc => by
  obtain ⟨p, vs, _, _, _, _, sg, _, s⟩ := S.freeze hi
  exact h σ _ H Dn s.st (fun σ' G' H' ρ' s' e p => hn σ' G' H' ρ' s' (sg.trans e) p) hr (fun σ' G' H' ρ' s' e p => hb σ' G' H' ρ' s' (sg.trans e) p) fun σ' G' H' ρ' s' e p => hc σ' G' H' ρ' s' (sg.trans e) p
/-- .. an own list at i is frozen there -/
theorem fin_IF {N : List Str} {s1 s2 s3 u : TS} {Q : VK} {R : List (Str × D) → Prop} {vs : List V} {ds : List D} (le : Lo G H) (ga : G a = none) (ha : H a = some (.ins Cl dx [])) (k : IsL K G vs ds)
    (hq : ∀ fs us G' H', Ext G H G' H' (fun b => b = a) → G' a = none → H' a = some (.ins Cl dx us) → IsF K G' us fs → R fs → Q .non H')
    (h : Xs ⟨K, G, H, fun _ => False⟩ (tSeq s1 (tSeq s2 s3)) (.dat (.val (.ref a)) :: (ds.map .dat ++ List.replicate (N.length - (ds.length + 1)) .un)) { nx := fun ρ => ∃ i es, ρ[i]? = some (.own es) ∧ Plain (ρ.set i (.dat (.lst es))) ∧ XI K G H a Cl dx u (ρ.set i (.dat (.lst es))) [] R, rt := fun _ _ => False }) :
    tSeq s1 (tSeq s2 (tSeq s3 u)) { nx := fun _ H' => Q .non H', rt := Q } (start N (.ref a :: vs)) H := by
  have S0 := start_sg (N := N) (vs := .ref a :: vs) (ds := .val (.ref a) :: ds) le (.cons (.val _) k) fun _ => False
  refine h _ G H { nx := u { nx := fun _ H' => Q .non H', rt := Q }, rt := Q } S0 (fun σ' G0 H' ρ' s0 e p => ?_) (fun v d σ' G' H' ρ' s kd r => r.elim) (fun _ _ _ _ _ _ z => z.elim) (fun _ _ _ _ _ _ z => z.elim)
  obtain ⟨i, es, hi, p⟩ := p
  obtain ⟨p1, vs1, _, _, _, _, _, _, s2⟩ := s0.freeze hi
  have s := s2.st
  have e1 := s.ext.mono (F' := fun b => b = a) fun _ z => z.elim
  exact p.2 σ' _ H' _ [] (s.root p.1 _) e1 (s.ext.nf a _ ha ⟨(fun _ z => nomatch z), (fun _ z => nomatch z)⟩ ga fun z => z) (s.ext.fr a _ ha (fun _ z => nomatch z) (fun z => z) (Cac.no ga)) .nil fun σ2 G2 H2 us2 fs2 e2 g2 h2 k2 r2 => hq fs2 us2 G2 H2 e2 g2 h2 k2 r2
end
end DL
/-! dicts of one's own: made, written, frozen -/
namespace DL
open PySem PySem.Spec PyProof.Rows L2
variable [TabT] [CacT]
def keyD : Key → D
  | .inl i => .int i
  | .inr x => .str x
def OD.toD : OD → D
  | .dk kvs => .dic kvs
  | .dt kvs => .dct kvs
  | .ins C fs => .ins C fs
def putDK {κ : Type} [DecidableEq κ] (kvs : List (κ × D)) (k : κ) (v : D) : List (κ × D) :=
  if (kvs.any fun kv => decide (kv.1 = k)) = true then kvs.map fun kv => if kv.1 = k then (kv.1, v) else kv else kvs ++ [(k, v)]
section
variable {C : Fx} {ρ : List Slot} {te ty tv ta : TE} {tA : TA} {po : Po} {i : Nat} {K : PySem.W.Frag} {G : Hp}
theorem is_key {v : V} {k : Key} (h : Is K G v (keyD k)) : v = kV k := by
  cases k with
  | inl i => cases h; rfl
  | inr x => cases h; rfl
theorem is_keys : ∀ {vs : List V} {ks : List Key}, IsL K G vs (ks.map keyD) → vs = ks.map kV
  | _, [], .nil => rfl
  | _, k :: ks, .cons h t => by rw [List.map_cons, is_key h, is_keys t]
theorem IsK.length : ∀ {vs : List (Key × V)} {ds : List (Key × D)}, IsK K G vs ds → vs.length = ds.length
  | _, _, .nil => rfl
  | _, _, .cons _ t => by rw [List.length_cons, List.length_cons, IsK.length t]
theorem IsT.length : ∀ {vs : List (List Key × V)} {ds : List (List Key × D)}, IsT K G vs ds → vs.length = ds.length
  | _, _, .nil => rfl
  | _, _, .cons _ t => by rw [List.length_cons, List.length_cons, IsT.length t]
theorem IsT.any {k : List Key} : ∀ {vs : List (List Key × V)} {ds : List (List Key × D)}, IsT K G vs ds → (vs.any fun kv => decide (kv.1 = k)) = ds.any fun kv => decide (kv.1 = k)
  | _, _, .nil => rfl
  | _, _, .cons _ t => by simp only [List.any_cons, IsT.any t]
theorem IsK.any {k : Key} : ∀ {vs : List (Key × V)} {ds : List (Key × D)}, IsK K G vs ds → (vs.any fun kv => decide (kv.1 = k)) = ds.any fun kv => decide (kv.1 = k)
  | _, _, .nil => rfl
  | _, _, .cons _ t => by simp only [List.any_cons, IsK.any t]
theorem IsT.repl {k : List Key} {v : V} {d : D} (h : Is K G v d) : ∀ {vs : List (List Key × V)} {ds : List (List Key × D)}, IsT K G vs ds → IsT K G (vs.map fun kv => if kv.1 = k then (kv.1, v) else kv) (ds.map fun kv => if kv.1 = k then (kv.1, d) else kv)
  | _, _, .nil => .nil
  | _, _, .cons (k := j) q t => by
    simp only [List.map_cons]
    by_cases e : j = k
    · simp only [e, if_true]
      exact .cons h (IsT.repl h t)
    · simp only [e, if_false]
      exact .cons q (IsT.repl h t)
theorem IsK.repl {k : Key} {v : V} {d : D} (h : Is K G v d) : ∀ {vs : List (Key × V)} {ds : List (Key × D)}, IsK K G vs ds → IsK K G (vs.map fun kv => if kv.1 = k then (kv.1, v) else kv) (ds.map fun kv => if kv.1 = k then (kv.1, d) else kv)
  | _, _, .nil => .nil
  | _, _, .cons (k := j) q t => by
    simp only [List.map_cons]
    by_cases e : j = k
    · simp only [e, if_true]
      exact .cons h (IsK.repl h t)
    · simp only [e, if_false]
      exact .cons q (IsK.repl h t)
theorem IsT.snoc {k : List Key} {v : V} {d : D} (h : Is K G v d) : ∀ {vs : List (List Key × V)} {ds : List (List Key × D)}, IsT K G vs ds → IsT K G (vs ++ [(k, v)]) (ds ++ [(k, d)])
  | _, _, .nil => .cons h .nil
  | _, _, .cons q t => .cons q (IsT.snoc h t)
theorem IsK.snoc {k : Key} {v : V} {d : D} (h : Is K G v d) : ∀ {vs : List (Key × V)} {ds : List (Key × D)}, IsK K G vs ds → IsK K G (vs ++ [(k, v)]) (ds ++ [(k, d)])
  | _, _, .nil => .cons h .nil
  | _, _, .cons q t => .cons q (IsK.snoc h t)
theorem IsT.put {k : List Key} {v : V} {d : D} {vs : List (List Key × V)} {ds : List (List Key × D)} (t : IsT K G vs ds) (h : Is K G v d) : IsT K G (putK vs k v) (putDK ds k d) := by
  unfold L2.putK putDK
  rw [t.any (k := k)]
  split
  · exact IsT.repl h t
  · exact IsT.snoc h t
theorem IsK.put {k : Key} {v : V} {d : D} {vs : List (Key × V)} {ds : List (Key × D)} (t : IsK K G vs ds) (h : Is K G v d) : IsK K G (putK vs k v) (putDK ds k d) := by
  unfold L2.putK putDK
  rw [t.any (k := k)]
  split
  · exact IsK.repl h t
  · exact IsK.snoc h t
/-- te makes a new object that nobody knows yet -/
def EvU (C : Fx) (te : TE) (ρ : List Slot) (P : OD → List Slot → Prop) : Prop := ∀ (σ : L2.St) (G H : Hp) (Q : VK), Sg C G H σ ρ → (∀ p u x G' H' ρ', Stp C G H σ ρ G' H' ρ' → P x ρ' → H p = none → G' p = none → H' p = some u → IsO C.K G' u x → Q (.ref p) H') → te σ H Q
/-- slot i holds an object of one's own -/
theorem Sg.setB {G H : Hp} {σ : L2.St} {p : Addr} {u : HO} {x : OD} (S : Sg C G H σ ρ) (g : G p = none) (h : H p = some u) (t : IsO C.K G u x) (h0 : C.H0 p = none) (nf : ∀ j, j ≠ i → ¬ Mt σ ρ j p) : Sg C G H (σ.set i (some (.ref p))) (ρ.set i (.obj x)) := by
  have at_i : ∀ {j : Nat} {a : Addr}, Mt (σ.set i (some (.ref p))) (ρ.set i (.obj x)) j a → j = i → a = p := fun {j a} m e => by
    subst e
    have hl : j < σ.length := by
      have := m.lt
      rwa [List.length_set] at this
    have z : some (V.ref p) = some (.ref a) := m.here hl (by rw [← S.len]; exact hl)
    cases z
    rfl
  refine ⟨S.ext, by rw [List.length_set, List.length_set, S.len], fun j s hs => ?_, fun j k a m1 m2 => ?_⟩
  · by_cases hj : j = i
    · subst hj
      have hl : j < ρ.length := by
        have := (List.getElem?_eq_some_iff.mp hs).1
        rwa [List.length_set] at this
      rw [List.getElem?_set_self hl] at hs
      cases hs
      exact ⟨_, List.getElem?_set_self (by rw [S.len]; exact hl), p, u, rfl, g, h, t, h0⟩
    · rw [List.getElem?_set_ne (Ne.symm hj)] at hs ⊢
      exact S.sl j s hs
  · by_cases hj : j = i
    · by_cases hk : k = i
      · rw [hj, hk]
      · exact absurd (at_i m1 hj ▸ m2.ne hk) (nf k hk)
    · by_cases hk : k = i
      · exact absurd (at_i m2 hk ▸ m1.ne hj) (nf j hj)
      · exact S.dis j k a (m1.ne hj) (m2.ne hk)
theorem xs_obj (h : EvU C te ρ fun x ρ1 => po.nx (ρ1.set i (.obj x))) : Xs C (tAsg te (gName i)) ρ po := fun σ G H Dn S hn hr hb hc =>
  h σ G H _ S fun p u x G1 H1 ρ1 s1 p1 n g1 h1 k1 => hn _ G1 H1 _ (s1.st.setB g1 h1 k1 (h0_none S n) fun j _ m => nomt S s1 n m) s1.ext.gg p1
theorem IsO.frz {K : PySem.W.Frag} {G : Hp} {p : Addr} {u : HO} {x : OD} (n : G p = none) (h : IsO K G u x) : Is K (upd G p u) (.ref p) x.toD := by
  have sg : Same G (upd G p u) := fun b o e => by
    rw [upd_ne (ne_of_none e n)]
    exact e
  cases h with
  | dk t => exact .dic upd_same (IsK.mono sg t)
  | dt t => exact .dct upd_same (IsT.mono sg t)
  | ins t => exact .ins upd_same (IsF.mono sg t)
/-- what is new is frozen -/
theorem Stp.frz {G H G1 H1 : Hp} {σ : L2.St} {ρ1 : List Slot} {p : Addr} {u : HO} (S : Sg C G H σ ρ) (s1 : Stp C G H σ ρ G1 H1 ρ1) (n : H p = none) (g1 : G1 p = none) (h1 : H1 p = some u) (nt : ∀ ps, u ≠ .tbl ps) : Stp C G H σ ρ (upd G1 p u) H1 ρ1 := by
  have sg : Same G1 (upd G1 p u) := fun b o e => by
    rw [upd_ne (ne_of_none e g1)]
    exact e
  have sh : Lo (upd G1 p u) H1 := fun b o e => by
    by_cases hb : b = p
    · subst hb
      rw [upd_same] at e
      rw [h1]
      exact Ky.of e
    · rw [upd_ne hb] at e
      exact (s1.st.le b o e).mono sg
  refine ⟨⟨s1.ext.gg.trans sg, sh, s1.ext.fr, fun b o e t g f => ?_, s1.ext.th, s1.ext.tt, fun g => (s1.ext.nt g).upd nt⟩, ⟨⟨s1.st.ext.gg.trans sg, sh, s1.st.ext.fr, fun b o e t g f => ?_, s1.st.ext.th, s1.st.ext.tt, fun g => (s1.st.ext.nt g).upd nt⟩, s1.st.len, fun j s hs => ?_, s1.st.dis⟩, s1.sub⟩
  · rw [upd_ne (ne_of_none e n)]
    exact s1.ext.nf b o e t g f
  · rw [upd_ne (ne_of_none e (h0_none S n))]
    exact s1.st.ext.nf b o e t g f
  · obtain ⟨o, ho, q⟩ := s1.st.sl j s hs
    refine ⟨o, ho, q.move sg fun a w hm h nt g => ⟨h, ?_⟩⟩
    rw [upd_ne (b := a) (a := p) fun z => nomt S s1 n (j := j) (z ▸ (⟨_, _, ho, hs, hm⟩ : Mt σ ρ1 j a))]
    exact g
/-- a new object, frozen at once -/
theorem EvU.ev {P : PD} (h : EvU C te ρ fun x ρ1 => P x.toD ρ1) : Ev C te ρ P := fun σ G H Q S q =>
  h σ G H _ S fun p u x G1 H1 ρ1 s1 p1 n g1 h1 k1 => q _ _ _ _ _ (Stp.frz S s1 n g1 h1 k1.nt.1) p1 (k1.frz g1)
/-- the own object at slot i is frozen -/
theorem Sg.freezeB {G H : Hp} {σ : L2.St} {x : OD} (S : Sg C G H σ ρ) (hi : ρ[i]? = some (.obj x)) : ∃ p u, σ[i]? = some (some (.ref p)) ∧ H p = some u ∧ G p = none ∧ Same G (upd G p u) ∧ Is C.K (upd G p u) (.ref p) x.toD ∧ Stp C G H σ ρ (upd G p u) H (ρ.set i (.dat x.toD)) := by
  obtain ⟨o, ho, p, u, rfl, h1, h2, h3, h4⟩ := S.sl i _ hi
  have mp : Mt σ ρ i p := ⟨_, _, ho, hi, rfl⟩
  have hl : i < ρ.length := (List.getElem?_eq_some_iff.mp hi).1
  have sg : Same G (upd G p u) := fun b o e => by
    rw [upd_ne (ne_of_none e h1)]
    exact e
  have sh : Lo (upd G p u) H := fun b o e => by
    by_cases hb : b = p
    · subst hb
      rw [upd_same] at e
      rw [h2]
      exact Ky.of e
    · rw [upd_ne hb] at e
      exact (S.le b o e).mono sg
  have back : ∀ {j : Nat} {a : Addr}, Mt σ (ρ.set i (.dat x.toD)) j a → j ≠ i ∧ Mt σ ρ j a := fun {j a} m => by
    have hj : j ≠ i := fun e => by
      obtain ⟨r, q, hm⟩ := m.slot
      subst e
      rw [List.getElem?_set_self hl] at q
      cases q
      cases hm
    exact ⟨hj, m.offR hj⟩
  have ex : Ext G H (upd G p u) H (Fp σ ρ) := ⟨sg, sh, fun b o e _ _ _ => e, fun b o e _ q n => by
    have hb : b ≠ p := fun z => n (z ▸ ⟨i, mp⟩)
    rw [upd_ne hb]
    exact q, fun b o e => ⟨o, e⟩, fun t => t, fun g => g.upd h3.nt.1⟩
  refine ⟨p, u, ho, h2, h1, sg, h3.frz h1, ex, ⟨S.ext.trans ex fun y w hy hf => ?_, by rw [List.length_set, S.len], fun j s hs => ?_, fun j k a q1 q2 => S.dis j k a (back q1).2 (back q2).2⟩, fun a ⟨j, m⟩ => ⟨j, (back m).2⟩⟩
  · obtain ⟨_, _, hf⟩ := S.fp_some hf
    rcases hf with hf | hf
    · exact hf
    · rw [hf] at hy
      cases hy
  · by_cases hj : j = i
    · subst hj
      rw [List.getElem?_set_self hl] at hs
      cases hs
      exact ⟨_, ho, _, rfl, h3.frz h1⟩
    · rw [List.getElem?_set_ne (Ne.symm hj)] at hs
      obtain ⟨o', ho', q⟩ := S.sl j s hs
      refine ⟨o', ho', q.move sg fun a w hm h nt g => ⟨h, ?_⟩⟩
      rw [upd_ne (b := a) (a := p) fun z => hj (S.dis j i p (z ▸ (⟨_, _, ho', hs, hm⟩ : Mt σ ρ j a)) mp)]
      exact g
theorem ev_takeB {P : PD} {x : OD} (hi : ρ[i]? = some (.obj x)) (h : Ev C te (ρ.set i (.dat x.toD)) P) : Ev C te ρ P := fun σ G H Q S q => by
  obtain ⟨p, u, _, _, _, _, _, s⟩ := S.freezeB hi
  exact h σ _ H Q s.st fun v d G' H' ρ' s' => q v d G' H' ρ' (s.trans s')
theorem xs_takeB {t : TS} {x : OD} (hi : ρ[i]? = some (.obj x)) (h : Xs C t (ρ.set i (.dat x.toD)) po) : Xs C t ρ po := fun σ G H Dn S hn hr hb hc => by
  obtain ⟨p, u, _, _, _, _, _, s⟩ := S.freezeB hi
  exact h σ _ H Dn s.st (fun σ2 G2 H2 ρ2 s2 e2 => hn σ2 G2 H2 ρ2 s2 (s.ext.gg.trans e2)) hr (fun σ2 G2 H2 ρ2 s2 e2 => hb σ2 G2 H2 ρ2 s2 (s.ext.gg.trans e2)) fun σ2 G2 H2 ρ2 s2 e2 => hc σ2 G2 H2 ρ2 s2 (s.ext.gg.trans e2)
/-- {} -/
theorem eu_newT {P : OD → List Slot → Prop} (h : P (.dt []) ρ) : EvU C tDNewT ρ P := fun σ G H Q S q p hp =>
  q p _ (.dt []) G _ ρ (S.keep (Ext.newM (F := fun _ => False) S.le hp _)) h hp (S.le.free hp) upd_same (.dt .nil)
theorem eu_newK {P : OD → List Slot → Prop} (h : P (.dk []) ρ) : EvU C tDNewK ρ P := fun σ G H Q S q p hp =>
  q p _ (.dk []) G _ ρ (S.keep (Ext.newM (F := fun _ => False) S.le hp _)) h hp (S.le.free hp) upd_same (.dk .nil)
/-- d[k] = x, d one's own -/
theorem xs_dputK (hi : ∃ kvs, ρ[i]? = some (.obj (.dk kvs))) (h : Ev C tv ρ fun d ρ1 => ∃ k0, ρ1[i]? = some (.obj (.dk k0)) ∧ Ev C ty ρ1 fun y ρ2 => ∃ kvs k, ρ2[i]? = some (.obj (.dk kvs)) ∧ y = keyD k ∧ kvs.length < 100000 ∧ po.nx (ρ2.set i (.obj (.dk (putDK kvs k d))))) : Xs C (sDPut (tVar i) ty tv) ρ po := fun σ G H Dn S hn hr hb hc => by
  refine h σ G H _ S fun v d G1 H1 ρ1 s1 p1 k1 => ?_
  obtain ⟨k0, hi0, p1⟩ := p1
  obtain ⟨o, ho, p, u, rfl, _⟩ := s1.st.sl i _ hi0
  refine ⟨_, ho, p1 σ G1 H1 _ s1.st fun y' y G2 H2 ρ2 s2 p2 k2 => ?_⟩
  obtain ⟨kvs, k, hi2, rfl, hl, hp2⟩ := p2
  cases is_key k2
  obtain ⟨o, ho2, p', u', rfl, g2, h2, t2, f2⟩ := s2.st.sl i _ hi2
  rw [ho] at ho2
  cases ho2
  cases t2 with
  | dk t2 =>
    refine ⟨p, _, rfl, .k h2 (by rw [t2.length]; exact Nat.lt_of_lt_of_le hl (by decide)), ?_⟩
    have s3 := s2.st.poke1 (r' := .obj (.dk (putDK kvs k d))) (o' := .dK _) hi2 rfl ho (fun _ h => h) ⟨p, _, rfl, g2, upd_same, .dk (t2.put (k := k) (k1.mono s2.ext.gg)), f2⟩
    exact hn σ G2 _ _ s3.st ((s1.ext.gg.trans s2.ext.gg).trans s3.ext.gg) hp2
/-- d[a, b] = x, d one's own -/
theorem xs_dputT (hi : ∃ kvs, ρ[i]? = some (.obj (.dt kvs))) (h : Ev C tv ρ fun d ρ1 => ∃ k0, ρ1[i]? = some (.obj (.dt k0)) ∧ EvA C tA ρ1 fun ys ρ2 => ∃ kvs ks, ρ2[i]? = some (.obj (.dt kvs)) ∧ ys = ks.map keyD ∧ ks.length ≤ 1000 ∧ kvs.length < 100000 ∧ po.nx (ρ2.set i (.obj (.dt (putDK kvs ks d))))) : Xs C (sDPut (tVar i) (tTup tA) tv) ρ po := fun σ G H Dn S hn hr hb hc => by
  refine h σ G H _ S fun v d G1 H1 ρ1 s1 p1 k1 => ?_
  obtain ⟨k0, hi0, p1⟩ := p1
  obtain ⟨o, ho, p, u, rfl, _⟩ := s1.st.sl i _ hi0
  refine ⟨_, ho, p1 σ G1 H1 _ s1.st fun vs ys G2 H2 ρ2 s2 p2 k2 => ?_⟩
  obtain ⟨kvs, ks, hi2, rfl, hk, hl, hp2⟩ := p2
  cases is_keys k2
  refine ⟨by rw [List.length_map]; exact Nat.le_trans hk (by decide), fun b hb => ?_⟩
  have n2 : H2 b = none := hb
  have sb := s2.st.keep (Ext.new (F := fun _ => False) s2.st.le n2 (.tup (ks.map kV)))
  obtain ⟨o, ho2, p', u', rfl, g2, h2, t2, f2⟩ := sb.st.sl i _ hi2
  rw [ho] at ho2
  cases ho2
  cases t2 with
  | dt t2 =>
    refine ⟨p, _, rfl, .t h2 upd_same (by rw [t2.length]; exact Nat.lt_of_lt_of_le hl (by decide)), ?_⟩
    have s3 := sb.st.poke1 (r' := .obj (.dt (putDK kvs ks d))) (o' := .dT _) hi2 rfl ho (fun _ h => h) ⟨p, _, rfl, g2, upd_same, .dt (t2.put (k := ks) (k1.mono (s2.ext.gg.trans sb.ext.gg))), f2⟩
    exact hn σ _ _ _ s3.st (((s1.ext.gg.trans s2.ext.gg).trans sb.ext.gg).trans s3.ext.gg) hp2
end
end DL
/-! enumerate(tuple) -/
namespace DL
open PySem PySem.Spec PyProof.Rows L2
/-- the cell of enumerate over the iterator at i -/
abbrev enO (i : Addr) : Obj := { cls := .type "enumerate", data := .fields #[.none, .bool false, .ref i, rawInt 0, .none, .none] }
theorem meets_enum1 {v : Value} {o : Obj} {Y : Heap → Prop} (B : Begins v o Y) : Meets (Builtin.«enumerate.__new__» ⟨[.type "enumerate", v], []⟩)
    (fun _ R s => Y s.heap ∧ R (.ok (.ret (.ref (s.heap.push o).objs.size))) { s with heap := (s.heap.push o).push (enO s.heap.objs.size) }) :=
  .of_wp fun prog w A R s h => by
    obtain ⟨hp, g, d, tk, os⟩ := s
    obtain ⟨h1, h⟩ := h
    have hsub := sub_enumerate
    have it : ∀ {A' : Around} {E : Value → Shared → Prop} {Q : Value → Shared → Prop}, Q (.ref hp.objs.size) ⟨hp.push o, g, d, tk, os⟩ → wpAny (model prog w) A' (pyIter v) Q E ⟨hp, g, d, tk, os⟩ := fun q => B.iter prog w _ _ _ _ h1 q
    wp_walk using it
    refine wpAny_stack_any fun st => wpAny_pure ?_
    split
    · rename_i c _ _ _ _ _
      cases (c == Value.type "enumerate") <;> (wp_walk using it; exact ⟨_, rfl, h⟩)
    · (wp_walk using it; exact ⟨_, rfl, h⟩)
theorem call_enumB {prog : Program} {w : World} {A : Around} {E : Value → Shared → Prop} {s : Shared} {v : Value} {o : Obj} {Y : Heap → Prop} {Q : Value → Shared → Prop} (B : Begins v o Y) (h1 : Y s.heap)
    (h : ∀ h', IsEnum h' (s.heap.objs.size + 1) s.heap.objs.size 0 .none → h'.get? s.heap.objs.size = some o → (∀ b u, s.heap.get? b = some u → h'.get? b = some u) → Q (.ref (s.heap.objs.size + 1)) { s with heap := h' }) : wpAny (model prog w) A (call (.type "enumerate") [v]) Q E s := by
  have hz : (s.heap.push o).objs.size = s.heap.objs.size + 1 := Heap.size_push ..
  have he : IsEnum ((s.heap.push o).push (enO s.heap.objs.size)) (s.heap.objs.size + 1) s.heap.objs.size 0 .none := by
    have q := Heap.get?_push_size (s.heap.push o) (o := enO s.heap.objs.size) rfl
    rw [hz] at q
    exact q
  refine callType_new F.called_enumerate (by decide) (F.typeCall_enumerate_1 _) (F.newCall_enumerate_1 _) (fun obj => F.args_object_init_2 obj _)
    F.entry_enumerate_new (meets_enum1 B) ⟨h1, ?_⟩
  show _ ∧ _
  rw [hz]
  exact ⟨⟨_, he, rfl⟩, h _ he (Heap.get?_push_of_some _ (Heap.get?_push_size _ B.free)) fun b u x => Heap.get?_push_of_some _ (Heap.get?_push_of_some _ x)⟩
/-- the tuple at a, counted from 0, in new pairs -/
def IteT (K : PySem.W.Frag) (a : Addr) : It :=
  ⟨fun i H => ∃ (xs : List V) (x : V), SqT K H a xs ∧ xs[i]? = some x, fun i H v H' => ∃ T x, v = .ref T ∧ H T = none ∧ H' = upd H T (.tup [.int (i : Nat), x]) ∧ ∀ xs, SqT K H a xs → xs[i]? = some x, fun i H => ∃ xs : List V, SqT K H a xs ∧ xs.length = i⟩
theorem turn_enumT {P : Program} {w : World} {K : PySem.W.Frag} {elts : List Expr} {kk : Nat} {tpos : Pos} (a e it : Addr) :
    Turn P w K (.Tuple elts kk tpos) (IteT K a) [e, it] e (fun i h => (∃ old, IsEnum h e it ((i : Nat) : Int) old) ∧ h.IsTupleIter it a i ∧ e ≠ it ∧ e ≠ a ∧ a ≠ it) where
  mem := by simp
  obj := fun i h st b hb => by
    obtain ⟨⟨old, he⟩, ⟨o, ho, hc, hd⟩, _⟩ := st
    rcases (show b = e ∨ b = it by simpa using hb) with z | z
    · rw [z]
      exact ⟨_, he, fun v q => nomatch q⟩
    · rw [z]
      exact ⟨o, ho, fun v q => by rw [hd] at q; cases q⟩
  keep := fun i h h' st k =>
    let ⟨⟨old, he⟩, hi, hne⟩ := st
    ⟨⟨old, k e (by simp) _ he⟩, hi.at fun o q => k it (by simp) o q, hne⟩
  item := by
    intro X hP hw hK hc i pins s σ H E I hf st hg
    subst hP hw hK
    obtain ⟨⟨old, he⟩, hit, hne, hea, hai⟩ := st
    obtain ⟨xs, x, hq, hx⟩ := hg
    obtain ⟨its, rv, p, hz⟩ := I.tuple hq
    obtain ⟨u, hu, ru⟩ := rv.get hx
    have hel := Heap.lt_size he
    have hil : it < s.heap.objs.size := by
      obtain ⟨_, q, _⟩ := hit
      exact Heap.lt_size q
    have hlt : i < its.toArray.size := by simpa using (List.getElem?_eq_some_iff.mp hu).1
    have hp : s.heap.IsTuple a its.toArray := p
    have he : IsEnum s.heap e it (0 + ((i : Nat) : Int)) old := by
      rw [Int.zero_add]
      exact he
    refine wpAny_pyNext_enum_itemC (Draws.tuple (by rw [Around.in1]; exact I.ok.hd hc) it a hai its.toArray) he ⟨hit, hp⟩ hlt hne (by simp [hne, hea]) fun x1 h' tk hx1 ho hst' hT hsz hk => ?_
    obtain ⟨hit', _⟩ := hst'
    have ex : x1 = u := by
      have hx1 : its.toArray[i]? = some x1 := hx1
      rw [List.getElem?_toArray, hu] at hx1
      exact (Option.some.inj hx1).symm
    subst ex
    rw [Int.zero_add] at ho hT
    refine ⟨_, rfl, wpAny_letOwnedTupleGo_enum (s := { s with heap := h', toks := tk + 1 }) ho fun h'' he' sb => ?_⟩
    have hT2 := (sb.2 s.heap.objs.size (Nat.ne_of_gt hel)).trans hT
    have new : ObjOk X.prog X.w (upd H s.heap.objs.size (.tup [.int (i : Nat), x])) h'' s.heap.objs.size (.tup [.int (i : Nat), x]) :=
      ⟨(show 2 ≤ sizeLine by decide), [.int (i : Nat) tk, x1], .cons ⟨_, rfl⟩ (.cons ru .nil), ⟨_, hT2, rfl, _, rfl⟩⟩
    have I1 : Inv X pins σ (upd H s.heap.objs.size (.tup [.int (i : Nat), x])) { s with heap := h'', toks := tk + 1 } :=
      I.turnedNew (ch := [e, it]) (fun b ob hb q => (sb.2 b fun z => hb (by simp [z])).trans (hk b ob (fun z => hb (by simp [z])) (fun z => hb (by simp [z])) q)) hf (Nat.le_refl _) new
    refine ⟨.ref s.heap.objs.size, _, I1, rfl, ⟨_, x, rfl, I.hok.fresh (Nat.le_refl _), rfl, fun ys hy => by rw [I.tuple_inj hy hq]; exact hx⟩, ⟨⟨x1, ?_⟩, hit'.at fun o q => (sb.2 it (Ne.symm hne)).trans q, hne, hea, hai⟩, fun b hb => ?_⟩
    · have e1 : ((i + 1 : Nat) : Int) = (0 : Int) + (i : Int) + 1 := by omega
      rw [e1]
      simpa using he'
    · have hb' : b < s.heap.objs.size := by
        rcases (show b = e ∨ b = it by simpa using hb) with z | z
        · rw [z]
          exact hel
        · rw [z]
          exact hil
      rw [upd_ne (Nat.ne_of_lt hb')]
      exact (hf b hb).1
  done := by
    intro X hP hw hK hc i pins s σ H E I hf st hg
    subst hP hw hK
    obtain ⟨⟨old, he⟩, hit, hne, hea, hai⟩ := st
    obtain ⟨xs, hq, hx⟩ := hg
    obtain ⟨its, rv, p, hz⟩ := I.tuple hq
    obtain ⟨f0, f1, f2, f3, f4, f5⟩ := hf it (by simp)
    have hl := rv.length
    have hs : its.toArray.size = i := by simp; omega
    subst hs
    have hp : s.heap.IsTuple a its.toArray := p
    have he : IsEnum s.heap e it (0 + ((its.toArray.size : Nat) : Int)) old := by
      rw [Int.zero_add]
      exact he
    exact wpAny_pyNext_enum_endD (Draws.tuple (by rw [Around.in1]; exact I.ok.hd hc) it a hai its.toArray) he ⟨hit, hp⟩ fun h' eb => ⟨rfl, I.turned (t' := s.toks) (fun b o hb q => eb b o hb q) f0 f1 f3 f4 f5⟩
  self := fun A i s Q E st h =>
    let ⟨⟨_, he⟩, _⟩ := st
    wpAny_pyIter_enum he h
def iEnumT (K : PySem.W.Frag) (ta : TA) : TI := fun σ H R => ta σ H fun vs H1 => ∃ (a : Addr) (xs : List V), vs = [.ref a] ∧ SqT K H1 a xs ∧ R (IteT K a) H1
theorem pi_enumT {X : Cx} {e : Expr} {ta : TA} {p pos tpos : Pos} {elts : List Expr} {kk : Nat} (hg : Gl X "enumerate") (hm : X.mg "enumerate" = none) (ha : PA X [e] ta)
    (hs : starEach [e] X.env = [(false, eval e X.env)] := by rfl) : PI X (.Tuple elts kk tpos) (.Call (.Name "enumerate" p) [e] [] pos) (iEnumT X.K ta) := by
  refine ⟨fun pins s σ H R I h => Call_ (ld_blt I hg hm boot_enumerate (PyProof.Rows.callWith_type1 (thn (ha.run pos pins s σ H _ I h) fun us s1 ⟨vs, H1, I1, r1, q1⟩ => ?_) hs rfl))⟩
  obtain ⟨a, xs, ex, hq, q⟩ := q1
  subst ex
  cases r1 with
  | cons r rr =>
    cases rr
    cases r
    obtain ⟨its, rv, p', hz⟩ := I1.tuple hq
    have hp : s1.heap.IsTuple a its.toArray := p'
    refine call_enumB (begins_tuple a its.toArray) hp fun h' he hit hk => wpAny_pyIter_enum he ?_
    have hla : a < s1.heap.objs.size := by
      obtain ⟨_, q, _⟩ := hp
      exact Heap.lt_size q
    refine ⟨s1.heap.objs.size + 1, [s1.heap.objs.size + 1, s1.heap.objs.size], _, _, H1, rfl, I1.kept (t' := s1.toks) hk, turn_enumT a (s1.heap.objs.size + 1) s1.heap.objs.size, ⟨⟨.none, he⟩, ⟨_, hit, rfl, rfl⟩, Nat.succ_ne_self _, Ne.symm (Nat.ne_of_lt (Nat.lt_succ_of_lt hla)), Nat.ne_of_lt hla⟩, fun b hb => ?_, q⟩
    have hle : s1.heap.objs.size ≤ b := by
      rcases (show b = s1.heap.objs.size + 1 ∨ b = s1.heap.objs.size by simpa using hb) with z | z
      · rw [z]
        exact Nat.le_add_right _ _
      · rw [z]
        exact Nat.le_refl _
    exact I1.fpOk hle (I1.hok.fresh hle)
section
variable [TabT] [CacT] {C : Fx} {ρ : List Slot} {ta : TA} {K : PySem.W.Frag} {G : Hp} {ds : List D}
theorem wd_enumT {a : Addr} {vs : List V} (h : SqT K G a vs) (t : IsL K G vs ds) : WD K G (IteT K a) (pairsZ 0 0 ds) where
  goes := fun i H hi e => by
    rw [pairsZ_len] at hi
    exact ⟨vs, _, e.seqT h, List.getElem?_eq_getElem (by rw [t.length]; exact hi)⟩
  stops := fun H e => ⟨vs, e.seqT h, by rw [pairsZ_len, t.length]⟩
  yields := fun i H x H' d e hd y => by
    obtain ⟨T, z, rfl, n, rfl, q⟩ := y
    obtain ⟨e', h1, rfl⟩ := pairsZ_get hd
    obtain ⟨v, h2, h3⟩ := t.get h1
    have := q vs (e.seqT h)
    rw [h2] at this
    cases this
    exact .inr ⟨T, _, _, rfl, n, rfl, rfl, by
      rw [Nat.zero_add, Int.zero_add]
      exact .cons (.int _) (.cons h3 .nil)⟩
theorem ei_enumT {K' : PySem.W.Frag} {P : List D → List Slot → Prop} (h : EvA C ta ρ fun ds ρ1 => ∃ es, ds = [.tup es] ∧ P (pairsZ 0 0 es) ρ1) (hK : K' = C.K := by rfl) : EvI C (iEnumT K' ta) ρ P := fun σ G H R S q => by
  subst hK
  refine h σ G H _ S fun vs ds G1 H1 ρ1 s1 p1 k1 => ?_
  obtain ⟨es, rfl, p1⟩ := p1
  obtain ⟨v, rfl, k2⟩ := k1.one
  cases k2 with
  | tup h1 t1 => exact ⟨_, _, rfl, s1.st.le.seqT h1, q _ _ G1 H1 ρ1 s1 p1 (wd_enumT h1 t1)⟩
end
theorem rws_len (ts : List (List Str)) : (rws ts).length = ts.length := by simp [rws]
theorem rws_get {ts : List (List Str)} {i : Nat} {d : D} (h : (rws ts)[i]? = some d) : ∃ t, ts[i]? = some t ∧ d = .tup (txs t) := by
  unfold rws at h
  rw [List.getElem?_map] at h
  obtain ⟨t, ht, rfl⟩ := Option.map_eq_some_iff.mp h
  exact ⟨t, ht, rfl⟩
end DL
open PySem PySem.Spec PyProof.Rows L2 DL
local macro_rules | `(tactic| walk_at "ar") => `(tactic| first
  | (with_reducible refine ev_var rfl ?_)
  | (with_reducible refine ev_int ?_)
  | (with_reducible refine ev_str ?_)
  | (with_reducible refine ev_bl ?_)
  | (with_reducible refine ev_non ?_)
  | (with_reducible refine ev_val ?_)
  | (with_reducible refine ev_op ?_)
  | (with_reducible refine ev_un ?_)
  | (with_reducible refine ev_cb ?_)
  | (with_reducible refine ea_cons ?_)
  | (with_reducible refine ea_nil ?_)
  | (with_reducible refine ev_if ?_)
  | (with_reducible refine ev_andV ?_)
  | (with_reducible refine ev_orV ?_)
  | (with_reducible refine ev_notV ?_)
  | (with_reducible refine et_B ?_)
  | (with_reducible refine et_test ?_)
  | (with_reducible refine et_and ?_)
  | (with_reducible refine et_or ?_)
  | (with_reducible refine et_not ?_)
  | (with_reducible refine et_yes ?_)
  | (with_reducible refine xs_seq ?_)
  | (with_reducible refine xs_next ?_)
  | (with_reducible refine xs_ret ?_)
  | (with_reducible refine xs_if ?_)
  | ((with_reducible refine rd_k (r := rPlus) ?hK (plus_int ?_)); (case hK => exact rfl))
  | (with_reducible refine rd_B0 ?_)
  | (with_reducible refine rd_I0 ?_)
  | ((with_reducible refine rc_k (r := rLenA) ?hK (len_lst ?_)); (case hK => exact rfl))
  | ((with_reducible refine rc_k (r := rLenA) ?hK (len_tup ?_)); (case hK => exact rfl))
  | ((with_reducible refine rc_k (r := rLenA) ?hK (len_scr ?_)); (case hK => exact rfl))
  | (with_reducible refine rc_int ?_)
  | (with_reducible refine rc_intB ?_)
  | (with_reducible refine rc_abs ?_)
  | (with_reducible refine rc_gcd ?_)
  | (with_reducible refine rc_max2 ?_)
  | (with_reducible refine rc_min2 ?_)
  | (with_reducible refine ru_neg ?_)
  | (with_reducible refine ev_tup ?_)
  | (with_reducible refine ev_lst ?_))
local macro_rules | `(tactic| walk_at "ev") => `(tactic| first
  | walk_at "ar"
  | (refine And.intro (show List.length _ ≤ 100000 from Nat.le_of_ble_eq_true rfl) ?_)
  | (refine Exists.intro _ (And.intro rfl ?_)))
namespace K13
variable [TabT] [CacT]
def topS (i : Nat) : Stmt := PySem.Challenge.pw_tiesums_k13_costs_refused.main.body.getD i (.Pass ⟨0, 0, 0, 0⟩)
open PySem PySem.Spec PyProof.Rows L2 DL LamX
abbrev s_l_heard : Stmt := topS 51
abbrev n_l_heard : List Str := ["_law_call", "_law_caught", "_law_back", "error"]
abbrev p_l_heard : List Str := ["_law_call"]
theorem sc_l_heard : FnScope n_l_heard p_l_heard (defScope s_l_heard) := ⟨rfl, rfl, rfl, by decide +kernel, rfl, by decide +kernel, by decide +kernel⟩

section
variable {X : Cx} {CT : Addr}
theorem heard_gives {q : Str} {g : Addr} {cdg : Value} (hme : X.mg "TieError" = some (.ref CT)) : GivesG X n_l_heard "_law_heard" (defScope s_l_heard) g cdg (defBody s_l_heard) "_law_call" q (TTh X.K CT) := by
  intro f c' s H Q tl act hc h
  have hgl : Gl (cxOf C8.CX0 X.prog X.w X.K X.mg X.base n_l_heard "_law_heard" (defScope s_l_heard) g cdg X.A X.stack s H C8.E0).nox "TieError" := rfl
  refine ⟨_, pss_cons (ps_asg (pe_tup (pa_cons pe_non (pa_cons pe_non pa_nil))) (pg_tup rfl (pgs_cons (pg_name (i := 1) sc_l_heard.nd rfl (.inl rfl)) (pgs_cons (pg_name (i := 2) sc_l_heard.nd rfl (.inl rfl)) pgs_nil))))
    (pss_cons (ps_try_keep (X := (cxOf C8.CX0 X.prog X.w X.K X.mg X.base n_l_heard "_law_heard" (defScope s_l_heard) g cdg X.A X.stack s H C8.E0).nox) (c := .ref CT) (i := 3)
      (tb := fun W Dn σ H => ∃ Q' : VK, (∀ v H', Q' v H' → Dn.nx (σ.set 2 (some v)) H') ∧ (σ[0]? = some (some (.ref f)) ∧ H c' = some (CodeO c' q) ∧ ∃ E : XK, (∀ cls d H', E cls d H' → W cls d σ H') ∧ tl E H Q'))
      rfl rfl sc_l_heard.nd rfl rfl ⟨hgl, by decide, .inl hme⟩ (fun W pn xe tk _ => pss_one (ps_set (i := 2) sc_l_heard.nd rfl (.inl rfl) (pe_weak (act W pn xe _ _ tk)))) (fun a pn => pss_one (ps_set (i := 1) sc_l_heard.nd rfl (.inl rfl) (pv 3))))
    (pss_one (ps_ret (pe_tup (pa_cons (pv 1) (pa_cons (pv 2) pa_nil)))))), ?_⟩
  refine ⟨by decide, fun l0 h0 => ⟨l0, [.non, .non], rfl, .inl (.inl upd_same), rfl, .non, [.non], rfl, .non, [], rfl, rfl, ?_⟩⟩
  have nc : c' ≠ l0 := ne_of_none hc h0
  refine ⟨_, fun v H' hv => ?_, rfl, by rw [upd_ne nc]; exact hc, _, fun cls d H' he => ?_, h l0 h0⟩
  · exact ⟨.non, rfl, v, rfl, Nat.le_of_ble_eq_true rfl, fun p hp => hv p hp⟩
  · obtain ⟨C, dx, e1, e2, em, hq⟩ := he
    refine ⟨C, dx, e1, e2, em, fun a ha => ?_⟩
    exact ⟨.ref a, rfl, .ref a, rfl, .non, rfl, Nat.le_of_ble_eq_true rfl, fun p hp => hq a ha p hp⟩
end
/-- a method of a class statement -/
def clsDef (st : Stmt) (i : Nat) : Stmt := match st with
  | .ClassDef _ _ _ b _ _ _ _ _ _ _ => b.getD i st
  | _ => st
abbrev s_init : Stmt := clsDef (topS 3) 0
theorem sc_init : FnScope ["self", "value"] ["self", "value"] (defScope s_init) := ⟨rfl, rfl, rfl, by decide +kernel, rfl, by decide +kernel, by decide +kernel⟩
section
variable {P : Program} {w : World} {K : PySem.W.Frag} {mg : Str → Option Value} {base : Heap}
theorem ok_init {f : Addr} {fd : FuncData} (m_VE : mg "ValueError" = none) (vV : PySem.W.findCls K (.type "ValueError") (.type "type") "__init__" = some (.val (.builtin "ValueError.__init__"))) (F : Fun K "__init__" "TieError.__init__" s_init f fd) : FnG P w K mg base CX0 1 f fd ["self", "value"] (spInit K) := by
  refine okG F sc_init spInit_len (fun cdv A outer s H vs Q E gd hr ⟨a, C, v, ev, T, hv, ha, hq⟩ => ?_)
  subst ev
  refine ⟨_, PSs.nox (pss_cons (ps_expr (pe_veinit rfl m_VE vV (pa_cons (pv 0) (pa_cons (pv 1) pa_nil)))) (pss_one (ps_ost (pv 0) (pv 1)))), ?_⟩
  refine ⟨.ref a, rfl, v, rfl, a, C, [v], rfl, Nat.le_of_ble_eq_true rfl, T, ha, ?_⟩
  exact ⟨v, rfl, .ref a, rfl, a, C, rfl, T, hv, .inl ⟨ha, fun dx hdx hne => hq dx hdx hne⟩⟩
end
abbrev s_l_take : Stmt := topS 36
abbrev n_l_take : List Str := ["_law_pot_here", "_law_upto", "_law_digit", "_law_prime", "_law_blend"]
abbrev p_l_take : List Str := ["_law_pot_here", "_law_upto"]
theorem sc_l_take : FnScope n_l_take p_l_take (defScope s_l_take) := ⟨rfl, rfl, rfl, by decide +kernel, rfl, by decide +kernel, by decide +kernel⟩

abbrev primes : List V := [.int 2147483647, .int 2147483629, .int 2147483587, .int 2147483579, .int 2147483563]
theorem tabs_keep {H H' : Hp} {a : Addr} {xs : List V} {T : List (Addr × Str)} (ha : H a = some (.lst xs)) (kp : ∀ b o, b ≠ a → H b = some o → H' b = some o) (t : LamX.Tabs T H) : LamX.Tabs T H' := fun q hq => by
  obtain ⟨ps, h1, h2, h3⟩ := t q hq
  refine ⟨ps, kp _ _ (fun z => ?_) h1, h2, fun pos cv hc => ?_⟩
  · rw [z, ha] at h1
    cases h1
  · obtain ⟨c, e1, e2⟩ := h3 pos cv hc
    refine ⟨c, e1, kp _ _ (fun z => ?_) e2⟩
    rw [z, ha] at e2
    cases e2
section
variable {P : Program} {w : World} {K : PySem.W.Frag} {mg : Str → Option Value} {base : Heap}
def fp_take : FP := fun k ds R _ => ∃ n : Int, ds = [.int n] ∧ 0 < n ∧ n ≤ 2 ^ 64 ∧ k < 2 ^ 40 ∧ ∀ d : Int, 0 ≤ d → d < n → R (.int d) (k + 1)
theorem ok_take {f : Addr} {fd : FuncData} (B : Bt mg) (F : Fun K "_law_take" "_law_take" s_l_take f fd) : FnG P w K mg base CX0 1 f fd p_l_take (spP K fp_take) := by
  refine okG F sc_l_take (spP_len fun k ds R Z ⟨n, e, _⟩ => by rw [e]; rfl) (fun cdv A outer s H vs Q E gd hr ⟨a, ws, G, ds, k, R, Z, ev, le, ga, ⟨x, y, m, ha, x0, x1, y0, y1, m0, m1⟩, kd, hf, hq, hz⟩ => ?_)
  obtain ⟨n, rfl, n0, n1, k1, hf⟩ := hf
  obtain ⟨v, rfl, kv⟩ := kd.one
  cases kv
  subst ev
  refine ⟨_, PSs.nox ((pss_cons (ps_if (pt_cmpR op_gt (pe_ix ix_seq (pv 0) pe_int (fun _ _ => rfl)) pe_int (nomark _))
      (pss_cons (ps_set (i := 2) sc_l_take.nd rfl (by first | exact Or.inl rfl | exact Or.inr rfl) (pe_op op_modN (pe_callTy (call_int1) rfl B.b_int bt_int (pa_cons (pe_ix ix_seq (pv 0) pe_int (fun _ _ => rfl)) pa_nil)) (pv 1)))
      (pss_cons (ps_asg (pe_op op_fdivG (pe_ix ix_seq (pv 0) pe_int (fun _ _ => rfl)) (pv 1)) (pg_sub (pv 0) pe_int set_list))
      (pss_one (ps_ret (pv 2)))))
      pss_nil)
      (pss_cons (ps_asg (pe_op op_plus (pe_ix ix_seq (pv 0) pe_int (fun _ _ => rfl)) pe_int) (pg_sub (pv 0) pe_int set_list))
      (pss_cons (ps_set (i := 3) sc_l_take.nd rfl (by first | exact Or.inl rfl | exact Or.inr rfl) (pe_ix ix_seq (pe_lst (pa_cons pe_int (pa_cons pe_int (pa_cons pe_int (pa_cons pe_int (pa_cons pe_int pa_nil)))))) (pe_op op_modN (pe_callTy (call_int1) rfl B.b_int bt_int (pa_cons (pe_ix ix_seq (pv 0) pe_int (fun _ _ => rfl)) pa_nil)) pe_int) (fun _ _ => rfl)))
      (pss_cons (ps_set (i := 4) sc_l_take.nd rfl (by first | exact Or.inl rfl | exact Or.inr rfl) (pe_op op_modN (pe_callTy (call_int1) rfl B.b_int bt_int (pa_cons (pe_op op_powG (pe_callTy (call_int1) rfl B.b_int bt_int (pa_cons (pe_op op_plus (pe_op op_plus (pe_ix ix_seq (pv 0) pe_int (fun _ _ => rfl)) (pe_op op_timesA (pe_op op_timesA pe_int (pe_ix ix_seq (pv 0) pe_int (fun _ _ => rfl))) (pe_ix ix_seq (pv 0) pe_int (fun _ _ => rfl)))) pe_int) pa_nil)) pe_int) pa_nil)) (pv 3)))
      (pss_cons (ps_set (i := 4) sc_l_take.nd rfl (by first | exact Or.inl rfl | exact Or.inr rfl) (pe_op op_modN (pe_callTy (call_int1) rfl B.b_int bt_int (pa_cons (pe_op op_timesA (pv 4) (pe_op op_plus (pe_op op_modN (pe_callTy (call_int1) rfl B.b_int bt_int (pa_cons (pv 4) pa_nil)) pe_int) (pe_op op_timesA pe_int (pe_ix ix_seq (pv 0) pe_int (fun _ _ => rfl))))) pa_nil)) pe_int))
      (pss_one (ps_ret (pe_op op_modN (pe_callTy (call_int1) rfl B.b_int bt_int (pa_cons (pe_op op_fdivG (pv 4) pe_int) pa_nil)) (pv 1)))))))))), ?_⟩
  refine ⟨.ref a, rfl, .inl ⟨a, _, 0, .int x, rfl, rfl, .inl (.inl ha), rfl, x, 0, rfl, rfl, _, rfl, ?_⟩⟩
  have out : ∀ (x' y' m' d : Int) (H' : Hp), H' a = some (.lst [.int x', .int y', .int m']) → (∀ b o, b ≠ a → H b = some o → H' b = some o) → (0 ≤ x' ∧ x' < 2 ^ 1000 ∧ 0 ≤ y' ∧ y' < 2305843009213693921 ∧ 0 ≤ m' ∧ m' ≤ ((k + 1 : Nat) : Int)) → 0 ≤ d → d < n → Q (.int d) H' := fun x' y' m' d H' e kp c d0 d1 => by
    refine hq _ (.int d) (k + 1) G H' ⟨Same.refl G, fun b o g => (by obtain ⟨u, hu⟩ := (le b o g).so; rw [show H' b = H b from (kp b u (ne_of_none g ga) hu).trans hu.symm]; exact le b o g), fun b o q _ nb _ => kp b o nb q, fun b o _ _ g _ => g, fun b o q => ?_, fun t => tabs_keep ha kp t, fun g => g⟩ ga ⟨x', y', m', e, c.1, c.2.1, c.2.2.1, c.2.2.2.1, c.2.2.2.2.1, c.2.2.2.2.2⟩ (.int d) (hf d d0 d1)
    by_cases hb : b = a
    · subst hb
      exact ⟨_, e⟩
    · exact ⟨o, kp b o hb q⟩
  refine ite2 (fun hx => ?_) (fun hx => ?_)
  · have hx : 0 < x := of_decide_eq_true hx
    refine ⟨.ref a, rfl, .inl ⟨a, _, 0, .int x, rfl, rfl, .inl (.inl ha), rfl, .inl ⟨x, rfl, .int n, rfl, x, n, rfl, rfl, by omega, ?_⟩⟩⟩
    refine ⟨.ref a, rfl, .inl ⟨a, _, 0, .int x, rfl, rfl, .inl (.inl ha), rfl, .int n, rfl, x, n, rfl, rfl, fdivG (a := 65) (by omega) (natAbs_lt (by omega) (by omega)) (by decide), ?_⟩⟩
    refine ⟨.ref a, rfl, a, _, 0, 0, rfl, rfl, ha, rfl, ?_⟩
    refine ⟨_, rfl, ?_⟩
    have e1 : x.fmod n = x % n := Int.fmod_eq_emod_of_nonneg x (by omega)
    have e2 : x.fdiv n = x / n := Int.fdiv_eq_ediv_of_nonneg x (by omega)
    have b1 : 0 ≤ x % n := Int.emod_nonneg _ (by omega)
    have b2 : x % n < n := Int.emod_lt_of_pos _ n0
    have b3 : 0 ≤ x / n := Int.ediv_nonneg (by omega) (by omega)
    have b4 : x / n ≤ x := Int.ediv_le_self _ (by omega)
    refine out (x.fdiv n) y m (x.fmod n) _ upd_same (fun b o nb q => by rw [upd_ne nb]; exact q) ?_ (by omega) (by omega)
    refine ⟨by omega, by omega, by omega, by omega, by omega, by omega⟩
  · refine ⟨.ref a, rfl, .inl ⟨a, _, 2, .int m, rfl, rfl, .inl (.inl ha), rfl, .inl ⟨m, 1, rfl, rfl, ?_⟩⟩⟩
    refine ⟨.ref a, rfl, a, _, 2, 2, rfl, rfl, ha, rfl, ?_⟩
    have mb : (m + 1).natAbs < 2 ^ 41 := natAbs_lt (by omega) (by omega)
    obtain ⟨pr, hpr, p0, p1⟩ : ∃ pr : Int, atI primes ((m + 1).fmod 5) = some (.int pr) ∧ 0 < pr ∧ pr < 2147483648 := by
      have e1 : (m + 1).fmod 5 = (m + 1) % 5 := Int.fmod_eq_emod_of_nonneg _ (by omega)
      rw [e1]
      have c : (m + 1) % 5 = 0 ∨ (m + 1) % 5 = 1 ∨ (m + 1) % 5 = 2 ∨ (m + 1) % 5 = 3 ∨ (m + 1) % 5 = 4 := by omega
      rcases c with c | c | c | c | c <;> rw [c]
      · exact ⟨_, rfl, by decide, by decide⟩
      · exact ⟨_, rfl, by decide, by decide⟩
      · exact ⟨_, rfl, by decide, by decide⟩
      · exact ⟨_, rfl, by decide, by decide⟩
      · exact ⟨_, rfl, by decide, by decide⟩
    have h1 : (upd H a (.lst [.int x, .int y, .int (m + 1)])) a = some (.lst [.int x, .int y, .int (m + 1)]) := upd_same
    refine ⟨by decide, fun p hp => ?_⟩
    have pa : a ≠ p := ne_of_none h1 hp
    refine ⟨.ref a, rfl, .inl ⟨a, [.int x, .int y, .int (m + 1)], 2, .int (m + 1), rfl, rfl, .inl (.inl (by rw [upd_ne pa]; exact upd_same)), rfl, .inl ⟨m + 1, rfl, m + 1, 5, rfl, rfl, (show (5 : Int) ≠ 0 by decide), .inl ⟨p, primes, _, .int pr, rfl, rfl, .inl (.inl upd_same), hpr, ?_⟩⟩⟩⟩
    obtain ⟨H2, eH2⟩ : ∃ H2, H2 = upd (upd H a (.lst [.int x, .int y, .int (m + 1)])) p (.lst primes) := ⟨_, rfl⟩
    have h2 : H2 a = some (.lst [.int x, .int y, .int (m + 1)]) := by
      rw [eH2, upd_ne pa]
      exact h1
    have kp2 : ∀ b o, b ≠ a → H b = some o → H2 b = some o := fun b o nb q => by
      have q1 : (upd H a (.lst [.int x, .int y, .int (m + 1)])) b = some o := by
        rw [upd_ne nb]
        exact q
      rw [eH2, upd_ne (ne_of_none q1 hp)]
      exact q1
    have yb : y.natAbs < 2 ^ 61 := natAbs_lt (by omega) (by omega)
    have sqb : ∀ c : Int, c.natAbs < 2 ^ 20 → (c * (m + 1)).natAbs < 2 ^ 61 := fun c hc => wide_lt hc mb
    have sqc : ∀ c : Int, c.natAbs < 2 ^ 20 → (c * (m + 1) * (m + 1)).natAbs < 2 ^ 102 := fun c hc => wide_lt (sqb c hc) mb
    -- blend
    refine ⟨.ref a, rfl, .inl ⟨a, [.int x, .int y, .int (m + 1)], 1, .int y, rfl, rfl, .inl (.inl (eH2 ▸ h2)), rfl, ?_⟩⟩
    refine ⟨.ref a, rfl, .inl ⟨a, [.int x, .int y, .int (m + 1)], 2, .int (m + 1), rfl, rfl, .inl (.inl (eH2 ▸ h2)), rfl, .inl (.inl ⟨_, m + 1, rfl, rfl, mulW (a := 20) (b := 41) (by decide) mb (by decide), ?_⟩)⟩⟩
    refine ⟨.ref a, rfl, .inl ⟨a, [.int x, .int y, .int (m + 1)], 2, .int (m + 1), rfl, rfl, .inl (.inl (eH2 ▸ h2)), rfl, .inl (.inl ⟨_, m + 1, rfl, rfl, mulW (a := 61) (b := 41) (sqb _ (by decide)) mb (by decide), ?_⟩)⟩⟩
    refine .inl ⟨_, _, rfl, rfl, .inl ⟨_, _, rfl, rfl, .inl ⟨_, rfl, _, _, rfl, rfl, powG (a := 110) (by decide) ?_ (by decide), .inl ⟨_, rfl, .int pr, rfl, _, _, rfl, rfl, by omega, ?_⟩⟩⟩⟩
    · exact nbA (a := 109) (nbA (a := 108) (nbM yb (by decide)) (nbM (sqc _ (by decide)) (by decide))) (nbM (a := 10) (by decide) (by decide))
    have F1 : ∀ i : Int, (i.fmod pr).natAbs < 2 ^ 31 := fun i => by
      have := fmod_rng (i := i) p0
      exact natAbs_lt (by omega) (by omega)
    have q1 : ∀ i c : Int, c.natAbs < 2 ^ 20 → (i.fmod 10333 + c * (m + 1)).natAbs < 2 ^ 62 := fun i c hc => by
      have f := fmod_rng (i := i) (j := 10333) (by decide)
      exact nbA (a := 61) (natAbs_lt (by omega) (by omega)) (sqb c hc)
    refine ⟨_, rfl, _, rfl, .inl ⟨_, rfl, _, 10333, rfl, rfl, (show (10333 : Int) ≠ 0 by decide), ?_⟩⟩
    refine ⟨.ref a, rfl, .inl ⟨a, [.int x, .int y, .int (m + 1)], 2, .int (m + 1), rfl, rfl, .inl (.inl (eH2 ▸ h2)), rfl, .inl (.inl ⟨_, m + 1, rfl, rfl, mulW (a := 20) (b := 41) (by decide) mb (by decide), ?_⟩)⟩⟩
    refine .inl ⟨_, _, rfl, rfl, .inl (.inl ⟨_, _, rfl, rfl, mulW (a := 31) (b := 62) (F1 _) (q1 _ _ (by decide)) (by decide), .inl ⟨_, rfl, _, _, rfl, rfl, (show (2305843009213693907 : Int) ≠ 0 by decide), ?_⟩⟩)⟩
    refine ⟨_, rfl, _, 163, rfl, rfl, fdivG (a := 10) (by decide) (by decide) (by decide), .inl ⟨_, rfl, .int n, rfl, _, n, rfl, rfl, by omega, ?_⟩⟩
    refine out x y (m + 1) _ _ (eH2 ▸ h2) (eH2 ▸ kp2) ⟨by omega, by omega, by omega, by omega, by omega, by omega⟩ (fmod_rng n0).1 (fmod_rng n0).2
end
abbrev s_l_pot : Stmt := topS 35
abbrev n_l_pot : List Str := ["_law_script", "_law_place", "_law_cell", "_law_own", "_law_small"]
abbrev p_l_pot : List Str := ["_law_script", "_law_place"]
theorem sc_l_pot : FnScope n_l_pot p_l_pot (defScope s_l_pot) := ⟨rfl, rfl, rfl, by decide +kernel, rfl, by decide +kernel, by decide +kernel⟩

section
variable {P : Program} {w : World} {K : PySem.W.Frag} {mg : Str → Option Value} {base : Heap}
def fn_pot : List D → Prop := fun ds => ∃ ns i, ds = [.scr ns, .int i] ∧ 0 ≤ i ∧ i ≤ 100000
theorem ok_pot {f : Addr} {fd : FuncData} (B : Bt mg) (F : Fun K "_law_pot" "_law_pot" s_l_pot f fd) : FnG P w K mg base CX0 1 f fd p_l_pot (spN K fn_pot) := by
  refine okG F sc_l_pot (fun vs H Q E ⟨G, ds, le, kd, ⟨ns, i, e, _⟩, _⟩ => by rw [kd.length, e]; rfl) (fun cdv A outer s H vs Q E gd hr ⟨G, ds, le, kd, hf, hq⟩ => ?_)
  obtain ⟨ns, i, rfl, i0, i1⟩ := hf
  refine ⟨_, PSs.nox ((pss_cons (ps_set (i := 2) sc_l_pot.nd rfl (by first | exact Or.inl rfl | exact Or.inr rfl) (pe_ifExp (pt_cmpR op_lt (pv 1) (pe_callB ((CallR.or call_len_seq call_len_str)) rfl B.b_len bt_len (pa_cons (pv 0) pa_nil)) (nomark _)) (pe_ix ix_seq (pv 0) (pv 1) (fun _ _ => rfl)) (pe_op op_plus (pe_op op_timesA pe_int (pv 1)) pe_int)))
      (pss_cons (ps_set (i := 3) sc_l_pot.nd rfl (by first | exact Or.inl rfl | exact Or.inr rfl) (pe_op op_timesA (pe_op op_modN (pe_callTy (call_int1) rfl B.b_int bt_int (pa_cons (pe_callB (call_abs) rfl B.b_abs bt_abs (pa_cons (pv 2) pa_nil)) pa_nil)) (pe_op op_powG (pe_op op_powG pe_int pe_int) pe_int)) (pe_callTy (call_int1) rfl B.b_int bt_int (pa_cons (pe_cmpR op_ge (pe_callB (call_abs) rfl B.b_abs bt_abs (pa_cons (pv 2) pa_nil)) (pe_op op_powG pe_int pe_int) (nomark _)) pa_nil))))
      (pss_cons (ps_set (i := 4) sc_l_pot.nd rfl (by first | exact Or.inl rfl | exact Or.inr rfl) (pe_op op_modN (pe_callTy (call_int1) rfl B.b_int bt_int (pa_cons (pv 2) pa_nil)) pe_int))
      (pss_one (ps_ret (pe_lst (pa_cons (pv 3) (pa_cons (pe_op op_modN (pe_callTy (call_int1) rfl B.b_int bt_int (pa_cons (pe_op op_plus (pe_op op_plus (pe_op op_timesA (pv 4) pe_int) (pe_op op_timesA (pe_op op_timesA pe_int (pv 1)) (pv 1))) pe_int) pa_nil)) pe_int) (pa_cons pe_int pa_nil)))))))))), ?_⟩
  have ib : i.natAbs < 2 ^ 17 := natAbs_lt (by omega) (by omega)
  have C1 : (10 ^ (60 : Int).toNat : Int).natAbs < 2 ^ 200 := by decide +kernel
  have C2 : ((10 ^ (60 : Int).toNat : Int) ^ (5 : Int).toNat : Int).natAbs < 2 ^ 999 := by decide +kernel
  have C3 : (0 : Int) < (10 ^ (60 : Int).toNat : Int) ^ (5 : Int).toNat := by decide +kernel
  have C4 : ((10 ^ (60 : Int).toNat : Int) ^ (5 : Int).toNat : Int) < 2 ^ 1000 := by decide +kernel
  have C5 : ((10 ^ (60 : Int).toNat : Int) ^ (5 : Int).toNat : Int) ≠ 0 := by omega
  refine xs_then (N := fun ρ => ∃ c : Int, ρ = [.dat (.scr ns), .dat (.int i), .dat (.int c), .un, .un]) ?_ (start_sg le kd (fun _ => False)) fun σ1 G1 H1 ρ1 S1 ⟨c, e1⟩ => ?_
  · refine xs_set ?_
    repeat walk_at "ev"
    refine ⟨fun h => ?_, fun h => ?_⟩
    · have h : i < (ns.length : Int) := of_decide_eq_true h
      refine ev_op ?_
      repeat walk_at "ev"
      refine rd_k (r := rIx) rfl (ix_scr ⟨i.toNat, by omega, List.getElem?_eq_getElem (by omega)⟩ ?_)
      exact ⟨_, rfl⟩
    · repeat walk_at "ev"
      refine rd_k (r := rTimesA) rfl (DL.mul_int (mulW (a := 20) (b := 17) (by decide) ib (by decide)) ?_)
      repeat walk_at "ev"
      exact ⟨_, rfl⟩
  subst e1
  refine xs_then (N := fun ρ => ∃ x : Int, 0 ≤ x ∧ x < 2 ^ 1000 ∧ ρ = [.dat (.scr ns), .dat (.int i), .dat (.int c), .dat (.int x), .un]) ?_ S1 fun σ2 G2 H2 ρ2 S2 ⟨x, x0, x1, e2⟩ => ?_
  · refine xs_set ?_
    repeat walk_at "ev"
    refine rd_I (powG (a := 10) (by decide) (by decide) (by decide)) ?_
    repeat walk_at "ev"
    refine rd_I (powG (a := 200) (by decide) C1 (by decide)) ?_
    refine rd_I C5 ?_
    repeat walk_at "ev"
    refine rd_I (powG (a := 10) (by decide) (by decide) (by decide)) ?_
    repeat walk_at "ev"
    have r := fmod_rng (i := if c < 0 then -c else c) C3
    refine rd_k (r := rTimesA) rfl (DL.mul_int (mulW (a := 1000) (b := 2) (natAbs_lt (Int.lt_of_lt_of_le (by decide) r.1) (Int.lt_trans r.2 C4)) (bit_nb _) (by decide)) ?_)
    have r2 := fun b => bit_mul r.1 b
    exact ⟨_, (r2 _).1, Int.lt_of_le_of_lt (r2 _).2 (Int.lt_trans r.2 C4), rfl⟩
  subst e2
  refine xs_then (N := fun ρ => ∃ z : Int, 0 ≤ z ∧ z < 2305843009213693951 ∧ ρ = [.dat (.scr ns), .dat (.int i), .dat (.int c), .dat (.int x), .dat (.int z)]) ?_ S2 fun σ3 G3 H3 ρ3 S3 ⟨z, z0, z1, e3⟩ => ?_
  · refine xs_set ?_
    repeat walk_at "ev"
    refine rd_I (show (2305843009213693951 : Int) ≠ 0 by decide) ?_
    have r := fmod_rng (i := c) (j := 2305843009213693951) (by decide)
    exact ⟨_, r.1, r.2, rfl⟩
  subst e3
  have zb : z.natAbs < 2 ^ 61 := natAbs_lt (by omega) (by omega)
  refine en_lst (P := fun ds _ => ∃ u v : Int, ds = [.int u, .int v, .int 0] ∧ 0 ≤ u ∧ u < 2 ^ 1000 ∧ 0 ≤ v ∧ v < 2305843009213693921) ?_ _ _ _ _ S3 fun p us ds G4 H4 ρ4 s4 p4 n g h k => ?_
  · repeat walk_at "ev"
    refine rd_k (r := rTimesA) rfl (DL.mul_int (mulW (a := 61) (b := 20) zb (by decide) (by decide)) ?_)
    repeat walk_at "ev"
    refine rd_k (r := rTimesA) rfl (DL.mul_int (mulW (a := 20) (b := 17) (by decide) ib (by decide)) ?_)
    repeat walk_at "ev"
    refine rd_k (r := rTimesA) rfl (DL.mul_int (mulW (a := 37) (b := 17) (nbX (a := 20) (b := 17) (by decide) ib) ib (by decide)) ?_)
    repeat walk_at "ev"
    refine rd_I (show (2305843009213693921 : Int) ≠ 0 by decide) ?_
    repeat walk_at "ev"
    exact ⟨_, _, rfl, x0, x1, (fmod_rng (by decide)).1, (fmod_rng (by decide)).2⟩
  · obtain ⟨u, v, rfl, u0, u1, v0, v1⟩ := p4
    have e : us = [.int u, .int v, .int 0] := by
      cases k with
      | cons a k =>
        obtain ⟨b, d, rfl, b1, b2⟩ := k.two
        rw [a.int_inv, b1.int_inv, b2.int_inv]
    subst e
    refine hq p G4 H4 s4.st.ext ?_ g ⟨u, v, 0, h, u0, u1, v0, v1, by omega, by omega⟩
    exact h0_none S3 n
end
abbrev s_l_cells : Stmt := topS 54
abbrev n_l_cells : List Str := ["_law_script", "_law_most"]
abbrev p_l_cells : List Str := ["_law_script", "_law_most"]
theorem sc_l_cells : FnScope n_l_cells p_l_cells (defScope s_l_cells) := ⟨rfl, rfl, rfl, by decide +kernel, rfl, by decide +kernel, by decide +kernel⟩

section
variable {P : Program} {w : World} {K : PySem.W.Frag} {mg : Str → Option Value} {base : Heap}
def fs_cells : FS := fun ds R _ => ∃ ns m, ds = [.scr ns, .int m] ∧ 0 ≤ m ∧ m ≤ 100 ∧ ∀ n : Nat, n ≤ 100 → R (.lst (intsD 0 n))
theorem ok_cells {f : Addr} {fd : FuncData} (B : Bt mg) (F : Fun K "_law_cells" "_law_cells" s_l_cells f fd) : FnG P w K mg base CX0 1 f fd p_l_cells (spD K fs_cells) := by
  refine okG F sc_l_cells (spD_len fun ds R Z ⟨ns, m, e, _⟩ => by rw [e]; rfl) (fun cdv A outer s H vs Q E gd hr ⟨G, ds, R, Z, le, kd, hf, hq, hz⟩ => ?_)
  obtain ⟨ns, m, rfl, m0, m1, hf⟩ := hf
  refine ⟨_, PSs.nox ((pss_one (ps_ret (pe_listRg rfl rfl B.b_list (prg_1 rfl B.b_range (pe_callB (call_max2 rfl) rfl B.b_max bt_max (pa_cons pe_int (pa_cons (pe_callB (call_min2 rfl) rfl B.b_min bt_min (pa_cons (pv 1) (pa_cons (pe_callB ((CallR.or call_len_seq call_len_str)) rfl B.b_len bt_len (pa_cons (pv 0) pa_nil)) pa_nil))) pa_nil)))))))), fin_D le kd hq ?_⟩
  refine xs_ret (EvN.ev (en_listRg ?_))
  repeat walk_at "ev"
  refine ⟨(if (if (ns.length : Int) < m then (ns.length : Int) else m) > 1 then (if (ns.length : Int) < m then (ns.length : Int) else m) else 1).toNat, ?_, ?_, hf _ ?_⟩
  · congr 1
    split <;> split <;> omega
  · split <;> split <;> omega
  · split <;> split <;> omega
end
abbrev s_l_some : Stmt := topS 37
abbrev n_l_some : List Str := ["_law_pot_here", "_law_pool", "_law_many", "_law_rest", "_law_found", "_law_lap"]
abbrev p_l_some : List Str := ["_law_pot_here", "_law_pool", "_law_many"]
theorem sc_l_some : FnScope n_l_some p_l_some (defScope s_l_some) := ⟨rfl, rfl, rfl, by decide +kernel, rfl, by decide +kernel, by decide +kernel⟩

section
variable {P : Program} {w : World} {K : PySem.W.Frag} {mg : Str → Option Value} {base : Heap}
def fp_some : FP := fun k ds R _ => ∃ xs, ∃ m : Nat, (ds = [.lst xs, .int (m : Int)] ∨ ds = [.tup xs, .int (m : Int)]) ∧ m ≤ xs.length ∧ xs.length ≤ 1000 ∧ k + m < 2 ^ 40 ∧ ∀ ys zs, (ys ++ zs).Perm xs → ys.length = m → R (.lst ys) (k + m)
theorem perm_pop {α : Type} {ys zs : List α} {n : Nat} {x : α} (h : zs[n]? = some x) : ((ys ++ [x]) ++ zs.eraseIdx n).Perm (ys ++ zs) := by
  have key : ∀ (l : List α) (m : Nat), l[m]? = some x → (x :: l.eraseIdx m).Perm l := by
    intro l
    induction l with
    | nil =>
      intro m hm
      simp at hm
    | cons a l ih =>
      intro m hm
      cases m with
      | zero =>
        simp at hm
        subst hm
        exact List.Perm.refl _
      | succ m =>
        have := ih m (by simpa using hm)
        exact (List.Perm.swap a x _).trans (this.cons a)
  rw [List.append_assoc]
  exact (key zs n h).append_left ys
theorem ok_some {f : Addr} {fd : FuncData} (B : Bt mg) (c_l_take : Cal P w K mg base CX0 1 "_law_take" p_l_take [] (spP K fp_take)) (F : Fun K "_law_some" "_law_some" s_l_some f fd) : FnG P w K mg base CX0 2 f fd p_l_some (spP K fp_some) := by
  refine okG F sc_l_some (spP_len fun k ds R Z ⟨xs, m, e, _⟩ => by rcases e with e | e <;> rw [e] <;> rfl) (fun cdv A outer s H vs Q E gd hr ⟨a, ws, G, ds, k, R, Z, ev, le, ga, pa, kd, hf, hq, hz⟩ => ?_)
  obtain ⟨xs, m, e, m1, x1, k1, hf⟩ := hf
  subst ev
  refine ⟨_, PSs.nox ((pss_cons (ps_par (i := 3) (j := 4) rfl sc_l_some.nd rfl rfl (by decide) rfl rfl (pa_cons (pe_callTy (call_list_of) rfl B.b_list bt_list (pa_cons (pv 1) pa_nil)) (pa_cons (pe_lst pa_nil) pa_nil)) rfl)
      (pss_cons (ps_for PassesOwn.never rfl (pi_range1 rfl B.b_range (pa_cons (pv 2) pa_nil)) (pg_name (i := 5) sc_l_some.nd rfl (by first | exact Or.inl rfl | exact Or.inr rfl))
      (pss_one (ps_expr (pe_bm PySem.F.plainAttrs_list PySem.F.slot_list_append PySem.F.type_list_append mt_append (pv 4) (pa_cons (pe_bm PySem.F.plainAttrs_list PySem.F.slot_list_pop PySem.F.type_list_pop mt_popAt (pv 3) (pa_cons (pe_cal c_l_take gd (hr.mono (by first | decide | omega)) pass0 (pa_cons (pv 0) (pa_cons (pe_callB ((CallR.or call_len_seq call_len_str)) rfl B.b_len bt_len (pa_cons (pv 3) pa_nil)) pa_nil))) pa_nil)) pa_nil)))))
      (pss_one (ps_ret (pv 4)))))), fin_P le ga pa kd hq ?_⟩
  have hρ : ∃ d1, ds = [d1, .int (m : Int)] ∧ (d1 = .lst xs ∨ d1 = .tup xs) := by
    rcases e with e | e
    · exact ⟨_, e, .inl rfl⟩
    · exact ⟨_, e, .inr rfl⟩
  obtain ⟨d1, rfl, hd1⟩ := hρ
  refine xs_seq (xs_parNN (by decide) (en_list ?_))
  repeat walk_at "ev"
  refine ⟨xs, ?_, en_lst ?_⟩
  · rcases hd1 with rfl | rfl
    · exact .inl rfl
    · exact .inr rfl
  repeat walk_at "ev"
  refine xs_for (is := [5]) (fun _ i ρ => ∃ ys zs, ∃ u : Slot, (ys ++ zs).Perm xs ∧ ys.length = i ∧ ρ = [.pot a (k + i), .dat d1, .dat (.int (m : Int)), .own zs, .own ys, u]) (ei_range1 ?_)
  repeat walk_at "ev"
  refine ⟨by omega, by omega, ⟨[], xs, .un, List.Perm.refl _, rfl, rfl⟩, fun i d ρ hd hI => ?_, fun ρ hI => ?_⟩
  · obtain ⟨ys, zs, u, hp, hl, rfl⟩ := hI
    obtain ⟨rfl, hi⟩ := ints_get hd
    have hlen := hp.length_eq
    rw [List.length_append] at hlen
    refine eg_name (xs_drop (ev_append rfl ⟨_, rfl⟩ (ev_popAt rfl ⟨_, rfl⟩ (ev_callP (Z := fun _ _ => False) Flies.none (fun _ => .nil) (by exact ⟨_, _, rfl⟩) ?_))))
    refine ea_cons (ev_thaw (i := 3) rfl (er_cb (era_cons (er_var rfl (era_nil ?_)))))
    refine rc_k (r := rLenA) rfl (len_lst ⟨rfl, ea_nil ?_⟩)
    refine ⟨_, _, rfl, _, rfl, by omega, by omega, by omega, fun c c0 c1 => ?_⟩
    have hc : c.toNat < zs.length := by omega
    refine ⟨zs, zs[c.toNat], c.toNat, by rw [Int.toNat_of_nonneg c0], by omega, rfl, List.getElem?_eq_getElem hc, ys, rfl, by omega, ys ++ [zs[c.toNat]], zs.eraseIdx c.toNat, _, (perm_pop (List.getElem?_eq_getElem hc)).trans hp, by rw [List.length_append]; simp [hl], rfl⟩
  · obtain ⟨ys, zs, u, hp, hl, rfl⟩ := hI
    rw [ints_len] at hl ⊢
    have hm : (m : Int).toNat = m := by omega
    rw [hm] at hl ⊢
    refine xs_ret (ev_take (i := 4) rfl (ev_var rfl ⟨k + m, rfl, hf ys zs hp hl⟩))
end
abbrev s_l_of : Stmt := topS 40
abbrev n_l_of : List Str := ["_law_pot_here", "_law_some_here"]
abbrev p_l_of : List Str := ["_law_pot_here", "_law_some_here"]
theorem sc_l_of : FnScope n_l_of p_l_of (defScope s_l_of) := ⟨rfl, rfl, rfl, by decide +kernel, rfl, by decide +kernel, by decide +kernel⟩

section
variable {P : Program} {w : World} {K : PySem.W.Frag} {mg : Str → Option Value} {base : Heap}
def fp_of : FP := fun k ds R _ => ∃ xs, ds = [.lst xs] ∧ 0 < xs.length ∧ xs.length ≤ 100000 ∧ k < 2 ^ 40 ∧ ∀ x ∈ xs, R x (k + 1)
theorem ok_of {f : Addr} {fd : FuncData} (B : Bt mg) (c_l_take : Cal P w K mg base CX0 1 "_law_take" p_l_take [] (spP K fp_take)) (F : Fun K "_law_of" "_law_of" s_l_of f fd) : FnG P w K mg base CX0 2 f fd p_l_of (spP K fp_of) := by
  refine okG F sc_l_of (spP_len fun k ds R Z ⟨xs, e, _⟩ => by rw [e]; rfl) (fun cdv A outer s H vs Q E gd hr ⟨a, ws, G, ds, k, R, Z, ev, le, ga, pa, kd, hf, hq, hz⟩ => ?_)
  obtain ⟨xs, rfl, x0, x1, k1, hf⟩ := hf
  subst ev
  refine ⟨_, PSs.nox ((pss_one (ps_ret (pe_ix ix_seq (pv 1) (pe_cal c_l_take gd (hr.mono (by first | decide | omega)) pass0 (pa_cons (pv 0) (pa_cons (pe_callB ((CallR.or call_len_seq call_len_str)) rfl B.b_len bt_len (pa_cons (pv 1) pa_nil)) pa_nil))) (fun _ _ => rfl))))), fin_P le ga pa kd hq ?_⟩
  refine xs_ret ?_
  repeat walk_at "ev"
  refine ev_callP (Z := fun _ _ => False) Flies.none (fun _ => .nil) (by exact ⟨_, _, rfl⟩) ?_
  repeat walk_at "ev"
  refine ⟨_, _, rfl, _, rfl, by omega, by omega, k1, fun d d0 d1 => ?_⟩
  have hd : d.toNat < xs.length := by omega
  exact rd_k (r := rIx) rfl (ix_lst ⟨d.toNat, by omega, List.getElem?_eq_getElem hd⟩ ⟨k + 1, rfl, hf _ (List.getElem_mem hd)⟩)
end



abbrev s_in_sequence : Stmt := topS 28
abbrev n_in_sequence : List Str := ["places", "some", "place"]
abbrev p_in_sequence : List Str := ["places", "some"]
theorem sc_in_sequence : FnScope n_in_sequence p_in_sequence (defScope s_in_sequence) := ⟨rfl, rfl, rfl, by decide +kernel, rfl, by decide +kernel, by decide +kernel⟩

abbrev s__is_name : Stmt := topS 27
abbrev n__is_name : List Str := ["word", "sign"]
abbrev p__is_name : List Str := ["word"]
theorem sc__is_name : FnScope n__is_name p__is_name (defScope s__is_name) := ⟨rfl, rfl, rfl, by decide +kernel, rfl, by decide +kernel, by decide +kernel⟩

abbrev v_LETTERS : V := .str "abcdefghijklmnopqrstuvwxyz"
abbrev v_LONGEST_NAME : V := .int 8
abbrev v_FEWEST_PLACES : V := .int 3
abbrev v_MOST_PLACES : V := .int 8
abbrev v_FEWEST_WATCHERS : V := .int 2
abbrev v_MOST_TIES : V := .int 14
abbrev v_FIRST_TIE_LINE : V := .int 3
section
variable {P : Program} {w : World} {K : PySem.W.Frag} {mg : Str → Option Value} {base : Heap}
def letters : List Nat := ("abcdefghijklmnopqrstuvwxyz" : Str).cps.toList
def isName (x : Str) : Bool := decide (1 ≤ x.length) && decide (x.length ≤ 8) && x.cps.toList.all fun c => decide (c ∈ letters)
def inSeq (ps ns : List Str) : List Str := ps.filter fun x => decide (x ∈ ns)
def fs_inseq : FS := fun ds R _ => ∃ ps ns, ds = [.tup (txs ps), .tup (txs ns)] ∧ ps.length ≤ 100000 ∧ R (.tup (txs (inSeq ps ns)))
def fs_isname : FS := fun ds R _ => ∃ x, ds = [.str x] ∧ x.length ≤ 100000 ∧ R (.bl (isName x))
theorem filter_take {α : Type} {p : α → Bool} {xs : List α} {i : Nat} {x : α} (h : xs[i]? = some x) : (xs.take (i + 1)).filter p = (xs.take i).filter p ++ (if p x then [x] else []) := by
  rw [List.take_add_one, h]
  simp only [Option.toList_some, List.filter_append]
  congr 1
  cases q : p x <;> simp [List.filter, q]
theorem ok_inseq {f : Addr} {fd : FuncData} (B : Bt mg) (F : Fun K "in_sequence" "in_sequence" s_in_sequence f fd) : FnG P w K mg base CX0 1 f fd p_in_sequence (spD K fs_inseq) := by
  refine okG F sc_in_sequence (spD_len fun ds R Z ⟨ps, ns, e, _⟩ => by rw [e]; rfl) (fun cdv A outer s H vs Q E gd hr ⟨G, ds, R, Z, le, kd, hf, hq, hz⟩ => ?_)
  have hu1 : (cxOf CX0 P w K mg base n_in_sequence "in_sequence" (defScope s_in_sequence) f cdv A outer s H E).nox.A.units + 65 < cLine := by
    have := hr.un
    show (A.deeper (envOfC "in_sequence" (defScope s_in_sequence) s.heap.objs.size f cdv)).units + 65 < cLine
    omega
  obtain ⟨ps, ns, rfl, hl, hf⟩ := hf
  refine ⟨_, PSs.nox ((pss_one (ps_ret (pe_callTy (call_tuple_of) rfl B.b_tuple bt_tuple (pa_cons (pe_lc (own := [("place", 2)]) (g := (gName 2)) rfl sc_in_sequence.nd (pi_tup (pv 0)) (blkOk_by (N := n_in_sequence) (sc := defScope s_in_sequence) (by decide +kernel)) (fun _ _ _ _ _ => (pg_name (i := 2) sc_in_sequence.nd rfl (by first | exact Or.inl rfl | exact Or.inr rfl))) (fun _ _ _ _ _ => pts_one (pt_cmpR (kIn (K := K) rfl hu1) (pv 2) (pv 1) rfl)) (fun _ _ _ _ _ => (pv 2))) pa_nil))))), fin_D le kd hq ?_⟩
  repeat walk_at "ar"
  refine EvN.ev (en_lc (is := [2]) (fun _ i acc ρ => acc = txs ((ps.take i).filter fun x => decide (x ∈ ns)) ∧ ρ = [.dat (.tup (txs ps)), .dat (.tup (txs ns)), .un]) (by decide) (ei_tup (ev_var rfl ?_)))
  refine ⟨_, rfl, by rw [txs_len]; exact hl, ⟨rfl, rfl⟩, fun i d acc ρ hd hI => ?_, fun acc ρ hl2 hI => ?_⟩
  · obtain ⟨rfl, e⟩ := hI
    rw [e]
    obtain ⟨x, hx, rfl⟩ := txs_get hd
    refine eg_name ?_
    repeat walk_at "ar"
    refine in_txsT rfl ?_
    refine ⟨_, rfl, fun h => ?_, fun h => ?_⟩
    · repeat walk_at "ar"
      refine ⟨?_, rfl⟩
      rw [filter_take hx, if_pos h]
      simp [txs]
    · refine ⟨?_, rfl⟩
      rw [filter_take hx, if_neg (by rw [h]; simp)]
      simp
  · obtain ⟨rfl, e⟩ := hI
    rw [txs_len, List.take_length]
    refine ea_nil (rc_tupL ?_)
    exact hf
theorem ok_isname {f : Addr} {fd : FuncData} {u_LETTERS u_LONGEST_NAME : Value} (B : Bt mg) (m_LETTERS : mg "LETTERS" = some u_LETTERS) (r_LETTERS : RelV v_LETTERS u_LETTERS) (m_LONGEST_NAME : mg "LONGEST_NAME" = some u_LONGEST_NAME) (r_LONGEST_NAME : RelV v_LONGEST_NAME u_LONGEST_NAME)
    (F : Fun K "_is_name" "_is_name" s__is_name f fd) : FnG P w K mg base CX0 1 f fd p__is_name (spD K fs_isname) := by
  refine okG F sc__is_name (spD_len fun ds R Z ⟨x, e, _⟩ => by rw [e]; rfl) (fun cdv A outer s H vs Q E gd hr ⟨G, ds, R, Z, le, kd, hf, hq, hz⟩ => ?_)
  have hu1 : (cxOf CX0 P w K mg base n__is_name "_is_name" (defScope s__is_name) f cdv A outer s H E).nox.A.units + 65 < cLine := by
    have := hr.un
    show (A.deeper (envOfC "_is_name" (defScope s__is_name) s.heap.objs.size f cdv)).units + 65 < cLine
    omega
  obtain ⟨x, rfl, hl, hf⟩ := hf
  refine ⟨_, PSs.nox ((pss_one (ps_ret (pe_and (pe_chain op_le op_le pe_int (pe_callB ((CallR.or call_len_seq call_len_str)) rfl B.b_len bt_len (pa_cons (pv 0) pa_nil)) (pe_glob (v := v_LONGEST_NAME) rfl m_LONGEST_NAME r_LONGEST_NAME)) (pe_one (pe_callB (cr_all rfl) rfl B.b_all bt_all (pa_cons (pe_lc (own := [("sign", 1)]) (g := (gName 1)) (tt := tYes) rfl sc__is_name.nd (pi_str (pv 0)) (blkOk_by (N := n__is_name) (sc := defScope s__is_name) (by decide +kernel)) (fun _ _ _ _ _ => (pg_name (i := 1) sc__is_name.nd rfl (by first | exact Or.inl rfl | exact Or.inr rfl))) (fun _ _ _ _ _ => pts_nil) (fun _ _ _ _ _ => (pe_cmpR (kIn (K := K) rfl hu1) (pv 1) (pe_glob (v := v_LETTERS) rfl m_LETTERS r_LETTERS) rfl))) pa_nil))))))), fin_D le kd hq ?_⟩
  repeat walk_at "ar"
  refine ev_chain ?_
  repeat walk_at "ar"
  refine rc_k (r := rLenA) rfl (len_str hl ?_)
  repeat walk_at "ar"
  have e1 : decide ((1 : Int) ≤ (x.length : Int)) = decide (1 ≤ x.length) := decide_eq_decide.mpr ⟨fun h => by omega, fun h => by omega⟩
  have e2 : decide ((x.length : Int) ≤ 8) = decide (x.length ≤ 8) := decide_eq_decide.mpr ⟨fun h => by omega, fun h => by omega⟩
  rw [e1]
  unfold isName at hf
  refine ⟨_, rfl, fun h => ?_, fun h => ⟨false, rfl, (fun h => nomatch h), fun _ => ?_⟩⟩
  · rw [h, Bool.true_and] at hf
    repeat walk_at "ar"
    rw [e2]
    refine ⟨_, rfl, fun h => ?_, fun h => ?_⟩
    · rw [h, Bool.true_and] at hf
      repeat walk_at "ar"
      refine EvN.ev (en_lc (is := [1]) (fun _ i acc ρ => acc = ((x.cps.toList.take i).map fun c => decide (c ∈ letters)).map D.bl ∧ ρ = [.dat (.str x), .un]) (by decide) (ei_str (ev_var rfl ?_)))
      refine ⟨_, rfl, by rw [sgns_len]; exact hl, ⟨rfl, rfl⟩, fun i d acc ρ hd hI => ?_, fun acc ρ hl2 hI => ?_⟩
      · obtain ⟨rfl, e⟩ := hI
        rw [e]
        obtain ⟨c, hc, rfl⟩ : ∃ c, x.cps.toList[i]? = some c ∧ d = .str ⟨#[c]⟩ := by
          unfold sgns at hd
          rw [List.getElem?_map] at hd
          cases q : x.cps.toList[i]? with
          | none => simp [q] at hd
          | some c =>
            rw [q] at hd
            exact ⟨c, rfl, (Option.some.inj hd).symm⟩
        refine eg_name (et_yes ⟨fun _ => ?_, fun h => nomatch h⟩)
        repeat walk_at "ar"
        refine in_sign rfl ?_
        refine ⟨?_, rfl⟩
        rw [List.take_add_one, hc]
        simp [letters]
      · obtain ⟨rfl, e⟩ := hI
        rw [show (sgns x).length = x.cps.toList.length by simp [sgns], List.take_length]
        repeat walk_at "ar"
        refine rc_k (r := rAll) rfl (rc_all ?_)
        rw [show (x.cps.toList.map fun c => decide (c ∈ letters)).all id = x.cps.toList.all fun c => decide (c ∈ letters) by rw [List.all_map]; rfl]
        exact hf
    · rw [h, Bool.false_and] at hf
      exact hf
  · rw [h, Bool.false_and, Bool.false_and] at hf
    exact hf
end
end K13
namespace K13

variable [TabT] [CacT]
abbrev s__read_places : Stmt := topS 29
abbrev n__read_places : List Str := ["line", "word", "names", "name"]
abbrev p__read_places : List Str := ["line"]
theorem sc__read_places : FnScope n__read_places p__read_places (defScope s__read_places) := ⟨rfl, rfl, rfl, by decide +kernel, rfl, by decide +kernel, by decide +kernel⟩

abbrev s__read_watchers : Stmt := topS 30
abbrev n__read_watchers : List Str := ["line", "places", "word", "names", "lot"]
abbrev p__read_watchers : List Str := ["line", "places"]
theorem sc__read_watchers : FnScope n__read_watchers p__read_watchers (defScope s__read_watchers) := ⟨rfl, rfl, rfl, by decide +kernel, rfl, by decide +kernel, by decide +kernel⟩

section
variable {P : Program} {w : World} {K : PySem.W.Frag} {mg : Str → Option Value} {base : Heap}
def rpOk (word : Str) (names : List Str) : Bool := decide (word = "places") && (decide (3 ≤ names.length) && decide (names.length ≤ 8)) && (decide names.Nodup && names.all isName)
def fs_rp (CB : Addr) : FS := fun ds R Z => ∃ line word names, ds = [.str line] ∧ line.length ≤ 100000 ∧ Txt.split line " " = word :: names ∧ names.length ≤ 3000 ∧ (∀ x ∈ names, x.length ≤ 100000) ∧ (rpOk word names = true → R (.tup (txs names))) ∧ (rpOk word names = false → Z CB (.int 1))
theorem ok_rp {f fI C_BadNet : Addr} {fd fdI : FuncData} {u_FEWEST_PLACES u_MOST_PLACES : Value} (B : Bt mg) (m_FEWEST_PLACES : mg "FEWEST_PLACES" = some u_FEWEST_PLACES) (r_FEWEST_PLACES : RelV v_FEWEST_PLACES u_FEWEST_PLACES) (m_MOST_PLACES : mg "MOST_PLACES" = some u_MOST_PLACES) (r_MOST_PLACES : RelV v_MOST_PLACES u_MOST_PLACES)
    (m_BadNet : mg "BadNet" = some (.ref C_BadNet)) (T_BadNet : OexC K C_BadNet) (v_BadNet : PySem.W.findIn K (.ref C_BadNet) "value" = some none) (i_BadNet : PySem.W.findIn K (.ref C_BadNet) "__init__" = some (some (.ref fI))) (ti_init : PySem.W.typeIn K (.ref fI) = some (.type "function")) (F_init : FnG P w K mg base CX0 1 fI fdI ["self", "value"] (spInit K)) (b_init : Binds K fdI ["self", "value"] [])
    (c__is_name : Cal P w K mg base CX0 1 "_is_name" p__is_name [] (spD K fs_isname))
    (F : Fun K "_read_places" "_read_places" s__read_places f fd) : FnG P w K mg base (L2.CX P w) 3 f fd p__read_places (spD K (fs_rp C_BadNet)) := by
  refine okG F sc__read_places (spD_len fun ds R Z ⟨_, _, _, e, _⟩ => by rw [e]; rfl) (fun cdv A outer s H vs Q E gd hr ⟨G, ds, R, Z, le, kd, hf, hq, hz⟩ => ?_)
  have hu : (cxOf (L2.CX P w) P w K mg base n__read_places "_read_places" (defScope s__read_places) f cdv A outer s H E).A.units + 64 < cLine := hr.units
  obtain ⟨line, word, names, rfl, hl, hs, hn, hx, hR, hZ⟩ := hf
  have raise : ∀ ρ po, rpOk word names = false → Xs ⟨K, G, H, fun _ => False⟩ (fun _ σ H => tMkO C_BadNet (spInit K) [] (tCons (tC (.int 1)) tNil) σ H fun cls d H' => E cls d H') ρ po := fun ρ po h => by
    refine xs_raise T_BadNet v_BadNet hz ?_
    repeat walk_at "ar"
    exact ⟨_, rfl, hZ h⟩
  refine ⟨_, (pss_cons (ps_asg (pe_split (pv 0) pe_str) (pg_star rfl (pgs_cons (pg_name (i := 1) sc__read_places.nd rfl (by first | exact Or.inl rfl | exact Or.inr rfl)) (pgs_cons (pg_name (i := 2) sc__read_places.nd rfl (by first | exact Or.inl rfl | exact Or.inr rfl)) pgs_nil))))
      (pss_cons (ps_if (PW.pt (pw_or (pt_cmpR (op_neA hu) (pv 1) pe_str (nomark _)) (pw_or1 (pt_not (pt_chain op_le op_le (pe_glob (v := v_FEWEST_PLACES) rfl m_FEWEST_PLACES r_FEWEST_PLACES) (pe_callB ((CallR.or call_len_seq call_len_str)) rfl B.b_len bt_len (pa_cons (pv 2) pa_nil)) (pe_glob (v := v_MOST_PLACES) rfl m_MOST_PLACES r_MOST_PLACES))))))
      (pss_one (ps_raise rfl (takes_of rfl rfl rfl rfl) (pmk_g gd T_BadNet i_BadNet ti_init F_init (hr.mono (by first | decide | omega)) b_init pass0 rfl m_BadNet (pa_cons pe_int pa_nil))))
      pss_nil)
      (pss_cons (ps_if (PW.pt (pw_or (pt_cmpR (op_neA hu) (pe_lenSetS rfl B.b_len rfl B.b_set (pv 2)) (pe_callB ((CallR.or call_len_seq call_len_str)) rfl B.b_len bt_len (pa_cons (pv 2) pa_nil)) (nomark _)) (pw_or1 (pt_not (pt_val (pe_callB (cr_all rfl) rfl B.b_all bt_all (pa_cons (pe_lc (own := [("name", 3)]) (g := (gName 3)) (tt := tYes) rfl sc__read_places.nd (pi_list (pv 2)) (blkOk_by (N := n__read_places) (sc := defScope s__read_places) (by decide +kernel)) (fun _ _ _ _ _ => (pg_name (i := 3) sc__read_places.nd rfl (by first | exact Or.inl rfl | exact Or.inr rfl))) (fun _ _ _ _ _ => pts_nil) (fun _ _ _ _ _ => (pe_cal c__is_name gd (hr.mono (by first | decide | omega)) pass0 (pa_cons (pv 3) pa_nil)))) pa_nil)))))))
      (pss_one (ps_raise rfl (takes_of rfl rfl rfl rfl) (pmk_g gd T_BadNet i_BadNet ti_init F_init (hr.mono (by first | decide | omega)) b_init pass0 rfl m_BadNet (pa_cons pe_int pa_nil))))
      pss_nil)
      (pss_one (ps_ret (pe_callTy (call_tuple_of) rfl B.b_tuple bt_tuple (pa_cons (pv 2) pa_nil))))))), fin_D le kd hq ?_⟩
  refine xs_seq (xs_star (EvN.ev (en_split (ev_var rfl ⟨line, rfl, ev_str ⟨" ", rfl, rfl, hl, ?_⟩⟩))))
  rw [hs]
  refine ⟨.str word, txs names, rfl, by rw [txs_len]; omega, ?_⟩
  refine xs_seq (xs_if (et_or (et_test (ev_op (ev_var rfl (ev_str (ne_strF ⟨_, rfl, fun h => ⟨fun _ => ?_, fun h => (nomatch h)⟩, fun h => ?_⟩)))))))
  · refine raise _ _ ?_
    have h : ¬ word = "places" := by simpa using h
    simp [rpOk, h]
  have h : word = "places" := by simpa using h
  subst h
  refine et_not (et_test (ev_chain ?_))
  repeat walk_at "ar"
  rw [txs_len]
  have e1 : decide ((3 : Int) ≤ (names.length : Int)) = decide (3 ≤ names.length) := decide_eq_decide.mpr ⟨fun h => by omega, fun h => by omega⟩
  have e2 : decide ((names.length : Int) ≤ 8) = decide (names.length ≤ 8) := decide_eq_decide.mpr ⟨fun h => by omega, fun h => by omega⟩
  rw [e1]
  refine ⟨_, rfl, fun h => ?_, fun h => ⟨false, rfl, fun _ => raise _ _ (by simp [rpOk, h]), fun h => (nomatch h)⟩⟩
  repeat walk_at "ar"
  rw [e2]
  refine ⟨_, rfl, fun h2 => raise _ _ ?_, fun h2 => ?_⟩
  · have h2 : decide (names.length ≤ 8) = false := by simpa using h2
    simp [rpOk, h2]
  have h2 : decide (names.length ≤ 8) = true := by simpa using h2
  repeat walk_at "ar"
  refine ev_lenSet (ev_var rfl ⟨names, rfl, by omega, fun m m1 m2 => ?_⟩)
  repeat walk_at "ar"
  rw [txs_len]
  refine ne_int rfl ?_
  have e3 : (!((m : Int) == (names.length : Int))) = !decide names.Nodup := by
    congr 1
    by_cases hd : names.Nodup
    · have hm := m2.mpr hd
      rw [hm]
      simp [hd]
    · have hm : m ≠ names.length := fun e => hd (m2.mp e)
      have : ¬ ((m : Int) = (names.length : Int)) := by omega
      simp [hd, this]
  rw [e3]
  refine ⟨_, rfl, fun h3 => ⟨fun _ => raise _ _ ?_, fun h => (nomatch h)⟩, fun h3 => ?_⟩
  · have h3 : decide names.Nodup = false := by simpa using h3
    simp [rpOk, h3]
  have h3 : decide names.Nodup = true := by simpa using h3
  repeat walk_at "ar"
  refine EvN.ev (en_lc (is := [3]) (fun _ i acc ρ => acc = ((names.take i).map isName).map D.bl ∧ ρ = [.dat (.str line), .dat (.str "places"), .dat (.lst (txs names)), .un]) (by decide) (ei_list (ev_var rfl ?_)))
  refine ⟨_, rfl, by rw [txs_len]; omega, ⟨rfl, rfl⟩, fun i d acc ρ hd hI => ?_, fun acc ρ hl2 hI => ?_⟩
  · obtain ⟨rfl, e⟩ := hI
    rw [e]
    obtain ⟨x, hxi, rfl⟩ := txs_get hd
    refine eg_name (et_yes ⟨fun _ => ?_, fun h => nomatch h⟩)
    refine ev_call (Z := fun _ _ => False) Flies.none (fun _ => .nil) ?_
    repeat walk_at "ar"
    refine ⟨x, rfl, hx x (List.mem_of_getElem? hxi), ?_⟩
    refine ⟨?_, rfl⟩
    rw [List.take_add_one, hxi]
    simp
  · obtain ⟨rfl, e⟩ := hI
    rw [e, txs_len, List.take_length]
    repeat walk_at "ar"
    refine rc_k (r := rAll) rfl (rc_all ?_)
    have e4 : (names.map isName).all id = names.all isName := by
      rw [List.all_map]
      rfl
    rw [e4]
    refine ⟨_, rfl, fun h4 => raise _ _ ?_, fun h4 => ?_⟩
    · have h4 : names.all isName = false := by simpa using h4
      simp [rpOk, h4]
    have h4 : names.all isName = true := by simpa using h4
    repeat walk_at "ar"
    refine rc_tupL ?_
    refine hR ?_
    unfold rpOk
    rw [h, h2, h3, h4]
    rfl
end
end K13
namespace K13

variable [TabT] [CacT]
abbrev s__read_ties : Stmt := topS 31
abbrev n__read_ties : List Str := ["lines", "places", "ties", "number", "line", "word", "names", "tie"]
abbrev p__read_ties : List Str := ["lines", "places"]
theorem sc__read_ties : FnScope n__read_ties p__read_ties (defScope s__read_ties) := ⟨rfl, rfl, rfl, by decide +kernel, rfl, by decide +kernel, by decide +kernel⟩

section
variable {P : Program} {w : World} {K : PySem.W.Frag} {mg : Str → Option Value} {base : Heap}
def rwOk (ps : List Str) (word : Str) (names : List Str) : Bool := decide (word = "watchers") && decide (2 ≤ names.length) && decide (names = inSeq ps names)
def fs_rw (CB : Addr) : FS := fun ds R Z => ∃ line word names ps, ds = [.str line, .tup (txs ps)] ∧ line.length ≤ 100000 ∧ ps.length ≤ 1000 ∧ Txt.split line " " = word :: names ∧ names.length ≤ 3000 ∧ (∀ x ∈ names, PyData.strOk x = true) ∧ (∀ x ∈ ps, PyData.strOk x = true) ∧ (rwOk ps word names = true → R (.tup (txs names))) ∧ (rwOk ps word names = false → Z CB (.int 2))
theorem inSeq_ok {ps ns : List Str} (h : ∀ x ∈ ps, PyData.strOk x = true) : ∀ x ∈ inSeq ps ns, PyData.strOk x = true := fun x hx => h x (List.mem_filter.mp hx).1
theorem ok_rw {f fI C_BadNet : Addr} {fd fdI : FuncData} {u_FEWEST_WATCHERS : Value} (B : Bt mg) (m_FEWEST_WATCHERS : mg "FEWEST_WATCHERS" = some u_FEWEST_WATCHERS) (r_FEWEST_WATCHERS : RelV v_FEWEST_WATCHERS u_FEWEST_WATCHERS)
    (m_BadNet : mg "BadNet" = some (.ref C_BadNet)) (T_BadNet : OexC K C_BadNet) (v_BadNet : PySem.W.findIn K (.ref C_BadNet) "value" = some none) (i_BadNet : PySem.W.findIn K (.ref C_BadNet) "__init__" = some (some (.ref fI))) (ti_init : PySem.W.typeIn K (.ref fI) = some (.type "function")) (F_init : FnG P w K mg base CX0 1 fI fdI ["self", "value"] (spInit K)) (b_init : Binds K fdI ["self", "value"] [])
    (c_in_sequence : Cal P w K mg base CX0 1 "in_sequence" p_in_sequence [] (spD K fs_inseq))
    (F : Fun K "_read_watchers" "_read_watchers" s__read_watchers f fd) : FnG P w K mg base (L2.CX P w) 3 f fd p__read_watchers (spD K (fs_rw C_BadNet)) := by
  refine okG F sc__read_watchers (spD_len fun ds R Z ⟨_, _, _, _, e, _⟩ => by rw [e]; rfl) (fun cdv A outer s H vs Q E gd hr ⟨G, ds, R, Z, le, kd, hf, hq, hz⟩ => ?_)
  have hu : (cxOf (L2.CX P w) P w K mg base n__read_watchers "_read_watchers" (defScope s__read_watchers) f cdv A outer s H E).A.units + 64 < cLine := hr.units
  obtain ⟨line, word, names, ps, rfl, hl, hp, hs, hn, hx, hx2, hR, hZ⟩ := hf
  have raise : ∀ ρ po, rwOk ps word names = false → Xs ⟨K, G, H, fun _ => False⟩ (fun _ σ H => tMkO C_BadNet (spInit K) [] (tCons (tC (.int 2)) tNil) σ H fun cls d H' => E cls d H') ρ po := fun ρ po h => by
    refine xs_raise T_BadNet v_BadNet hz ?_
    repeat walk_at "ar"
    exact ⟨_, rfl, hZ h⟩
  refine ⟨_, (pss_cons (ps_asg (pe_split (pv 0) pe_str) (pg_star rfl (pgs_cons (pg_name (i := 2) sc__read_watchers.nd rfl (by first | exact Or.inl rfl | exact Or.inr rfl)) (pgs_cons (pg_name (i := 3) sc__read_watchers.nd rfl (by first | exact Or.inl rfl | exact Or.inr rfl)) pgs_nil))))
      (pss_cons (ps_set (i := 4) sc__read_watchers.nd rfl (by first | exact Or.inl rfl | exact Or.inr rfl) (pe_callTy (call_tuple_of) rfl B.b_tuple bt_tuple (pa_cons (pv 3) pa_nil)))
      (pss_cons (ps_if (PW.pt (pw_or (pt_cmpR (op_neA hu) (pv 2) pe_str (nomark _)) (pw_or (pt_cmpR op_lt (pe_callB ((CallR.or call_len_seq call_len_str)) rfl B.b_len bt_len (pa_cons (pv 4) pa_nil)) (pe_glob (v := v_FEWEST_WATCHERS) rfl m_FEWEST_WATCHERS r_FEWEST_WATCHERS) (nomark _)) (pw_or1 (pt_cmpR (op_neA hu) (pv 4) (pe_cal c_in_sequence gd (hr.mono (by first | decide | omega)) pass0 (pa_cons (pv 1) (pa_cons (pv 4) pa_nil))) (nomark _))))))
      (pss_one (ps_raise rfl (takes_of rfl rfl rfl rfl) (pmk_g gd T_BadNet i_BadNet ti_init F_init (hr.mono (by first | decide | omega)) b_init pass0 rfl m_BadNet (pa_cons pe_int pa_nil))))
      pss_nil)
      (pss_one (ps_ret (pv 4)))))), fin_D le kd hq ?_⟩
  refine xs_seq (xs_star (EvN.ev (en_split (ev_var rfl ⟨line, rfl, ev_str ⟨" ", rfl, rfl, hl, ?_⟩⟩))))
  rw [hs]
  refine ⟨.str word, txs names, rfl, by rw [txs_len]; omega, ?_⟩
  refine xs_seq (xs_set (ev_cb (ea_cons (ev_var rfl (ea_nil (rc_tupL ?_))))))
  refine xs_seq (xs_if (et_or (et_test (ev_op (ev_var rfl (ev_str (ne_strF ⟨_, rfl, fun h => ⟨fun _ => ?_, fun h => (nomatch h)⟩, fun h => ?_⟩)))))))
  · refine raise _ _ ?_
    have h : ¬ word = "watchers" := by simpa using h
    simp [rwOk, h]
  have h : word = "watchers" := by simpa using h
  subst h
  refine et_or ?_
  repeat walk_at "ar"
  rw [txs_len]
  have e1 : decide ((names.length : Int) < 2) = !decide (2 ≤ names.length) := by
    by_cases h : 2 ≤ names.length
    · rw [decide_eq_true h]
      exact decide_eq_false (by omega)
    · rw [decide_eq_false h]
      exact decide_eq_true (by omega)
  rw [e1]
  refine ⟨_, rfl, fun h => ⟨fun _ => raise _ _ ?_, fun h => (nomatch h)⟩, fun h => ?_⟩
  · have h : decide (2 ≤ names.length) = false := by simpa using h
    simp [rwOk, h]
  have h : decide (2 ≤ names.length) = true := by simpa using h
  repeat walk_at "ar"
  refine ev_call (Z := fun _ _ => False) Flies.none (fun _ => .nil) ?_
  repeat walk_at "ar"
  refine ⟨ps, names, rfl, by omega, ?_⟩
  refine ne_row hx (inSeq_ok hx2) rfl ?_
  refine ⟨_, rfl, fun h2 => raise _ _ ?_, fun h2 => ?_⟩
  · have h2 : decide (names = inSeq ps names) = false := by simpa using h2
    unfold rwOk
    rw [h2, Bool.and_false]
  have h2 : decide (names = inSeq ps names) = true := by simpa using h2
  repeat walk_at "ar"
  refine hR ?_
  unfold rwOk
  rw [h, h2]
  rfl
def tieOk (ps : List Str) (acc : List (List Str)) (word : Str) (names : List Str) : Bool := decide (word = "tie") && decide (names.length = 2) && decide (names = inSeq ps names) && (!decide (names ∈ acc) && !decide (acc.length = 14))
def readTies (ps : List Str) : List (List Str) → Nat → List (Str × List Str) → Except Nat (List (List Str))
  | acc, _, [] => .ok acc
  | acc, n, r :: rest => if tieOk ps acc r.1 r.2 then readTies ps (acc ++ [r.2]) (n + 1) rest else .error n
/-- a line of words -/
structure LineOk (line : Str) (r : Str × List Str) : Prop where
  len : line.length ≤ 100000
  spl : Txt.split line " " = r.1 :: r.2
  nl : r.2.length ≤ 3000
  ok : ∀ x ∈ r.2, PyData.strOk x = true
  xl : ∀ x ∈ r.2, x.length ≤ 100000
def fs_rt (CB : Addr) : FS := fun ds R Z => ∃ lines ps, ∃ rows : List (Str × List Str), ds = [.lst (txs lines), .tup (txs ps)] ∧ lines.length ≤ 1000 ∧ ps.length ≤ 1000 ∧ rows.length = lines.length ∧ (∀ (i : Nat) l r, lines[i]? = some l → rows[i]? = some r → LineOk l r) ∧ (∀ x ∈ ps, PyData.strOk x = true) ∧
  (∀ ts, readTies ps [] 3 rows = .ok ts → R (.tup (rws ts))) ∧ ∀ n : Nat, readTies ps [] 3 rows = .error n → Z CB (.int (n : Int))
theorem ok_rt {f fI C_BadNet : Addr} {fd fdI : FuncData} {u_FIRST_TIE_LINE u_MOST_TIES : Value} (B : Bt mg) (m_FIRST_TIE_LINE : mg "FIRST_TIE_LINE" = some u_FIRST_TIE_LINE) (r_FIRST_TIE_LINE : RelV v_FIRST_TIE_LINE u_FIRST_TIE_LINE) (m_MOST_TIES : mg "MOST_TIES" = some u_MOST_TIES) (r_MOST_TIES : RelV v_MOST_TIES u_MOST_TIES)
    (m_BadNet : mg "BadNet" = some (.ref C_BadNet)) (T_BadNet : OexC K C_BadNet) (v_BadNet : PySem.W.findIn K (.ref C_BadNet) "value" = some none) (i_BadNet : PySem.W.findIn K (.ref C_BadNet) "__init__" = some (some (.ref fI))) (ti_init : PySem.W.typeIn K (.ref fI) = some (.type "function")) (F_init : FnG P w K mg base CX0 1 fI fdI ["self", "value"] (spInit K)) (b_init : Binds K fdI ["self", "value"] [])
    (c_in_sequence : Cal P w K mg base CX0 1 "in_sequence" p_in_sequence [] (spD K fs_inseq))
    (F : Fun K "_read_ties" "_read_ties" s__read_ties f fd) : FnG P w K mg base (L2.CX P w) 3 f fd p__read_ties (spD K (fs_rt C_BadNet)) := by
  refine okG F sc__read_ties (spD_len fun ds R Z ⟨_, _, _, e, _⟩ => by rw [e]; rfl) (fun cdv A outer s H vs Q E gd hr ⟨G, ds, R, Z, le, kd, hf, hq, hz⟩ => ?_)
  have hu : (cxOf (L2.CX P w) P w K mg base n__read_ties "_read_ties" (defScope s__read_ties) f cdv A outer s H E).A.units + 64 < cLine := hr.units
  have hu1 : (cxOf (L2.CX P w) P w K mg base n__read_ties "_read_ties" (defScope s__read_ties) f cdv A outer s H E).A.units + 65 < cLine := by
    have := hr.un
    show (A.deeper (envOfC "_read_ties" (defScope s__read_ties) s.heap.objs.size f cdv)).units + 65 < cLine
    omega
  obtain ⟨lines, ps, rows, rfl, hl, hp, hrl, hrow, hx2, hR, hZ⟩ := hf
  refine ⟨_, (pss_cons (ps_set (i := 2) sc__read_ties.nd rfl (by first | exact Or.inl rfl | exact Or.inr rfl) (pe_lst pa_nil))
      (pss_cons (ps_for (passes_of rfl) rfl (pi_enumS rfl B.b_enumerate (pa_cons (pv 0) pa_nil) (pk_cons (pe_glob (v := v_FIRST_TIE_LINE) rfl m_FIRST_TIE_LINE r_FIRST_TIE_LINE) pk_nil)) (pg_tup rfl (pgs_cons (pg_name (i := 3) sc__read_ties.nd rfl (by first | exact Or.inl rfl | exact Or.inr rfl)) (pgs_cons (pg_name (i := 4) sc__read_ties.nd rfl (by first | exact Or.inl rfl | exact Or.inr rfl)) pgs_nil)))
      (pss_cons (ps_asg (pe_split (pv 4) pe_str) (pg_star rfl (pgs_cons (pg_name (i := 5) sc__read_ties.nd rfl (by first | exact Or.inl rfl | exact Or.inr rfl)) (pgs_cons (pg_name (i := 6) sc__read_ties.nd rfl (by first | exact Or.inl rfl | exact Or.inr rfl)) pgs_nil))))
      (pss_cons (ps_set (i := 7) sc__read_ties.nd rfl (by first | exact Or.inl rfl | exact Or.inr rfl) (pe_callTy (call_tuple_of) rfl B.b_tuple bt_tuple (pa_cons (pv 6) pa_nil)))
      (pss_cons (ps_if (PW.pt (pw_or (pt_cmpR (op_neA hu) (pv 5) pe_str (nomark _)) (pw_or (pt_cmpR (op_neA hu) (pe_callB ((CallR.or call_len_seq call_len_str)) rfl B.b_len bt_len (pa_cons (pv 7) pa_nil)) pe_int (nomark _)) (pw_or1 (pt_cmpR (op_neA hu) (pv 7) (pe_cal c_in_sequence gd (hr.mono (by first | decide | omega)) pass0 (pa_cons (pv 1) (pa_cons (pv 7) pa_nil))) (nomark _))))))
      (pss_one (ps_raise rfl (takes_of rfl rfl rfl rfl) (pmk_g gd T_BadNet i_BadNet ti_init F_init (hr.mono (by first | decide | omega)) b_init pass0 rfl m_BadNet (pa_cons (pv 3) pa_nil))))
      pss_nil)
      (pss_cons (ps_if (PW.pt (pw_or (pt_cmpR (op_inA hu1) (pv 7) (pv 2) rfl) (pw_or1 (pt_cmpR (op_eqA hu) (pe_callB ((CallR.or call_len_seq call_len_str)) rfl B.b_len bt_len (pa_cons (pv 2) pa_nil)) (pe_glob (v := v_MOST_TIES) rfl m_MOST_TIES r_MOST_TIES) (nomark _)))))
      (pss_one (ps_raise rfl (takes_of rfl rfl rfl rfl) (pmk_g gd T_BadNet i_BadNet ti_init F_init (hr.mono (by first | decide | omega)) b_init pass0 rfl m_BadNet (pa_cons (pv 3) pa_nil))))
      pss_nil)
      (pss_one (ps_expr (pe_bm PySem.F.plainAttrs_list PySem.F.slot_list_append PySem.F.type_list_append mt_append (pv 2) (pa_cons (pv 7) pa_nil)))))))))
      (pss_one (ps_ret (pe_callTy (call_tuple_of) rfl B.b_tuple bt_tuple (pa_cons (pv 2) pa_nil)))))), fin_D le kd hq ?_⟩
  refine xs_seq (xs_own (en_lst (ea_nil ⟨by simp, ?_⟩)))
  refine xs_seq (xs_for (is := [3, 4]) (fun _ i ρ => ∃ (acc : List (List Str)) (u3 u4 u5 u6 u7 : DL.Slot), ρ = [.dat (.lst (txs lines)), .dat (.tup (txs ps)), .own (rws acc), u3, u4, u5, u6, u7] ∧ acc.length ≤ i ∧ (∀ x ∈ acc, ∀ y ∈ x, PyData.strOk y = true) ∧ readTies ps [] 3 rows = readTies ps acc (3 + i) (rows.drop i)) (ei_enumS ?_))
  repeat walk_at "ev"
  refine ⟨txs lines, 3, rfl, rfl, by decide, by decide, ⟨[], .un, .un, .un, .un, .un, rfl, by simp, by simp, rfl⟩, fun i d ρ hd hI => ?_, fun ρ hI => ?_⟩
  · obtain ⟨acc, u3, u4, u5, u6, u7, rfl, ha, hk, hrt⟩ := hI
    obtain ⟨d2, hd2, rfl⟩ := pairsZ_get hd
    obtain ⟨line, hline, rfl⟩ := txs_get hd2
    have hil : i < lines.length := (List.getElem?_eq_some_iff.mp hline).1
    have hir : i < rows.length := by omega
    obtain ⟨r, hr2⟩ : ∃ r, rows[i]? = some r := ⟨rows[i], List.getElem?_eq_getElem hir⟩
    have hd : rows.drop i = r :: rows.drop (i + 1) := by
      have e := List.getElem?_eq_getElem hir
      rw [hr2] at e
      rw [List.drop_eq_getElem_cons hir, ← Option.some.inj e]
    have L := hrow i line r hline hr2
    rw [hd] at hrt
    have num : (3 : Int) + ((0 + i : Nat) : Int) = ((3 + i : Nat) : Int) := by omega
    rw [num]
    have raise : ∀ (us : List DL.Slot) (w1 w2 : DL.Slot) po, tieOk ps acc r.1 r.2 = false → Xs ⟨K, G, H, fun _ => False⟩ (fun _ σ H => tMkO C_BadNet (spInit K) [] (tCons (tVar 3) tNil) σ H fun cls d H' => E cls d H') (w1 :: w2 :: .own (rws acc) :: .dat (.int ((3 + i : Nat) : Int)) :: us) po := fun us w1 w2 po h => by
      refine xs_raise T_BadNet v_BadNet hz ?_
      refine ea_cons (ev_var rfl (ea_nil ?_))
      refine ⟨_, rfl, hZ _ ?_⟩
      rw [hrt]
      show (if tieOk ps acc r.1 r.2 = true then _ else _) = _
      rw [if_neg (by rw [h]; simp)]
    refine eg_tup rfl (egs_cons (is := [3]) (js := [4]) (eg_name (egs_cons (is := [4]) (js := []) (eg_name (egs_nil ?_)))))
    refine xs_seq (xs_star (EvN.ev (en_split (ev_var rfl ⟨line, rfl, ev_str ⟨" ", rfl, rfl, L.len, ?_⟩⟩))))
    rw [L.spl]
    refine ⟨.str r.1, txs r.2, rfl, by rw [txs_len]; exact Nat.le_trans L.nl (by decide), ?_⟩
    refine xs_seq (xs_set (ev_cb (ea_cons (ev_var rfl (ea_nil (rc_tupL ?_))))))
    refine xs_seq (xs_if (et_or (et_test (ev_op (ev_var rfl (ev_str (ne_strF ⟨_, rfl, fun h => ⟨fun _ => raise _ _ _ _ ?_, fun h => (nomatch h)⟩, fun h => ?_⟩)))))))
    · have h : ¬ r.1 = "tie" := by simpa using h
      simp [tieOk, h]
    have h1 : decide (r.1 = "tie") = true := by simpa using h
    refine et_or ?_
    repeat walk_at "ar"
    rw [txs_len]
    refine ne_int rfl ?_
    have e1 : (!((r.2.length : Int) == 2)) = !decide (r.2.length = 2) := by
      congr 1
      by_cases h : r.2.length = 2
      · rw [h]
        rfl
      · have : ¬ ((r.2.length : Int) = 2) := by omega
        simp [h, this]
    rw [e1]
    refine ⟨_, rfl, fun h => ⟨fun _ => raise _ _ _ _ ?_, fun h => (nomatch h)⟩, fun h => ?_⟩
    · have h : decide (r.2.length = 2) = false := by simpa using h
      unfold tieOk
      rw [h, Bool.and_false, Bool.false_and, Bool.false_and]
    have h2 : decide (r.2.length = 2) = true := by simpa using h
    repeat walk_at "ar"
    refine ev_call (Z := fun _ _ => False) Flies.none (fun _ => .nil) ?_
    repeat walk_at "ar"
    refine ⟨ps, r.2, rfl, by omega, ?_⟩
    refine ne_row L.ok (inSeq_ok hx2) rfl ?_
    refine ⟨_, rfl, fun h => raise _ _ _ _ ?_, fun h => ?_⟩
    · have h : decide (r.2 = inSeq ps r.2) = false := by simpa using h
      unfold tieOk
      rw [h, Bool.and_false, Bool.false_and]
    have h3 : decide (r.2 = inSeq ps r.2) = true := by simpa using h
    refine xs_next ?_
    refine xs_seq (xs_if (et_or ?_))
    refine et_test (ev_thaw (i := 2) rfl (er_op (er_var rfl (er_var rfl ?_))))
    refine in_rwsL hk L.ok rfl ?_
    refine ⟨rfl, _, rfl, fun h => ⟨fun _ => raise _ _ _ _ ?_, fun h => (nomatch h)⟩, fun h => ?_⟩
    · unfold tieOk
      rw [h, Bool.not_true, Bool.false_and, Bool.and_false]
    have h4 : decide (r.2 ∈ acc) = false := h
    refine et_test (ev_thaw (i := 2) rfl (er_op (er_cb (era_cons (er_var rfl (era_nil ?_))))))
    refine rc_k (r := rLenA) rfl (len_lst ?_)
    refine er_int ?_
    refine eq_int rfl ?_
    have el : (rws acc).length = acc.length := by simp [rws]
    have e2 : (((rws acc).length : Int) == 14) = decide (acc.length = 14) := by
      rw [el]
      by_cases h : acc.length = 14
      · rw [h]
        rfl
      · have : ¬ ((acc.length : Int) = 14) := by omega
        simp [h, this]
    rw [e2]
    refine ⟨rfl, _, rfl, fun h => raise _ _ _ _ ?_, fun h => ?_⟩
    · unfold tieOk
      rw [h, Bool.not_true, Bool.and_false, Bool.and_false]
    have h5 : decide (acc.length = 14) = false := h
    have hok : tieOk ps acc r.1 r.2 = true := by
      unfold tieOk
      rw [h1, h2, h3, h4, h5]
      rfl
    refine xs_next ?_
    refine xs_drop (ev_append rfl ⟨_, rfl⟩ ?_)
    repeat walk_at "ar"
    refine ⟨rws acc, rfl, by rw [el]; omega, ?_⟩
    refine ⟨acc ++ [r.2], .dat (.int ((3 + i : Nat) : Int)), .dat (.str line), .dat (.str r.1), .dat (.lst (txs r.2)), .dat (.tup (txs r.2)), ?_, ?_, fun x hx y hy => ?_, ?_⟩
    · rw [show rws (acc ++ [r.2]) = rws acc ++ [.tup (txs r.2)] by simp [rws]]
      rfl
    · rw [List.length_append]
      simp
      exact ha
    · rcases List.mem_append.mp hx with hx | hx
      · exact hk x hx y hy
      · rw [List.mem_singleton.mp hx] at hy
        exact L.ok y hy
    · rw [hrt]
      show (if tieOk ps acc r.1 r.2 = true then _ else _) = _
      rw [if_pos hok]
      rfl
  · obtain ⟨acc, u3, u4, u5, u6, u7, rfl, ha, hk, hrt⟩ := hI
    rw [pairsZ_len, txs_len] at hrt
    rw [← hrl, List.drop_length] at hrt
    refine xs_ret (ev_take (i := 2) rfl (ev_cb (ea_cons (ev_var rfl (ea_nil (rc_tupL ?_))))))
    exact hR acc hrt
end
end K13
namespace K13


variable [TabT] [CacT]


abbrev s__numbers : Stmt := topS 32
abbrev n__numbers : List Str := ["ties", "numbers", "number", "one", "other"]
abbrev p__numbers : List Str := ["ties"]
theorem sc__numbers : FnScope n__numbers p__numbers (defScope s__numbers) := ⟨rfl, rfl, rfl, by decide +kernel, rfl, by decide +kernel, by decide +kernel⟩

section
variable {P : Program} {w : World} {K : PySem.W.Frag} {mg : Str → Option Value} {base : Heap}
/-- what the ties' numbers are, by both ways about -/
def numD (ts : List (List Str)) : Nat → List (List Key × D)
  | 0 => []
  | n + 1 => match ts[n]? with
    | some [a, b] => putDK (putDK (numD ts n) [.inr a, .inr b] (.int (n : Nat))) [.inr b, .inr a] (.int (n : Nat))
    | _ => numD ts n
theorem putDK_len {κ : Type} [DecidableEq κ] (kvs : List (κ × D)) (k : κ) (v : D) : (putDK kvs k v).length ≤ kvs.length + 1 := by
  unfold putDK
  split
  · rw [List.length_map]
    omega
  · rw [List.length_append]
    simp
theorem numD_len (ts : List (List Str)) : ∀ n, (numD ts n).length ≤ 2 * n
  | 0 => Nat.le_refl _
  | n + 1 => by
    have ih := numD_len ts n
    unfold numD
    split
    · have h1 := putDK_len (numD ts n) [.inr (by assumption : Str), .inr (by assumption : Str)] (.int (n : Nat))
      refine Nat.le_trans (putDK_len _ _ _) ?_
      refine Nat.le_trans (Nat.add_le_add_right (putDK_len _ _ _) 1) ?_
      omega
    · omega
def fs_numbers : FS := fun ds R _ => ∃ ts, ds = [.tup (rws ts)] ∧ ts.length ≤ 1000 ∧ (∀ t ∈ ts, t.length = 2) ∧ R (.dct (numD ts ts.length))
theorem ok_numbers {f : Addr} {fd : FuncData} (B : Bt mg) (F : Fun K "_numbers" "_numbers" s__numbers f fd) : FnG P w K mg base CX0 1 f fd p__numbers (spD K fs_numbers) := by
  refine okG F sc__numbers (spD_len fun ds R Z ⟨_, e, _⟩ => by rw [e]; rfl) (fun cdv A outer s H vs Q E gd hr ⟨G, ds, R, Z, le, kd, hf, hq, hz⟩ => ?_)
  have hu0 : (cxOf CX0 P w K mg base n__numbers "_numbers" (defScope s__numbers) f cdv A outer s H E).nox.A.units + 1 < cLine := by
    have := hr.un
    show (A.deeper (envOfC "_numbers" (defScope s__numbers) s.heap.objs.size f cdv)).units + 1 < cLine
    omega
  obtain ⟨ts, rfl, hl, h2, hf⟩ := hf
  refine ⟨_, PSs.nox ((pss_cons (ps_set (i := 1) sc__numbers.nd rfl (by first | exact Or.inl rfl | exact Or.inr rfl) pe_dnewT)
      (pss_cons (ps_for PassesOwn.never rfl (pi_enumT rfl B.b_enumerate (pa_cons (pv 0) pa_nil)) (pg_tup rfl (pgs_cons (pg_name (i := 2) sc__numbers.nd rfl (by first | exact Or.inl rfl | exact Or.inr rfl)) (pgs_cons (pg_tup rfl (pgs_cons (pg_name (i := 3) sc__numbers.nd rfl (by first | exact Or.inl rfl | exact Or.inr rfl)) (pgs_cons (pg_name (i := 4) sc__numbers.nd rfl (by first | exact Or.inl rfl | exact Or.inr rfl)) pgs_nil))) pgs_nil)))
      (pss_cons (ps_dput hu0 (pv 1) (pe_tup (pa_cons (pv 3) (pa_cons (pv 4) pa_nil))) (pv 2) rfl)
      (pss_one (ps_dput hu0 (pv 1) (pe_tup (pa_cons (pv 4) (pa_cons (pv 3) pa_nil))) (pv 2) rfl))))
      (pss_one (ps_ret (pv 1)))))), fin_D le kd hq ?_⟩
  refine xs_seq (xs_obj (eu_newT ?_))
  refine xs_seq (xs_for (is := [2, 3, 4]) (fun _ i ρ => ∃ a b c, ρ = [.dat (.tup (rws ts)), .obj (.dt (numD ts i)), a, b, c]) (ei_enumT (ea_cons (ev_var rfl (ea_nil ⟨_, rfl, ?_⟩)))))
  refine ⟨⟨_, _, _, rfl⟩, fun i d ρ hd hI => ?_, fun ρ hI => ?_⟩
  · obtain ⟨a, b, c, rfl⟩ := hI
    obtain ⟨e, he, rfl⟩ := pairsZ_get hd
    obtain ⟨t, ht, rfl⟩ := rws_get he
    have hi := (List.getElem?_eq_some_iff.mp ht).1
    obtain ⟨x, y, rfl⟩ : ∃ x y, t = [x, y] := by
      have := h2 t (List.mem_of_getElem? ht)
      match t, this with
      | [x, y], _ => exact ⟨x, y, rfl⟩
    have nl := numD_len ts i
    have n2 := putDK_len (numD ts i) [.inr x, .inr y] (.int (0 + ((0 + i : Nat) : Int)))
    refine eg_tup rfl (egs_cons (eg_name (egs_cons (eg_tup rfl (egs_cons (eg_name (egs_cons (eg_name (egs_nil (egs_nil ?_)))))))))) 
    refine xs_seq (xs_dputT ⟨_, rfl⟩ (ev_var rfl ⟨_, rfl, ea_cons (ev_var rfl (ea_cons (ev_var rfl (ea_nil ⟨_, [.inr x, .inr y], rfl, rfl, by simp, by omega, ?_⟩))))⟩))
    refine xs_dputT ⟨_, rfl⟩ (ev_var rfl ⟨_, rfl, ea_cons (ev_var rfl (ea_cons (ev_var rfl (ea_nil ⟨_, [.inr y, .inr x], rfl, rfl, by simp, by omega, ?_⟩))))⟩)
    have e1 : numD ts (i + 1) = putDK (putDK (numD ts i) [.inr x, .inr y] (.int (i : Nat))) [.inr y, .inr x] (.int (i : Nat)) := by
      show (match ts[i]? with
        | some [a, b] => _
        | _ => _) = _
      rw [ht]
    refine ⟨.dat (.int (0 + ((0 + i : Nat) : Int))), .dat (.str x), .dat (.str y), ?_⟩
    rw [e1]
    simp only [Nat.zero_add, Int.zero_add]
    rfl
  · obtain ⟨a, b, c, rfl⟩ := hI
    rw [pairsZ_len, rws_len]
    exact xs_ret (ev_takeB (i := 1) (x := .dt (numD ts ts.length)) rfl (ev_var rfl hf))
end
abbrev s_Net_init : Stmt := clsDef (topS 33) 0
abbrev n_Net_init : List Str := ["self", "text", "lines"]
abbrev p_Net_init : List Str := ["self", "text"]
theorem sc_Net_init : FnScope n_Net_init p_Net_init (defScope s_Net_init) := ⟨rfl, rfl, rfl, by decide +kernel, rfl, by decide +kernel, by decide +kernel⟩

section
variable {P : Program} {w : World} {K : PySem.W.Frag} {mg : Str → Option Value} {base : Heap}
/-- the lines, one more where there are too few -/
def padL (ls : List Str) : List Str := if ls.length < 3 then ls ++ [("" : Str)] else ls
abbrev NetD := List Str × List Str × List (List Str)
def netOf : List (Str × List Str) → Except Nat NetD
  | r0 :: r1 :: rest => if rpOk r0.1 r0.2 then (if rwOk r0.2 r1.1 r1.2 then (match readTies r0.2 [] 3 rest with | .ok ts => .ok (r0.2, r1.2, ts) | .error n => .error n) else .error 2) else .error 1
  | _ => .error 0
def netFs (text : Str) (n : NetD) : List (Str × D) := [("text", .str text), ("places", .tup (txs n.1)), ("watchers", .tup (txs n.2.1)), ("ties", .tup (rws n.2.2)), ("numbers", .dct (numD n.2.2 n.2.2.length)), ("walked", .non), ("sight", .non)]
/-- a text of lines of words -/
structure TextOk (text : Str) (rows : List (Str × List Str)) : Prop where
  len : text.length ≤ 100000
  many : (Txt.split text "\n").length ≤ 900
  one : 1 ≤ (Txt.split text "\n").length
  rl : rows.length = (padL (Txt.split text "\n")).length
  row : ∀ (i : Nat) l r, (padL (Txt.split text "\n"))[i]? = some l → rows[i]? = some r → LineOk l r
def fi_net (CB : Addr) : FI := fun ds R Z => (∃ d, ds = [d] ∧ Ty1 d ∧ isSt d = false ∧ Z CB (.int 0)) ∨ ∃ text rows, ds = [.str text] ∧ TextOk text rows ∧ (∀ n, netOf rows = .ok n → R (netFs text n)) ∧ ∀ n : Nat, netOf rows = .error n → Z CB (.int (n : Int))
theorem len_padL (ls : List Str) (h : 1 ≤ ls.length) : 2 ≤ (padL ls).length := by
  unfold padL
  split
  · rw [List.length_append]
    simp
    omega
  · omega
theorem read_two {ps : List Str} : ∀ {rows : List (Str × List Str)} {acc : List (List Str)} {n : Nat} {ts : List (List Str)}, readTies ps acc n rows = .ok ts → acc.length ≤ 14 → (∀ t ∈ acc, t.length = 2) → ts.length ≤ 14 ∧ ∀ t ∈ ts, t.length = 2
  | [], acc, n, ts, h, h1, h2 => by
    unfold readTies at h
    cases h
    exact ⟨h1, h2⟩
  | r :: rest, acc, n, ts, h, h1, h2 => by
    unfold readTies at h
    split at h
    · rename_i ok
      unfold tieOk at ok
      simp only [Bool.and_eq_true, decide_eq_true_eq, Bool.not_eq_true', decide_eq_false_iff_not] at ok
      refine read_two h ?_ fun t ht => ?_
      · rw [List.length_append]
        simp
        omega
      · rcases List.mem_append.mp ht with ht | ht
        · exact h2 t ht
        · rw [List.mem_singleton.mp ht]
          exact ok.1.1.2
    · cases h
theorem ok_netinit {f fI C_BadNet C_Net : Addr} {fd fdI : FuncData} {u_FIRST_TIE_LINE : Value} (B : Bt mg) (m_FIRST_TIE_LINE : mg "FIRST_TIE_LINE" = some u_FIRST_TIE_LINE) (r_FIRST_TIE_LINE : RelV v_FIRST_TIE_LINE u_FIRST_TIE_LINE)
    (m_BadNet : mg "BadNet" = some (.ref C_BadNet)) (T_BadNet : OexC K C_BadNet) (v_BadNet : PySem.W.findIn K (.ref C_BadNet) "value" = some none) (i_BadNet : PySem.W.findIn K (.ref C_BadNet) "__init__" = some (some (.ref fI))) (ti_init : PySem.W.typeIn K (.ref fI) = some (.type "function")) (F_init : FnG P w K mg base CX0 1 fI fdI ["self", "value"] (spInit K)) (b_init : Binds K fdI ["self", "value"] [])
    (c_Net : Cls K C_Net) (a_text : NoAttr K C_Net "text") (a_places : NoAttr K C_Net "places") (a_watchers : NoAttr K C_Net "watchers") (a_ties : NoAttr K C_Net "ties") (a_numbers : NoAttr K C_Net "numbers") (a_walked : NoAttr K C_Net "walked") (a_sight : NoAttr K C_Net "sight") (c__numbers : Cal P w K mg base CX0 1 "_numbers" p__numbers [] (spD K fs_numbers))
    (c__read_places : Cal P w K mg base (L2.CX P w) 3 "_read_places" p__read_places [] (spD K (fs_rp C_BadNet))) (c__read_watchers : Cal P w K mg base (L2.CX P w) 3 "_read_watchers" p__read_watchers [] (spD K (fs_rw C_BadNet))) (c__read_ties : Cal P w K mg base (L2.CX P w) 3 "_read_ties" p__read_ties [] (spD K (fs_rt C_BadNet)))
    (F : Fun K "__init__" "Net.__init__" s_Net_init f fd) : FnG P w K mg base (L2.CX P w) 4 f fd p_Net_init (spI K C_Net (fi_net C_BadNet)) := by
  refine okG F sc_Net_init (spI_len fun ds R Z h => by rcases h with ⟨_, e, _⟩ | ⟨_, _, e, _⟩ <;> rw [e] <;> rfl) (fun cdv A outer s H vs Q E gd hr ⟨a, dx, ws, G, ds, R, Z, ev, le, ga, ha, kd, hf, hq, hz⟩ => ?_)
  have hu : (cxOf (L2.CX P w) P w K mg base n_Net_init "Net.__init__" (defScope s_Net_init) f cdv A outer s H E).A.units + 64 < cLine := hr.units
  subst ev
  have hz0 : Flies K G H (fun _ => False) Z E := fun X dx v d G' H' e g k z => hz X dx v d G' H' (e.mono fun _ z => z.elim) g k z
  refine ⟨_, (pss_cons (ps_if (pt_not (pt_val (pe_callB (call_isA) rfl B.b_isinstance bt_isinstance (pa_cons (pv 1) (pa_cons (pe_bltn (v := .ty "str") rfl B.b_str bt_str rfl) pa_nil)))))
      (pss_one (ps_raise rfl (takes_of rfl rfl rfl rfl) (pmk_g gd T_BadNet i_BadNet ti_init F_init (hr.mono (by first | decide | omega)) b_init pass0 rfl m_BadNet (pa_cons pe_int pa_nil))))
      pss_nil)
      (pss_cons (ps_set (i := 2) sc_Net_init.nd rfl (by first | exact Or.inl rfl | exact Or.inr rfl) (pe_split (pv 1) pe_str))
      (pss_cons (ps_if (pt_cmpR op_lt (pe_callB ((CallR.or call_len_seq call_len_str)) rfl B.b_len bt_len (pa_cons (pv 2) pa_nil)) (pe_glob (v := v_FIRST_TIE_LINE) rfl m_FIRST_TIE_LINE r_FIRST_TIE_LINE) (nomark _))
      (pss_one (ps_expr (pe_bm PySem.F.plainAttrs_list PySem.F.slot_list_append PySem.F.type_list_append mt_append (pv 2) (pa_cons pe_str pa_nil))))
      pss_nil)
      (pss_cons (ps_fld (pv 0) (pv 1) rfl)
      (pss_cons (ps_fld (pv 0) (pe_cal c__read_places gd (hr.mono (by first | decide | omega)) (passes_call (takes_of rfl rfl rfl rfl) (fun _ _ _ _ h => h)) (pa_cons (pe_ix ix_seq (pv 2) pe_int (fun _ _ => rfl)) pa_nil)) rfl)
      (pss_cons (ps_fld (pv 0) (pe_cal c__read_watchers gd (hr.mono (by first | decide | omega)) (passes_call (takes_of rfl rfl rfl rfl) (fun _ _ _ _ h => h)) (pa_cons (pe_ix ix_seq (pv 2) pe_int (fun _ _ => rfl)) (pa_cons (pe_fld (pv 0) rfl) pa_nil))) rfl)
      (pss_cons (ps_fld (pv 0) (pe_cal c__read_ties gd (hr.mono (by first | decide | omega)) (passes_call (takes_of rfl rfl rfl rfl) (fun _ _ _ _ h => h)) (pa_cons (pe_slice sl_cut (pv 2) (po_some pe_int) po_none) (pa_cons (pe_fld (pv 0) rfl) pa_nil))) rfl)
      (pss_cons (ps_fld (pv 0) (pe_cal c__numbers gd (hr.mono (by first | decide | omega)) pass0 (pa_cons (pe_fld (pv 0) rfl) pa_nil)) rfl)
      (pss_cons (ps_fld (pv 0) pe_non rfl)
      (pss_one (ps_fld (pv 0) pe_non rfl))))))))))), ?_⟩
  rcases hf with ⟨d, rfl, ty, hs, hZ⟩ | ⟨text, rows, rfl, T, hR, hZ⟩
  · refine fin_IF (R := R) le ga ha kd hq ?_
    refine xs_seq (xs_if (et_not ?_))
    repeat walk_at "ar"
    refine isa_str rfl ty ?_
    rw [hs]
    refine ⟨_, rfl, fun _ => ?_, fun h => (nomatch h)⟩
    refine xs_raise T_BadNet v_BadNet hz0 ?_
    repeat walk_at "ar"
    exact ⟨_, rfl, hZ⟩
  obtain ⟨ls, els⟩ : ∃ ls, ls = Txt.split text "\n" := ⟨_, rfl⟩
  obtain ⟨tlen, many, one, rl, row⟩ := T
  rw [← els] at many one rl row
  refine fin_IF (R := R) le ga ha kd hq (Xs.imp (po := { nx := fun ρ => ρ = [.dat (.val (.ref a)), .dat (.str text), .own (txs (padL ls))], rt := fun _ _ => False }) ?_ (fun ρ e => ?_) (fun _ _ h => h) (fun _ h => h) (fun _ h => h))
  · refine xs_seq (xs_if (et_not ?_))
    repeat walk_at "ar"
    refine isa_str rfl ⟨_, rfl⟩ ?_
    refine ⟨_, rfl, fun h => (nomatch h), fun _ => ?_⟩
    refine xs_next ?_
    refine xs_seq (xs_own (en_split (ev_var rfl ⟨text, rfl, ev_str ⟨"\n", rfl, rfl, tlen, ?_⟩⟩)))
    rw [← els]
    refine xs_if (et_test (ev_thaw (i := 2) rfl (er_op (er_cb (era_cons (er_var rfl (era_nil ?_)))))))
    refine rc_k (r := rLenA) rfl (len_lst ?_)
    refine er_int ?_
    refine rd_B0 ?_
    rw [txs_len]
    refine ⟨rfl, _, rfl, fun h => ?_, fun h => ?_⟩
    · have h : (ls.length : Int) < 3 := of_decide_eq_true h
      refine xs_drop (ev_append rfl ⟨_, rfl⟩ ?_)
      repeat walk_at "ar"
      refine ⟨_, rfl, by rw [txs_len]; omega, ?_⟩
      rw [show padL ls = ls ++ [("" : Str)] by unfold padL; rw [if_pos (by omega)]]
      simp [txs]
    · have h : ¬ (ls.length : Int) < 3 := of_decide_eq_false h
      refine xs_next ?_
      rw [show padL ls = ls by unfold padL; rw [if_neg (by omega)]]
      rfl
  subst e
  have pl := len_padL ls one
  have pm : (padL ls).length ≤ 901 := by
    unfold padL
    split
    · rw [List.length_append]
      simp
      omega
    · omega
  obtain ⟨l0, l1, rest, epl⟩ : ∃ l0 l1 rest, padL ls = l0 :: l1 :: rest := by
    match q : padL ls with
    | [] => rw [q] at pl; simp at pl
    | [_] => rw [q] at pl; simp at pl
    | l0 :: l1 :: rest => exact ⟨l0, l1, rest, rfl⟩
  rw [epl] at rl row pm ⊢
  match rows, rl with
  | r0 :: r1 :: rrest, rl =>
  have hrl : rrest.length = rest.length := by simpa using rl
  have L0 := row 0 l0 r0 rfl rfl
  have L1 := row 1 l1 r1 rfl rfl
  have LR : ∀ (i : Nat) l r, rest[i]? = some l → rrest[i]? = some r → LineOk l r := fun i l r h1 h2 => row (i + 2) l r (by simpa using h1) (by simpa using h2)
  have hpl : Plain [.dat (.val (.ref a)), .dat (.str text), .dat (.lst (txs (l0 :: l1 :: rest)))] := fun i s h => by
    match i, h with
    | 0, h => exact .inr ⟨_, (Option.some.inj h).symm⟩
    | 1, h => exact .inr ⟨_, (Option.some.inj h).symm⟩
    | 2, h => exact .inr ⟨_, (Option.some.inj h).symm⟩
    | n + 3, h => simp at h
  refine ⟨2, _, rfl, hpl, ?_⟩
  refine xi_fld hpl rfl c_Net a_text (by decide) fun G1 H1 us1 e1 ga1 h1 k1 => ?_
  refine ev_var rfl ⟨rfl, ?_⟩
  refine xi_fld hpl rfl c_Net a_places (Nat.le_of_ble_eq_true rfl) fun G1 H1 us1 e1 ga1 h1 k1 => ?_
  have hz1 : Flies K G1 H1 (fun _ => False) (fun X d => X = C_BadNet ∧ ∃ n : Nat, d = .int (n : Int) ∧ netOf (r0 :: r1 :: rrest) = .error n) E := fun X dx v d G' H' e g k z => by
    obtain ⟨rfl, n, rfl, hn⟩ := z
    exact hz _ dx v _ G' H' (e1.trans e fun _ _ _ z => z.elim) g k (hZ n hn)
  refine ev_call (Z := fun X d => X = C_BadNet ∧ ∃ n : Nat, d = .int (n : Int) ∧ netOf (r0 :: r1 :: rrest) = .error n) hz1 (fun _ => .nil) ?_
  repeat walk_at "ar"
  refine ix_lst ⟨0, rfl, rfl⟩ ?_
  refine ea_nil ?_
  refine ⟨l0, r0.1, r0.2, rfl, L0.len, L0.spl, L0.nl, L0.xl, fun h0 => ⟨rfl, ?_⟩, fun h0 => ⟨rfl, 1, rfl, ?_⟩⟩
  rotate_left
  · show (if rpOk r0.1 r0.2 = true then _ else _) = _
    rw [if_neg (by rw [h0]; simp)]
  have hn0 : netOf (r0 :: r1 :: rrest) = if rwOk r0.2 r1.1 r1.2 then (match readTies r0.2 [] 3 rrest with | .ok ts => .ok (r0.2, r1.2, ts) | .error n => .error n) else .error 2 := by
    show (if rpOk r0.1 r0.2 = true then _ else _) = _
    rw [if_pos h0]
  have p8 : r0.2.length ≤ 8 := by
    unfold rpOk at h0
    simp only [Bool.and_eq_true, decide_eq_true_eq] at h0
    exact h0.1.2.2
  refine xi_fld hpl rfl c_Net a_watchers (Nat.le_of_ble_eq_true rfl) fun G2 H2 us2 e2 ga2 h2 k2 => ?_
  have hz2 : Flies K G2 H2 (fun _ => False) (fun X d => X = C_BadNet ∧ ∃ n : Nat, d = .int (n : Int) ∧ netOf (r0 :: r1 :: rrest) = .error n) E := fun X dx v d G' H' e g k z => by
    obtain ⟨rfl, n, rfl, hn⟩ := z
    exact hz _ dx v _ G' H' (e2.trans e fun _ _ _ z => z.elim) g k (hZ n hn)
  refine ev_call (Z := fun X d => X = C_BadNet ∧ ∃ n : Nat, d = .int (n : Int) ∧ netOf (r0 :: r1 :: rrest) = .error n) hz2 (fun _ => .nil) ?_
  repeat walk_at "ar"
  refine ix_lst ⟨1, rfl, rfl⟩ ?_
  refine ea_cons (ev_self rfl h2 ga2 (fun z => z) k2 c_Net a_places rfl (ea_nil ?_))
  refine ⟨l1, r1.1, r1.2, r0.2, rfl, L1.len, by omega, L1.spl, L1.nl, L1.ok, L0.ok, fun h1 => ⟨rfl, ?_⟩, fun h1 => ⟨rfl, 2, rfl, ?_⟩⟩
  rotate_left
  · rw [hn0, if_neg (by rw [h1]; simp)]
  have hn1 : netOf (r0 :: r1 :: rrest) = (match readTies r0.2 [] 3 rrest with | .ok ts => .ok (r0.2, r1.2, ts) | .error n => .error n) := by
    rw [hn0, if_pos h1]
  refine xi_fld hpl rfl c_Net a_ties (Nat.le_of_ble_eq_true rfl) fun G3 H3 us3 e3 ga3 h3 k3 => ?_
  have hz3 : Flies K G3 H3 (fun _ => False) (fun X d => X = C_BadNet ∧ ∃ n : Nat, d = .int (n : Int) ∧ netOf (r0 :: r1 :: rrest) = .error n) E := fun X dx v d G' H' e g k z => by
    obtain ⟨rfl, n, rfl, hn⟩ := z
    exact hz _ dx v _ G' H' (e3.trans e fun _ _ _ z => z.elim) g k (hZ n hn)
  refine ev_call (Z := fun X d => X = C_BadNet ∧ ∃ n : Nat, d = .int (n : Int) ∧ netOf (r0 :: r1 :: rrest) = .error n) hz3 (fun _ => .nil) ?_
  refine ea_cons (ev_cut (ev_var rfl (eo_some (ev_int ⟨2, rfl, eo_none (.inl ⟨_, rfl, ?_⟩)⟩))))
  refine ea_cons (ev_self rfl h3 ga3 (fun z => z) k3 c_Net a_places rfl (ea_nil ?_))
  rw [show (2 : Int) = ((2 : Nat) : Int) from rfl, cut_from (by rw [txs_len]; simp)]
  refine ⟨rest, r0.2, rrest, rfl, ?_, by omega, hrl, LR, L0.ok, fun ts h => ⟨rfl, ?_⟩, fun n h => ⟨rfl, n, rfl, ?_⟩⟩
  · simp at pm
    omega
  · obtain ⟨t14, t2⟩ := read_two h (by simp) (by simp)
    refine xi_fld hpl rfl c_Net a_numbers (Nat.le_of_ble_eq_true rfl) fun G4 H4 us4 e4 ga4 h4 k4 => ?_
    refine ev_call (Z := fun _ _ => False) Flies.none (fun _ => .nil) ?_
    refine ea_cons (ev_self rfl h4 ga4 (fun z => z) k4 c_Net a_ties rfl (ea_nil ?_))
    refine ⟨ts, rfl, by omega, t2, rfl, ?_⟩
    refine xi_fld hpl rfl c_Net a_walked (Nat.le_of_ble_eq_true rfl) fun G5 H5 us5 e5 ga5 h5 k5 => ?_
    refine ev_non ⟨rfl, ?_⟩
    refine xi_last hpl rfl c_Net a_sight (Nat.le_of_ble_eq_true rfl) fun G6 H6 us6 e6 ga6 h6 k6 => ?_
    refine ev_non ⟨rfl, ?_⟩
    refine hR (r0.2, r1.2, ts) ?_
    rw [hn1, h]
  · rw [hn1, h]
end
end K13
/-! calls of defs that make lambdas -/
namespace DL
open PySem PySem.Spec PyProof.Rows L2 LamX
variable [TabT] [CacT]
theorem ev_callDT {C : Fx} {ρ : List Slot} {P : PD} {ta : TA} {E : XK} {Z : Addr → D → Prop} {K' : PySem.W.Frag} {f : FS} {dvs : List V} {es : List D} (hT : Tabs TabT.T C.H0) (hN : NoT C.G0) (hE : Flies C.K C.G0 C.H0 C.F0 Z E) (hd : ∀ G, IsL C.K G dvs es) (h : EvA C ta ρ fun ds ρ1 => f (ds ++ es) (fun d => P d ρ1) Z) (hK : K' = C.K := by rfl) : Ev C (tCall (spDT K' f) dvs E ta) ρ P := fun σ G H Q S q => by
  subst hK
  refine h σ G H _ S fun vs ds G1 H1 ρ1 s1 p1 k1 => ?_
  refine ⟨s1.st.ext.tt hT, G1, ds ++ es, _, Z, s1.st.ext.nt hN, s1.st.le, k1.append (hd G1), p1, fun v d G' H' e k r => q v d G' H' ρ1 (s1.trans (s1.st.keep e)) r k, fun X dx v d G' H' e g k z => ?_⟩
  exact hE X dx v d G' H' (s1.st.ext.trans e fun _ _ _ z => z.elim) g k z
theorem ev_callPNT {C : Fx} {ρ : List Slot} {E : XK} {Z : Addr → D → Prop} {te : TE} {ta : TA} {K' : PySem.W.Frag} {f : FP} {P : PD} {dvs : List V} {es : List D} (hT : Tabs TabT.T C.H0) (hN : NoT C.G0) (hE : Flies C.K C.G0 C.H0 C.F0 Z E) (hd : ∀ G, IsL C.K G dvs es) (h : EvQ C te ρ fun ρ1 => EvA C ta ρ1 fun ds ρ2 => f 0 (ds ++ es) (fun d _ => P d ρ2) Z) (hK : K' = C.K := by rfl) :
    Ev C (tCall (spPT K' f) dvs E (tCons te ta)) ρ P := fun σ G H Q S q => by
  subst hK
  refine h σ G H _ S fun p G1 H1 ρ1 s1 p1 n g pt => ?_
  refine p1 σ G1 H1 _ s1.st fun vs ds G2 H2 ρ2 s2 p2 k2 => ?_
  have nf : ¬ Fp σ ρ1 p := fun ⟨j, m⟩ => nomt S s1 n m
  obtain ⟨x, y, z, pz, pr⟩ := pt
  have g2 : G2 p = none := s2.ext.nf _ _ pz ⟨(fun _ z => nomatch z), (fun _ z => nomatch z)⟩ g nf
  have pt2 : PotAt H2 p 0 := ⟨x, y, z, s2.ext.fr _ _ pz (fun _ z => nomatch z) nf (Cac.no g), pr⟩
  have s12 := s1.trans s2
  refine ⟨s2.st.ext.tt hT, p, vs ++ dvs, G2, ds ++ es, 0, _, Z, rfl, s2.st.ext.nt hN, s2.st.le, g2, pt2, k2.append (hd G2), p2, fun v d k' G' H' e gp ptp kd r => ?_, fun X dx v d G' H' e gx kk z => ?_⟩
  · -- the list that was drawn from is nobody's
    have nf2 : ∀ b, Fp σ ρ2 b → b ≠ p := fun b hb z => by
      subst z
      obtain ⟨_, ⟨xs, e⟩, _⟩ := S.fp_some (s12.sub _ hb)
      rw [n] at e
      cases e
    have ex : Ext G H G' H' (Fp σ ρ) := by
      refine ⟨s12.ext.gg.trans e.gg, e.gh, fun b o hb nt f nc => e.fr b o (s12.ext.fr b o hb nt f nc) nt (ne_of_none hb n) (s12.ext.cac hb nt f nc), fun b o hb t gb f => e.nf b o (s12.ext.fr b o hb t.1 f (Cac.no gb)) t (s12.ext.nf b o hb t gb f) (ne_of_none hb n), fun b o hb => ?_, fun t => e.tt (s12.ext.tt t), fun g => e.nt (s12.ext.nt g)⟩
      obtain ⟨u, hu⟩ := s12.ext.th b o hb
      exact e.th b u hu
    have nh0 : C.H0 p = none := h0_none S n
    refine q v d G' H' ρ2 ⟨ex, ⟨s12.st.ext.trans e fun b o hb z => ?_, s12.st.len, fun j s hs => ?_, s12.st.dis⟩, s12.sub⟩ r kd
    · subst z
      rw [nh0] at hb
      cases hb
    · obtain ⟨o, ho, qo⟩ := s12.st.sl j s hs
      refine ⟨o, ho, qo.move e.gg fun b u hm h nt g => ?_⟩
      have nb : b ≠ p := nf2 b ⟨j, _, _, ho, hs, hm⟩
      exact ⟨e.fr _ _ h nt.1 nb (Cac.no g), e.nf _ _ h nt g nb⟩
  · refine hE X dx v d G' H' (s12.st.ext.trans e fun b o hb z => ?_) gx kk z
    subst z
    rw [h0_none S n] at hb
    cases hb
theorem pe_joinK {X : Cx} {o e : Expr} {to te : TE} {K : PySem.W.Frag} {apos pos : Pos} (h : X.K = K) (ho : PE X o to) (he : PE X e te) (hs : starEach [e] X.env = [(false, eval e X.env)] := by rfl) (hbase : attributeBase o "join" X.env (eval o X.env) = eval o X.env := by rfl) (hline : (apos.endLine == pos.line) = true := by rfl) :
    PE X (.Call (.Attribute o "join" apos) [e] [] pos) (tM1 (rJoin K) to te) := h ▸ pe_join ho he hs hbase hline
/-- == of two texts, whatever they are -/
theorem eq_strF {K K' : PySem.W.Frag} {P : D → Prop} {x y : Str} (p : P (.bl (decide (x = y)))) : RD K (rEqA K') (.str x) (.str y) P := by
  refine rd_or2 fun G H v u Q le a b q => ?_
  cases a
  cases b
  refine ⟨rfl, q _ _ G H (Ext.refl le) (Same.refl _) ?_ (.bl _)⟩
  have e : decide (V.str x = V.str y) = decide (x = y) := decide_eq_decide.mpr ⟨fun h => by cases h; rfl, fun h => by rw [h]⟩
  rw [e]
  exact p
end DL
namespace K13
variable [TabT] [CacT]
abbrev s_l_names : Stmt := topS 38
abbrev n_l_names : List Str := ["_law_pot_here", "_law_many", "_law_pool"]
abbrev p_l_names : List Str := ["_law_pot_here", "_law_many"]
theorem sc_l_names : FnScope n_l_names p_l_names (defScope s_l_names) := ⟨rfl, rfl, rfl, by decide +kernel, rfl, by decide +kernel, by decide +kernel⟩

abbrev s_l_pairs : Stmt := topS 39
abbrev n_l_pairs : List Str := ["_law_places", "_law_found", "_law_at", "_law_one", "_law_other"]
abbrev p_l_pairs : List Str := ["_law_places"]
theorem sc_l_pairs : FnScope n_l_pairs p_l_pairs (defScope s_l_pairs) := ⟨rfl, rfl, rfl, by decide +kernel, rfl, by decide +kernel, by decide +kernel⟩

section
variable {P : Program} {w : World} {K : PySem.W.Frag} {mg : Str → Option Value} {base : Heap}
def pool : List Str := ["a", "b", "c", "d", "m", "places", "tie", "read", "watch", "survey", "zzzzzzzz", "cost", "told", "undo"]
/-- names that were drawn -/
structure Drawn (ns : List Str) (m : Nat) : Prop where
  nd : ns.Nodup
  len : ns.length = m
  sub : ∀ x ∈ ns, x ∈ pool
def fp_names : FP := fun k ds R _ => ∃ m : Nat, ds = [.int (m : Int)] ∧ m ≤ 14 ∧ k + 100 < 2 ^ 40 ∧ ∀ ns, Drawn ns m → R (.lst (txs ns)) (k + m)
theorem txs_inj : ∀ {xs ys : List Str}, txs xs = txs ys → xs = ys
  | [], [], _ => rfl
  | [], _ :: _, h => by cases h
  | _ :: _, [], h => by cases h
  | x :: xs, y :: ys, h => by
    have h : D.str x :: txs xs = D.str y :: txs ys := h
    injection h with h1 h2
    injection h1 with h1
    rw [h1, txs_inj h2]
theorem txs_of {pl : List Str} : ∀ {ds : List D}, (∀ d ∈ ds, d ∈ txs pl) → ∃ ns, ds = txs ns ∧ ∀ x ∈ ns, x ∈ pl
  | [], _ => ⟨[], rfl, by simp⟩
  | d :: ds, h => by
    obtain ⟨ns, rfl, hn⟩ := txs_of (pl := pl) (ds := ds) fun e he => h e (List.mem_cons_of_mem _ he)
    obtain ⟨x, hx, rfl⟩ := List.mem_map.mp (h d List.mem_cons_self)
    exact ⟨x :: ns, rfl, fun y hy => by
      rcases List.mem_cons.mp hy with rfl | hy
      · exact hx
      · exact hn y hy⟩
theorem nodup_txs {xs : List Str} (h : (txs xs).Nodup) : xs.Nodup := by
  unfold txs at h
  unfold List.Nodup at h ⊢
  rw [List.pairwise_map] at h
  exact h.imp fun h e => h (by rw [e])
theorem txs_nodup {xs : List Str} (h : xs.Nodup) : (txs xs).Nodup := by
  unfold txs
  unfold List.Nodup at h ⊢
  rw [List.pairwise_map]
  exact h.imp fun h e => h (by injection e)
theorem drawn_of {ys zs : List D} {pl : List Str} {m : Nat} (np : pl.Nodup) (h : (ys ++ zs).Perm (txs pl)) (hl : ys.length = m) : ∃ ns, ys = txs ns ∧ ns.Nodup ∧ ns.length = m ∧ ∀ x ∈ ns, x ∈ pl := by
  obtain ⟨ns, rfl, hn⟩ := txs_of (pl := pl) (ds := ys) fun d hd => h.subset (List.mem_append.mpr (.inl hd))
  refine ⟨ns, rfl, nodup_txs ?_, by rw [← hl, txs_len], hn⟩
  have nd : (txs ns ++ zs).Nodup := h.nodup_iff.mpr (txs_nodup np)
  exact (List.nodup_append.mp nd).1
theorem ok_names {f : Addr} {fd : FuncData} (B : Bt mg) (c_l_some : Cal P w K mg base CX0 2 "_law_some" p_l_some [] (spP K fp_some)) (F : Fun K "_law_names" "_law_names" s_l_names f fd) : FnG P w K mg base CX0 3 f fd p_l_names (spP K fp_names) := by
  refine okG F sc_l_names (spP_len fun k ds R Z ⟨m, e, _⟩ => by rw [e]; rfl) (fun cdv A outer s H vs Q E gd hr ⟨a, ws, G, ds, k, R, Z, ev, le, ga, pa, kd, hf, hq, hz⟩ => ?_)
  obtain ⟨m, rfl, m1, k1, hf⟩ := hf
  subst ev
  refine ⟨_, PSs.nox ((pss_cons (ps_set (i := 2) sc_l_names.nd rfl (by first | exact Or.inl rfl | exact Or.inr rfl) (pe_lst (pa_cons pe_str (pa_cons pe_str (pa_cons pe_str (pa_cons pe_str (pa_cons pe_str (pa_cons pe_str (pa_cons pe_str (pa_cons pe_str (pa_cons pe_str (pa_cons pe_str (pa_cons pe_str (pa_cons pe_str (pa_cons pe_str (pa_cons pe_str pa_nil))))))))))))))))
      (pss_one (ps_ret (pe_cal c_l_some gd (hr.mono (by first | decide | omega)) pass0 (pa_cons (pv 0) (pa_cons (pv 2) (pa_cons (pv 1) pa_nil)))))))), fin_P le ga pa kd hq ?_⟩
  refine xs_seq (xs_set (ev_lst ?_))
  repeat walk_at "ar"
  refine ⟨Nat.le_of_ble_eq_true rfl, ?_⟩
  refine xs_ret (ev_callP (Z := fun _ _ => False) Flies.none (fun _ => .nil) (by exact ⟨_, _, rfl⟩) ?_)
  repeat walk_at "ar"
  refine ⟨_, _, rfl, txs pool, m, .inl rfl, by rw [txs_len]; exact m1, by rw [txs_len]; decide, by omega, fun ys zs hp hl => ?_⟩
  obtain ⟨ns, rfl, n1, n2, n3⟩ := drawn_of (pl := pool) (by decide +kernel) hp hl
  exact ⟨_, rfl, hf ns ⟨n1, n2, n3⟩⟩
/-- all pairs, the one that stands ahead first -/
def pairsL : List Str → List (List Str)
  | [] => []
  | x :: xs => xs.map (fun y => [x, y]) ++ pairsL xs
def fs_pairs : FS := fun ds R _ => ∃ xs, ds = [.lst (txs xs)] ∧ xs.length ≤ 20 ∧ R (.lst (rws (pairsL xs)))
theorem pairsL_len : ∀ xs : List Str, (pairsL xs).length ≤ xs.length * xs.length
  | [] => by simp [pairsL]
  | x :: xs => by
    have := pairsL_len xs
    simp only [pairsL, List.length_append, List.length_map, List.length_cons]
    have e : (xs.length + 1) * (xs.length + 1) = xs.length * xs.length + 2 * xs.length + 1 := by
      rw [Nat.add_mul, Nat.mul_add]
      omega
    omega
theorem ok_pairs {f : Addr} {fd : FuncData} (B : Bt mg) (F : Fun K "_law_pairs" "_law_pairs" s_l_pairs f fd) : FnG P w K mg base CX0 1 f fd p_l_pairs (spD K fs_pairs) := by
  refine okG F sc_l_pairs (spD_len fun ds R Z ⟨xs, e, _⟩ => by rw [e]; rfl) (fun cdv A outer s H vs Q E gd hr ⟨G, ds, R, Z, le, kd, hf, hq, hz⟩ => ?_)
  obtain ⟨xs, rfl, hl, hf⟩ := hf
  refine ⟨_, PSs.nox ((pss_cons (ps_set (i := 1) sc_l_pairs.nd rfl (by first | exact Or.inl rfl | exact Or.inr rfl) (pe_lst pa_nil))
      (pss_cons (ps_for PassesOwn.never rfl (pi_enum rfl B.b_enumerate (pa_cons (pv 0) pa_nil)) (pg_tup rfl (pgs_cons (pg_name (i := 2) sc_l_pairs.nd rfl (by first | exact Or.inl rfl | exact Or.inr rfl)) (pgs_cons (pg_name (i := 3) sc_l_pairs.nd rfl (by first | exact Or.inl rfl | exact Or.inr rfl)) pgs_nil)))
      (pss_one (ps_expr (pe_bm PySem.F.plainAttrs_list PySem.F.slot_list_extend PySem.F.type_list_extend mt_extend (pv 1) (pa_cons (pe_lc (own := [("_law_other", 4)]) (g := (gName 4)) (tt := tYes) rfl sc_l_pairs.nd (pi_list (pe_slice sl_cut (pv 0) (po_some (pe_op op_plus (pv 2) pe_int)) po_none)) (blkOk_by (N := n_l_pairs) (sc := defScope s_l_pairs) (by decide +kernel)) (fun _ _ _ _ _ => (pg_name (i := 4) sc_l_pairs.nd rfl (by first | exact Or.inl rfl | exact Or.inr rfl))) (fun _ _ _ _ _ => pts_nil) (fun _ _ _ _ _ => (pe_tup (pa_cons (pv 3) (pa_cons (pv 4) pa_nil))))) pa_nil)))))
      (pss_one (ps_ret (pv 1)))))), fin_D le kd hq ?_⟩
  refine xs_seq (xs_own (en_lst (ea_nil ⟨by simp, ?_⟩)))
  refine xs_seq (xs_for (is := [2, 3]) (fun _ i ρ => ∃ (acc : List (List Str)) (u2 u3 u4 : DL.Slot), ρ = [.dat (.lst (txs xs)), .own (rws acc), u2, u3, u4] ∧ i ≤ xs.length ∧ acc.length ≤ i * 20 ∧ acc ++ pairsL (xs.drop i) = pairsL xs) (ei_enum ?_))
  repeat walk_at "ar"
  refine ⟨txs xs, rfl, ⟨[], .un, .un, .un, rfl, by simp, by simp, rfl⟩, fun i d ρ hd hI => ?_, fun ρ hI => ?_⟩
  · obtain ⟨acc, u2, u3, u4, rfl, hi, ha, hp⟩ := hI
    obtain ⟨d2, hd2, rfl⟩ := pairs_get hd
    obtain ⟨x, hx, rfl⟩ := txs_get hd2
    have hil : i < xs.length := (List.getElem?_eq_some_iff.mp hx).1
    have hdr : xs.drop i = x :: xs.drop (i + 1) := by
      have e := List.getElem?_eq_getElem hil
      rw [hx] at e
      rw [List.drop_eq_getElem_cons hil, ← Option.some.inj e]
    refine eg_tup rfl (egs_cons (is := [2]) (js := [3]) (eg_name (egs_cons (is := [3]) (js := []) (eg_name (egs_nil ?_)))))
    refine xs_drop (ev_extend rfl ⟨_, rfl⟩ (en_lc (is := [4]) (fun ds j acc2 ρ => acc2 = rws (((xs.drop (i + 1)).take j).map fun y => [x, y]) ∧ ρ = [.dat (.lst (txs xs)), .own (rws acc), .dat (.int ((0 + i : Nat) : Int)), .dat (.str x), .un]) (by decide) (ei_list ?_)))
    refine ev_cut (ev_var rfl (eo_some ?_))
    repeat walk_at "ar"
    refine ⟨_, rfl, eo_none (.inl ⟨_, rfl, ?_⟩)⟩
    rw [show (((0 + i : Nat) : Int) + 1) = ((i + 1 : Nat) : Int) by omega, cut_from (by rw [txs_len]; omega)]
    have edr : (txs xs).drop (i + 1) = txs (xs.drop (i + 1)) := by
      unfold txs
      rw [List.map_drop]
    rw [edr]
    refine ⟨_, rfl, by rw [txs_len, List.length_drop]; omega, ⟨rfl, rfl⟩, fun j d acc2 ρ hd hI => ?_, fun acc2 ρ hl2 hI => ?_⟩
    · obtain ⟨rfl, e⟩ := hI
      rw [e]
      obtain ⟨y, hy, rfl⟩ := txs_get hd
      refine eg_name (et_yes ⟨fun _ => ?_, fun h => nomatch h⟩)
      repeat walk_at "ar"
      refine ⟨Nat.le_of_ble_eq_true rfl, ?_⟩
      refine ⟨?_, rfl⟩
      rw [List.take_add_one, hy]
      simp [rws, txs]
    · obtain ⟨rfl, e⟩ := hI
      rw [e]
      rw [txs_len, List.take_length]
      have e20 : ((xs.drop (i + 1)).map fun y => [x, y]).length ≤ 20 := by
        rw [List.length_map, List.length_drop]
        omega
      refine ⟨rws acc, rfl, by simp [rws]; omega, ?_⟩
      refine ⟨acc ++ (xs.drop (i + 1)).map fun y => [x, y], .dat (.int ((0 + i : Nat) : Int)), .dat (.str x), .un, ?_, by omega, ?_, ?_⟩
      · rw [show rws (acc ++ (xs.drop (i + 1)).map fun y => [x, y]) = rws acc ++ rws ((xs.drop (i + 1)).map fun y => [x, y]) by simp [rws]]
        rfl
      · rw [List.length_append]
        omega
      · rw [← hp, hdr, List.append_assoc]
        rfl
  · obtain ⟨acc, u2, u3, u4, rfl, hi, ha, hp⟩ := hI
    rw [DL.pairs_len, txs_len, List.drop_length] at hp
    refine xs_ret (ev_take (i := 1) rfl (ev_var rfl ?_))
    rw [show acc = pairsL xs by simpa [pairsL] using hp]
    exact hf
end
end K13
open PySem PySem.Spec PyProof.Rows L2 DL LamX
namespace K13
variable [TabT] [CacT]
open TL
/-- a line of words -/
def lineOf (r : Str × List Str) : Str := Txt.join " " (r.1 :: r.2)
structure Wd (x : Str) : Prop where
  n32 : 32 ∉ tl x
  n10 : 10 ∉ tl x
  ok : PyData.strOk x = true
  len : x.length ≤ 20
def wdb (x : Str) : Bool := decide (32 ∉ tl x) && (decide (10 ∉ tl x) && (PyData.strOk x && decide (x.length ≤ 20)))
theorem wdb_ok {x : Str} (h : wdb x = true) : Wd x := by
  unfold wdb at h
  simp only [Bool.and_eq_true, decide_eq_true_eq] at h
  exact ⟨h.1, h.2.1, h.2.2.1, h.2.2.2⟩
theorem mem_joinL {S : List Nat} {c : Nat} : ∀ {ps : List (List Nat)}, c ∈ joinL S ps → c ∈ S ∨ ∃ p ∈ ps, c ∈ p
  | [], h => by simp [joinL] at h
  | [p], h => .inr ⟨p, by simp, by simpa [joinL] using h⟩
  | p :: q :: ps, h => by
    have h : c ∈ p ++ (S ++ joinL S (q :: ps)) := by simpa [joinL] using h
    rcases List.mem_append.mp h with h | h
    · exact .inr ⟨p, by simp, h⟩
    · rcases List.mem_append.mp h with h | h
      · exact .inl h
      · rcases mem_joinL h with h | ⟨r, hr, h⟩
        · exact .inl h
        · exact .inr ⟨r, List.mem_cons_of_mem _ hr, h⟩
theorem len_joinL {S : List Nat} {b : Nat} : ∀ {ps : List (List Nat)}, (∀ p ∈ ps, p.length ≤ b) → (joinL S ps).length ≤ ps.length * (b + S.length)
  | [], h => by simp [joinL]
  | [p], h => by
    have := h p (by simp)
    simp [joinL]
    omega
  | p :: q :: ps, h => by
    have h1 := h p (by simp)
    have h2 := len_joinL (S := S) (b := b) (ps := q :: ps) fun r hr => h r (List.mem_cons_of_mem _ hr)
    have e : joinL S (p :: q :: ps) = p ++ (S ++ joinL S (q :: ps)) := by simp [joinL]
    rw [e, List.length_append, List.length_append]
    have e2 : (p :: q :: ps).length * (b + S.length) = (q :: ps).length * (b + S.length) + (b + S.length) := by
      rw [List.length_cons, Nat.add_mul, Nat.one_mul]
    omega
theorem len_join {y : Str} {b : Nat} {ps : List Str} (h : ∀ p ∈ ps, p.length ≤ b) : (Txt.join y ps).length ≤ ps.length * (b + y.length) := by
  rw [len_tl, join_eq, tl_join, len_tl y]
  have := len_joinL (S := tl y) (b := b) (ps := ps.map tl) fun p hp => by
    obtain ⟨q, hq, rfl⟩ := List.mem_map.mp hp
    rw [← len_tl]
    exact h q hq
  rw [List.length_map] at this
  exact this
theorem mem_join {y : Str} {c : Nat} {ps : List Str} (h : c ∈ tl (Txt.join y ps)) : c ∈ tl y ∨ ∃ p ∈ ps, c ∈ tl p := by
  rw [join_eq, tl_join] at h
  rcases mem_joinL h with h | ⟨p, hp, h⟩
  · exact .inl h
  · obtain ⟨q, hq, rfl⟩ := List.mem_map.mp hp
    exact .inr ⟨q, hq, h⟩
/-- a row of words -/
structure Rw (r : Str × List Str) : Prop where
  w : Wd r.1
  n : r.2.length ≤ 20
  ws : ∀ x ∈ r.2, Wd x
theorem Rw.all {r : Str × List Str} (h : Rw r) : ∀ x ∈ r.1 :: r.2, Wd x := fun x hx => by
  rcases List.mem_cons.mp hx with rfl | hx
  · exact h.w
  · exact h.ws x hx
theorem lineOf_len {r : Str × List Str} (h : Rw r) : (lineOf r).length ≤ 441 := by
  have e := len_join (y := " ") (b := 20) (ps := r.1 :: r.2) fun p hp => (h.all p hp).len
  have e2 : (" " : Str).length = 1 := rfl
  rw [e2, List.length_cons] at e
  have := h.n
  unfold lineOf
  omega
theorem lineOf_10 {r : Str × List Str} (h : Rw r) : 10 ∉ tl (lineOf r) := fun z => by
  rcases mem_join z with z | ⟨p, hp, z⟩
  · exact absurd z (by decide)
  · exact (h.all p hp).n10 z
theorem lineOf_ok {r : Str × List Str} (h : Rw r) : LineOk (lineOf r) r := by
  have e1 := h.n
  refine ⟨Nat.le_trans (lineOf_len h) (by decide), ?_, by omega, fun x hx => (h.ws x hx).ok, fun x hx => Nat.le_trans (h.ws x hx).len (by decide)⟩
  exact split_join (y := " ") (s := 32) (S := []) rfl (by decide +kernel) (by simp) fun p hp => (h.all p hp).n32
theorem empty_ok : LineOk ("" : Str) ("", []) := ⟨by decide, by decide +kernel, by decide, by simp, by simp⟩
def padR (rows : List (Str × List Str)) : List (Str × List Str) := if rows.length < 3 then rows ++ [((Str.ofString ""), ([] : List Str))] else rows
theorem text_ok {rows : List (Str × List Str)} (h1 : rows ≠ []) (hl : rows.length ≤ 50) (hw : ∀ r ∈ rows, Rw r) : TextOk (Txt.join "\n" (rows.map lineOf)) (padR rows) := by
  have hs : Txt.split (Txt.join "\n" (rows.map lineOf)) "\n" = rows.map lineOf := split_join (y := "\n") (s := 10) (S := []) rfl (by decide +kernel) (by simpa using h1) fun p hp => by
    obtain ⟨r, hr, rfl⟩ := List.mem_map.mp hp
    exact lineOf_10 (hw r hr)
  have hlen : 1 ≤ rows.length := by
    cases rows with
    | nil => exact absurd rfl h1
    | cons r rs => simp
  have hpad : padL (rows.map lineOf) = (padR rows).map lineOf := by
    unfold padL padR
    rw [List.length_map]
    split
    · rw [List.map_append]
      rfl
    · rfl
  have hrow : ∀ r ∈ padR rows, LineOk (lineOf r) r := fun r hr => by
    unfold padR at hr
    split at hr
    · rcases List.mem_append.mp hr with hr | hr
      · exact lineOf_ok (hw r hr)
      · rw [List.mem_singleton.mp hr]
        exact empty_ok
    · exact lineOf_ok (hw r hr)
  refine ⟨?_, by rw [hs, List.length_map]; omega, by rw [hs, List.length_map]; exact hlen, by rw [hs, hpad, List.length_map], fun i l r h2 h3 => ?_⟩
  · have e := len_join (y := "\n") (b := 441) (ps := rows.map lineOf) fun p hp => by
      obtain ⟨r, hr, rfl⟩ := List.mem_map.mp hp
      exact lineOf_len (hw r hr)
    have e2 : ("\n" : Str).length = 1 := rfl
    rw [e2, List.length_map] at e
    omega
  · rw [hs, hpad, List.getElem?_map, h3] at h2
    cases h2
    exact hrow r (List.mem_of_getElem? h3)
/-! ### what nets come of rows -/
theorem net_cons (r0 r1 : Str × List Str) (rest : List (Str × List Str)) : netOf (r0 :: r1 :: rest) = if rpOk r0.1 r0.2 then (if rwOk r0.2 r1.1 r1.2 then (match readTies r0.2 [] 3 rest with | .ok ts => .ok (r0.2, r1.2, ts) | .error n => .error n) else .error 2) else .error 1 := rfl
theorem net_e1 {r0 r1 : Str × List Str} {rest : List (Str × List Str)} (h : rpOk r0.1 r0.2 = false) : netOf (r0 :: r1 :: rest) = .error 1 := by
  rw [net_cons, if_neg (by rw [h]; simp)]
theorem net_e2 {r0 r1 : Str × List Str} {rest : List (Str × List Str)} (h : rpOk r0.1 r0.2 = true) (h2 : rwOk r0.2 r1.1 r1.2 = false) : netOf (r0 :: r1 :: rest) = .error 2 := by
  rw [net_cons, if_pos h, if_neg (by rw [h2]; simp)]
theorem net_en {r0 r1 : Str × List Str} {rest : List (Str × List Str)} {n : Nat} (h : rpOk r0.1 r0.2 = true) (h2 : rwOk r0.2 r1.1 r1.2 = true) (h3 : readTies r0.2 [] 3 rest = .error n) : netOf (r0 :: r1 :: rest) = .error n := by
  rw [net_cons, if_pos h, if_pos h2, h3]
theorem net_ok {r0 r1 : Str × List Str} {rest : List (Str × List Str)} {ts : List (List Str)} (h : rpOk r0.1 r0.2 = true) (h2 : rwOk r0.2 r1.1 r1.2 = true) (h3 : readTies r0.2 [] 3 rest = .ok ts) : ∃ n, netOf (r0 :: r1 :: rest) = .ok n := by
  rw [net_cons, if_pos h, if_pos h2, h3]
  exact ⟨_, rfl⟩
theorem pool_name : ∀ x ∈ pool, isName x = true := fun x h => List.all_eq_true.mp (show pool.all isName = true by decide +kernel) x h
theorem pool_wd : ∀ x ∈ pool, Wd x := fun x h => wdb_ok (List.all_eq_true.mp (show pool.all wdb = true by decide +kernel) x h)
theorem rp_yes {ps : List Str} (nd : ps.Nodup) (sub : ∀ x ∈ ps, x ∈ pool) (l1 : 3 ≤ ps.length) (l2 : ps.length ≤ 8) : rpOk "places" ps = true := by
  unfold rpOk
  rw [decide_eq_true l1, decide_eq_true l2, decide_eq_true nd, List.all_eq_true.mpr fun x hx => pool_name x (sub x hx)]
  rfl
theorem rp_len {w : Str} {ps : List Str} (h : ps.length < 3 ∨ 8 < ps.length) : rpOk w ps = false := by
  unfold rpOk
  rcases h with h | h
  · rw [decide_eq_false (show ¬ 3 ≤ ps.length by omega)]
    simp
  · rw [decide_eq_false (show ¬ ps.length ≤ 8 by omega)]
    simp
theorem rp_word {w : Str} {ps : List Str} (h : decide (w = "places") = false) : rpOk w ps = false := by
  unfold rpOk
  rw [h]
  rfl
theorem rw_word {ps : List Str} {w : Str} {ns : List Str} (h : decide (w = "watchers") = false) : rwOk ps w ns = false := by
  unfold rwOk
  rw [h]
  rfl
theorem rw_few {ps : List Str} {w : Str} {ns : List Str} (h : ns.length < 2) : rwOk ps w ns = false := by
  unfold rwOk
  rw [decide_eq_false (show ¬ 2 ≤ ns.length by omega)]
  simp
theorem rw_seq {ps : List Str} {w : Str} {ns : List Str} (h : ns ≠ inSeq ps ns) : rwOk ps w ns = false := by
  unfold rwOk
  rw [decide_eq_false h]
  simp
theorem rw_yes {ps ns : List Str} (h1 : 2 ≤ ns.length) (h : ns = inSeq ps ns) : rwOk ps "watchers" ns = true := by
  unfold rwOk
  rw [decide_eq_true h1, decide_eq_true h]
  rfl
/-- the first ones -/
theorem seq_take {ps : List Str} (nd : ps.Nodup) (k : Nat) : ps.take k = inSeq ps (ps.take k) := by
  unfold inSeq
  have e : ps.filter (fun x => decide (x ∈ ps.take k)) = (ps.take k ++ ps.drop k).filter (fun x => decide (x ∈ ps.take k)) := by rw [List.take_append_drop]
  rw [e, List.filter_append]
  have h1 : (ps.take k).filter (fun x => decide (x ∈ ps.take k)) = ps.take k := List.filter_eq_self.mpr fun x hx => decide_eq_true hx
  have h2 : (ps.drop k).filter (fun x => decide (x ∈ ps.take k)) = [] := List.filter_eq_nil_iff.mpr fun x hx => by
    have nd2 : (ps.take k ++ ps.drop k).Nodup := by rw [List.take_append_drop]; exact nd
    have := (List.nodup_append.mp nd2).2.2
    simp only [decide_eq_true_eq]
    exact fun z => this x z x hx rfl
  rw [h1, h2, List.append_nil]
theorem seq_nodup {ps ns : List Str} (nd : ps.Nodup) : (inSeq ps ns).Nodup := nd.filter _
theorem seq_congr {ps ns ms : List Str} (h : ∀ x, x ∈ ns ↔ x ∈ ms) : inSeq ps ns = inSeq ps ms := by
  unfold inSeq
  congr 1
  funext x
  exact decide_eq_decide.mpr (h x)
theorem seq_twice {ps : List Str} {x : Str} (nd : ps.Nodup) : [x, x] ≠ inSeq ps [x, x] := fun e => by
  have := seq_nodup (ns := [x, x]) nd
  rw [← e] at this
  simp at this
theorem seq_back {ps : List Str} {x y : Str} (h : [x, y] = inSeq ps [x, y]) (ne : x ≠ y) : [y, x] ≠ inSeq ps [y, x] := fun e => by
  rw [seq_congr (ms := [x, y]) (fun z => by simp [or_comm])] at e
  rw [← h] at e
  injection e with e _
  exact ne e.symm
theorem pairs_in : ∀ {xs : List Str} {t : List Str}, t ∈ pairsL xs → ∃ x y, t = [x, y] ∧ x ∈ xs ∧ y ∈ xs
  | [], t, h => by simp [pairsL] at h
  | x :: xs, t, h => by
    rcases List.mem_append.mp (show t ∈ xs.map (fun y => [x, y]) ++ pairsL xs from h) with h | h
    · obtain ⟨y, hy, rfl⟩ := List.mem_map.mp h
      exact ⟨x, y, rfl, by simp, List.mem_cons_of_mem _ hy⟩
    · obtain ⟨a, b, rfl, ha, hb⟩ := pairs_in h
      exact ⟨a, b, rfl, List.mem_cons_of_mem _ ha, List.mem_cons_of_mem _ hb⟩
theorem filter_one {xs : List Str} {y : Str} (nd : xs.Nodup) (hy : y ∈ xs) (p : Str → Bool) (hp : ∀ z ∈ xs, p z = decide (z = y)) : xs.filter p = [y] := by
  induction xs with
  | nil => simp at hy
  | cons x xs ih =>
    have nd2 := List.nodup_cons.mp nd
    have hx := hp x (by simp)
    rw [List.filter_cons, hx]
    by_cases q : x = y
    · subst q
      rw [if_pos (by simp)]
      have : xs.filter p = [] := List.filter_eq_nil_iff.mpr fun z hz => by
        rw [hp z (List.mem_cons_of_mem _ hz)]
        simp only [decide_eq_true_eq]
        exact fun e => nd2.1 (e ▸ hz)
      rw [this]
    · rw [if_neg (by simpa using q)]
      rcases List.mem_cons.mp hy with e | hy
      · exact absurd e.symm q
      · exact ih nd2.2 hy fun z hz => hp z (List.mem_cons_of_mem _ hz)
theorem pairs_seq : ∀ {xs : List Str} {t : List Str}, xs.Nodup → t ∈ pairsL xs → t = inSeq xs t
  | [], t, _, h => by simp [pairsL] at h
  | x :: xs, t, nd, h => by
    have nd2 := List.nodup_cons.mp nd
    rcases List.mem_append.mp (show t ∈ xs.map (fun y => [x, y]) ++ pairsL xs from h) with h | h
    · obtain ⟨y, hy, rfl⟩ := List.mem_map.mp h
      unfold inSeq
      rw [List.filter_cons, if_pos (by simp), filter_one nd2.2 hy _ fun z hz => ?_]
      have : z ≠ x := fun e => nd2.1 (e ▸ hz)
      exact decide_eq_decide.mpr (by simp [this])
    · have e := pairs_seq nd2.2 h
      obtain ⟨a, b, rfl, ha, hb⟩ := pairs_in h
      unfold inSeq
      rw [List.filter_cons, if_neg]
      · exact e
      · simp only [decide_eq_true_eq, List.mem_cons, List.not_mem_nil, or_false, not_or]
        exact ⟨fun z => nd2.1 (z ▸ ha), fun z => nd2.1 (z ▸ hb)⟩
theorem pairs_nodup : ∀ {xs : List Str}, xs.Nodup → (pairsL xs).Nodup
  | [], _ => by simp [pairsL]
  | x :: xs, nd => by
    have nd2 := List.nodup_cons.mp nd
    show (xs.map (fun y => [x, y]) ++ pairsL xs).Nodup
    refine List.nodup_append.mpr ⟨?_, pairs_nodup nd2.2, fun a ha b hb e => ?_⟩
    · unfold List.Nodup
      rw [List.pairwise_map]
      exact nd2.2.imp fun h e => h (by simpa using e)
    · obtain ⟨y, hy, rfl⟩ := List.mem_map.mp ha
      obtain ⟨c, d, rfl, hc, hd⟩ := pairs_in hb
      injection e with e _
      exact nd2.1 (e ▸ hc)
def tieR (t : List Str) : Str × List Str := ("tie", t)
theorem ties_go {ps : List Str} : ∀ {A : List (List Str)} {acc : List (List Str)} {n : Nat} {B : List (Str × List Str)}, (∀ t ∈ A, t.length = 2 ∧ t = inSeq ps t) → (acc ++ A).Nodup → acc.length + A.length ≤ 14 → readTies ps acc n (A.map tieR ++ B) = readTies ps (acc ++ A) (n + A.length) B
  | [], acc, n, B, _, _, _ => by simp
  | t :: A, acc, n, B, h, nd, hl => by
    have ht := h t (by simp)
    have hn : t ∉ acc := fun z => (List.nodup_append.mp nd).2.2 t z t (by simp) rfl
    have hok : tieOk ps acc "tie" t = true := by
      unfold tieOk
      rw [decide_eq_true ht.1, decide_eq_true ht.2, decide_eq_false hn, decide_eq_false (show ¬ acc.length = 14 by simp at hl; omega)]
      rfl
    show (if tieOk ps acc "tie" t = true then readTies ps (acc ++ [t]) (n + 1) (A.map tieR ++ B) else .error n) = _
    rw [if_pos hok, ties_go (fun u hu => h u (List.mem_cons_of_mem _ hu)) (by rw [List.append_assoc]; exact nd) (by rw [List.length_append]; simp at hl ⊢; omega)]
    rw [List.append_assoc, List.length_cons]
    congr 1
    omega
theorem tie_no {ps : List Str} {acc : List (List Str)} {n : Nat} {r : Str × List Str} {B : List (Str × List Str)} (h : tieOk ps acc r.1 r.2 = false) : readTies ps acc n (r :: B) = .error n := by
  show (if tieOk ps acc r.1 r.2 = true then _ else _) = _
  rw [if_neg (by rw [h]; simp)]
theorem tie_seq {ps : List Str} {acc : List (List Str)} {w : Str} {t : List Str} (h : t ≠ inSeq ps t) : tieOk ps acc w t = false := by
  unfold tieOk
  rw [decide_eq_false h]
  simp
theorem tie_in {ps : List Str} {acc : List (List Str)} {w : Str} {t : List Str} (h : t ∈ acc) : tieOk ps acc w t = false := by
  unfold tieOk
  rw [decide_eq_true h]
  simp
theorem tie_full {ps : List Str} {acc : List (List Str)} {w : Str} {t : List Str} (h : acc.length = 14) : tieOk ps acc w t = false := by
  unfold tieOk
  rw [decide_eq_true h]
  simp
theorem tie_word {ps : List Str} {acc : List (List Str)} {w : Str} {t : List Str} (h : decide (w = "tie") = false) : tieOk ps acc w t = false := by
  unfold tieOk
  rw [h]
  rfl
/-! ### lines as they are put together -/
theorem join_snoc {S : List Nat} {p : List Nat} : ∀ {ps : List (List Nat)}, ps ≠ [] → joinL S (ps ++ [p]) = joinL S ps ++ (S ++ p)
  | [], h => absurd rfl h
  | [q], _ => by simp [joinL]
  | q :: r :: ps, _ => by
    have e : joinL S (q :: r :: ps) = q ++ (S ++ joinL S (r :: ps)) := by simp [joinL]
    have e2 : joinL S (q :: r :: ps ++ [p]) = q ++ (S ++ joinL S (r :: ps ++ [p])) := by simp [joinL]
    rw [e2, e, join_snoc (by simp)]
    simp
theorem line_snoc (w : Str) (xs : List Str) (x : Str) : lineOf (w, xs) ++ (" " : Str) ++ x = lineOf (w, xs ++ [x]) := by
  refine ext_tl ?_
  unfold lineOf
  rw [tl_append, tl_append, join_eq, join_eq, tl_join, tl_join]
  have e : (w :: (xs ++ [x])).map tl = (w :: xs).map tl ++ [tl x] := by simp
  show _ = joinL (tl " ") ((w :: (xs ++ [x])).map tl)
  rw [e, join_snoc (by simp)]
  simp
theorem line_tie (x y : Str) : ("tie " : Str) ++ x ++ (" " : Str) ++ y = lineOf ("tie", [x, y]) := by
  have e1 : lineOf ("tie", []) ++ (" " : Str) = ("tie " : Str) := by decide +kernel
  have e2 := line_snoc "tie" [] x
  have e3 := line_snoc "tie" [x] y
  rw [e1] at e2
  have e2 : ("tie " : Str) ++ x = lineOf ("tie", [x]) := e2
  rw [← e2] at e3
  exact e3
end K13
open PySem PySem.Spec PyProof.Rows L2 DL LamX
namespace K13
variable [TabT] [CacT]
theorem sum_le {lines : List Str} (h : ∀ l ∈ lines, l.length ≤ 1000) : (lines.map (·.length)).sum ≤ lines.length * 1000 := by
  induction lines with
  | nil => simp
  | cons x xs ih =>
    have h1 := ih fun l hl => h l (List.mem_cons_of_mem _ hl)
    have h2 := h x List.mem_cons_self
    simp only [List.map_cons, List.sum_cons, List.length_cons]
    omega
theorem cut_txs {ns : List Str} {m : Nat} (h : m ≤ ns.length) : cutD (txs ns) none (some (m : Int)) = txs (ns.take m) := by
  rw [cut_to (by rw [txs_len]; exact h)]
  unfold txs
  rw [List.map_take]
theorem cut_txs2 {ns : List Str} {m : Nat} (h : m ≤ ns.length) : cutD (txs ns) (some (m : Int)) none = txs (ns.drop m) := by
  rw [cut_from (by rw [txs_len]; exact h)]
  unfold txs
  rw [List.map_drop]
theorem txs_app (xs ys : List Str) : txs xs ++ txs ys = txs (xs ++ ys) := by simp [txs]
theorem sum20 {ws : List Str} (h : ∀ l ∈ ws, l.length ≤ 20) (n : ws.length ≤ 100) : (ws.map (·.length)).sum + ws.length * (" " : Str).length ≤ 16777216 := by
  have h1 := sum_le fun l hl => Nat.le_trans (h l hl) (by decide)
  have h2 : (" " : Str).length = 1 := rfl
  rw [h2]
  omega
/-- ' '.join(a list) -/
theorem ev_line {C : Fx} {ρ : List Slot} {te : TE} {P : PD} {K' : PySem.W.Frag} (h : Ev C te ρ fun d ρ1 => ∃ w ws, d = .lst (txs (w :: ws)) ∧ (w :: ws).length ≤ 100 ∧ (∀ x ∈ w :: ws, x.length ≤ 20) ∧ P (.str (lineOf (w, ws))) ρ1) (hK : K' = C.K := by rfl) : Ev C (tM1 (rJoin K') (tC (.str " ")) te) ρ P := by
  refine ev_join (ev_str ⟨_, rfl, h.imp fun d ρ1 ⟨w, ws, e, l, hw, p⟩ => ⟨w :: ws, .inl e, sum20 hw l, p⟩⟩) hK
/-- ' '.join([w] + names[:m]) -/
theorem ev_head {C : Fx} {ρ : List Slot} {ta : TE} {P : PD} {K1 K2 K3 : PySem.W.Frag} {w : Str} {ns : List Str} {m i : Nat} (hi : ρ[i]? = some (.dat (.lst (txs ns)))) (hm : m ≤ ns.length) (hn : ns.length ≤ 20) (hw : ∀ x ∈ w :: ns, x.length ≤ 20) (hb : Ev C ta ρ fun d ρ1 => d = .int (m : Int) ∧ ρ1 = ρ) (p : P (.str (lineOf (w, ns.take m))) ρ)
    (h1 : K1 = C.K := by rfl) (h2 : K2 = C.K := by rfl) (h3 : K3 = C.K := by rfl) : Ev C (tM1 (rJoin K1) (tC (.str " ")) (tOp (rPlus K2) (tLst (tCons (tC (.str w)) tNil)) (tSl (rCut K3) (tVar i) tNoPart (tPart ta)))) ρ P := by
  subst h1 h2 h3
  refine ev_line (ev_op (ev_lst (ea_cons (ev_str (ea_nil ⟨Nat.le_of_ble_eq_true rfl, ?_⟩)))))
  refine ev_cut (ev_var hi (eo_none (eo_some (hb.imp fun d ρ1 ⟨e1, e2⟩ => ?_))))
  subst e1 e2
  refine ⟨_, rfl, .inl ⟨_, rfl, ?_⟩⟩
  rw [cut_txs hm]
  refine plus_lst (by rw [txs_len, List.length_take]; simp; omega) ?_
  refine ⟨w, ns.take m, rfl, by rw [List.length_cons, List.length_take]; omega, fun x hx => ?_, p⟩
  rcases List.mem_cons.mp hx with rfl | hx
  · exact hw _ List.mem_cons_self
  · exact hw x (List.mem_cons_of_mem _ (List.mem_of_mem_take hx))
/-- 'tie ' + names[i] + ' ' + names[j] -/
theorem ev_tie {C : Fx} {ρ : List Slot} {P : PD} {K1 K2 K3 K4 K5 : PySem.W.Frag} {ns : List Str} {l i j : Nat} {x y : Str} (hi : ρ[l]? = some (.dat (.lst (txs ns)))) (hx : ns[i]? = some x) (hy : ns[j]? = some y) (hw : ∀ x ∈ ns, x.length ≤ 20) (p : P (.str (lineOf ("tie", [x, y]))) ρ)
    (h1 : K1 = C.K := by rfl) (h2 : K2 = C.K := by rfl) (h3 : K3 = C.K := by rfl) (h4 : K4 = C.K := by rfl) (h5 : K5 = C.K := by rfl) : Ev C (tOp (rPlus K1) (tOp (rPlus K2) (tOp (rPlus K3) (tC (.str "tie ")) (tOp (rIx K4) (tVar l) (tC (.int (i : Int))))) (tC (.str " "))) (tOp (rIx K5) (tVar l) (tC (.int (j : Int))))) ρ P := by
  subst h1 h2 h3 h4 h5
  have gx : (txs ns)[i]? = some (.str x) := by
    unfold txs
    rw [List.getElem?_map, hx]
    rfl
  have gy : (txs ns)[j]? = some (.str y) := by
    unfold txs
    rw [List.getElem?_map, hy]
    rfl
  have lx := hw x (List.mem_of_getElem? hx)
  have ly := hw y (List.mem_of_getElem? hy)
  have l4 : ("tie " : Str).length = 4 := rfl
  have l1 : (" " : Str).length = 1 := rfl
  have la : ∀ a b : Str, (a ++ b).length = a.length + b.length := fun a b => by
    rw [TL.len_tl, TL.tl_append, List.length_append, ← TL.len_tl, ← TL.len_tl]
  refine ev_op ?_
  refine ev_op ?_
  refine ev_op ?_
  refine ev_str ?_
  refine ev_op (ev_var hi (ev_int ?_))
  refine ix_lst ⟨i, rfl, gx⟩ ?_
  refine plus_str (by rw [l4]; omega) ?_
  refine ev_str ?_
  refine plus_str (by rw [la, l4, l1]; omega) ?_
  refine ev_op (ev_var hi (ev_int ?_))
  refine ix_lst ⟨j, rfl, gy⟩ ?_
  refine plus_str (by rw [la, la, l4, l1]; omega) ?_
  rw [line_tie]
  exact p
end K13
/-! dicts by texts: displayed, looked up -/
namespace DL
open PySem PySem.Spec PyProof.Rows L2 LamX
variable [TabT] [CacT]
/-- what is new and known to no slot has changed -/
theorem Sg.keepP {C : Fx} {G H G' H' : Hp} {σ : L2.St} {ρ : List Slot} {p : Addr} (S : Sg C G H σ ρ) (e : Ext G H G' H' (fun b => b = p)) (nf : ¬ Fp σ ρ p) (h0 : C.H0 p = none) : Sg C G' H' σ ρ := by
  refine ⟨S.ext.trans e fun x o hx hf => ?_, S.len, fun i s hs => ?_, S.dis⟩
  · subst hf
    rw [h0] at hx
    cases hx
  obtain ⟨o, ho, q⟩ := S.sl i s hs
  refine ⟨o, ho, q.move e.gg fun a u hm h nt g => ?_⟩
  have ne : a ≠ p := fun z => nf (z ▸ ⟨i, _, _, ho, hs, hm⟩)
  exact ⟨e.fr a _ h nt.1 ne (Cac.no g), e.nf a _ h nt g ne⟩
section
variable {C : Fx} {ρ : List Slot} {P : PD} {t1 t2 t3 te ty : TE}
/-- {a: .., b: .., c: ..} -/
theorem ev_disp3 {k1 k2 k3 : Str} (hm : ∀ v1 v2 v3 : V, mergeK [] [(.inr k1, v1), (.inr k2, v2), (.inr k3, v3)] = [((.inr k1 : Key), v1), (.inr k2, v2), (.inr k3, v3)])
    (h : Ev C t1 ρ fun d1 ρ1 => Ev C t2 ρ1 fun d2 ρ2 => Ev C t3 ρ2 fun d3 ρ3 => P (.dic [(.inr k1, d1), (.inr k2, d2), (.inr k3, d3)]) ρ3) : Ev C (tDisp [(tC (.str k1), t1), (tC (.str k2), t2), (tC (.str k3), t3)]) ρ P := fun σ G H Q S q p hp => by
  have e0 : Ext G H G (upd H p (.dK [])) (fun _ => False) := Ext.newM S.le hp _
  have s0 := S.keep e0
  show t1 σ _ _
  refine h σ G _ _ s0.st fun v1 d1 G1 H1 ρ1 s1 p1 i1 => ?_
  show t2 σ _ _
  refine p1 σ G1 H1 _ s1.st fun v2 d2 G2 H2 ρ2 s2 p2 i2 => ?_
  show t3 σ _ _
  refine p2 σ G2 H2 _ s2.st fun v3 d3 G3 H3 ρ3 s3 p3 i3 => ?_
  have s := (s1.trans s2).trans s3
  have gp : G p = none := S.le.free hp
  have nf0 : ¬ Fp σ ρ p := fun z => by
    obtain ⟨_, ⟨xs, e⟩, _⟩ := S.fp_some z
    rw [hp] at e
    cases e
  have hp3 : H3 p = some (.dK []) := s.ext.fr p _ upd_same (fun _ z => nomatch z) nf0 (Cac.no gp)
  have gp3 : G3 p = none := s.ext.nf p _ upd_same ⟨(fun _ z => nomatch z), (fun _ z => nomatch z)⟩ gp nf0
  have nf3 : ¬ Fp σ ρ3 p := fun z => nf0 (s.sub p z)
  refine ⟨hp3, [(.inr k1, v1), (.inr k2, v2), (.inr k3, v3)], rfl, Nat.le_of_ble_eq_true rfl, ?_⟩
  rw [hm]
  have sg : Same G3 (upd G3 p (.dK [((.inr k1 : Key), v1), (.inr k2, v2), (.inr k3, v3)])) := fun b u e1 => by
    rw [upd_ne (ne_of_none e1 gp3)]
    exact e1
  have e4 : Ext G3 H3 (upd G3 p (.dK [((.inr k1 : Key), v1), (.inr k2, v2), (.inr k3, v3)])) (upd H3 p (.dK [((.inr k1 : Key), v1), (.inr k2, v2), (.inr k3, v3)])) (fun b => b = p) := by
    refine ⟨sg, fun b u e1 => ?_, fun b o e1 t nb _ => ?_, fun b o e1 _ q1 nb => ?_, fun b o e1 => ?_, fun t => tabs_upd hp3 (fun _ z => nomatch z) (fun _ z => nomatch z) t, fun g => g.upd fun _ z => nomatch z⟩
    · by_cases hb : b = p
      · subst hb
        rw [upd_same] at e1 ⊢
        exact Ky.of e1
      · rw [upd_ne hb] at e1 ⊢
        exact (s3.st.le b u e1).mono sg
    · rw [upd_ne nb]
      exact e1
    · rw [upd_ne nb]
      exact q1
    · by_cases hb : b = p
      · subst hb
        exact ⟨_, upd_same⟩
      · exact ⟨o, by rw [upd_ne hb]; exact e1⟩
  have st4 := s3.st.keepP e4 nf3 (h0_none S hp)
  have ex : Ext G H (upd G3 p (.dK [((.inr k1 : Key), v1), (.inr k2, v2), (.inr k3, v3)])) (upd H3 p (.dK [((.inr k1 : Key), v1), (.inr k2, v2), (.inr k3, v3)])) (Fp σ ρ) :=
    ((e0.mono fun _ z => z.elim).trans s.ext fun _ _ _ z => z).trans e4 fun x o hx z => by
      subst z
      rw [hp] at hx
      cases hx
  refine q (.ref p) _ _ _ ρ3 ⟨ex, st4, s.sub⟩ p3 (.dic upd_same (.cons ?_ (.cons ?_ (.cons (i3.mono sg) .nil))))
  · exact ((i1.mono s2.ext.gg).mono s3.ext.gg).mono sg
  · exact (i2.mono s3.ext.gg).mono sg
/-- d[a text] -/
def valD (kvs : List (Key × D)) (k : Str) : Option D := (kvs.find? fun kv => decide (kv.1 = .inr k)).map (·.2)
theorem IsK.val {K : PySem.W.Frag} {G : Hp} {k : Str} {x : D} : ∀ {vs : List (Key × V)} {ds : List (Key × D)}, IsK K G vs ds → valD ds k = some x → ∃ v, valV vs (.inr k) = some v ∧ Is K G v x
  | _, _, .nil, e => by simp [valD] at e
  | _, _, @IsK.cons _ _ k' v vs d ds h t, e => by
    unfold valD at e
    unfold valV
    rw [List.find?_cons] at e ⊢
    by_cases q : k' = .inr k
    · rw [decide_eq_true q] at e ⊢
      cases e
      exact ⟨v, rfl, h⟩
    · rw [decide_eq_false q] at e ⊢
      exact IsK.val t e
theorem ev_dget (h : Ev C te ρ fun d ρ1 => Ev C ty ρ1 fun y ρ2 => ∃ kvs k x, d = .dic kvs ∧ y = .str k ∧ valD kvs k = some x ∧ P x ρ2) : Ev C (tDGet te ty) ρ P := fun σ G H Q S q => by
  refine h σ G H _ S fun v d G1 H1 ρ1 s1 p1 i1 => ?_
  refine p1 σ G1 H1 _ s1.st fun u y G2 H2 ρ2 s2 p2 i2 => ?_
  obtain ⟨kvs, k, x, rfl, rfl, l, p2⟩ := p2
  cases i2
  cases i1.mono s2.ext.gg with
  | dic h1 h2 =>
    obtain ⟨v, e1, e2⟩ := h2.val l
    exact ⟨_, v, rfl, .inl ⟨_, .inr k, .inl (s2.st.le _ _ h1), rfl, e1.symm⟩, q v x G2 H2 ρ2 (s1.trans s2) p2 e2⟩
end
end DL
/-! x, y = (data, a new list), by a tuple -/
namespace DL
open PySem PySem.Spec PyProof.Rows L2 LamX
variable [TabT] [CacT]
theorem xs_asgDN {C : Fx} {ρ : List Slot} {ta tb : TE} {i j : Nat} {po : Po} {K' : PySem.W.Frag} (h : Ev C ta ρ fun x ρ1 => EvN C tb ρ1 fun ys ρ2 => po.nx ((ρ2.set i (.dat x)).set j (.own ys))) (hK : K' = C.K := by rfl) : Xs C (tAsg (tTup (tCons ta (tCons tb tNil))) (gTup K' 2 (gCons (gName i) (gCons (gName j) gNil)))) ρ po := fun σ G H Dn S hn hr hb hc => by
  subst hK
  refine h σ G H _ S fun v x G1 H1 ρ1 s1 p1 k1 => p1 σ G1 H1 _ s1.st fun q us ys G2 H2 ρ2 s2 p2 n g hq k2 => ?_
  refine ⟨Nat.le_of_ble_eq_true rfl, fun p hp => ?_⟩
  have e3 : Ext G2 H2 G2 (upd H2 p (.tup [v, .ref q])) (fun _ => False) := Ext.newM s2.st.le hp _
  have s3 := s2.st.keep e3
  have hqp : q ≠ p := fun z => by
    rw [z, hp] at hq
    cases hq
  have hq3 : (upd H2 p (.tup [v, .ref q])) q = some (.lst us) := by
    rw [upd_ne hqp]
    exact hq
  refine ⟨p, [v, .ref q], rfl, .inl (.inl upd_same), rfl, v, [.ref q], rfl, .ref q, [], rfl, rfl, ?_⟩
  refine hn _ G2 _ _ ((s3.st.setD (k1.mono s2.ext.gg)).setO g hq3 k2 (h0_none s1.st n) fun l hl m => ?_) (s1.ext.gg.trans s2.ext.gg) p2
  exact nomt s1.st s2 n (mt_setD s2.st.len m)
end DL
open PySem PySem.Spec PyProof.Rows L2 DL LamX
namespace K13
variable [TabT] [CacT]

theorem nd_len {α : Type} [DecidableEq α] : ∀ {xs ys : List α}, xs.Nodup → (∀ x ∈ xs, x ∈ ys) → xs.length ≤ ys.length
  | [], ys, _, _ => by simp
  | x :: xs, ys, nd, h => by
    have nd2 := List.nodup_cons.mp nd
    have hx := h x List.mem_cons_self
    have ih := nd_len (xs := xs) (ys := ys.erase x) nd2.2 fun y hy => (List.mem_erase_of_ne (fun e => nd2.1 (by rw [← e]; exact hy))).mpr (h y (List.mem_cons_of_mem _ hy))
    rw [List.length_erase_of_mem hx] at ih
    have : 0 < ys.length := List.length_pos_of_mem hx
    rw [List.length_cons]
    omega
theorem seq_mem {ps ws : List Str} {x : Str} : x ∈ inSeq ps ws ↔ x ∈ ps ∧ x ∈ ws := by
  unfold K13.inSeq
  rw [List.mem_filter]
  simp
theorem seq_seq (ps ws : List Str) : inSeq ps (inSeq ps ws) = inSeq ps ws := by
  unfold K13.inSeq
  refine List.filter_congr fun x hx => ?_
  rw [decide_eq_decide]
  rw [List.mem_filter]
  simp [hx]
theorem seq_two {ps ws : List Str} (nd : ws.Nodup) (h : ∀ x ∈ ws, x ∈ ps) : ws.length ≤ (inSeq ps ws).length := nd_len nd fun x hx => seq_mem.mpr ⟨h x hx, hx⟩
theorem pair_mem : ∀ {xs : List Str} {i j : Nat} {x y : Str}, i < j → xs[i]? = some x → xs[j]? = some y → [x, y] ∈ pairsL xs
  | [], i, j, x, y, _, h, _ => by simp at h
  | a :: xs, 0, j + 1, x, y, _, h, h2 => by
    cases h
    refine List.mem_append.mpr (.inl (List.mem_map.mpr ⟨y, List.mem_of_getElem? (i := j) (by simpa using h2), rfl⟩))
  | a :: xs, i + 1, j + 1, x, y, hl, h, h2 => List.mem_append.mpr (.inr (pair_mem (i := i) (j := j) (by omega) (by simpa using h) (by simpa using h2)))
theorem rws_inj : ∀ {xs ys : List (List Str)}, rws xs = rws ys → xs = ys
  | [], [], _ => rfl
  | [], _ :: _, h => by cases h
  | _ :: _, [], h => by cases h
  | x :: xs, y :: ys, h => by
    have h : D.tup (txs x) :: rws xs = D.tup (txs y) :: rws ys := h
    injection h with h1 h2
    injection h1 with h1
    rw [txs_inj h1, rws_inj h2]
theorem rws_of {pl : List (List Str)} : ∀ {ds : List D}, (∀ d ∈ ds, d ∈ rws pl) → ∃ ts, ds = rws ts ∧ ∀ x ∈ ts, x ∈ pl
  | [], _ => ⟨[], rfl, by simp⟩
  | d :: ds, h => by
    obtain ⟨ns, rfl, hn⟩ := rws_of (pl := pl) (ds := ds) fun e he => h e (List.mem_cons_of_mem _ he)
    obtain ⟨x, hx, rfl⟩ := List.mem_map.mp (h d List.mem_cons_self)
    exact ⟨x :: ns, rfl, fun y hy => by
      rcases List.mem_cons.mp hy with rfl | hy
      · exact hx
      · exact hn y hy⟩
theorem nodup_rws {xs : List (List Str)} (h : (rws xs).Nodup) : xs.Nodup := by
  unfold rws at h
  unfold List.Nodup at h ⊢
  rw [List.pairwise_map] at h
  exact h.imp fun h e => h (by rw [e])
theorem rws_nodup {xs : List (List Str)} (h : xs.Nodup) : (rws xs).Nodup := by
  unfold rws
  unfold List.Nodup at h ⊢
  rw [List.pairwise_map]
  exact h.imp fun h e => h (txs_inj (by injection e))
theorem rws_drawn {pl : List (List Str)} {ys zs : List D} {m : Nat} (np : pl.Nodup) (h : (ys ++ zs).Perm (rws pl)) (hl : ys.length = m) : ∃ us, ys = rws us ∧ us.Nodup ∧ us.length = m ∧ ∀ x ∈ us, x ∈ pl := by
  obtain ⟨us, rfl, hn⟩ := rws_of (pl := pl) (ds := ys) fun d hd => h.subset (List.mem_append.mpr (.inl hd))
  have nd : (rws us ++ zs).Nodup := h.nodup_iff.mpr (rws_nodup np)
  exact ⟨us, rfl, nodup_rws (List.nodup_append.mp nd).1, by rw [← hl]; simp [rws], hn⟩
theorem rws_len (ts : List (List Str)) : (rws ts).length = ts.length := by simp [rws]
theorem cut_rws {ts : List (List Str)} {m : Nat} (h : m ≤ ts.length) : DL.cutD (rws ts) none (some (m : Int)) = rws (ts.take m) := by
  rw [cut_to (by rw [rws_len]; exact h)]
  unfold rws
  rw [List.map_take]
theorem rws_get {ts : List (List Str)} {i : Nat} {d : D} (h : (rws ts)[i]? = some d) : ∃ t, ts[i]? = some t ∧ d = .tup (txs t) := by
  unfold rws at h
  rw [List.getElem?_map] at h
  cases q : ts[i]? with
  | none => simp [q] at h
  | some t =>
    rw [q] at h
    exact ⟨t, rfl, (Option.some.inj h).symm⟩
structure Lore (few most : Nat) (ps ws : List Str) (ts : List (List Str)) : Prop where
  nd : ps.Nodup
  sub : ∀ x ∈ ps, x ∈ pool
  lf : few ≤ ps.length
  lm : ps.length ≤ most
  wq : ws = inSeq ps ws
  w2 : 2 ≤ ws.length
  tn : ts.Nodup
  t0 : ts ≠ []
  tl : ts.length ≤ 14
  ti : ∀ t ∈ ts, t ∈ pairsL ps
section
variable {K K' : PySem.W.Frag} {P : D → Prop}
theorem notIn_rwsL {y : List Str} {xs : List (List Str)} (h : ∀ x ∈ xs, ∀ y ∈ x, PyData.strOk y = true) (h2 : ∀ x ∈ y, PyData.strOk x = true) (hK : K' = K) (p : P (.bl (!decide (y ∈ xs)))) : RD K (rNotInA K') (.tup (txs y)) (.lst (rws xs)) P := fun G H v u Q le a b q => by
  subst hK
  refine .inr (.inl ⟨.tuple (y.map .str), xs.map fun x => .tuple (x.map .str), a.dp le (by simp [D.py, pys_txs]), b.dp le (by simp [D.py, pys_rws]), row_shaped h2, rws_shapedL h, q _ _ G H (Ext.refl le) (Same.refl _) ?_ (.bl _)⟩)
  rw [rws_any]
  exact p
/-- != of a list of rows and [] -/
theorem ne_rws {xs : List (List Str)} (h : ∀ x ∈ xs, ∀ y ∈ x, PyData.strOk y = true) (hK : K' = K) (p : P (.bl (!xs.isEmpty))) : RD K (rNeA K') (.lst (rws xs)) (.lst []) P := by
  refine rd_k (r := rNeA) hK (rd_or1 (rd_ne (p := .list (xs.map fun x => .tuple (x.map .str))) (r := .list []) (by simp [D.py, pys_rws]) rfl (rws_shapedL h) rfl ?_))
  have e : PyData.eqv (.list (xs.map fun x => .tuple (x.map .str))) (.list []) = xs.isEmpty := by
    cases xs <;> rfl
  rw [e]
  exact p
end
end K13
open LamX
namespace K13
variable [TabT] [CacT]
abbrev s_l_made : Stmt := topS 41
abbrev n_l_made : List Str := ["_law_places", "_law_watchers", "_law_ties", "_law_one"]
abbrev p_l_made : List Str := ["_law_places", "_law_watchers", "_law_ties"]
theorem sc_l_made : FnScope n_l_made p_l_made (defScope s_l_made) := ⟨rfl, rfl, rfl, by decide +kernel, rfl, by decide +kernel, by decide +kernel⟩

section
variable {P : Program} {w : World} {K : PySem.W.Frag} {mg : Str → Option Value} {base : Heap}
def loreD (ps ws : List Str) (ts : List (List Str)) : D := .dic [(.inr "places", .lst (txs ps)), (.inr "watchers", .lst (txs ws)), (.inr "ties", .lst (rws ts))]
def fs_made : FS := fun ds R _ => ∃ ps ws ts, (ds = [.lst (txs ps), .lst (txs ws), .lst (rws ts)]) ∧ ps.length ≤ 1000 ∧ ts.length ≤ 1000 ∧ R (loreD ps (inSeq ps ws) ts)
theorem ok_made {f : Addr} {fd : FuncData} (B : Bt mg) (F : Fun K "_law_made" "_law_made" s_l_made f fd) : FnG P w K mg base CX0 1 f fd p_l_made (spD K fs_made) := by
  refine okG F sc_l_made (spD_len fun ds R Z ⟨ps, ws, ts, e, _⟩ => by rw [e]; rfl) (fun cdv A outer s H vs Q E gd hr ⟨G, ds, R, Z, le, kd, hf, hq, hz⟩ => ?_)
  have hu1 : (cxOf CX0 P w K mg base n_l_made "_law_made" (defScope s_l_made) f cdv A outer s H E).nox.A.units + 65 < cLine := by
    have := hr.un
    show (A.deeper (envOfC "_law_made" (defScope s_l_made) s.heap.objs.size f cdv)).units + 65 < cLine
    omega
  obtain ⟨ps, ws, ts, rfl, hl, hl2, hf⟩ := hf
  refine ⟨_, PSs.nox ((pss_one (ps_ret (pe_disp (pps_cons pe_str (pe_callTy (call_list_of) rfl B.b_list bt_list (pa_cons (pv 0) pa_nil)) (pps_cons pe_str (pe_lc (own := [("_law_one", 3)]) (g := (gName 3)) rfl sc_l_made.nd (pi_list (pv 0)) (blkOk_by (N := n_l_made) (sc := defScope s_l_made) (by decide +kernel)) (fun _ _ _ _ _ => (pg_name (i := 3) sc_l_made.nd rfl (by first | exact Or.inl rfl | exact Or.inr rfl))) (fun _ _ _ _ _ => pts_one (pt_cmpR (kIn (K := K) rfl hu1) (pv 3) (pv 1) rfl)) (fun _ _ _ _ _ => (pv 3))) (pps_cons pe_str (pe_callTy (call_list_of) rfl B.b_list bt_list (pa_cons (pv 2) pa_nil)) pps_nil))) rfl rfl (by simp) (by decide))))), fin_D le kd hq ?_⟩
  refine xs_ret (ev_disp3 (fun _ _ _ => rfl) ?_)
  refine EvN.ev (en_list ?_)
  repeat walk_at "ar"
  refine ⟨_, .inl rfl, ?_⟩
  refine EvN.ev (en_lc (is := [3]) (fun _ i acc ρ => acc = txs ((ps.take i).filter fun x => decide (x ∈ ws)) ∧ ρ = [.dat (.lst (txs ps)), .dat (.lst (txs ws)), .dat (.lst (rws ts)), .un]) (by decide) (ei_list (ev_var rfl ?_)))
  refine ⟨_, rfl, by rw [txs_len]; omega, ⟨rfl, rfl⟩, fun i d acc ρ hd hI => ?_, fun acc ρ hl2 hI => ?_⟩
  · obtain ⟨rfl, e⟩ := hI
    rw [e]
    obtain ⟨x, hx, rfl⟩ := txs_get hd
    refine eg_name ?_
    repeat walk_at "ar"
    refine in_txsL rfl ?_
    refine ⟨_, rfl, fun h => ?_, fun h => ?_⟩
    · repeat walk_at "ar"
      refine ⟨?_, rfl⟩
      rw [filter_take hx, if_pos h]
      simp [txs]
    · refine ⟨?_, rfl⟩
      rw [filter_take hx, if_neg (by rw [h]; simp)]
      simp
  · obtain ⟨rfl, e⟩ := hI
    rw [e, txs_len, List.take_length]
    refine EvN.ev (en_list ?_)
    repeat walk_at "ar"
    exact ⟨_, .inl rfl, hf⟩
end
abbrev s_l_lore : Stmt := topS 42
abbrev n_l_lore : List Str := ["_law_pot_here", "_law_few", "_law_most", "_law_ties", "_law_places", "_law_pairs_here", "_law_found", "_law_at", "_law_other", "_law_rest", "_law_room", "_law_watchers", "_law_pair"]
abbrev p_l_lore : List Str := ["_law_pot_here", "_law_few", "_law_most", "_law_ties"]
theorem sc_l_lore : FnScope n_l_lore p_l_lore (defScope s_l_lore) := ⟨rfl, rfl, rfl, by decide +kernel, rfl, by decide +kernel, by decide +kernel⟩

section
variable {P : Program} {w : World} {K : PySem.W.Frag} {mg : Str → Option Value} {base : Heap}
def fp_lore : FP := fun k ds R _ => ∃ few most tm : Nat, ds = [.int (few : Int), .int (most : Int), .int (tm : Int)] ∧ 3 ≤ few ∧ few ≤ most ∧ most ≤ 8 ∧ tm ≤ 100 ∧ k + 1000 < 2 ^ 40 ∧ ∀ ps ws ts k', Lore few most ps ws ts → k' ≤ k + 200 → R (loreD ps ws ts) k'
theorem ok_lore {f : Addr} {fd : FuncData} (B : Bt mg) (c_l_take : Cal P w K mg base CX0 1 "_law_take" p_l_take [] (spP K fp_take)) (c_l_of : Cal P w K mg base CX0 2 "_law_of" p_l_of [] (spP K fp_of)) (c_l_some : Cal P w K mg base CX0 2 "_law_some" p_l_some [] (spP K fp_some)) (c_l_names : Cal P w K mg base CX0 3 "_law_names" p_l_names [] (spP K fp_names)) (c_l_pairs : Cal P w K mg base CX0 1 "_law_pairs" p_l_pairs [] (spD K fs_pairs)) (c_l_made : Cal P w K mg base CX0 1 "_law_made" p_l_made [] (spD K fs_made))
    (F : Fun K "_law_lore" "_law_lore" s_l_lore f fd) : FnG P w K mg base CX0 4 f fd p_l_lore (spP K fp_lore) := by
  refine okG F sc_l_lore (spP_len fun k ds R Z ⟨_, _, _, e, _⟩ => by rw [e]; rfl) (fun cdv A outer s H vs Q E gd hr ⟨a, ws, G, ds, k, R, Z, ev, le, ga, pa, kd, hf, hq, hz⟩ => ?_)
  have hu : (cxOf CX0 P w K mg base n_l_lore "_law_lore" (defScope s_l_lore) f cdv A outer s H E).nox.A.units + 64 < cLine := hr.units
  have hu1 : (cxOf CX0 P w K mg base n_l_lore "_law_lore" (defScope s_l_lore) f cdv A outer s H E).nox.A.units + 65 < cLine := by
    have := hr.un
    show (A.deeper (envOfC "_law_lore" (defScope s_l_lore) s.heap.objs.size f cdv)).units + 65 < cLine
    omega
  obtain ⟨few, most, tm, rfl, f3, fm, m8, tm1, k1, hf⟩ := hf
  subst ev
  refine ⟨_, PSs.nox ((pss_cons (ps_set (i := 4) sc_l_lore.nd rfl (by first | exact Or.inl rfl | exact Or.inr rfl) (pe_cal c_l_names gd (hr.mono (by first | decide | omega)) pass0 (pa_cons (pv 0) (pa_cons (pe_op op_plus (pv 1) (pe_cal c_l_take gd (hr.mono (by first | decide | omega)) pass0 (pa_cons (pv 0) (pa_cons (pe_op op_plus (pe_op op_sub (pv 2) (pv 1)) pe_int) pa_nil)))) pa_nil))))
      (pss_cons (ps_asg (pe_tup (pa_cons (pe_cal c_l_pairs gd (hr.mono (by first | decide | omega)) pass0 (pa_cons (pv 4) pa_nil)) (pa_cons (pe_lst pa_nil) pa_nil))) (pg_tup rfl (pgs_cons (pg_name (i := 5) sc_l_lore.nd rfl (by first | exact Or.inl rfl | exact Or.inr rfl)) (pgs_cons (pg_name (i := 6) sc_l_lore.nd rfl (by first | exact Or.inl rfl | exact Or.inr rfl)) pgs_nil))))
      (pss_cons (ps_if (pt_cmpR op_gt (pe_cal c_l_take gd (hr.mono (by first | decide | omega)) pass0 (pa_cons (pv 0) (pa_cons pe_int pa_nil))) pe_int (nomark _))
      (pss_one (ps_for PassesOwn.never rfl (pi_enum rfl B.b_enumerate (pa_cons (pe_slice sl_cut (pv 4) (po_some pe_int) po_none) pa_nil)) (pg_tup rfl (pgs_cons (pg_name (i := 7) sc_l_lore.nd rfl (by first | exact Or.inl rfl | exact Or.inr rfl)) (pgs_cons (pg_name (i := 8) sc_l_lore.nd rfl (by first | exact Or.inl rfl | exact Or.inr rfl)) pgs_nil)))
      (pss_one (ps_expr (pe_bm PySem.F.plainAttrs_list PySem.F.slot_list_append PySem.F.type_list_append mt_append (pv 6) (pa_cons (pe_tup (pa_cons (pe_cal c_l_of gd (hr.mono (by first | decide | omega)) pass0 (pa_cons (pv 0) (pa_cons (pe_slice sl_cut (pv 4) po_none (po_some (pe_op op_plus (pv 7) pe_int))) pa_nil))) (pa_cons (pv 8) pa_nil))) pa_nil))))))
      pss_nil)
      (pss_cons (ps_setLc (i := 9) (own := [("_law_pair", 12)]) (g := (gName 12)) rfl sc_l_lore.nd rfl rfl (sw_true rfl rfl rfl (by decide +kernel)) (pi_list (pv 5)) (blkOk_by (N := n_l_lore) (sc := defScope s_l_lore) (by decide +kernel)) (fun _ _ _ _ _ => (pg_name (i := 12) sc_l_lore.nd rfl (by first | exact Or.inl rfl | exact Or.inr rfl))) (fun _ _ _ _ _ => pts_one (pt_cmpR (kNotIn (K := K) rfl hu1) (pv 12) (pv 6) rfl)) (fun _ _ _ _ _ => (pv 12)))
      (pss_cons (ps_set (i := 10) sc_l_lore.nd rfl (by first | exact Or.inl rfl | exact Or.inr rfl) (pe_callB (call_max2 rfl) rfl B.b_max bt_max (pa_cons pe_int (pa_cons (pe_op op_sub (pe_callB (call_min2 rfl) rfl B.b_min bt_min (pa_cons (pv 3) (pa_cons pe_int pa_nil))) (pe_callB ((CallR.or call_len_seq call_len_str)) rfl B.b_len bt_len (pa_cons (pv 6) pa_nil))) pa_nil))))
      (pss_cons (ps_set (i := 6) sc_l_lore.nd rfl (by first | exact Or.inl rfl | exact Or.inr rfl) (pe_op op_plus (pv 6) (pe_cal c_l_some gd (hr.mono (by first | decide | omega)) pass0 (pa_cons (pv 0) (pa_cons (pv 9) (pa_cons (pe_callB (call_min2 rfl) rfl B.b_min bt_min (pa_cons (pe_callB ((CallR.or call_len_seq call_len_str)) rfl B.b_len bt_len (pa_cons (pv 9) pa_nil)) (pa_cons (pe_cal c_l_take gd (hr.mono (by first | decide | omega)) pass0 (pa_cons (pv 0) (pa_cons (pe_op op_plus (pv 10) pe_int) pa_nil))) pa_nil))) pa_nil))))))
      (pss_cons (ps_set (i := 6) sc_l_lore.nd rfl (by first | exact Or.inl rfl | exact Or.inr rfl) (pe_ifExp (pt_cmpR (op_neA hu) (pv 6) (pe_lst pa_nil) (nomark _)) (pv 6) (pe_slice sl_cut (pv 5) po_none (po_some pe_int))))
      (pss_cons (ps_set (i := 11) sc_l_lore.nd rfl (by first | exact Or.inl rfl | exact Or.inr rfl) (pe_cal c_l_some gd (hr.mono (by first | decide | omega)) pass0 (pa_cons (pv 0) (pa_cons (pv 4) (pa_cons (pe_op op_plus pe_int (pe_cal c_l_take gd (hr.mono (by first | decide | omega)) pass0 (pa_cons (pv 0) (pa_cons (pe_op op_sub (pe_callB ((CallR.or call_len_seq call_len_str)) rfl B.b_len bt_len (pa_cons (pv 4) pa_nil)) pe_int) pa_nil)))) pa_nil)))))
      (pss_one (ps_ret (pe_cal c_l_made gd (hr.mono (by first | decide | omega)) pass0 (pa_cons (pv 4) (pa_cons (pv 11) (pa_cons (pe_cal c_l_some gd (hr.mono (by first | decide | omega)) pass0 (pa_cons (pv 0) (pa_cons (pv 6) (pa_cons (pe_callB ((CallR.or call_len_seq call_len_str)) rfl B.b_len bt_len (pa_cons (pv 6) pa_nil)) pa_nil)))) pa_nil))))))))))))))), fin_P le ga pa kd hq ?_⟩
  refine xs_mid (fun ρ => ∃ ps m, Drawn ps m ∧ few ≤ m ∧ m ≤ most ∧ ρ = [.pot a (k + 1 + m), .dat (.int (few : Int)), .dat (.int (most : Int)), .dat (.int (tm : Int)), .dat (.lst (txs ps)), .un, .un, .un, .un, .un, .un, .un, .un]) ?_ fun ρ ⟨ps, m, dr, fm1, mm, e⟩ => ?_
  · refine xs_set (ev_callP (Z := fun _ _ => False) Flies.none (fun _ => .nil) (by exact ⟨_, _, rfl⟩) ?_)
    refine ea_cons (ev_op (ev_var rfl (ev_callP (Z := fun _ _ => False) Flies.none (fun _ => .nil) (by exact ⟨_, _, rfl⟩) ?_)))
    repeat walk_at "ar"
    refine ⟨_, _, rfl, _, rfl, by omega, by omega, by omega, fun c c0 c1 => ?_⟩
    repeat walk_at "ar"
    refine ⟨_, _, rfl, few + c.toNat, by rw [show ((few + c.toNat : Nat) : Int) = (few : Int) + c by omega]; rfl, by omega, by omega, fun ns h => ?_⟩
    exact ⟨ns, _, h, by omega, by omega, rfl⟩
  subst e
  have l9 := dr.len
  have okp : ∀ x ∈ ps, PyData.strOk x = true := fun x hx => (pool_wd x (dr.sub x hx)).ok
  have okr : ∀ t ∈ pairsL ps, ∀ y ∈ t, PyData.strOk y = true := fun t ht y hy => by
    obtain ⟨u, v, rfl, hu, hv⟩ := pairs_in ht
    rcases List.mem_cons.mp hy with rfl | hy
    · exact okp _ hu
    · rw [List.mem_singleton.mp hy]
      exact okp _ hv
  refine xs_seq (xs_asgDN (ev_call (Z := fun _ _ => False) Flies.none (fun _ => .nil) (ea_cons (ev_var rfl (ea_nil ⟨ps, rfl, by omega, en_lst (ea_nil ⟨by simp, ?_⟩)⟩)))))
  -- a tree, or none
  refine xs_mid (fun ρ => ∃ (acc : List (List Str)) (kk : Nat) (u7 u8 : DL.Slot), kk ≤ k + 20 ∧ acc.Nodup ∧ (∀ t ∈ acc, t ∈ pairsL ps) ∧ acc.length ≤ 8 ∧ ρ = [.pot a kk, .dat (.int (few : Int)), .dat (.int (most : Int)), .dat (.int (tm : Int)), .dat (.lst (txs ps)), .dat (.lst (rws (pairsL ps))), .own (rws acc), u7, u8, .un, .un, .un, .un]) ?_ fun ρ ⟨acc, kk, u7, u8, hkk, an, ai, al, e⟩ => ?_
  · refine xs_if (et_test (ev_op (ev_callP (Z := fun _ _ => False) Flies.none (fun _ => .nil) (by exact ⟨_, _, rfl⟩) ?_)))
    repeat walk_at "ar"
    refine ⟨_, _, rfl, _, rfl, by decide, by decide, by omega, fun c c0 c1 => ?_⟩
    repeat walk_at "ar"
    refine ⟨_, rfl, fun _ => ?_, fun _ => xs_next ⟨[], _, .un, .un, by omega, by simp, by simp, by simp, rfl⟩⟩
    refine xs_for (is := [7, 8]) (fun _ i ρ => ∃ (acc : List (List Str)) (kk : Nat) (u7 u8 : DL.Slot), kk ≤ k + 1 + m + 1 + i ∧ i + 1 ≤ ps.length ∧ acc.Nodup ∧ acc.length = i ∧ (∀ t ∈ acc, t ∈ pairsL ps ∧ ∃ x y, t = [x, y] ∧ y ∈ (ps.drop 1).take i) ∧ ρ = [.pot a kk, .dat (.int (few : Int)), .dat (.int (most : Int)), .dat (.int (tm : Int)), .dat (.lst (txs ps)), .dat (.lst (rws (pairsL ps))), .own (rws acc), u7, u8, .un, .un, .un, .un]) (ei_enum (ea_cons (ev_cut (ev_var rfl (eo_some (ev_int ⟨1, rfl, eo_none (.inl ⟨_, rfl, ?_⟩)⟩))))))
    have edr : DL.cutD (txs ps) (some 1) none = txs (ps.drop 1) := cut_txs2 (m := 1) (by omega)
    rw [edr]
    refine ea_nil ⟨_, rfl, ⟨[], _, .un, .un, by omega, by omega, by simp, rfl, by simp, rfl⟩, fun i d ρ hd hI => ?_, fun ρ hI => ?_⟩
    · obtain ⟨acc, kk, u7, u8, hkk, hi, an, al, ai, rfl⟩ := hI
      obtain ⟨d2, hd2, rfl⟩ := pairs_get hd
      obtain ⟨y, hy, rfl⟩ := txs_get hd2
      have hil : i < (ps.drop 1).length := (List.getElem?_eq_some_iff.mp hy).1
      rw [List.length_drop] at hil
      refine eg_tup rfl (egs_cons (is := [7]) (js := [8]) (eg_name (egs_cons (is := [8]) (js := []) (eg_name (egs_nil ?_)))))
      refine xs_drop (ev_append rfl ⟨_, rfl⟩ (ev_tup (ea_cons (ev_callP (Z := fun _ _ => False) Flies.none (fun _ => .nil) (by exact ⟨_, _, rfl⟩) ?_))))
      refine ea_cons (ev_cut (ev_var rfl (eo_none (eo_some ?_))))
      repeat walk_at "ar"
      refine ⟨_, rfl, .inl ⟨_, rfl, ?_⟩⟩
      rw [show (((0 + i : Nat) : Int) + 1) = ((i + 1 : Nat) : Int) by omega, cut_txs (by omega)]
      refine ea_nil ⟨_, _, rfl, txs (ps.take (i + 1)), rfl, by rw [txs_len, List.length_take]; omega, by rw [txs_len, List.length_take]; omega, by omega, fun x hx => ?_⟩
      obtain ⟨x, hx2, rfl⟩ := List.mem_map.mp hx
      obtain ⟨j, hj⟩ := List.getElem?_of_mem hx2
      have hji : j < i + 1 := by
        have := (List.getElem?_eq_some_iff.mp hj).1
        rw [List.length_take] at this
        omega
      have hj2 : ps[j]? = some x := by
        rw [List.getElem?_take] at hj
        rw [if_pos hji] at hj
        exact hj
      have hy2 : ps[i + 1]? = some y := by
        rw [List.getElem?_drop] at hy
        rw [Nat.add_comm]
        exact hy
      refine ea_cons (ev_var rfl (ea_nil ⟨Nat.le_of_ble_eq_true rfl, rws acc, rfl, by rw [show (rws acc).length = acc.length by simp [rws]]; omega, ?_⟩))
      refine ⟨acc ++ [[x, y]], kk + 1, .dat (.int ((0 + i : Nat) : Int)), .dat (.str y), by omega, by omega, ?_, by rw [List.length_append, al]; rfl, fun t ht => ?_, ?_⟩
      · refine List.nodup_append.mpr ⟨an, by simp, fun t ht u hu e => ?_⟩
        rw [List.mem_singleton.mp hu] at e
        subst e
        obtain ⟨_, x2, y2, e2, hm2⟩ := ai _ ht
        have ey : y = y2 := by
          injection e2 with _ e2
          injection e2
        subst ey
        obtain ⟨j2, hj3⟩ := List.getElem?_of_mem hm2
        have l2 : j2 < i := by
          have := (List.getElem?_eq_some_iff.mp hj3).1
          rw [List.length_take] at this
          omega
        rw [List.getElem?_take, if_pos l2, List.getElem?_drop] at hj3
        have := (List.getElem?_inj (i := 1 + j2) (j := i + 1) (by omega) dr.nd).mp (by rw [hj3, hy2])
        omega
      · rcases List.mem_append.mp ht with ht | ht
        · obtain ⟨h1, x2, y2, e2, hm2⟩ := ai t ht
          refine ⟨h1, x2, y2, e2, ?_⟩
          rw [List.take_add_one]
          exact List.mem_append.mpr (.inl hm2)
        · rw [List.mem_singleton.mp ht]
          refine ⟨pair_mem (i := j) (j := i + 1) (by omega) hj2 hy2, x, y, rfl, ?_⟩
          rw [List.take_add_one, hy]
          simp
      · rw [show rws (acc ++ [[x, y]]) = rws acc ++ [.tup (txs [x, y])] by simp [rws]]
        rfl
    · obtain ⟨acc, kk, u7, u8, hkk, hi, an, al, ai, rfl⟩ := hI
      rw [DL.pairs_len, txs_len, List.length_drop] at hkk al
      exact ⟨acc, kk, u7, u8, by omega, an, fun t ht => (ai t ht).1, by omega, rfl⟩
  subst e
  have pnd := pairs_nodup dr.nd
  have pl28 : (pairsL ps).length ≤ 64 := by
    have h1 := pairsL_len ps
    have h2 : ps.length * ps.length ≤ 8 * 8 := Nat.mul_le_mul (by omega) (by omega)
    omega
  have oka : ∀ t ∈ acc, ∀ y ∈ t, PyData.strOk y = true := fun t ht => okr t (ai t ht)
  refine xs_freeze (i := 6) rfl ?_
  obtain ⟨rest, erest⟩ : ∃ rest, rest = (pairsL ps).filter fun t => !decide (t ∈ acc) := ⟨_, rfl⟩
  refine xs_mid (fun ρ => ρ = [.pot a kk, .dat (.int (few : Int)), .dat (.int (most : Int)), .dat (.int (tm : Int)), .dat (.lst (txs ps)), .dat (.lst (rws (pairsL ps))), .dat (.lst (rws acc)), u7, u8, .dat (.lst (rws rest)), .un, .un, .un]) ?_ fun ρ e => ?_
  · refine xs_set (EvN.ev (en_lc (is := [12]) (fun _ i acc2 ρ => acc2 = rws (((pairsL ps).take i).filter fun t => !decide (t ∈ acc)) ∧ ρ = [.pot a kk, .dat (.int (few : Int)), .dat (.int (most : Int)), .dat (.int (tm : Int)), .dat (.lst (txs ps)), .dat (.lst (rws (pairsL ps))), .dat (.lst (rws acc)), u7, u8, .un, .un, .un, .un]) (by decide) (ei_list (ev_var rfl ?_))))
    refine ⟨_, rfl, by rw [rws_len]; omega, ⟨rfl, rfl⟩, fun i d acc2 ρ hd hI => ?_, fun acc2 ρ hl2 hI => ?_⟩
    · obtain ⟨rfl, e⟩ := hI
      rw [e]
      obtain ⟨t, ht, rfl⟩ := rws_get hd
      refine eg_name ?_
      repeat walk_at "ar"
      refine notIn_rwsL oka (okr t (List.mem_of_getElem? ht)) rfl ?_
      refine ⟨_, rfl, fun h => ?_, fun h => ?_⟩
      · repeat walk_at "ar"
        refine ⟨?_, rfl⟩
        rw [filter_take ht, if_pos h]
        simp [rws]
      · refine ⟨?_, rfl⟩
        rw [filter_take ht, if_neg (by rw [h]; simp)]
        simp
    · obtain ⟨rfl, e⟩ := hI
      rw [e, rws_len, List.take_length, erest]
      rfl
  subst e
  have rnd : rest.Nodup := by
    rw [erest]
    exact pnd.filter _
  have rin : ∀ t ∈ rest, t ∈ pairsL ps ∧ t ∉ acc := fun t ht => by
    rw [erest, List.mem_filter] at ht
    exact ⟨ht.1, by simpa using ht.2⟩
  have rl64 : rest.length ≤ 64 := by
    rw [erest]
    exact Nat.le_trans (List.length_filter_le _ _) pl28
  refine xs_mid (fun ρ => ∃ r : Nat, acc.length + r ≤ 14 ∧ ρ = [.pot a kk, .dat (.int (few : Int)), .dat (.int (most : Int)), .dat (.int (tm : Int)), .dat (.lst (txs ps)), .dat (.lst (rws (pairsL ps))), .dat (.lst (rws acc)), u7, u8, .dat (.lst (rws rest)), .dat (.int (r : Int)), .un, .un]) ?_ fun ρ ⟨r, hr14, e⟩ => ?_
  · refine xs_set ?_
    repeat walk_at "ar"
    rw [rws_len]
    obtain ⟨z, ez⟩ : ∃ z : Int, z = (if (if (14 : Int) < (tm : Int) then (14 : Int) else (tm : Int)) - (acc.length : Int) > 0 then (if (14 : Int) < (tm : Int) then (14 : Int) else (tm : Int)) - (acc.length : Int) else 0) := ⟨_, rfl⟩
    have hz0 : 0 ≤ z ∧ (acc.length : Int) + z ≤ 14 := by
      rw [ez]
      split <;> split <;> omega
    refine ⟨z.toNat, by omega, ?_⟩
    rw [← ez, show ((z.toNat : Nat) : Int) = z by omega]
    rfl
  subst e
  refine xs_mid (fun ρ => ∃ (f2 : List (List Str)) (k2 : Nat), k2 ≤ kk + 100 ∧ f2.Nodup ∧ f2.length ≤ 14 ∧ (∀ t ∈ f2, t ∈ pairsL ps) ∧ ρ = [.pot a k2, .dat (.int (few : Int)), .dat (.int (most : Int)), .dat (.int (tm : Int)), .dat (.lst (txs ps)), .dat (.lst (rws (pairsL ps))), .dat (.lst (rws f2)), u7, u8, .dat (.lst (rws rest)), .dat (.int (r : Int)), .un, .un]) ?_ fun ρ ⟨f2, k2, hk2, fn, fl, fi, e⟩ => ?_
  · refine xs_set (ev_op (ev_var rfl (ev_callP (Z := fun _ _ => False) Flies.none (fun _ => .nil) (by exact ⟨_, _, rfl⟩) ?_)))
    refine ea_cons (ev_var rfl (ea_cons (ev_cb (ea_cons (ev_cb (ea_cons (ev_var rfl (ea_nil ?_)))))))) 
    refine rc_k (r := rLenA) rfl (len_lst ?_)
    refine ea_cons (ev_callP (Z := fun _ _ => False) Flies.none (fun _ => .nil) (by exact ⟨_, _, rfl⟩) ?_)
    repeat walk_at "ar"
    refine ⟨_, _, rfl, _, rfl, by omega, by omega, by omega, fun c c0 c1 => ?_⟩
    repeat walk_at "ar"
    rw [rws_len]
    obtain ⟨z, ez⟩ : ∃ z : Int, z = (if c < (rest.length : Int) then c else (rest.length : Int)) := ⟨_, rfl⟩
    have hz0 : 0 ≤ z ∧ z ≤ r ∧ z ≤ rest.length := by
      rw [ez]
      split <;> omega
    rw [← ez]
    refine ⟨_, _, rfl, rws rest, z.toNat, .inl (by rw [show ((z.toNat : Nat) : Int) = z by omega]; rfl), by rw [rws_len]; omega, by rw [rws_len]; omega, by omega, fun ys zs hp hl => ?_⟩
    obtain ⟨us, rfl, un, ul, ui⟩ := rws_drawn rnd hp hl
    refine plus_lst (by rw [rws_len, rws_len]; omega) ?_
    refine ⟨acc ++ us, kk + 1 + z.toNat, ?_, ?_, ?_, fun t ht => ?_, ?_⟩
    rotate_left 4
    · rw [show rws (acc ++ us) = rws acc ++ rws us by simp [rws]]
      rfl
    · omega
    · exact List.nodup_append.mpr ⟨an, un, fun x hx y hy e => (rin y (ui y hy)).2 (e ▸ hx)⟩
    · rw [List.length_append]
      omega
    · rcases List.mem_append.mp ht with ht | ht
      · exact ai t ht
      · exact (rin t (ui t ht)).1
  subst e
  have okf : ∀ t ∈ f2, ∀ y ∈ t, PyData.strOk y = true := fun t ht => okr t (fi t ht)
  refine xs_mid (fun ρ => ∃ (f3 : List (List Str)), f3.Nodup ∧ f3 ≠ [] ∧ f3.length ≤ 14 ∧ (∀ t ∈ f3, t ∈ pairsL ps) ∧ ρ = [.pot a k2, .dat (.int (few : Int)), .dat (.int (most : Int)), .dat (.int (tm : Int)), .dat (.lst (txs ps)), .dat (.lst (rws (pairsL ps))), .dat (.lst (rws f3)), u7, u8, .dat (.lst (rws rest)), .dat (.int (r : Int)), .un, .un]) ?_ fun ρ ⟨f3, gn, g0, gl, gi, e⟩ => ?_
  · refine xs_set (ev_if (et_test (ev_op (ev_var rfl (ev_lst (ea_nil ⟨Nat.le_of_ble_eq_true rfl, ?_⟩))))))
    refine ne_rws okf rfl ?_
    refine ⟨_, rfl, fun h => ?_, fun h => ?_⟩
    · exact ev_var rfl ⟨f2, fn, (fun z => by rw [z] at h; cases h), fl, fi, rfl⟩
    · refine ev_cut (ev_var rfl (eo_none (eo_some (ev_int ⟨_, rfl, .inl ⟨_, rfl, ?_⟩⟩))))
      have p1 : 1 ≤ (pairsL ps).length := by
        have hx : ps[0]? = some ps[0] := List.getElem?_eq_getElem (by omega)
        have hy : ps[1]? = some ps[1] := List.getElem?_eq_getElem (by omega)
        exact List.length_pos_of_mem (pair_mem (i := 0) (j := 1) (by omega) hx hy)
      refine ⟨(pairsL ps).take 1, pnd.sublist (List.take_sublist 1 _), fun z => ?_, ?_, fun t ht => List.mem_of_mem_take ht, ?_⟩
      · have := congrArg List.length z
        rw [List.length_take, List.length_nil] at this
        omega
      · rw [List.length_take]
        omega
      · rw [← cut_rws p1]
        rfl
  subst e
  refine xs_mid (fun ρ => ∃ (wd : List Str) (k3 : Nat), k3 ≤ kk + 150 ∧ wd.Nodup ∧ 2 ≤ wd.length ∧ (∀ x ∈ wd, x ∈ ps) ∧ ρ = [.pot a k3, .dat (.int (few : Int)), .dat (.int (most : Int)), .dat (.int (tm : Int)), .dat (.lst (txs ps)), .dat (.lst (rws (pairsL ps))), .dat (.lst (rws f3)), u7, u8, .dat (.lst (rws rest)), .dat (.int (r : Int)), .dat (.lst (txs wd)), .un]) ?_ fun ρ ⟨wd, k3, hk3, wn, wl, wi, e⟩ => ?_
  · refine xs_set (ev_callP (Z := fun _ _ => False) Flies.none (fun _ => .nil) (by exact ⟨_, _, rfl⟩) ?_)
    refine ea_cons (ev_var rfl (ea_cons (ev_op (ev_int (ev_callP (Z := fun _ _ => False) Flies.none (fun _ => .nil) (by exact ⟨_, _, rfl⟩) ?_)))))
    repeat walk_at "ar"
    rw [txs_len]
    refine ⟨_, _, rfl, _, rfl, by omega, by omega, by omega, fun c c0 c1 => ?_⟩
    repeat walk_at "ar"
    refine ⟨_, _, rfl, txs ps, 2 + c.toNat, .inl (by rw [show ((2 + c.toNat : Nat) : Int) = 2 + c by omega]; rfl), by rw [txs_len]; omega, by rw [txs_len]; omega, by omega, fun ys zs hp hl => ?_⟩
    obtain ⟨us, rfl, un, ul, ui⟩ := drawn_of dr.nd hp hl
    exact ⟨us, _, by omega, un, by omega, ui, rfl⟩
  subst e
  refine xs_ret (ev_call (Z := fun _ _ => False) Flies.none (fun _ => .nil) (ea_cons (ev_var rfl (ea_cons (ev_var rfl (ea_cons (ev_callP (Z := fun _ _ => False) Flies.none (fun _ => .nil) (by exact ⟨_, _, rfl⟩) ?_)))))))
  repeat walk_at "ar"
  rw [rws_len]
  refine ⟨_, _, rfl, rws f3, f3.length, .inl rfl, by rw [rws_len]; exact Nat.le_refl _, by rw [rws_len]; omega, by omega, fun ys zs hp hl => ?_⟩
  obtain ⟨us, rfl, un, ul, ui⟩ := rws_drawn gn hp hl
  refine ea_nil ⟨ps, wd, us, rfl, by omega, by omega, ?_⟩
  refine ⟨_, rfl, hf ps (inSeq ps wd) us _ ⟨dr.nd, dr.sub, by omega, by omega, (seq_seq ps wd).symm, Nat.le_trans wl (seq_two wn wi), un, fun z => g0 ?_, by omega, fun t ht => gi t (ui t ht)⟩ (by omega)⟩
  rw [z] at ul
  exact List.eq_nil_of_length_eq_zero ul.symm
end
end K13
open LamX
namespace K13
variable [TabT] [CacT]
abbrev s_l_text : Stmt := topS 43
abbrev n_l_text : List Str := ["_law_lore_here", "_law_rows", "_law_one", "_law_other"]
abbrev p_l_text : List Str := ["_law_lore_here"]
theorem sc_l_text : FnScope n_l_text p_l_text (defScope s_l_text) := ⟨rfl, rfl, rfl, by decide +kernel, rfl, by decide +kernel, by decide +kernel⟩

section
variable {P : Program} {w : World} {K : PySem.W.Frag} {mg : Str → Option Value} {base : Heap}
def netRows (ps ws : List Str) (ts : List (List Str)) : List (Str × List Str) := ("places", ps) :: ("watchers", ws) :: ts.map tieR
def fs_text : FS := fun ds R _ => ∃ few most ps ws ts, ds = [loreD ps ws ts] ∧ Lore few most ps ws ts ∧ most ≤ 8 ∧ R (.str (Txt.join "\n" ((netRows ps ws ts).map lineOf)))
theorem ok_text {f : Addr} {fd : FuncData} (B : Bt mg) (F : Fun K "_law_text" "_law_text" s_l_text f fd) : FnG P w K mg base CX0 1 f fd p_l_text (spD K fs_text) := by
  refine okG F sc_l_text (spD_len fun ds R Z ⟨_, _, _, _, _, e, _⟩ => by rw [e]; rfl) (fun cdv A outer s H vs Q E gd hr ⟨G, ds, R, Z, le, kd, hf, hq, hz⟩ => ?_)
  have hu0 : (cxOf CX0 P w K mg base n_l_text "_law_text" (defScope s_l_text) f cdv A outer s H E).nox.A.units + 1 < cLine := by
    have := hr.un
    show (A.deeper (envOfC "_law_text" (defScope s_l_text) s.heap.objs.size f cdv)).units + 1 < cLine
    omega
  obtain ⟨few, most, ps, ws, ts, rfl, L, m8, hf⟩ := hf
  refine ⟨_, PSs.nox ((pss_cons (ps_set (i := 1) sc_l_text.nd rfl (by first | exact Or.inl rfl | exact Or.inr rfl) (pe_lst (pa_cons (pe_join pe_str (pe_op op_plus (pe_lst (pa_cons pe_str pa_nil)) (pe_dget hu0 (pv 0) pe_str (fun _ _ => rfl)))) (pa_cons (pe_join pe_str (pe_op op_plus (pe_lst (pa_cons pe_str pa_nil)) (pe_dget hu0 (pv 0) pe_str (fun _ _ => rfl)))) pa_nil))))
      (pss_one (ps_ret (pe_join pe_str (pe_op op_plus (pv 1) (pe_lc (own := [("_law_one", 2), ("_law_other", 3)]) (g := (gTup K 2 (gCons (gName 2) (gCons (gName 3) gNil)))) (tt := tYes) rfl sc_l_text.nd (pi_list (pe_dget hu0 (pv 0) pe_str (fun _ _ => rfl))) (blkOk_by (N := n_l_text) (sc := defScope s_l_text) (by decide +kernel)) (fun _ _ _ _ _ => (pg_tup rfl (pgs_cons (pg_name (i := 2) sc_l_text.nd rfl (by first | exact Or.inl rfl | exact Or.inr rfl)) (pgs_cons (pg_name (i := 3) sc_l_text.nd rfl (by first | exact Or.inl rfl | exact Or.inr rfl)) pgs_nil)))) (fun _ _ _ _ _ => pts_nil) (fun _ _ _ _ _ => (pe_op (kPlus (K := K) rfl) (pe_op (kPlus (K := K) rfl) (pe_op (kPlus (K := K) rfl) pe_str (pv 2)) pe_str) (pv 3)))))))))), fin_D le kd hq ?_⟩
  have lw : ws.length ≤ ps.length := by
    rw [L.wq]
    exact List.length_filter_le _ _
  have lp := L.lm
  have lt := L.tl
  have wdp : ∀ x ∈ ps, Wd x := fun x hx => pool_wd x (L.sub x hx)
  have wdw : ∀ x ∈ ws, Wd x := fun x hx => by
    rw [L.wq] at hx
    exact wdp x (seq_mem.mp hx).1
  have lpl : ∀ x ∈ ("places" : Str) :: ps, x.length ≤ 20 := fun x hx => by
    rcases List.mem_cons.mp hx with rfl | hx
    · decide
    · exact (wdp x hx).len
  have lwl : ∀ x ∈ ("watchers" : Str) :: ws, x.length ≤ 20 := fun x hx => by
    rcases List.mem_cons.mp hx with rfl | hx
    · decide
    · exact (wdw x hx).len
  have rwp : Rw ("places", ps) := ⟨wdb_ok (x := "places") (by decide +kernel), by show ps.length ≤ 20; omega, wdp⟩
  have rww : Rw ("watchers", ws) := ⟨wdb_ok (x := "watchers") (by decide +kernel), by show ws.length ≤ 20; omega, wdw⟩
  have rwt : ∀ t ∈ ts, Rw (tieR t) := fun t ht => by
    obtain ⟨x, y, rfl, hx, hy⟩ := pairs_in (L.ti t ht)
    refine ⟨wdb_ok (x := "tie") (by decide +kernel), by show 2 ≤ 20; decide, fun z hz => ?_⟩
    rcases List.mem_cons.mp hz with rfl | hz
    · exact wdp _ hx
    · rw [List.mem_singleton.mp hz]
      exact wdp _ hy
  have rwa : ∀ r ∈ netRows ps ws ts, Rw r := fun r hr => by
    rcases List.mem_cons.mp hr with rfl | hr
    · exact rwp
    rcases List.mem_cons.mp hr with rfl | hr
    · exact rww
    obtain ⟨t, ht, rfl⟩ := List.mem_map.mp hr
    exact rwt t ht
  refine xs_mid (fun ρ => ρ = [.dat (loreD ps ws ts), .dat (.lst (txs [lineOf ("places", ps), lineOf ("watchers", ws)])), .un, .un]) ?_ fun ρ e => ?_
  · refine xs_set (ev_lst (ea_cons (ev_line (ev_op (ev_lst (ea_cons (ev_str (ea_nil ⟨Nat.le_of_ble_eq_true rfl, ?_⟩))))))))
    refine ev_dget (ev_var rfl (ev_str ⟨_, _, _, rfl, rfl, rfl, ?_⟩))
    refine plus_lst (by rw [txs_len]; simp; omega) ⟨"places", ps, rfl, by simp; omega, lpl, ?_⟩
    refine ea_cons (ev_line (ev_op (ev_lst (ea_cons (ev_str (ea_nil ⟨Nat.le_of_ble_eq_true rfl, ?_⟩))))))
    refine ev_dget (ev_var rfl (ev_str ⟨_, _, _, rfl, rfl, rfl, ?_⟩))
    refine plus_lst (by rw [txs_len]; simp; omega) ⟨"watchers", ws, rfl, by simp; omega, lwl, ?_⟩
    exact ea_nil ⟨Nat.le_of_ble_eq_true rfl, rfl⟩
  subst e
  refine xs_ret (ev_join (ev_str ⟨_, rfl, ev_op (ev_var rfl (EvN.ev ?_))⟩))
  refine en_lc (is := [2, 3]) (fun _ i acc ρ => acc = txs (((ts.take i).map tieR).map lineOf) ∧ ρ = [.dat (loreD ps ws ts), .dat (.lst (txs [lineOf ("places", ps), lineOf ("watchers", ws)])), .un, .un]) (by decide) (ei_list (ev_dget (ev_var rfl (ev_str ⟨_, _, _, rfl, rfl, rfl, ?_⟩))))
  refine ⟨_, rfl, by rw [rws_len]; omega, ⟨rfl, rfl⟩, fun j d acc ρ hd hI => ?_, fun acc ρ hl2 hI => ?_⟩
  · obtain ⟨rfl, e⟩ := hI
    rw [e]
    obtain ⟨t, ht, rfl⟩ := rws_get hd
    obtain ⟨x, y, rfl, hx, hy⟩ := pairs_in (L.ti t (List.mem_of_getElem? ht))
    have lx := (wdp x hx).len
    have ly := (wdp y hy).len
    have l4 : ("tie " : Str).length = 4 := rfl
    have l1 : (" " : Str).length = 1 := rfl
    have la : ∀ a b : Str, (a ++ b).length = a.length + b.length := fun a b => by
      rw [TL.len_tl, TL.tl_append, List.length_append, ← TL.len_tl, ← TL.len_tl]
    refine eg_tup rfl (egs_cons (is := [2]) (js := [3]) (eg_name (egs_cons (is := [3]) (js := []) (eg_name (egs_nil ?_)))))
    refine et_yes ⟨fun _ => ?_, fun h => nomatch h⟩
    refine ev_op (ev_op (ev_op (ev_str (ev_var rfl ?_))))
    refine rd_k (r := rPlus) rfl (plus_str (by rw [l4]; omega) ?_)
    refine ev_str ?_
    refine rd_k (r := rPlus) rfl (plus_str (by rw [la, l4, l1]; omega) ?_)
    refine ev_var rfl ?_
    refine rd_k (r := rPlus) rfl (plus_str (by rw [la, la, l4, l1]; omega) ?_)
    refine ⟨?_, rfl⟩
    rw [line_tie, List.take_add_one, ht]
    simp [txs, tieR]
  · obtain ⟨rfl, e⟩ := hI
    rw [rws_len, List.take_length]
    refine plus_lst (by rw [txs_len, txs_len]; simp; omega) ?_
    refine ⟨(netRows ps ws ts).map lineOf, .inl ?_, ?_, hf⟩
    · rw [txs_app]
      rfl
    · have hb : ((netRows ps ws ts).map lineOf).length ≤ 16 := by
        rw [List.length_map]
        simp [netRows]
        omega
      have hs := sum_le (lines := (netRows ps ws ts).map lineOf) fun l hl => by
        obtain ⟨r, hr, rfl⟩ := List.mem_map.mp hl
        exact Nat.le_trans (lineOf_len (rwa r hr)) (by decide)
      have h2 : ("\n" : Str).length = 1 := rfl
      rw [h2]
      omega
end
end K13
/-! displays of dicts; d.update(a dict) -/
namespace DL
open PySem PySem.Spec PyProof.Rows L2
variable [TabT] [CacT]
def mergeD (kvs more : List (Key × D)) : List (Key × D) := more.foldl (fun acc kv => putDK acc kv.1 kv.2) kvs
theorem IsK.merge {K : PySem.W.Frag} {G : Hp} : ∀ {more : List (Key × V)} {md : List (Key × D)} {kvs : List (Key × V)} {kd : List (Key × D)}, IsK K G more md → IsK K G kvs kd → IsK K G (mergeK kvs more) (mergeD kd md)
  | _, _, _, _, .nil, t => t
  | _, _, kvs, kd, @IsK.cons _ _ k v vs d ds h m, t => by
    show IsK K G (mergeK (putK kvs k v) vs) (mergeD (putDK kd k d) ds)
    exact IsK.merge m (IsK.put t h)
/-- x.update(y): both dicts by ints and texts -/
def rUpd : V → List V → Hp → VK → Prop := fun x vs H Q => ∃ d o kvs more, x = .ref d ∧ vs = [.ref o] ∧ d ≠ o ∧ H d = some (.dK kvs) ∧ H o = some (.dK more) ∧ kvs.length + more.length ≤ sizeLine ∧ Q .non (upd H d (.dK (mergeK kvs more)))
theorem mt_update {X : Cx} : MtR X "dict.update" rUpd := by
  intro pins s σ H x vs v us Q I rx rv ⟨d, o, kvs, more, e1, e2, ne, hd, ho, hz, q⟩
  subst e1 e2
  cases rx
  obtain ⟨u, rfl, ru⟩ := rv.one
  cases ru
  obtain ⟨z1, s1, ws, r1, d1⟩ := dk_of I.hok hd
  obtain ⟨z2, s2, ms, r2, d2⟩ := dk_of I.hok ho
  have l1 := r1.length
  have l2 := r2.length
  refine call_meetsIn PySem.F.slot_dict_update d1.typeIs PySem.F.entry_dict_update (PySem.F.args_dict_update_2 _ _) (meets_dict_update (mixKind X.prog X.w) d o ne s2) ⟨ws, ms, d1, d2, by omega, fun h' d3 d4 sb => ?_⟩
  have he : ∃ q, h'.get? d = some q := by
    obtain ⟨q, _, _, hq, _⟩ := d3
    exact ⟨q, hq⟩
  refine ⟨.non, _, d_write I (by rw [hd]; exact True.intro) sb he (dk_new ?_ s1 (KV.merge r2 r1) d3), rfl, q⟩
  exact Nat.le_trans (length_mergeK more kvs) hz
section
variable {C : Fx} {ρ : List Slot} {te tk tv : TE} {trs : List (TE × TE)} {i : Nat}
/-- the pairs of a display -/
def EvP (C : Fx) (trs : List (TE × TE)) (ρ : List Slot) (P : List (Key × D) → List Slot → Prop) : Prop := ∀ (σ : L2.St) (G H : Hp) (R : List (V × V) → Hp → Prop), Sg C G H σ ρ → (∀ (kvs : List (Key × V)) ds G' H' ρ', Stp C G H σ ρ G' H' ρ' → P ds ρ' → IsK C.K G' kvs ds → R (kvs.map fun kv => (kV kv.1, kv.2)) H') → tPairs trs σ H R
theorem ep_nil {P : List (Key × D) → List Slot → Prop} (h : P [] ρ) : EvP C [] ρ P := fun σ G H R S q => q [] [] G H ρ (Stp.refl S) h .nil
theorem ep_cons {P : List (Key × D) → List Slot → Prop} (h : Ev C tk ρ fun k ρ1 => ∃ key, k = keyD key ∧ Ev C tv ρ1 fun d ρ2 => EvP C trs ρ2 fun ds ρ3 => P ((key, d) :: ds) ρ3) : EvP C ((tk, tv) :: trs) ρ P := fun σ G H R S q => by
  show tk σ H _
  refine h σ G H _ S fun v k G1 H1 ρ1 s1 p1 k1 => ?_
  obtain ⟨key, rfl, p1⟩ := p1
  cases is_key k1
  refine p1 σ G1 H1 _ s1.st fun u d G2 H2 ρ2 s2 p2 k2 => ?_
  refine p2 σ G2 H2 _ s2.st fun kvs ds G3 H3 ρ3 s3 p3 k3 => ?_
  exact q ((key, u) :: kvs) _ G3 H3 ρ3 ((s1.trans s2).trans s3) p3 (.cons (k2.mono s3.ext.gg) k3)
theorem eu_disp {P : OD → List Slot → Prop} (h : EvP C trs ρ fun ds ρ1 => ds.length ≤ 15 ∧ P (.dk (mergeD [] ds)) ρ1) : EvU C (tDisp trs) ρ P := fun σ G H Q S q p hp => by
  have s0 := S.keep (Ext.newM (F := fun _ => False) S.le hp (.dK []))
  refine h σ G _ _ s0.st fun kvs ds G1 H1 ρ1 s1 p1 k1 => ?_
  have gp : G p = none := S.le.free hp
  have nf0 : ¬ Fp σ ρ p := fun z => by
    obtain ⟨_, ⟨xs, e⟩, _⟩ := S.fp_some z
    rw [hp] at e
    cases e
  have hp1 : H1 p = some (.dK []) := s1.ext.fr p _ upd_same (fun _ z => nomatch z) nf0 (Cac.no gp)
  have gp1 : G1 p = none := s1.ext.nf p _ upd_same ⟨(fun _ z => nomatch z), (fun _ z => nomatch z)⟩ gp nf0
  have nf1 : ¬ Fp σ ρ1 p := fun z => nf0 (s1.sub p z)
  refine ⟨hp1, kvs, rfl, by rw [k1.length]; exact p1.1, ?_⟩
  have gh : Lo G1 (upd H1 p (.dK (mergeK [] kvs))) := fun b u e => by
    rw [upd_ne (ne_of_none e gp1)]
    exact s1.st.le b u e
  have ex2 : Ext G1 H1 G1 (upd H1 p (.dK (mergeK [] kvs))) (fun b => b = p) := by
    refine ⟨Same.refl _, gh, fun b o e1 t nb _ => ?_, fun b o e1 _ q1 nb => q1, fun b o e1 => ?_, fun t => tabs_upd hp1 (fun _ z => nomatch z) (fun _ z => nomatch z) t, fun g => g⟩
    · rw [upd_ne nb]
      exact e1
    · by_cases hb : b = p
      · exact ⟨_, by rw [hb, upd_same]⟩
      · exact ⟨o, by rw [upd_ne hb]; exact e1⟩
  have st2 := s1.st.keepP ex2 nf1 (h0_none S hp)
  have e0 : Ext G H G (upd H p (.dK [])) (fun _ => False) := Ext.newM S.le hp _
  have ex : Ext G H G1 (upd H1 p (.dK (mergeK [] kvs))) (Fp σ ρ) := ((e0.mono fun _ z => z.elim).trans s1.ext fun _ _ _ z => z).trans ex2 fun x o hx z => by
    subst z
    rw [hp] at hx
    cases hx
  exact q p _ (.dk (mergeD [] ds)) G1 _ ρ1 ⟨ex, st2, s1.sub⟩ p1.2 hp gp1 upd_same (.dk (k1.merge .nil))
/-- d.update(..), d one's own -/
theorem ev_update {K' : PySem.W.Frag} {P : PD} (hi : ∃ kvs, ρ[i]? = some (.obj (.dk kvs))) (h : EvU C te ρ fun x ρ1 => ∃ kvs more, ρ1[i]? = some (.obj (.dk kvs)) ∧ x = .dk more ∧ kvs.length + more.length ≤ 100000 ∧ P .non (ρ1.set i (.obj (.dk (mergeD kvs more))))) (hK : K' = C.K := by rfl) : Ev C (tBM K' "dict" rUpd (tVar i) (tCons te tNil)) ρ P := fun σ G H Q S q => by
  subst hK
  obtain ⟨k0, hi⟩ := hi
  obtain ⟨o, ho, p, u, rfl, g1, h1, t1, f1⟩ := S.sl i _ hi
  cases t1 with
  | @dk vs _ t1 =>
    refine ⟨_, ho, ?_, h σ G H _ S fun b w x G1 H1 ρ1 s1 p1 nb gb hb kb => ?_⟩
    · exact .inr (.inr (.inl ⟨rfl, .inl ⟨vs, h1⟩⟩))
    obtain ⟨kvs, more, e1, rfl, hl, e3⟩ := p1
    obtain ⟨o2, ho2, p2, u2, rfl, g2, h2, t2, f2⟩ := s1.st.sl i _ e1
    rw [ho] at ho2
    cases ho2
    cases kb with
    | dk kb =>
      cases t2 with
      | dk t2 =>
        have ne : p ≠ b := fun z => nomt S s1 nb (j := i) (z ▸ (⟨_, _, ho, e1, rfl⟩ : Mt σ ρ1 i p))
        refine ⟨p, b, _, _, rfl, rfl, ne, h2, hb, ?_, ?_⟩
        · rw [t2.length, kb.length]
          exact Nat.le_trans hl (by decide)
        · have s3 := s1.st.poke1 (r' := .obj (.dk (mergeD kvs more))) (o' := .dK _) e1 rfl ho (fun _ h => h) ⟨p, _, rfl, g2, upd_same, .dk (kb.merge t2), f2⟩
          exact q _ _ G1 _ _ (s1.trans s3) e3 .non
theorem ev_takeK {P : PD} {kvs : List (Key × D)} (hi : ρ[i]? = some (.obj (.dk kvs))) (h : Ev C te (ρ.set i (.dat (.dic kvs))) P) : Ev C te ρ P := ev_takeB hi h
theorem xs_takeK {t : TS} {po : Po} {kvs : List (Key × D)} (hi : ρ[i]? = some (.obj (.dk kvs))) (h : Xs C t (ρ.set i (.dat (.dic kvs))) po) : Xs C t ρ po := xs_takeB hi h
/-- a look at an own dict that tells a plain value -/
theorem er_thawB {P : D → Prop} {x : OD} (hi : ρ[i]? = some (.obj x)) (h : Er C te (ρ.set i (.dat x.toD)) fun d => scalD d = true ∧ P d) : Er C te ρ P := fun σ G H Q S q => by
  obtain ⟨p, u, ho, hp, gp, sg, _, s⟩ := S.freezeB hi
  refine h σ _ H Q s.st fun v d G' H' e m pd k => q v d G H' ⟨Same.refl G, S.le.grow m, fun b o z _ _ _ => m b o z, fun b o _ _ g _ => g, e.th, e.tt, fun g => g⟩ m pd.2 (k.scal pd.1)
end
end DL
/-! what objects keep: read and set -/
namespace DL
open PySem PySem.Spec PyProof.Rows L2
/-- what an object with this text may keep by these names -/
structure Keeps (K : PySem.W.Frag) (kd : Str → Str → Option D) (G : Hp) (fs fs' : List (Str × V)) : Prop where
  len : fs'.length = fs.length
  all : ∀ f, (∃ u, fs.lookup f = some u) → ∃ u, fs'.lookup f = some u
  same : ∀ f, f ∉ cacN → fs'.lookup f = fs.lookup f
  kept : ∀ f v, f ∈ cacN → fs'.lookup f = some v → fs.lookup f = some v ∨ ∃ x d, fs.lookup ("text" : Str) = some (.str x) ∧ kd f x = some d ∧ Is K G v d
theorem Keeps.mono {K : PySem.W.Frag} {kd : Str → Str → Option D} {G G' : Hp} {fs fs' : List (Str × V)} (e : Same G G') (k : Keeps K kd G fs fs') : Keeps K kd G' fs fs' :=
  ⟨k.len, k.all, k.same, fun f v hf hv => (k.kept f v hf hv).imp id fun ⟨x, d, h1, h2, h3⟩ => ⟨x, d, h1, h2, h3.mono e⟩⟩
theorem Keeps.refl {K : PySem.W.Frag} {kd : Str → Str → Option D} {G : Hp} (fs : List (Str × V)) : Keeps K kd G fs fs := ⟨rfl, fun _ h => h, fun _ _ => rfl, fun _ _ _ h => .inl h⟩
/-- the objects of one class keep such things -/
@[reducible] def cacOf (K : PySem.W.Frag) (C : Addr) (kd : Str → Str → Option D) : CacT where
  cls := fun c => c = C
  ok := fun G _ fs fs' => Keeps K kd G fs fs'
  mono := fun e k => k.mono e
  same := fun k hf => k.same _ hf
theorem put_look_ne {f g : Str} {v : V} (h : g ≠ f) : ∀ {fs : List (Str × V)}, (putF f v fs).lookup g = fs.lookup g
  | [] => by
    unfold putF
    have e : (g == f) = false := by simpa using h
    simp only [List.lookup, e]
  | (k, x) :: r => by
    unfold putF
    by_cases q : k = f
    · rw [if_pos q]
      subst q
      have e : (g == k) = false := by simpa using h
      simp [List.lookup, e]
    · rw [if_neg q]
      simp only [List.lookup]
      rw [put_look_ne h]
theorem put_look {f : Str} {v : V} : ∀ {fs : List (Str × V)}, (putF f v fs).lookup f = some v
  | [] => by
    unfold putF
    simp [List.lookup]
  | (k, x) :: r => by
    unfold putF
    by_cases q : k = f
    · rw [if_pos q]
      subst q
      simp [List.lookup]
    · rw [if_neg q]
      have e : (f == k) = false := by
        have : f ≠ k := fun z => q z.symm
        simpa using this
      simp only [List.lookup, e]
      exact put_look
theorem put_len {f : Str} {v : V} : ∀ {fs : List (Str × V)}, (∃ u, fs.lookup f = some u) → (putF f v fs).length = fs.length
  | [], ⟨_, h⟩ => by cases h
  | (k, x) :: r, ⟨u, h⟩ => by
    unfold putF
    by_cases q : k = f
    · rw [if_pos q]
      rfl
    · rw [if_neg q]
      have e : (f == k) = false := by
        have : f ≠ k := fun z => q z.symm
        simpa using this
      simp only [List.lookup, e] at h
      rw [List.length_cons, List.length_cons, put_len ⟨u, h⟩]
theorem Keeps.put {K : PySem.W.Frag} {kd : Str → Str → Option D} {G : Hp} {fs fs' : List (Str × V)} {f x : Str} {v : V} {d : D} (k : Keeps K kd G fs fs') (hf : f ∈ cacN) (hx : fs.lookup ("text" : Str) = some (.str x)) (hk : kd f x = some d) (hv : Is K G v d) (hl : ∃ u, fs'.lookup f = some u) : Keeps K kd G fs (putF f v fs') where
  len := (put_len hl).trans k.len
  all := fun g hg => by
    by_cases q : g = f
    · subst q
      exact ⟨v, put_look⟩
    · rw [put_look_ne q]
      exact k.all g hg
  same := fun g hg => by
    rw [put_look_ne fun z => hg (by rw [z]; exact hf)]
    exact k.same g hg
  kept := fun g w hg hw => by
    by_cases q : g = f
    · subst q
      rw [put_look] at hw
      cases hw
      exact .inr ⟨x, d, hx, hk, hv⟩
    · rw [put_look_ne q] at hw
      exact k.kept g w hg hw
variable [TabT] [CacT]
section
variable {C : Fx} {ρ : List Slot} {te : TE} {P : PD} {Cl : Addr} {f : Str} {kd : Str → Str → Option D}
theorem IsF.len' {K : PySem.W.Frag} {G : Hp} : ∀ {us : List (Str × V)} {fs : List (Str × D)}, IsF K G us fs → us.length = fs.length
  | _, _, .nil => rfl
  | _, _, .cons _ t => by rw [List.length_cons, List.length_cons, IsF.len' t]
theorem IsF.lookD {K : PySem.W.Frag} {G : Hp} {f : Str} {d : D} : ∀ {us : List (Str × V)} {fs : List (Str × D)}, IsF K G us fs → fs.lookup f = some d → ∃ v, us.lookup f = some v ∧ Is K G v d
  | _, _, .nil, e => by cases e
  | _, _, @IsF.cons _ _ k v us d' ds h t, e => by
    simp only [List.lookup] at e ⊢
    cases q : (f == k) with
    | true =>
      rw [q] at e
      cases e
      exact ⟨v, rfl, h⟩
    | false =>
      rw [q] at e
      exact IsF.lookD t e
theorem Lo.keeps {K : PySem.W.Frag} (hc : CacT.cls Cl → ∀ G fs fs', CacT.ok G Cl fs fs' → Keeps K kd G fs fs') {G H : Hp} (e : Lo G H) {b dx : Addr} {fs : List (Str × V)} (g : G b = some (.ins Cl dx fs)) : ∃ fs', H b = some (.ins Cl dx fs') ∧ Keeps K kd G fs fs' := by
  obtain ⟨fs', e1, rfl | ⟨c, e2⟩⟩ := e.ins g
  · exact ⟨_, e1, Keeps.refl _⟩
  · exact ⟨fs', e1, hc c G fs fs' e2⟩
/-- o.f, where o keeps f: None, or what is kept -/
theorem ev_fldC {K' : PySem.W.Frag} (hc : CacT.cls Cl → ∀ G fs fs', CacT.ok G Cl fs fs' → Keeps C.K kd G fs fs') (hf : f ∈ cacN) (h : Ev C te ρ fun d ρ1 => ∃ fs x, d = .ins Cl fs ∧ Cls C.K Cl ∧ NoAttr C.K Cl f ∧ fs.lookup f = some .non ∧ fs.lookup ("text" : Str) = some (.str x) ∧ P .non ρ1 ∧ ∀ d, kd f x = some d → P d ρ1) (hK : K' = C.K := by rfl) : Ev C (tFld K' te f) ρ P := fun σ G H Q S q => by
  subst hK
  refine h σ G H _ S fun v d G1 H1 ρ1 s1 p1 k1 => ?_
  obtain ⟨fs, x, rfl, c, n, l, lx, p0, p1⟩ := p1
  cases k1 with
  | @ins a dx _ us _ h1 h2 =>
    obtain ⟨fs', e3, kp⟩ := s1.st.le.keeps hc h1
    obtain ⟨v0, l0, i0⟩ := h2.lookD l
    obtain ⟨vx, lvx, ix⟩ := h2.lookD lx
    cases i0
    cases ix
    have hl : ∃ u, fs'.lookup f = some u := kp.all f ⟨_, l0⟩
    obtain ⟨u, hu⟩ := hl
    refine ⟨a, Cl, dx, fs', u, rfl, e3, c, n, hu, ?_⟩
    rcases kp.kept f u hf hu with z | ⟨x', d, hx, hk, hv⟩
    · rw [l0] at z
      cases z
      exact q _ _ G1 H1 ρ1 s1 p0 .non
    · rw [lvx] at hx
      cases hx
      exact q u d G1 H1 ρ1 s1 (p1 d hk) hv
/-- o.f = value, where o keeps f -/
theorem xs_fldC {K' : PySem.W.Frag} {tv : TE} {po : Po} (hcl : CacT.cls Cl) (hc : ∀ G fs fs', CacT.ok G Cl fs fs' → Keeps C.K kd G fs fs') (hc' : ∀ G fs fs', Keeps C.K kd G fs fs' → CacT.ok G Cl fs fs') (hf : f ∈ cacN)
    (h : Ev C tv ρ fun y ρ1 => Ev C te ρ1 fun d ρ2 => ∃ fs x, d = .ins Cl fs ∧ Cls C.K Cl ∧ NoAttr C.K Cl f ∧ fs.length < 1000 ∧ (∃ z, fs.lookup f = some z) ∧ fs.lookup ("text" : Str) = some (.str x) ∧ kd f x = some y ∧ po.nx ρ2) (hK : K' = C.K := by rfl) : Xs C (sFld K' te tv f) ρ po := fun σ G H Dn S hn hr hb hcn => by
  subst hK
  refine h σ G H _ S fun y dy G1 H1 ρ1 s1 p1 k1 => ?_
  refine p1 σ G1 H1 _ s1.st fun v d G2 H2 ρ2 s2 p2 k2 => ?_
  obtain ⟨fs, x, rfl, c, n, ln, ⟨z, lz⟩, lx, hk, p2⟩ := p2
  have kv := k1.mono s2.ext.gg
  cases k2 with
  | @ins a dx _ us _ h1 h2 =>
    obtain ⟨fs', e3, kp⟩ := s2.st.le.keeps (fun _ => hc) h1
    obtain ⟨vx, lvx, ix⟩ := h2.lookD lx
    cases ix
    obtain ⟨vz, lvz, _⟩ := h2.lookD lz
    refine ⟨a, Cl, dx, fs', rfl, e3, c, n, by rw [kp.len, h2.len']; exact ln, ?_⟩
    have kp2 := kp.put hf lvx hk kv (kp.all f ⟨_, lvz⟩)
    have cg : Cac G2 a := ⟨Cl, dx, us, h1, hcl⟩
    have ex : Ext G2 H2 G2 (upd H2 a (.ins Cl dx (putF f y fs'))) (fun _ => False) := by
      refine ⟨Same.refl _, fun b o e => ?_, fun b o e t _ nc => ?_, fun b o e _ g _ => g, fun b o e => ?_, fun t => tabs_upd e3 (fun _ z => nomatch z) (fun _ z => nomatch z) t, fun g => g⟩
      · by_cases hb2 : b = a
        · subst hb2
          rw [h1] at e
          cases e
          rw [upd_same]
          exact ⟨_, rfl, .inr ⟨hcl, hc' _ _ _ kp2⟩⟩
        · rw [upd_ne hb2]
          exact s2.st.le b o e
      · have nb : b ≠ a := fun z => nc (z ▸ cg)
        rw [upd_ne nb]
        exact e
      · by_cases hb2 : b = a
        · exact ⟨_, by rw [hb2, upd_same]⟩
        · exact ⟨o, by rw [upd_ne hb2]; exact e⟩
    exact hn _ G2 _ ρ2 (s2.st.keep ex).st (s1.ext.gg.trans s2.ext.gg) p2
end
end DL
/-! upper of joined texts -/
namespace DL
open PySem PySem.Spec PyProof.Rows L2 TL
theorem tl_upper (x : Str) : tl (Txt.upper x) = (tl x).flatMap Unicode.upperOf := by
  show (placed x fun _ c => Unicode.upperOf c).toList = x.cps.toList.flatMap Unicode.upperOf
  unfold placed
  rw [Array.toList_flatten, List.flatMap_def]
  congr 1
  apply List.ext_getElem?
  intro i
  simp [List.getElem?_map]
  cases x.cps[i]? <;> simp
theorem flat_join (f : Nat → List Nat) (S : List Nat) (hS : S.flatMap f = S) : ∀ ps : List (List Nat), (joinL S ps).flatMap f = joinL S (ps.map fun p => p.flatMap f)
  | [] => rfl
  | [p] => rfl
  | p :: q :: ps => by
    show (p ++ (S ++ joinL S (q :: ps))).flatMap f = p.flatMap f ++ (S ++ joinL S ((q :: ps).map fun p => p.flatMap f))
    rw [List.flatMap_append, List.flatMap_append, hS, flat_join f S hS (q :: ps)]
theorem upper_join (y : Str) (hy : (tl y).flatMap Unicode.upperOf = tl y) (ps : List Str) : Txt.upper (Txt.join y ps) = Txt.join y (ps.map Txt.upper) := by
  apply TL.ext_tl
  rw [tl_upper, join_eq, join_eq, tl_join, tl_join, flat_join _ _ hy, List.map_map, List.map_map]
  congr 1
  refine List.map_congr_left fun p _ => ?_
  show (tl p).flatMap Unicode.upperOf = tl (Txt.upper p)
  rw [tl_upper]
end DL
/-! what is one's own in depth: read, changed, made, frozen -/
namespace DL
open PySem PySem.Spec PyProof.Rows L2 LamX
mutual
def OT.setL (b : Addr) (es : List D) : OT → OT
  | .dat d => .dat d
  | .lst p ds => .lst p (if p = b then es else ds)
  | .dk p kvs => .dk p (OT.setLK b es kvs)
  | .ins p C fs => .ins p C (OT.setLF b es fs)
def OT.setLK (b : Addr) (es : List D) : List (Key × OT) → List (Key × OT)
  | [] => []
  | (k, t) :: r => (k, OT.setL b es t) :: OT.setLK b es r
def OT.setLF (b : Addr) (es : List D) : List (Str × OT) → List (Str × OT)
  | [] => []
  | (k, t) :: r => (k, OT.setL b es t) :: OT.setLF b es r
end
mutual
/-- the list ds stands in it, at b -/
def OT.has (b : Addr) (ds : List D) : OT → Prop
  | .dat _ => False
  | .lst p es => p = b ∧ es = ds
  | .dk _ kvs => OT.hasK b ds kvs
  | .ins _ _ fs => OT.hasF b ds fs
def OT.hasK (b : Addr) (ds : List D) : List (Key × OT) → Prop
  | [] => False
  | (_, t) :: r => OT.has b ds t ∨ OT.hasK b ds r
def OT.hasF (b : Addr) (ds : List D) : List (Str × OT) → Prop
  | [] => False
  | (_, t) :: r => OT.has b ds t ∨ OT.hasF b ds r
end
mutual
def OT.toD : OT → D
  | .dat d => d
  | .lst _ ds => .lst ds
  | .dk _ kvs => .dic (OT.toDK kvs)
  | .ins _ C fs => .ins C (OT.toDF fs)
def OT.toDK : List (Key × OT) → List (Key × D)
  | [] => []
  | (k, t) :: r => (k, OT.toD t) :: OT.toDK r
def OT.toDF : List (Str × OT) → List (Str × D)
  | [] => []
  | (k, t) :: r => (k, OT.toD t) :: OT.toDF r
end
def OT.root : OT → Option Addr
  | .dat _ => none
  | .lst p _ => some p
  | .dk p _ => some p
  | .ins p _ _ => some p
def putT (f : Str) (t : OT) : List (Str × OT) → List (Str × OT)
  | [] => [(f, t)]
  | (g, x) :: r => if g = f then (g, t) :: r else (g, x) :: putT f t r
mutual
theorem fp_setL {b : Addr} {es : List D} : ∀ t : OT, (t.setL b es).fp = t.fp
  | .dat d => rfl
  | .lst p ds => rfl
  | .dk p kvs => by rw [OT.setL, OT.fp, OT.fp, fp_setLK kvs]
  | .ins p C fs => by rw [OT.setL, OT.fp, OT.fp, fp_setLF fs]
theorem fp_setLK {b : Addr} {es : List D} : ∀ r : List (Key × OT), OT.fpK (OT.setLK b es r) = OT.fpK r
  | [] => rfl
  | (k, t) :: r => by rw [OT.setLK, OT.fpK, OT.fpK, fp_setL t, fp_setLK r]
theorem fp_setLF {b : Addr} {es : List D} : ∀ r : List (Str × OT), OT.fpF (OT.setLF b es r) = OT.fpF r
  | [] => rfl
  | (k, t) :: r => by rw [OT.setLF, OT.fpF, OT.fpF, fp_setL t, fp_setLF r]
end
section
variable {K : PySem.W.Frag} {G H : Hp} {b : Addr} {ds es : List D} {vs vs0 : List V}
abbrev HasAt (K : PySem.W.Frag) (G H : Hp) (b : Addr) (ds : List D) (fp : List Addr) : Prop := b ∈ fp ∧ G b = none ∧ ∃ vs, H b = some (.lst vs) ∧ IsL K G vs ds
mutual
theorem Ot.has : ∀ {v : V} {t : OT}, Ot K G H v t → t.has b ds → HasAt K G H b ds t.fp
  | _, _, .dat i, h => h.elim
  | _, _, .lst g e i, ⟨h1, h2⟩ => by
    subst h1 h2
    exact ⟨by simp [OT.fp], g, _, e, i⟩
  | _, _, .dk g e i, h => by
    obtain ⟨a, r⟩ := OtK.has i h
    exact ⟨by rw [OT.fp]; exact List.mem_cons_of_mem _ a, r⟩
  | _, _, .ins g e i, h => by
    obtain ⟨a, r⟩ := OtF.has i h
    exact ⟨by rw [OT.fp]; exact List.mem_cons_of_mem _ a, r⟩
theorem OtK.has : ∀ {vs : List (Key × V)} {ts : List (Key × OT)}, OtK K G H vs ts → OT.hasK b ds ts → HasAt K G H b ds (OT.fpK ts)
  | _, _, .nil, h => h.elim
  | _, _, .cons i r, .inl h => by
    obtain ⟨a, r⟩ := Ot.has i h
    exact ⟨by rw [OT.fpK]; exact List.mem_append_left _ a, r⟩
  | _, _, .cons i r, .inr h => by
    obtain ⟨a, r⟩ := OtK.has r h
    exact ⟨by rw [OT.fpK]; exact List.mem_append_right _ a, r⟩
theorem OtF.has : ∀ {vs : List (Str × V)} {ts : List (Str × OT)}, OtF K G H vs ts → OT.hasF b ds ts → HasAt K G H b ds (OT.fpF ts)
  | _, _, .nil, h => h.elim
  | _, _, .cons i r, .inl h => by
    obtain ⟨a, r⟩ := Ot.has i h
    exact ⟨by rw [OT.fpF]; exact List.mem_append_left _ a, r⟩
  | _, _, .cons i r, .inr h => by
    obtain ⟨a, r⟩ := OtF.has r h
    exact ⟨by rw [OT.fpF]; exact List.mem_append_right _ a, r⟩
end
mutual
theorem Ot.setL (hb : H b = some (.lst vs0)) (k : IsL K G vs es) : ∀ {v : V} {t : OT}, Ot K G H v t → Ot K G (upd H b (.lst vs)) v (t.setL b es)
  | _, _, .dat i => .dat i
  | _, _, @Ot.lst _ _ _ p us ds g e i => by
    rw [OT.setL]
    by_cases h : p = b
    · subst h
      rw [if_pos rfl]
      exact .lst g upd_same k
    · rw [if_neg h]
      exact .lst g (by rw [upd_ne h]; exact e) i
  | _, _, @Ot.dk _ _ _ p us kvs g e i => by
    rw [OT.setL]
    have h : p ≠ b := fun z => by
      rw [z, hb] at e
      cases e
    exact .dk g (by rw [upd_ne h]; exact e) (OtK.setL hb k i)
  | _, _, @Ot.ins _ _ _ p C dx us fs g e i => by
    rw [OT.setL]
    have h : p ≠ b := fun z => by
      rw [z, hb] at e
      cases e
    exact .ins g (by rw [upd_ne h]; exact e) (OtF.setL hb k i)
theorem OtK.setL (hb : H b = some (.lst vs0)) (k : IsL K G vs es) : ∀ {us : List (Key × V)} {ts : List (Key × OT)}, OtK K G H us ts → OtK K G (upd H b (.lst vs)) us (OT.setLK b es ts)
  | _, _, .nil => .nil
  | _, _, .cons i r => .cons (Ot.setL hb k i) (OtK.setL hb k r)
theorem OtF.setL (hb : H b = some (.lst vs0)) (k : IsL K G vs es) : ∀ {us : List (Str × V)} {ts : List (Str × OT)}, OtF K G H us ts → OtF K G (upd H b (.lst vs)) us (OT.setLF b es ts)
  | _, _, .nil => .nil
  | _, _, .cons i r => .cons (Ot.setL hb k i) (OtF.setL hb k r)
end
theorem OtF.look {f : Str} {t : OT} : ∀ {us : List (Str × V)} {fs : List (Str × OT)}, OtF K G H us fs → fs.lookup f = some t → ∃ v, us.lookup f = some v ∧ Ot K G H v t
  | _, _, .nil, e => by cases e
  | _, _, @OtF.cons _ _ _ k v us t' ts h r, e => by
    by_cases q : f == k
    · simp only [List.lookup_cons, q] at e ⊢
      cases e
      exact ⟨v, rfl, h⟩
    · have q : (f == k) = false := by simpa using q
      simp only [List.lookup_cons, q] at e ⊢
      exact OtF.look r e
theorem OtF.none {f : Str} : ∀ {us : List (Str × V)} {fs : List (Str × OT)}, OtF K G H us fs → fs.lookup f = none → us.lookup f = none
  | _, _, .nil, e => rfl
  | _, _, @OtF.cons _ _ _ k v us t' ts h r, e => by
    by_cases q : f == k
    · simp only [List.lookup_cons, q] at e
      cases e
    · have q : (f == k) = false := by simpa using q
      simp only [List.lookup_cons, q] at e ⊢
      exact OtF.none r e
theorem OtF.len : ∀ {us : List (Str × V)} {fs : List (Str × OT)}, OtF K G H us fs → us.length = fs.length
  | _, _, .nil => rfl
  | _, _, .cons h t => by rw [List.length_cons, List.length_cons, OtF.len t]
theorem OtF.put {f : Str} {v : V} {t : OT} (h : Ot K G H v t) : ∀ {us : List (Str × V)} {fs : List (Str × OT)}, OtF K G H us fs → OtF K G H (putF f v us) (putT f t fs)
  | _, _, .nil => .cons h .nil
  | _, _, @OtF.cons _ _ _ k v' us t' fs h' r => by
    unfold putF putT
    by_cases q : k = f
    · rw [if_pos q, if_pos q]
      exact .cons h r
    · rw [if_neg q, if_neg q]
      exact .cons h' (OtF.put h r)
theorem fp_put {f : Str} {t : OT} : ∀ {fs : List (Str × OT)} {a : Addr}, a ∈ OT.fpF (putT f t fs) → a ∈ OT.fpF fs ∨ a ∈ t.fp
  | [], a, h => by
    simp only [putT, OT.fpF, List.append_nil] at h
    exact .inr h
  | (g, x) :: r, a, h => by
    unfold putT at h
    by_cases q : g = f
    · rw [if_pos q] at h
      simp only [OT.fpF, List.mem_append] at h ⊢
      rcases h with h | h
      · exact .inr h
      · exact .inl (.inr h)
    · rw [if_neg q] at h
      simp only [OT.fpF, List.mem_append] at h ⊢
      rcases h with h | h
      · exact .inl (.inl h)
      · rcases fp_put h with h | h
        · exact .inl (.inr h)
        · exact .inr h
theorem nd_put {f : Str} {t : OT} (hn : t.fp.Nodup) : ∀ {fs : List (Str × OT)}, (OT.fpF fs).Nodup → (∀ a ∈ t.fp, a ∉ OT.fpF fs) → (OT.fpF (putT f t fs)).Nodup
  | [], _, _ => by
    simp only [putT, OT.fpF, List.append_nil]
    exact hn
  | (g, x) :: r, h, d => by
    rw [OT.fpF] at h
    obtain ⟨h1, h2, h3⟩ := List.nodup_append.mp h
    have d1 : ∀ a ∈ t.fp, a ∉ x.fp := fun a ha z => d a ha (by rw [OT.fpF]; exact List.mem_append_left _ z)
    have d2 : ∀ a ∈ t.fp, a ∉ OT.fpF r := fun a ha z => d a ha (by rw [OT.fpF]; exact List.mem_append_right _ z)
    unfold putT
    by_cases q : g = f
    · rw [if_pos q, OT.fpF]
      exact List.nodup_append.mpr ⟨hn, h2, fun a ha b hb z => d2 a ha (z ▸ hb)⟩
    · rw [if_neg q, OT.fpF]
      refine List.nodup_append.mpr ⟨h1, nd_put hn h2 d2, fun a ha b hb z => ?_⟩
      subst z
      rcases fp_put hb with hb | hb
      · exact h3 a ha a hb rfl
      · exact d1 a hb ha
theorem look_fp {f : Str} {t : OT} : ∀ {fs : List (Str × OT)}, fs.lookup f = some t → ∀ a ∈ t.fp, a ∈ OT.fpF fs
  | [], e, a, _ => by cases e
  | (g, x) :: r, e, a, h => by
    rw [OT.fpF]
    by_cases q : f == g
    · simp only [List.lookup_cons, q] at e
      cases e
      exact List.mem_append_left _ h
    · have q : (f == g) = false := by simpa using q
      simp only [List.lookup_cons, q] at e
      exact List.mem_append_right _ (look_fp e a h)
end
variable [TabT] [CacT]
section
variable {C : Fx} {ρ : List Slot} {te ta tb ty : TE} {tA : TA} {P : PD} {po : Po} {i j : Nat} {K' : PySem.W.Frag} {f : Str} {E : XK} {Z : Addr → D → Prop}
theorem Sg.pokeT {G H : Hp} {σ : L2.St} {t : OT} {b : Addr} {ds es : List D} {vs : List V} (S : Sg C G H σ ρ) (hi : ρ[i]? = some (.tre t)) (hb : t.has b ds) (k : IsL C.K G vs es) : Stp C G H σ ρ G (upd H b (.lst vs)) (ρ.set i (.tre (t.setL b es))) := by
  obtain ⟨o, ho, v, rfl, ot, nd, ff⟩ := S.sl i _ hi
  obtain ⟨mem, g1, vs0, h1, k0⟩ := ot.has hb
  exact S.pokeA hi ho mem (fun a h => by
    have h : a ∈ (t.setL b es).fp := h
    rw [fp_setL] at h
    exact h) ⟨v, rfl, ot.setL h1 k, by rw [fp_setL]; exact nd, by rw [fp_setL]; exact ff⟩
/-- te comes to what stands at a place of one's own -/
def EvPt (C : Fx) (te : TE) (ρ : List Slot) (P : Addr → List Slot → Prop) : Prop := ∀ (σ : L2.St) (G H : Hp) (Q : VK), Sg C G H σ ρ → (∀ b G' H' ρ', Stp C G H σ ρ G' H' ρ' → P b ρ' → Q (.ref b) H') → te σ H Q
theorem ot_root {K : PySem.W.Frag} {G H : Hp} {v : V} {t : OT} {b : Addr} (h : Ot K G H v t) (r : t.root = some b) : v = .ref b := by
  cases h <;> simp [OT.root] at r <;> rw [r]
/-- o.f -/
theorem ep_fld {P : Addr → List Slot → Prop} {p Cl b : Addr} {fs : List (Str × OT)} {t : OT} (hi : ρ[i]? = some (.tre (.ins p Cl fs))) (c : Cls C.K Cl) (n : NoAttr C.K Cl f) (l : fs.lookup f = some t) (r : t.root = some b) (h : P b ρ) (hK : K' = C.K := by rfl) : EvPt C (tFld K' (tVar i) f) ρ P := fun σ G H Q S q => by
  subst hK
  obtain ⟨o, ho, v, rfl, ot, nd, ff⟩ := S.sl i _ hi
  cases ot with
  | @ins _ _ dx us _ g e k =>
    obtain ⟨u, l1, k1⟩ := k.look l
    cases ot_root k1 r
    exact ⟨_, ho, _, _, _, _, _, rfl, e, c, n, l1, q b G H ρ (Stp.refl S) h⟩
/-- o.f, data -/
theorem ev_fldT {p Cl : Addr} {fs : List (Str × OT)} {d : D} (hi : ρ[i]? = some (.tre (.ins p Cl fs))) (c : Cls C.K Cl) (n : NoAttr C.K Cl f) (l : fs.lookup f = some (.dat d)) (h : P d ρ) (hK : K' = C.K := by rfl) : Ev C (tFld K' (tVar i) f) ρ P := fun σ G H Q S q => by
  subst hK
  obtain ⟨o, ho, v, rfl, ot, nd, ff⟩ := S.sl i _ hi
  cases ot with
  | @ins _ _ dx us _ g e k =>
    obtain ⟨u, l1, k1⟩ := k.look l
    cases k1 with
    | dat k1 => exact ⟨_, ho, _, _, _, _, _, rfl, e, c, n, l1, q u d G H ρ (Stp.refl S) h k1⟩
def valT (kvs : List (Key × OT)) (k : Key) : Option OT := (kvs.find? fun kv => decide (kv.1 = k)).map (·.2)
theorem OtK.val {K : PySem.W.Frag} {G H : Hp} {k : Key} {t : OT} : ∀ {vs : List (Key × V)} {ts : List (Key × OT)}, OtK K G H vs ts → valT ts k = some t → ∃ v, valV vs k = some v ∧ Ot K G H v t
  | _, _, .nil, e => by simp [valT] at e
  | _, _, @OtK.cons _ _ _ k' v vs d ds h t, e => by
    unfold valT at e
    unfold valV
    rw [List.find?_cons] at e ⊢
    by_cases q : k' = k
    · rw [decide_eq_true q] at e ⊢
      cases e
      exact ⟨v, rfl, h⟩
    · rw [decide_eq_false q] at e ⊢
      exact OtK.val t e
/-- o.f[k], a dict of one's own things -/
theorem ep_item {P : Addr → List Slot → Prop} {q0 p0 Cl0 : Addr} {fs0 : List (Str × OT)} {kvs0 : List (Key × OT)} (hi : ρ[i]? = some (.tre (.ins p0 Cl0 fs0))) (c : Cls C.K Cl0) (n : NoAttr C.K Cl0 f) (l0 : fs0.lookup f = some (.dk q0 kvs0))
    (h : Ev C ty ρ fun y ρ1 => ∃ p Cl fs kvs k t b, ρ1[i]? = some (.tre (.ins p Cl fs)) ∧ fs.lookup f = some (.dk q0 kvs) ∧ y = keyD k ∧ valT kvs k = some t ∧ t.root = some b ∧ P b ρ1) (hK : K' = C.K := by rfl) : EvPt C (tDGet (tFld K' (tVar i) f) ty) ρ P := fun σ G H Q S q => by
  subst hK
  obtain ⟨o, ho, v, rfl, ot, nd, ff⟩ := S.sl i _ hi
  cases ot with
  | @ins _ _ dx us _ g e k =>
    obtain ⟨u, l1, k1⟩ := k.look l0
    cases ot_root (b := q0) k1 rfl
    refine ⟨_, ho, _, _, _, _, _, rfl, e, c, n, l1, h σ G H _ S fun w y G1 H1 ρ1 s1 p1 kk => ?_⟩
    obtain ⟨p, Cl, fs, kvs, k, t, b, hi1, l2, rfl, lv, hr, p1⟩ := p1
    cases is_key kk
    obtain ⟨o1, ho1, v1, rfl, ot1, nd1, ff1⟩ := s1.st.sl i _ hi1
    cases ot1 with
    | @ins _ _ dx1 us1 _ g1 e1 k2 =>
      obtain ⟨u1, l3, k3⟩ := k2.look l2
      cases k3 with
      | dk g3 e3 k3 =>
        obtain ⟨v3, e4, k4⟩ := k3.val lv
        cases ot_root k4 hr
        exact ⟨_, _, rfl, .inl ⟨_, k, .inl e3, rfl, e4.symm⟩, q b G1 H1 ρ1 s1 p1⟩
/-- what stands there holds the list ds -/
def HasL (ρ : List Slot) (b : Addr) (ds : List D) : Prop := ∃ (i : Nat) (t : OT), ρ[i]? = some (Slot.tre t) ∧ t.has b ds
theorem HasL.at_ {G H : Hp} {σ : L2.St} {b : Addr} {ds : List D} (S : Sg C G H σ ρ) (h : HasL ρ b ds) : G b = none ∧ ∃ vs, H b = some (.lst vs) ∧ IsL C.K G vs ds := by
  obtain ⟨i, t, hi, hb⟩ := h
  obtain ⟨o, ho, v, rfl, ot, nd, ff⟩ := S.sl i _ hi
  obtain ⟨mem, g1, vs0, h1, k0⟩ := ot.has hb
  exact ⟨g1, vs0, h1, k0⟩
/-- o.append(x), o within what is one's own -/
theorem ev_appT {to : TE} (h : EvPt C to ρ fun b ρ1 => (∃ ds, HasL ρ1 b ds) ∧ Ev C te ρ1 fun d ρ2 => ∃ (i : Nat) (t : OT) (ds : List D), ρ2[i]? = some (.tre t) ∧ t.has b ds ∧ ds.length < 100000 ∧ P .non (ρ2.set i (.tre (t.setL b (ds ++ [d]))))) (hK : K' = C.K := by rfl) :
    Ev C (tBM K' "list" rAppend to (tCons te tNil)) ρ P := fun σ G H Q S q => by
  subst hK
  refine h σ G H _ S fun b G1 H1 ρ1 s1 p1 => ?_
  obtain ⟨⟨ds0, a1⟩, p1⟩ := p1
  obtain ⟨g0, vs0, h0, k0⟩ := a1.at_ s1.st
  refine ⟨.inl ⟨rfl, vs0, .inl (.inl h0)⟩, p1 σ G1 H1 _ s1.st fun v d G2 H2 ρ2 s2 p2 k2 => ?_⟩
  obtain ⟨i, t, ds, hi, hb, hl, p2⟩ := p2
  obtain ⟨g1, vs, h1, k1⟩ := HasL.at_ s2.st ⟨i, t, hi, hb⟩
  refine ⟨b, vs, v, rfl, rfl, h1, by rw [k1.length]; exact Nat.lt_of_lt_of_le hl (by decide), ?_⟩
  have s3 := s2.st.pokeT hi hb (k1.append (.cons k2 .nil))
  exact q _ _ G2 _ _ ((s1.trans s2).trans s3) p2 .non
/-- o.pop() -/
theorem ev_popT {to : TE} (h : EvPt C to ρ fun b ρ1 => ∃ (i : Nat) (t : OT) (ds : List D) (d : D), ρ1[i]? = some (.tre t) ∧ t.has b (ds ++ [d]) ∧ P d (ρ1.set i (.tre (t.setL b ds)))) (hK : K' = C.K := by rfl) :
    Ev C (tBM0 K' "list" rPop to) ρ P := fun σ G H Q S q => by
  subst hK
  refine h σ G H _ S fun b G1 H1 ρ1 s1 p1 => ?_
  obtain ⟨i, t, ds, d, hi, hb, p1⟩ := p1
  obtain ⟨g1, vs, h1, k1⟩ := HasL.at_ s1.st ⟨i, t, hi, hb⟩
  refine ⟨.inl ⟨rfl, vs, .inl (.inl h1)⟩, ?_⟩
  have hl := k1.length
  rw [List.length_append, List.length_singleton] at hl
  have hg : (ds ++ [d])[vs.length - 1]? = some d := by
    rw [hl, Nat.add_sub_cancel, List.getElem?_append_right (Nat.le_refl _), Nat.sub_self]
    rfl
  obtain ⟨v, e1, e2⟩ := k1.get hg
  have kd : IsL C.K G1 vs.dropLast ds := by
    have z := k1.take ds.length
    rw [List.take_left] at z
    rwa [List.dropLast_eq_take, hl, Nat.add_sub_cancel]
  have s3 := s1.st.pokeT hi hb kd
  exact ⟨b, vs, v, rfl, rfl, h1, e1, q v d G1 _ _ (s1.trans s3) p1 e2⟩
/-- len(o) -/
theorem ev_lenT {to : TE} {r : List V → Hp → VK → Prop} (hr : ∀ b vs H Q, H b = some (.lst vs) → Q (.int (vs.length : Int)) H → r [.ref b] H Q) (h : EvPt C to ρ fun b ρ1 => ∃ ds, HasL ρ1 b ds ∧ P (.int (ds.length : Int)) ρ1) : Ev C (tCB r (tCons to tNil)) ρ P := fun σ G H Q S q => by
  refine h σ G H _ S fun b G1 H1 ρ1 s1 p1 => ?_
  obtain ⟨ds, a1, p1⟩ := p1
  obtain ⟨g0, vs0, h0, k0⟩ := a1.at_ s1.st
  refine hr b vs0 _ _ h0 ?_
  rw [k0.length]
  exact q _ _ G1 H1 ρ1 s1 p1 (.int _)
/-- a slot that holds what is one's own is set anew, the places of others are not among its own -/
theorem Sg.setTr {G H : Hp} {σ : L2.St} {o : Option V} {t : OT} (S : Sg C G H σ ρ) (q : SlotOk C G H o (.tre t)) (nf : ∀ a ∈ t.fp, ∀ j, j ≠ i → ¬ Mt σ ρ j a) : Sg C G H (σ.set i o) (ρ.set i (.tre t)) := by
  have at_i : ∀ {j : Nat} {a : Addr}, Mt (σ.set i o) (ρ.set i (.tre t)) j a → j = i → a ∈ t.fp := fun {j a} m e => by
    subst e
    have hl : j < σ.length := by
      have := m.lt
      rwa [List.length_set] at this
    exact m.here hl (by rw [← S.len]; exact hl)
  refine ⟨S.ext, by rw [List.length_set, List.length_set, S.len], fun j s hs => ?_, fun j k a m1 m2 => ?_⟩
  · by_cases hj : j = i
    · subst hj
      have hl : j < ρ.length := by
        have := (List.getElem?_eq_some_iff.mp hs).1
        rwa [List.length_set] at this
      rw [List.getElem?_set_self hl] at hs
      cases hs
      exact ⟨_, List.getElem?_set_self (by rw [S.len]; exact hl), q⟩
    · rw [List.getElem?_set_ne (Ne.symm hj)] at hs ⊢
      exact S.sl j s hs
  · by_cases hj : j = i
    · by_cases hk : k = i
      · rw [hj, hk]
      · exact absurd (m2.ne hk) (nf a (at_i m1 hj) k hk)
    · by_cases hk : k = i
      · exact absurd (m1.ne hj) (nf a (at_i m2 hk) j hj)
      · exact S.dis j k a (m1.ne hj) (m2.ne hk)
/-- te makes what is new and one's own -/
def EvTr (C : Fx) (te : TE) (ρ : List Slot) (P : OT → List Slot → Prop) : Prop := ∀ (σ : L2.St) (G H : Hp) (Q : VK), Sg C G H σ ρ → (∀ v t G' H' ρ', Stp C G H σ ρ G' H' ρ' → P t ρ' → Ot C.K G' H' v t → t.fp.Nodup → (∀ a ∈ t.fp, H a = none) → Q v H') → te σ H Q
theorem et_newL {P : OT → List Slot → Prop} (h : EvN C te ρ fun ds ρ1 => ∀ b, P (.lst b ds) ρ1) : EvTr C te ρ P := fun σ G H Q S q =>
  h σ G H _ S fun p vs ds G1 H1 ρ1 s1 p1 n g1 h1 k1 => q _ _ G1 H1 ρ1 s1 (p1 p) (.lst g1 h1 k1) (by simp [OT.fp]) fun a ha => by
    simp [OT.fp] at ha
    rw [ha]
    exact n
/-- x = e -/
theorem xs_tre (h : EvTr C te ρ fun t ρ1 => po.nx (ρ1.set i (.tre t))) : Xs C (tAsg te (gName i)) ρ po := fun σ G H Dn S hn hr hb hc =>
  h σ G H _ S fun v t G1 H1 ρ1 s1 p1 k1 nd n => hn _ G1 H1 _ (s1.st.setTr (o := some v) ⟨v, rfl, k1, nd, fun a ha => .inr (h0_none S (n a ha))⟩ fun a ha j _ m => nomt S s1 (n a ha) m) s1.ext.gg p1
/-- x, y = (what is one's own, a new list) -/
theorem xs_parTN (hij : i ≠ j) (h : EvTr C ta ρ fun t ρ1 => EvN C tb ρ1 fun ds ρ2 => po.nx ((ρ2.set i (.tre t)).set j (.own ds))) : Xs C (tPar i j (tCons ta (tCons tb tNil))) ρ po := fun σ G H Dn S hn hr hb hc => by
  refine h σ G H _ S fun v t G1 H1 ρ1 s1 p1 k1 nd n => p1 σ G1 H1 _ s1.st fun p vs ds G2 H2 ρ2 s2 p2 n2 g2 h2 k2 => ⟨v, .ref p, rfl, ?_⟩
  have nf : ∀ a ∈ t.fp, ¬ Fp σ ρ1 a := fun a ha ⟨l, m⟩ => nomt S s1 (n a ha) m
  have kt : Kept G1 H1 G2 H2 t.fp := fun a ha u hu nt g => ⟨s2.ext.fr a u hu nt.1 (nf a ha) (Cac.no g), s2.ext.nf a u hu nt g (nf a ha)⟩
  have S1 := s2.st.setTr (i := i) (o := some v) ⟨v, rfl, k1.move s2.ext.gg kt, nd, fun a ha => .inr (h0_none S (n a ha))⟩ fun a ha l _ m => nomt S (s1.trans s2) (n a ha) m
  refine hn _ G2 H2 _ (S1.setO (i := j) g2 h2 k2 (h0_none s1.st n2) fun l hl m => ?_) (s1.ext.gg.trans s2.ext.gg) p2
  by_cases hl2 : l = i
  · subst hl2
    have hs : l < σ.length := by
      have := m.lt
      rwa [List.length_set] at this
    have z : p ∈ t.fp := m.here hs (by rw [← s2.st.len]; exact hs)
    obtain ⟨_, u, e, _⟩ := k1.at_ p z
    rw [n2] at e
    cases e
  · exact nomt s1.st s2 n2 (m.ne hl2)
/-- o.f = data -/
theorem xs_fldT (h : Ev C te ρ fun d ρ1 => ∃ p Cl fs, ρ1[i]? = some (.tre (.ins p Cl fs)) ∧ Cls C.K Cl ∧ NoAttr C.K Cl f ∧ fs.length < 1000 ∧ po.nx (ρ1.set i (.tre (.ins p Cl (putT f (.dat d) fs))))) (hK : K' = C.K := by rfl) : Xs C (sFld K' (tVar i) te f) ρ po := fun σ G H Dn S hn hr hb hc => by
  subst hK
  refine h σ G H _ S fun v d G1 H1 ρ1 s1 p1 k1 => ?_
  obtain ⟨p, Cl, fs, hi, c, n, hl, p1⟩ := p1
  obtain ⟨o, ho, w, rfl, ot, nd, ff⟩ := s1.st.sl i _ hi
  cases ot with
  | @ins _ _ dx us _ g e k =>
    refine ⟨_, ho, _, _, _, _, rfl, e, c, n, by rw [k.len]; exact hl, ?_⟩
    rw [OT.fp] at nd ff
    have nd2 := List.nodup_cons.mp nd
    have sub : ∀ a, a ∈ OT.fpF (putT f (.dat d) fs) → a ∈ OT.fpF fs := fun a ha => (fp_put ha).resolve_right fun z => by simp [OT.fp] at z
    have kk : OtF C.K G1 (upd H1 p (.ins Cl dx (putF f v us))) us fs := k.move (Same.refl _) fun a ha u hu _ g => ⟨by rw [upd_ne (b := a) (a := p) fun z => nd2.1 (z ▸ ha)]; exact hu, g⟩
    have s3 := s1.st.pokeA (r' := .tre (.ins p Cl (putT f (.dat d) fs))) (p := p) (o' := .ins Cl dx (putF f v us)) hi ho (by show p ∈ OT.fp _; simp [OT.fp]) (fun a ha => by
      have ha : a ∈ OT.fp (.ins p Cl (putT f (.dat d) fs)) := ha
      show a ∈ OT.fp _
      rw [OT.fp] at ha ⊢
      rcases List.mem_cons.mp ha with ha | ha
      · exact ha ▸ List.mem_cons_self
      · exact List.mem_cons_of_mem _ (sub a ha)) ⟨.ref p, rfl, .ins g upd_same (kk.put (.dat k1)), by
      rw [OT.fp]
      exact List.nodup_cons.mpr ⟨fun z => nd2.1 (sub p z), nd_put (by simp [OT.fp]) nd2.2 (by simp [OT.fp])⟩, fun a ha => by
      rw [OT.fp] at ha
      rcases List.mem_cons.mp ha with ha | ha
      · exact ff a (ha ▸ List.mem_cons_self)
      · exact ff a (List.mem_cons_of_mem _ (sub a ha))⟩
    exact hn σ G1 _ _ s3.st (s1.ext.gg.trans s3.ext.gg) p1
/-- o.f = what is new and one's own -/
theorem xs_fldN (h : EvTr C te ρ fun t ρ1 => t.fp.Nodup → ∃ p Cl fs, ρ1[i]? = some (.tre (.ins p Cl fs)) ∧ Cls C.K Cl ∧ NoAttr C.K Cl f ∧ fs.length < 1000 ∧ po.nx (ρ1.set i (.tre (.ins p Cl (putT f t fs))))) (hK : K' = C.K := by rfl) : Xs C (sFld K' (tVar i) te f) ρ po := fun σ G H Dn S hn hr hb hc => by
  subst hK
  refine h σ G H _ S fun v t G1 H1 ρ1 s1 p1 k1 ndt nw => ?_
  obtain ⟨p, Cl, fs, hi, c, n, hl, p1⟩ := p1 ndt
  obtain ⟨o, ho, w, rfl, ot, nd, ff⟩ := s1.st.sl i _ hi
  have hil : i < ρ1.length := (List.getElem?_eq_some_iff.mp hi).1
  have nmt : ∀ a ∈ t.fp, ∀ l, ¬ Mt σ ρ1 l a := fun a ha l m => nomt S s1 (nw a ha) m
  have mine : ∀ a ∈ OT.fp (.ins p Cl fs), Mt σ ρ1 i a := fun a ha => ⟨_, _, ho, hi, ha⟩
  have e0 := s1.st.ext
  cases ot with
  | @ins _ _ dx us _ g e k =>
    refine ⟨_, ho, _, _, _, _, rfl, e, c, n, by rw [k.len]; exact hl, ?_⟩
    have mp : Mt σ ρ1 i p := mine p (by simp [OT.fp])
    have mfs : ∀ a ∈ OT.fpF fs, Mt σ ρ1 i a := fun a ha => mine a (by rw [OT.fp]; exact List.mem_cons_of_mem _ ha)
    rw [OT.fp] at nd ff
    have nd2 := List.nodup_cons.mp nd
    have pt : p ∉ t.fp := fun z => nmt p z i mp
    have dj : ∀ a ∈ t.fp, a ∉ OT.fpF fs := fun a ha z => nmt a ha i (mfs a z)
    have kk : OtF C.K G1 (upd H1 p (.ins Cl dx (putF f v us))) us fs := k.move (Same.refl _) fun a ha u hu _ g => ⟨by rw [upd_ne (b := a) (a := p) fun z => nd2.1 (z ▸ ha)]; exact hu, g⟩
    have kt : Ot C.K G1 (upd H1 p (.ins Cl dx (putF f v us))) v t := k1.move (Same.refl _) fun a ha u hu _ g => ⟨by rw [upd_ne (b := a) (a := p) fun z => pt (z ▸ ha)]; exact hu, g⟩
    have s3 := s1.st.pokeA (r' := .un) (p := p) (o' := .ins Cl dx (putF f v us)) hi ho (by show p ∈ OT.fp _; simp [OT.fp]) (fun a ha => ha.elim) trivial
    have S4 := s3.st.setTr (i := i) (o := some (.ref p)) (t := .ins p Cl (putT f t fs)) ⟨.ref p, rfl, .ins g upd_same (kk.put kt), by
      rw [OT.fp]
      refine List.nodup_cons.mpr ⟨fun z => ?_, nd_put ndt nd2.2 dj⟩
      rcases fp_put z with z | z
      · exact nd2.1 z
      · exact pt z, fun a ha => by
      rw [OT.fp] at ha
      rcases List.mem_cons.mp ha with ha | ha
      · exact ff a (ha ▸ List.mem_cons_self)
      · rcases fp_put ha with ha | ha
        · exact ff a (List.mem_cons_of_mem _ ha)
        · exact .inr (h0_none S (nw a ha))⟩ (fun a ha l hl m => by
      have m := m.offR hl
      rw [OT.fp] at ha
      rcases List.mem_cons.mp ha with ha | ha
      · subst ha
        exact hl (s1.st.dis l i a m mp)
      · rcases fp_put ha with ha | ha
        · exact hl (s1.st.dis l i a m (mfs a ha))
        · exact nmt a ha l m)
    have es : σ.set i (some (.ref p)) = σ := List.ext_getElem? fun l => by
      by_cases hl : l = i
      · subst hl
        rw [List.getElem?_set_self (by rw [s1.st.len]; exact hil), ho]
      · rw [List.getElem?_set_ne (Ne.symm hl)]
    rw [es, List.set_set] at S4
    exact hn σ G1 _ _ S4 s1.ext.gg p1
end
end DL
/-! what is one's own in depth: frozen, handed to methods, made -/
namespace DL
open PySem PySem.Spec PyProof.Rows L2 LamX
def frzH (G H : Hp) (as : List Addr) : Hp := fun a => if a ∈ as then H a else G a
section
variable {K : PySem.W.Frag} {G G' H : Hp} {as : List Addr}
theorem frz_in {a : Addr} (h : a ∈ as) : frzH G H as a = H a := if_pos h
theorem frz_out {a : Addr} (h : a ∉ as) : frzH G H as a = G a := if_neg h
theorem frz_same (g : ∀ a ∈ as, G a = none) : Same G (frzH G H as) := fun b o e => by
  rw [frz_out fun z => by
    rw [g b z] at e
    cases e]
  exact e
mutual
theorem Ot.toD (sg : Same G G') : ∀ {v : V} {t : OT}, Ot K G H v t → (∀ a ∈ t.fp, G' a = H a) → Is K G' v t.toD
  | _, _, .dat i, _ => i.mono sg
  | _, _, .lst g e i, h => .lst ((h _ (by simp [OT.fp])).trans e) (IsL.mono sg i)
  | _, _, .dk g e i, h => .dic ((h _ (by simp [OT.fp])).trans e) (OtK.toD sg i fun a ha => h a (by rw [OT.fp]; exact List.mem_cons_of_mem _ ha))
  | _, _, .ins g e i, h => .ins ((h _ (by simp [OT.fp])).trans e) (OtF.toD sg i fun a ha => h a (by rw [OT.fp]; exact List.mem_cons_of_mem _ ha))
theorem OtK.toD (sg : Same G G') : ∀ {vs : List (Key × V)} {ts : List (Key × OT)}, OtK K G H vs ts → (∀ a ∈ OT.fpK ts, G' a = H a) → IsK K G' vs (OT.toDK ts)
  | _, _, .nil, _ => .nil
  | _, _, .cons i r, h => .cons (Ot.toD sg i fun a ha => h a (by rw [OT.fpK]; exact List.mem_append_left _ ha)) (OtK.toD sg r fun a ha => h a (by rw [OT.fpK]; exact List.mem_append_right _ ha))
theorem OtF.toD (sg : Same G G') : ∀ {vs : List (Str × V)} {ts : List (Str × OT)}, OtF K G H vs ts → (∀ a ∈ OT.fpF ts, G' a = H a) → IsF K G' vs (OT.toDF ts)
  | _, _, .nil, _ => .nil
  | _, _, .cons i r, h => .cons (Ot.toD sg i fun a ha => h a (by rw [OT.fpF]; exact List.mem_append_left _ ha)) (OtF.toD sg r fun a ha => h a (by rw [OT.fpF]; exact List.mem_append_right _ ha))
end
theorem OtF.frz {f : Str} {sub : OT} (sg : Same G G') (hin : ∀ a ∈ sub.fp, G' a = H a) (hout : ∀ a, a ∉ sub.fp → G' a = G a) : ∀ {us : List (Str × V)} {fs : List (Str × OT)}, OtF K G H us fs → (OT.fpF fs).Nodup → fs.lookup f = some sub → OtF K G' H us (putT f (.dat sub.toD) fs)
  | _, _, .nil, _, e => by cases e
  | _, _, @OtF.cons _ _ _ k v us t ts i r, nd, e => by
    rw [OT.fpF] at nd
    obtain ⟨n1, n2, n3⟩ := List.nodup_append.mp nd
    unfold putT
    by_cases q : f == k
    · have q' : k = f := (eq_of_beq q).symm
      simp only [List.lookup_cons, q] at e
      cases e
      rw [if_pos q']
      exact .cons (.dat (i.toD sg hin)) (r.move sg fun a ha u hu _ g => ⟨hu, by rw [hout a fun z => n3 a z a ha rfl]; exact g⟩)
    · have q' : ¬ k = f := fun z => q (by rw [z]; exact beq_self_eq_true f)
      have q : (f == k) = false := by simpa using q
      simp only [List.lookup_cons, q] at e
      rw [if_neg q']
      exact .cons (i.move sg fun a ha u hu _ g => ⟨hu, by rw [hout a fun z => n3 a ha a (look_fp e a z) rfl]; exact g⟩) (OtF.frz sg hin hout r n2 e)
end
variable [TabT] [CacT]
section
variable {C : Fx} {ρ : List Slot} {te ta tb ty : TE} {tA : TA} {P : PD} {po : Po} {i j : Nat} {K' : PySem.W.Frag} {f : Str} {E : XK} {Z : Addr → D → Prop} {G H G' H' : Hp} {σ : L2.St}
/-- some of what is owned at slot i is frozen -/
theorem Sg.frzA {t : OT} {as : List Addr} {s' : Slot} (S : Sg C G H σ ρ) (hi : ρ[i]? = some (.tre t)) (sub : ∀ a ∈ as, a ∈ t.fp) (hs' : ∀ a o, s'.At o a → a ∈ t.fp)
    (q' : ∀ v, σ[i]? = some (some v) → Ot C.K G H v t → t.fp.Nodup → (∀ a ∈ t.fp, C.F0 a ∨ C.H0 a = none) → Same G (frzH G H as) → SlotOk C (frzH G H as) H (some v) s') : Stp C G H σ ρ (frzH G H as) H (ρ.set i s') := by
  obtain ⟨o, ho, v, rfl, ot, nd, ff⟩ := S.sl i _ hi
  have hil : i < ρ.length := (List.getElem?_eq_some_iff.mp hi).1
  have mine : ∀ a ∈ t.fp, Mt σ ρ i a := fun a ha => ⟨_, _, ho, hi, ha⟩
  have own : ∀ a ∈ as, OwnAt G H a := fun a ha => ot.at_ a (sub a ha)
  have sg : Same G (frzH G H as) := frz_same fun a ha => (own a ha).1
  have gh : Lo (frzH G H as) H := fun b u e => by
    by_cases hb : b ∈ as
    · rw [frz_in hb] at e
      exact Ky.of e
    · rw [frz_out hb] at e
      exact (S.le b u e).mono sg
  have ex : Ext G H (frzH G H as) H (Fp σ ρ) := ⟨sg, gh, fun b o e _ _ _ => e, fun b o e t g n => by
    rw [frz_out fun z => n ⟨i, mine b (sub b z)⟩]
    exact g, fun b o e => ⟨o, e⟩, fun t => t, fun g b ps e => by
    by_cases hb : b ∈ as
    · rw [frz_in hb] at e
      obtain ⟨_, u, hu, nt, _⟩ := own b hb
      rw [hu] at e
      exact nt.1 ps (Option.some.inj e)
    · rw [frz_out hb] at e
      exact g b ps e⟩
  have mt : ∀ {l : Nat} {a : Addr}, Mt σ (ρ.set i s') l a → Mt σ ρ l a := fun {l a} m => by
    by_cases hl : l = i
    · subst hl
      obtain ⟨o3, s3, e1, e2, e3⟩ := m
      rw [List.getElem?_set_self hil] at e2
      cases e2
      exact mine a (hs' a _ e3)
    · exact m.offR hl
  refine ⟨ex, ⟨S.ext.trans ex fun x u hx hf => ?_, by rw [List.length_set, S.len], fun l s hs => ?_, fun l k a q1 q2 => S.dis l k a (mt q1) (mt q2)⟩, fun a ⟨l, m⟩ => ⟨l, mt m⟩⟩
  · obtain ⟨_, _, hf⟩ := S.fp_some hf
    rcases hf with hf | hf
    · exact hf
    · rw [hf] at hx
      cases hx
  · by_cases hl : l = i
    · subst hl
      rw [List.getElem?_set_self hil] at hs
      cases hs
      exact ⟨_, ho, q' v ho ot nd ff sg⟩
    · rw [List.getElem?_set_ne (Ne.symm hl)] at hs
      obtain ⟨o, ho2, q⟩ := S.sl l s hs
      refine ⟨o, ho2, q.move sg fun a u hm h nt g => ⟨h, ?_⟩⟩
      rw [frz_out fun z => hl (S.dis l i a ⟨_, _, ho2, hs, hm⟩ (mine a (sub a z)))]
      exact g
theorem Sg.frzF {p Cl : Addr} {fs : List (Str × OT)} {sub : OT} (S : Sg C G H σ ρ) (hi : ρ[i]? = some (.tre (.ins p Cl fs))) (l : fs.lookup f = some sub) : Stp C G H σ ρ (frzH G H sub.fp) H (ρ.set i (.tre (.ins p Cl (putT f (.dat sub.toD) fs)))) := by
  have s1 : ∀ a, a ∈ OT.fpF (putT f (.dat sub.toD) fs) → a ∈ OT.fpF fs := fun a ha => (fp_put ha).resolve_right fun z => by simp [OT.fp] at z
  have s2 : ∀ a, a ∈ OT.fp (.ins p Cl (putT f (.dat sub.toD) fs)) → a ∈ OT.fp (.ins p Cl fs) := fun a ha => by
    rw [OT.fp] at ha ⊢
    rcases List.mem_cons.mp ha with ha | ha
    · exact ha ▸ List.mem_cons_self
    · exact List.mem_cons_of_mem _ (s1 a ha)
  refine S.frzA hi (fun a ha => by rw [OT.fp]; exact List.mem_cons_of_mem _ (look_fp l a ha)) (fun a o ha => s2 a ha) fun v ho ot nd ff sg => ?_
  have nd0 := nd
  rw [OT.fp] at nd
  have nd2 := List.nodup_cons.mp nd
  cases ot with
  | ins g e k =>
    refine ⟨_, rfl, .ins ?_ e (k.frz sg (fun a ha => frz_in ha) (fun a ha => frz_out ha) nd2.2 l), ?_, fun a ha => ff a (s2 a ha)⟩
    · rw [frz_out fun z => nd2.1 (look_fp l p z)]
      exact g
    · rw [OT.fp]
      exact List.nodup_cons.mpr ⟨fun z => nd2.1 (s1 p z), nd_put (by simp [OT.fp]) nd2.2 (by simp [OT.fp])⟩
theorem Sg.frzW {t : OT} (S : Sg C G H σ ρ) (hi : ρ[i]? = some (.tre t)) : Stp C G H σ ρ (frzH G H t.fp) H (ρ.set i (.dat t.toD)) :=
  S.frzA hi (fun a ha => ha) (fun a o ha => ha.elim) fun v ho ot nd ff sg => ⟨v, rfl, ot.toD sg fun a ha => frz_in ha⟩
theorem xs_of_stp {t : TS} {ρ1 : List Slot} (k : ∀ (σ : L2.St) (G H : Hp), Sg C G H σ ρ → ∃ G', Stp C G H σ ρ G' H ρ1) (h : Xs C t ρ1 po) : Xs C t ρ po := fun σ G H Dn S hn hr hb hc => by
  obtain ⟨G', s⟩ := k σ G H S
  exact h σ _ H Dn s.st (fun σ2 G2 H2 ρ2 s2 e2 => hn σ2 G2 H2 ρ2 s2 (s.ext.gg.trans e2)) hr (fun σ2 G2 H2 ρ2 s2 e2 => hb σ2 G2 H2 ρ2 s2 (s.ext.gg.trans e2)) fun σ2 G2 H2 ρ2 s2 e2 => hc σ2 G2 H2 ρ2 s2 (s.ext.gg.trans e2)
theorem ev_of_stp {ρ1 : List Slot} (k : ∀ (σ : L2.St) (G H : Hp), Sg C G H σ ρ → ∃ G', Stp C G H σ ρ G' H ρ1) (h : Ev C te ρ1 P) : Ev C te ρ P := fun σ G H Q S q => by
  obtain ⟨G', s⟩ := k σ G H S
  exact h σ _ H Q s.st fun v d G2 H2 ρ2 s2 => q v d G2 H2 ρ2 (s.trans s2)
/-- a part of what is one's own is frozen -/
theorem xs_frzF {t : TS} {p Cl : Addr} {fs : List (Str × OT)} {sub : OT} (f : Str) (hi : ρ[i]? = some (.tre (.ins p Cl fs))) (l : fs.lookup f = some sub) (h : Xs C t (ρ.set i (.tre (.ins p Cl (putT f (.dat sub.toD) fs)))) po) : Xs C t ρ po :=
  xs_of_stp (fun σ G H S => ⟨_, S.frzF hi l⟩) h
theorem xs_frzW {t : TS} {u : OT} (hi : ρ[i]? = some (.tre u)) (h : Xs C t (ρ.set i (.dat u.toD)) po) : Xs C t ρ po :=
  xs_of_stp (fun σ G H S => ⟨_, S.frzW hi⟩) h
theorem ev_frzW {u : OT} (hi : ρ[i]? = some (.tre u)) (h : Ev C te (ρ.set i (.dat u.toD)) P) : Ev C te ρ P :=
  ev_of_stp (fun σ G H S => ⟨_, S.frzW hi⟩) h
/-- what is owned at slot i has turned -/
theorem Sg.turnT {t t' : OT} {v : V} (S : Sg C G H σ ρ) (hi : ρ[i]? = some (.tre t)) (ho : σ[i]? = some (some v)) (e : Ext G H G' H' (fun b => b ∈ t.fp)) (ot : Ot C.K G' H' v t') (nd : t'.fp.Nodup) (sub : ∀ a ∈ t'.fp, a ∈ t.fp) : Stp C G H σ ρ G' H' (ρ.set i (.tre t')) := by
  have hl : i < ρ.length := (List.getElem?_eq_some_iff.mp hi).1
  obtain ⟨o, ho', v', rfl, ot0, nd0, ff⟩ := S.sl i _ hi
  have mine : ∀ a ∈ t.fp, Mt σ ρ i a := fun a ha => ⟨_, _, ho, hi, ha⟩
  have mt : ∀ {l : Nat} {b : Addr}, Mt σ (ρ.set i (.tre t')) l b → Mt σ ρ l b := fun {l b} m => by
    by_cases hj : l = i
    · subst hj
      obtain ⟨o3, s3, e1, e2, e3⟩ := m
      rw [List.getElem?_set_self hl] at e2
      cases e2
      exact mine b (sub b e3)
    · exact m.offR hj
  refine ⟨e.mono fun b hb => ⟨i, mine b hb⟩, ⟨S.ext.trans e fun x u hx hf => ?_, by rw [List.length_set, S.len], fun l s hs => ?_, fun l k b q1 q2 => S.dis l k b (mt q1) (mt q2)⟩, fun b ⟨l, m⟩ => ⟨l, mt m⟩⟩
  · rcases ff x hf with h3 | h3
    · exact h3
    · rw [h3] at hx
      cases hx
  · by_cases hj : l = i
    · subst hj
      rw [List.getElem?_set_self hl] at hs
      cases hs
      exact ⟨_, ho, v, rfl, ot, nd, fun a ha => ff a (sub a ha)⟩
    · rw [List.getElem?_set_ne (Ne.symm hj)] at hs
      obtain ⟨o, ho2, q⟩ := S.sl l s hs
      refine ⟨o, ho2, q.move e.gg fun b u hm h nt g => ?_⟩
      have na : b ∉ t.fp := fun z => hj (S.dis l i b ⟨_, _, ho2, hs, hm⟩ (mine b z))
      exact ⟨e.fr _ _ h nt.1 na (Cac.no g), e.nf _ _ h nt g na⟩
end
/-- the promise of a method of what is one's own: t at the start, at the end -/
abbrev FM := OT → List D → (D → OT → Prop) → (Addr → D → Prop) → Prop
def spM (K : PySem.W.Frag) (f : FM) : Sp := fun vs H Q E => ∃ p ws G t ds R Z, vs = .ref p :: ws ∧ Lo G H ∧ t.root = some p ∧ Ot K G H (.ref p) t ∧ t.fp.Nodup ∧ IsL K G ws ds ∧ f t ds R Z ∧
  (∀ v d t' G' H', Ext G H G' H' (fun b => b ∈ t.fp) → t'.root = some p → Ot K G' H' (.ref p) t' → t'.fp.Nodup → (∀ a ∈ t'.fp, a ∈ t.fp ∨ H a = none) → Is K G' v d → R d t' → Q v H') ∧ Flies K G H (fun b => b ∈ t.fp) Z E
theorem spM_len {K : PySem.W.Frag} {f : FM} {n : Nat} (h : ∀ t ds R Z, f t ds R Z → ds.length + 1 = n) : ∀ vs H Q E, spM K f vs H Q E → vs.length = n := fun vs H Q E ⟨p, ws, G, t, ds, R, Z, e, _, _, _, _, kk, hf, _⟩ => by
  rw [e, List.length_cons, kk.length]
  exact h t ds R Z hf
section
variable {C : Fx} {ρ : List Slot} {te : TE} {ta : TA} {P : PD} {i : Nat} {K' : PySem.W.Frag} {m : Str} {E : XK} {Z : Addr → D → Prop}
/-- o.m(..), o one's own -/
theorem ev_methT {f : FM} {p Cl : Addr} {fs : List (Str × OT)} (hE : Flies C.K C.G0 C.H0 C.F0 Z E) (hi : ρ[i]? = some (.tre (.ins p Cl fs))) (l : fs.lookup m = none)
    (h : EvA C ta ρ fun ds ρ1 => ∃ t, ρ1[i]? = some (.tre t) ∧ t.root = some p ∧ f t ds (fun d t' => (∀ a ∈ t'.fp, a ∈ t.fp) ∧ P d (ρ1.set i (.tre t'))) Z) (hK : K' = C.K := by rfl) : Ev C (tMeth Cl m (spM K' f) [] E (tVar i) ta) ρ P := fun σ G H Q S q => by
  subst hK
  obtain ⟨o, ho, v, rfl, ot, nd, ff⟩ := S.sl i _ hi
  cases ot with
  | @ins _ _ dx us _ g e k =>
    refine ⟨_, ho, p, dx, us, rfl, e, k.none l, h σ G H _ S fun vs ds G1 H1 ρ1 s1 p1 k1 => ?_⟩
    obtain ⟨t, hi1, rt, hf⟩ := p1
    obtain ⟨o1, ho1, v1, rfl, ot1, nd1, ff1⟩ := s1.st.sl i _ hi1
    cases ot_root ot1 rt
    rw [List.append_nil]
    refine ⟨p, vs, G1, t, ds, _, Z, rfl, s1.st.le, rt, ot1, nd1, k1, hf, fun w d t' G' H' ex rt' ot' nd' sub kd r => ?_, fun X dx v d G' H' ex gx kk z => ?_⟩
    · exact q w d G' H' _ (s1.trans (s1.st.turnT hi1 ho1 ex ot' nd' r.1)) r.2 kd
    · refine hE X dx v d G' H' (s1.st.ext.trans ex fun x o hx hf => ?_) gx kk z
      rcases ff1 x hf with h3 | h3
      · exact h3
      · rw [h3] at hx
        cases hx
/-- C(..), one's own -/
theorem et_make {f : FM} {Cl : Addr} {P : OT → List Slot → Prop} (hE : Flies C.K C.G0 C.H0 C.F0 Z E) (h : EvA C ta ρ fun ds ρ1 => ∀ x, f (.ins x Cl []) ds (fun d t' => d = .non ∧ P t' ρ1) Z) (hK : K' = C.K := by rfl) : EvTr C (tMake Cl (spM K' f) [] E ta) ρ P := fun σ G H Q S q => by
  subst hK
  refine h σ G H _ S fun vs ds G1 H1 ρ1 s1 p1 k1 => fun x dx hx hdx ne => ?_
  have x1 : Ext G1 H1 G1 (upd H1 dx (.own x)) (fun _ => False) := Ext.newM s1.st.le hdx _
  have hx2 : upd H1 dx (.own x) x = none := by
    rw [upd_ne ne.symm]
    exact hx
  have x2 : Ext G1 (upd H1 dx (.own x)) G1 (upd (upd H1 dx (.own x)) x (.ins Cl dx [])) (fun _ => False) := Ext.newM x1.gh hx2 _
  have x3 := x1.trans x2 fun _ _ _ h => h
  have gx : G1 x = Option.none := s1.st.le.free hx
  have up : ∀ a, H1 a = none → H a = none := fun a ha => by
    cases z : H a with
    | none => rfl
    | some o =>
      obtain ⟨u, e⟩ := s1.ext.th a o z
      rw [ha] at e
      cases e
  have up2 : ∀ a, (upd (upd H1 dx (.own x)) x (.ins Cl dx [])) a = none → H1 a = none := fun a ha => by
    cases z : H1 a with
    | none => rfl
    | some o =>
      obtain ⟨u, e⟩ := x3.th a o z
      rw [ha] at e
      cases e
  rw [List.append_nil]
  refine ⟨x, vs, G1, .ins x Cl [], ds, _, Z, rfl, x3.gh, rfl, .ins gx upd_same .nil, by simp [OT.fp, OT.fpF], k1, p1 x, fun w d t' G' H' e rt' ot' nd' sub kd r => ?_, fun Xc dxx v d G' H' e g kk z => ?_⟩
  · obtain ⟨rfl, r⟩ := r
    cases kd
    have x4 : Ext G1 H1 G' H' (fun _ => False) := x3.trans e fun b o hb z => by
      simp [OT.fp, OT.fpF] at z
      rw [z, hx] at hb
      cases hb
    refine ⟨rfl, q _ t' G' H' ρ1 (s1.trans (s1.st.keep x4)) r ot' nd' fun a ha => ?_⟩
    rcases sub a ha with z | z
    · simp [OT.fp, OT.fpF] at z
      rw [z]
      exact up x hx
    · exact up a (up2 a z)
  · have x5 : Ext G1 H1 G' H' (fun _ => False) := x3.trans e fun b o hb z => by
      simp [OT.fp, OT.fpF] at z
      rw [z, hx] at hb
      cases hb
    exact hE Xc dxx v d G' H' (s1.st.ext.trans x5 fun _ _ _ z => z.elim) g kk z
end
section
variable {K : PySem.W.Frag} {N : List Str} {vs : List V} {ds : List D} {G H : Hp}
theorem start_sgT {p : Addr} {t0 : OT} (le : Lo G H) (ot : Ot K G H (.ref p) t0) (nd : t0.fp.Nodup) (t : IsL K G vs ds) (F : Addr → Prop) (fa : ∀ a ∈ t0.fp, F a) : Sg ⟨K, G, H, F⟩ G H (start N (.ref p :: vs)) (.tre t0 :: (ds.map .dat ++ List.replicate (N.length - (ds.length + 1)) .un)) := by
  have kl := t.length
  have lens : (start N (.ref p :: vs)).length = (Slot.tre t0 :: (ds.map Slot.dat ++ List.replicate (N.length - (ds.length + 1)) Slot.un)).length := by
    unfold L2.start
    simp [kl]
  have nm : ∀ {i : Nat} {s : Slot}, (ds.map Slot.dat ++ List.replicate (N.length - (ds.length + 1)) Slot.un)[i]? = some s → (∃ d, ds[i]? = some d ∧ s = .dat d) ∨ s = .un := fun {i s} h => by
    rw [List.getElem?_append] at h
    split at h
    · rw [List.getElem?_map] at h
      cases e : ds[i]? with
      | none =>
        rw [e] at h
        cases h
      | some d =>
        rw [e] at h
        exact .inl ⟨d, rfl, (Option.some.inj h).symm⟩
    · rw [List.getElem?_replicate] at h
      split at h
      · exact .inr (Option.some.inj h).symm
      · cases h
  have nmt : ∀ {i : Nat} {b : Addr}, Mt (start N (.ref p :: vs)) (Slot.tre t0 :: (ds.map Slot.dat ++ List.replicate (N.length - (ds.length + 1)) Slot.un)) i b → i = 0 := fun {i b} m => by
    cases i with
    | zero => rfl
    | succ i =>
      obtain ⟨r, e, hm⟩ := m.slot
      rw [List.getElem?_cons_succ] at e
      rcases nm e with ⟨d, _, z⟩ | z <;> subst z <;> cases hm
  refine ⟨Ext.refl le, lens, fun i s hs => ?_, fun i j b h1 h2 => (nmt h1).trans (nmt h2).symm⟩
  have hl : i < (start N (.ref p :: vs)).length := by
    rw [lens]
    exact (List.getElem?_eq_some_iff.mp hs).1
  cases i with
  | zero =>
    have hs : some (Slot.tre t0) = some s := hs
    cases hs
    exact ⟨some (.ref p), rfl, _, rfl, ot, nd, fun a ha => .inl (fa a ha)⟩
  | succ i =>
    rw [List.getElem?_cons_succ] at hs
    rcases nm hs with ⟨d, hd, rfl⟩ | rfl
    · obtain ⟨v, hv, kv⟩ := t.get hd
      refine ⟨some v, ?_, v, rfl, kv⟩
      rw [start_get, if_pos (by rw [List.length_cons]; have := (List.getElem?_eq_some_iff.mp hv).1; omega), List.getElem?_cons_succ, hv]
      rfl
    · exact ⟨_, List.getElem?_eq_getElem hl, trivial⟩
/-- the end of a method's proof -/
theorem fin_M {u : TS} {Q : VK} {R : D → OT → Prop} {p : Addr} {t : OT} (le : Lo G H) (rt : t.root = some p) (ot : Ot K G H (.ref p) t) (nd : t.fp.Nodup) (kk : IsL K G vs ds)
    (hq : ∀ v d t' G' H', Ext G H G' H' (fun b => b ∈ t.fp) → t'.root = some p → Ot K G' H' (.ref p) t' → t'.fp.Nodup → (∀ a ∈ t'.fp, a ∈ t.fp ∨ H a = none) → Is K G' v d → R d t' → Q v H')
    (h : Xs ⟨K, G, H, fun b => b ∈ t.fp⟩ u (.tre t :: (ds.map .dat ++ List.replicate (N.length - (ds.length + 1)) .un)) { nx := fun ρ' => ∃ t', ρ'[0]? = some (.tre t') ∧ t'.root = some p ∧ R .non t', rt := fun d ρ' => ∃ t', ρ'[0]? = some (.tre t') ∧ t'.root = some p ∧ R d t' }) : u { nx := fun _ H' => Q .non H', rt := Q } (start N (.ref p :: vs)) H := by
  refine h _ G H _ (start_sgT le ot nd kk _ fun a ha => ha) (fun σ' G' H' ρ' s _ r => ?_) (fun v d σ' G' H' ρ' s kd r => ?_) (fun _ _ _ _ _ _ z => z.elim) (fun _ _ _ _ _ _ z => z.elim)
  · obtain ⟨t', e, rt', r⟩ := r
    obtain ⟨o, ho, w, rfl, ot', nd', ff⟩ := s.sl 0 _ e
    cases ot_root ot' rt'
    exact hq _ _ t' G' H' s.ext rt' ot' nd' ff .non r
  · obtain ⟨t', e, rt', r⟩ := r
    obtain ⟨o, ho, w, rfl, ot', nd', ff⟩ := s.sl 0 _ e
    cases ot_root ot' rt'
    exact hq _ _ t' G' H' s.ext rt' ot' nd' ff kd r
end
end DL
/-! dict comprehensions -/
namespace DL
open PySem PySem.Spec PyProof.Rows L2 LamX
section
variable {J : It} {n : Nat} {G : Hp → Prop} {Y : Nat → Hp → V → Hp → Prop}
theorem dc_it (w : Walk J n G Y) {g : TG} {tt : TT} {tk tv : TE} {vs : List Nat} {σ : L2.St} {H1 : Hp} {D : Addr} {Qd : Hp → Prop} (Pv : Nat → Hp → Prop) (h0 : Pv 0 (upd H1 D (.dK []))) (hG : ∀ i H, i ≤ n → Pv i H → G H)
    (hs : ∀ i x H H', i < n → Pv i H → Y i H x H' → g x (wipe σ vs) H' fun σ2 H2 => wipe σ2 vs = wipe σ vs ∧ tt σ2 H2 fun b H3 =>
      if b = true then tk σ2 H3 fun y H4 => tv σ2 H4 fun z H5 => ∃ kvs k, y = kV k ∧ H5 D = some (.dK kvs) ∧ kvs.length < sizeLine ∧ Pv (i + 1) (upd H5 D (.dK (putK kvs k z))) else Pv (i + 1) H3) (hd : ∀ H, Pv n H → Qd H) :
    ∃ W : Nat → Nat → Hp → Prop, (∃ m, W 0 m (upd H1 D (.dK []))) ∧ ∀ i m H, W i m H →
      (J.stop i H ∧ Qd H) ∨ (J.go i H ∧ ∃ Nx : Hp → Prop, (∀ H', Nx H' → ∃ m', m' < m ∧ W (i + 1) m' H') ∧ ∀ x H', J.yld i H x H' → g x (wipe σ vs) H' fun σ2 H2 => wipe σ2 vs = wipe σ vs ∧ tt σ2 H2 fun b H3 =>
        if b = true then tk σ2 H3 fun y H4 => tv σ2 H4 fun z H5 => ∃ kvs k, y = kV k ∧ H5 D = some (.dK kvs) ∧ kvs.length < sizeLine ∧ Nx (upd H5 D (.dK (putK kvs k z))) else Nx H3) := by
  refine ⟨fun i m H => m = n - i ∧ i ≤ n ∧ Pv i H, ⟨n, by simp, Nat.zero_le _, h0⟩, ?_⟩
  rintro i m H ⟨rfl, hi, p⟩
  have q := hG i H hi p
  by_cases hlt : i < n
  · refine .inr ⟨w.goes i H hlt q, Pv (i + 1), fun H' p' => ⟨n - (i + 1), by omega, rfl, hlt, p'⟩, fun x H' y => hs i x H H' hlt p (w.yields i H x H' hlt q y)⟩
  · have e : i = n := by omega
    subst e
    exact .inl ⟨w.stops H q, hd H p⟩
end
section
variable {K : PySem.W.Frag} {G H : Hp}
theorem OtK.length : ∀ {vs : List (Key × V)} {ts : List (Key × OT)}, OtK K G H vs ts → vs.length = ts.length
  | _, _, .nil => rfl
  | _, _, .cons _ t => by rw [List.length_cons, List.length_cons, OtK.length t]
theorem OtK.any {k : Key} : ∀ {vs : List (Key × V)} {ts : List (Key × OT)}, OtK K G H vs ts → (vs.any fun kv => decide (kv.1 = k)) = ts.any fun kv => decide (kv.1 = k)
  | _, _, .nil => rfl
  | _, _, .cons _ t => by simp only [List.any_cons, OtK.any t]
theorem OtK.snoc {k : Key} {v : V} {t : OT} (h : Ot K G H v t) : ∀ {vs : List (Key × V)} {ts : List (Key × OT)}, OtK K G H vs ts → OtK K G H (vs ++ [(k, v)]) (ts ++ [(k, t)])
  | _, _, .nil => .cons h .nil
  | _, _, .cons q t => .cons q (OtK.snoc h t)
theorem fpK_snoc {k : Key} {t : OT} : ∀ {ts : List (Key × OT)}, OT.fpK (ts ++ [(k, t)]) = OT.fpK ts ++ t.fp
  | [] => by simp [OT.fpK]
  | (j, u) :: r => by
    rw [List.cons_append, OT.fpK, OT.fpK, fpK_snoc, List.append_assoc]
end
variable [TabT] [CacT]
theorem ext_poke {G H : Hp} {p : Addr} {u o : HO} (le : Lo G H) (g : G p = none) (h : H p = some u) (nt : ∀ ps, u ≠ .tbl ps) (nx : ∀ f, u ≠ .ext f) : Ext G H G (upd H p o) (fun b => b = p) :=
  ⟨Same.refl G, fun b u2 e => by
    rw [upd_ne (ne_of_none e g)]
    exact le b u2 e, fun b o2 e _ f _ => by
    rw [upd_ne f]
    exact e, fun b o2 e _ q f => q, fun b o2 e => by
    by_cases hb : b = p
    · exact ⟨_, by rw [hb, upd_same]⟩
    · exact ⟨o2, by rw [upd_ne hb]; exact e⟩, fun t => tabs_upd h nt nx t, fun n => n⟩
theorem Ext.kept {G H G' H' : Hp} {F : Addr → Prop} (e : Ext G H G' H' F) {as : List Addr} (nf : ∀ a ∈ as, ¬ F a) : Kept G H G' H' as := fun a ha u hu nt g => ⟨e.fr a u hu nt.1 (nf a ha) (Cac.no g), e.nf a u hu nt g (nf a ha)⟩
section
variable {C : Fx} {ρ : List Slot} {te : TE}
/-- data, as what is one's own -/
theorem Ev.tr {P : OT → List Slot → Prop} (h : Ev C te ρ fun d ρ' => P (.dat d) ρ') : EvTr C te ρ P := fun σ G H Q S q =>
  h σ G H _ S fun v d G' H' ρ' s p k => q v (.dat d) G' H' ρ' s p (.dat k) (by simp [OT.fp]) fun a ha => by simp [OT.fp] at ha
/-- what is new and one's own, frozen at once -/
theorem EvTr.ev {P : PD} (h : EvTr C te ρ fun t ρ' => P t.toD ρ') : Ev C te ρ P := fun σ G H Q S q => by
  refine h σ G H _ S fun v t G1 H1 ρ1 s1 p1 ot nd fr => ?_
  have own : ∀ a ∈ t.fp, OwnAt G1 H1 a := fun a ha => ot.at_ a ha
  have sg : Same G1 (frzH G1 H1 t.fp) := frz_same fun a ha => (own a ha).1
  have gh : Lo (frzH G1 H1 t.fp) H1 := fun b u e => by
    by_cases hb : b ∈ t.fp
    · rw [frz_in hb] at e
      exact Ky.of e
    · rw [frz_out hb] at e
      exact (s1.st.le b u e).mono sg
  have h0 : ∀ a ∈ t.fp, C.H0 a = none := fun a ha => h0_none S (fr a ha)
  have nt : NoT G1 → NoT (frzH G1 H1 t.fp) := fun g b ps e => by
    by_cases hb : b ∈ t.fp
    · rw [frz_in hb] at e
      obtain ⟨_, u, hu, nt, _⟩ := own b hb
      rw [hu] at e
      exact nt.1 ps (Option.some.inj e)
    · rw [frz_out hb] at e
      exact g b ps e
  have ex : ∀ {A B : Hp} {F : Addr → Prop}, (∀ a ∈ t.fp, B a = none) → Ext A B G1 H1 F → Ext A B (frzH G1 H1 t.fp) H1 F := fun {A B F} n e => ⟨e.gg.trans sg, gh, e.fr, fun b o hb t g f => by
    rw [frz_out fun z => by
      rw [n b z] at hb
      cases hb]
    exact e.nf b o hb t g f, e.th, e.tt, fun g => nt (e.nt g)⟩
  refine q v t.toD _ H1 ρ1 ⟨ex fr s1.ext, ⟨ex h0 s1.st.ext, s1.st.len, fun l s hs => ?_, s1.st.dis⟩, s1.sub⟩ p1 (ot.toD sg fun a ha => frz_in ha)
  obtain ⟨o, ho, q⟩ := s1.st.sl l s hs
  refine ⟨o, ho, q.move sg fun a u hm h nt g => ⟨h, ?_⟩⟩
  rw [frz_out fun z => nomt S s1 (fr a z) (j := l) ⟨_, _, ho, hs, hm⟩]
  exact g
/-- {k: v for target in iter if ..}, no key twice -/
theorem et_dc {wi : TI} {g : TG} {tt : TT} {tk tv : TE} {vs is : List Nat} {P : OT → List Slot → Prop} (I : List D → Nat → List (Key × OT) → List Slot → Prop) (hv : ∀ i ∈ is, i ∈ vs) (h : EvI C wi ρ fun ds ρ1 => ds.length ≤ 100000 ∧ I ds 0 [] (wipeS ρ1 vs) ∧
    (∀ i d acc ρ', ds[i]? = some d → I ds i acc (wipeS ρ' vs) → Eg C g is d (wipeS ρ' vs) fun ρ2 => EvT C tt ρ2 fun b ρ3 => (b = true → Ev C tk ρ3 fun y ρ4 => EvTr C tv ρ4 fun t ρ5 => ∃ k, y = keyD k ∧ (∀ kv ∈ acc, kv.1 ≠ k) ∧ I ds (i + 1) (acc ++ [(k, t)]) (wipeS ρ5 vs)) ∧ (b = false → I ds (i + 1) acc (wipeS ρ3 vs))) ∧
    ∀ acc ρ' D, acc.length ≤ ds.length → I ds ds.length acc (wipeS ρ' vs) → P (.dk D acc) (wipeS ρ' vs)) : EvTr C (tDc wi g tt tk tv vs) ρ P := fun σ G H Q S q => by
  refine h σ G H _ S fun J ds G1 H1 ρ1 s1 p1 w => ?_
  obtain ⟨hlen, i0, step, fin⟩ := p1
  intro Dl nD
  have nD0 : H Dl = none := by
    cases z : H Dl with
    | none => rfl
    | some o =>
      obtain ⟨u, e⟩ := s1.ext.th _ _ z
      rw [nD] at e
      cases e
  have gD : G1 Dl = none := s1.st.le.free nD
  have ex0 := Ext.newM (F := fun _ => False) s1.st.le nD (.dK [])
  have s0 := s1.st.keep ex0
  let Pv : Nat → Hp → Prop := fun i H2 => ∃ G2 ρ2 acc, Stp C G H σ ρ G2 H2 (wipeS ρ2 vs) ∧ Same G1 G2 ∧ Ot C.K G2 H2 (.ref Dl) (.dk Dl acc) ∧ (OT.fp (.dk Dl acc)).Nodup ∧ (∀ a ∈ OT.fp (.dk Dl acc), H a = none) ∧ I ds i acc (wipeS ρ2 vs) ∧ acc.length ≤ i
  have sub0 : ∀ a, Fp σ (wipeS ρ1 vs) a → Fp σ ρ1 a := fun a ⟨j, m⟩ => ⟨j, m.wipe'.wipe.2⟩
  refine dc_it w.walk Pv ⟨G1, ρ1, [], ⟨(s1.trans s0).ext, (s0.st.wipe vs).unwipe, fun a ha => s1.sub a (sub0 a ha)⟩, Same.refl G1, .dk gD upd_same .nil, by simp [OT.fp, OT.fpK], fun a ha => by
    simp [OT.fp, OT.fpK] at ha
    rw [ha]
    exact nD0, i0, Nat.zero_le _⟩ (fun i H2 _ ⟨G2, ρ2, acc, s2, e2, _⟩ => Lq.of e2 s2.st.le) (fun i x H2 H3 hi ⟨G2, ρ2, acc, s2, e2, ot, nd, fr, i2, la⟩ y => ?_) fun H2 ⟨G2, ρ2, acc, s2, e2, ot, nd, fr, i2, la⟩ => q _ _ G2 H2 _ s2 (fin acc ρ2 Dl la i2) ot nd fr
  have hdi : ds[i]? = some ds[i] := List.getElem?_eq_getElem hi
  have S2w : Sg C G2 H2 (L2.wipe σ vs) (wipeS ρ2 vs) := by
    refine ⟨s2.st.ext, by rw [wipe_length, s2.st.len], fun j s hs => ?_, fun j k a h1 h2 => s2.st.dis j k a h1.wipe.1 h2.wipe.1⟩
    rcases wipeS_get hs with rfl | ⟨hj, _⟩
    · have hl : j < (L2.wipe σ vs).length := by
        rw [wipe_length, s2.st.len]
        exact (List.getElem?_eq_some_iff.mp hs).1
      exact ⟨_, List.getElem?_eq_getElem hl, trivial⟩
    · obtain ⟨o, ho, qo⟩ := s2.st.sl j s hs
      exact ⟨o, by rw [wipe_ne hj]; exact ho, qo⟩
  have nfp : ∀ a ∈ OT.fp (.dk Dl acc), ¬ Fp σ ρ a := fun a ha z => by
    obtain ⟨_, ⟨xs, e⟩, _⟩ := S.fp_some z
    rw [fr a ha] at e
    cases e
  have go : ∀ {G3 : Hp} {x : V}, Ext G2 H2 G3 H3 (fun _ => False) → Is C.K G3 x ds[i] → g x (L2.wipe σ vs) H3 fun σ4 H4 => L2.wipe σ4 vs = L2.wipe σ vs ∧ tt σ4 H4 fun b H5 =>
      if b = true then tk σ4 H5 fun y H6 => tv σ4 H6 fun z H7 => ∃ kvs k, y = kV k ∧ H7 Dl = some (.dK kvs) ∧ kvs.length < sizeLine ∧ Pv (i + 1) (upd H7 Dl (.dK (putK kvs k z))) else Pv (i + 1) H5 := fun {G3 x} ex k => by
    have S3 := (S2w.keep ex).st
    have ot3 := ot.move ex.gg (ex.kept fun a _ z => z)
    refine step i _ acc ρ2 hdi i2 (L2.wipe σ vs) G3 H3 x _ S3 k fun σ4 ρ4 S4 p4 w4 m4 => ⟨?_, ?_⟩
    · rw [w4 vs hv]
      exact wipe_wipe vs fun _ h => h
    · have w4' : L2.wipe σ4 vs = L2.wipe σ vs := by
        rw [w4 vs hv]
        exact wipe_wipe vs fun _ h => h
      have nf4 : ∀ a ∈ OT.fp (.dk Dl acc), ¬ Fp σ4 ρ4 a := fun a ha ⟨j, m⟩ => nfp a ha (s2.sub a ⟨j, (m4 j _ m).wipe.1⟩)
      have back : ∀ {ρ5 : List Slot} {G5 H5 : Hp}, Stp C G3 H3 σ4 ρ4 G5 H5 ρ5 → Stp C G H σ ρ G5 H5 (wipeS ρ5 vs) := fun {ρ5 G5 H5} s5 => by
        have S5 : Sg C G5 H5 σ (wipeS ρ5 vs) := by
          have := s5.st.wipe vs
          rw [w4'] at this
          exact this.unwipe
        have sub5 : ∀ a, Fp σ4 ρ5 a → Fp σ ρ a := fun a ha => by
          obtain ⟨j, m⟩ := s5.sub a ha
          exact s2.sub a ⟨j, (m4 j a m).wipe.1⟩
        refine ⟨(s2.ext.trans ex fun _ _ _ h => h.elim).trans s5.ext fun a _ _ ⟨j, m⟩ => s2.sub a ⟨j, (m4 j a m).wipe.1⟩, S5, fun a ⟨j, m⟩ => sub5 a ?_⟩
        have m1 := m.wipe'
        rw [← w4'] at m1
        exact ⟨j, m1.wipe.2⟩
      refine p4 σ4 G3 H3 _ S4 fun b G5 H5 ρ5 s5 p5 => ?_
      have ot5 := ot3.move s5.ext.gg (s5.ext.kept nf4)
      cases b with
      | false => exact iteF ⟨G5, ρ5, acc, back s5, (e2.trans ex.gg).trans s5.ext.gg, ot5, nd, fr, p5.2 rfl, Nat.le_succ_of_le la⟩
      | true =>
        refine iteT (p5.1 rfl σ4 G5 H5 _ s5.st fun y d6 G6 H6 ρ6 s6 p6 k6 => ?_)
        have ot6 := ot5.move s6.ext.gg (s6.ext.kept fun a ha z => nf4 a ha (s5.sub a z))
        refine p6 σ4 G6 H6 _ s6.st fun z t G7 H7 ρ7 s7 p7 otv ndv frv => ?_
        obtain ⟨key, rfl, hk, p7⟩ := p7
        have ot7 := ot6.move s7.ext.gg (s7.ext.kept fun a ha z => nf4 a ha (s5.sub a (s6.sub a z)))
        have t7 := back ((s5.trans s6).trans s7)
        have in6 : ∀ a ∈ OT.fp (.dk Dl acc), ∃ u, H6 a = some u := fun a ha => by
          obtain ⟨_, u, e, _⟩ := ot6.at_ a ha
          exact ⟨u, e⟩
        have dj : ∀ a ∈ t.fp, a ∉ OT.fp (.dk Dl acc) := fun a ha z => by
          obtain ⟨u, e⟩ := in6 a z
          rw [frv a ha] at e
          cases e
        have frt : ∀ a ∈ t.fp, H a = none := fun a ha => by
          cases z : H a with
          | none => rfl
          | some o =>
            obtain ⟨u, e⟩ := (back (s5.trans s6)).ext.th a o z
            rw [frv a ha] at e
            cases e
        cases is_key k6
        cases ot7 with
        | @dk _ us _ g7 h7 k7 =>
          refine ⟨us, key, rfl, h7, ?_, G7, ρ7, acc ++ [(key, t)], ?_, ((e2.trans ex.gg).trans s5.ext.gg).trans (s6.ext.gg.trans s7.ext.gg), ?_, ?_, ?_, p7, by rw [List.length_append]; exact Nat.succ_le_succ la⟩
          · rw [k7.length]
            exact Nat.lt_of_le_of_lt (Nat.le_of_lt (Nat.lt_of_le_of_lt la (Nat.lt_of_lt_of_le hi hlen))) (by decide)
          · have e7 : Ext G7 H7 G7 (upd H7 Dl (.dK (putK us key z))) (fun b => b = Dl) := ext_poke t7.st.le g7 h7 (fun _ z => nomatch z) (fun _ z => nomatch z)
            have nD7 : ¬ Fp σ (wipeS ρ7 vs) Dl := fun z => nfp Dl (by simp [OT.fp]) (t7.sub Dl z)
            exact ⟨t7.ext.trans e7 fun x o hx hz => (by rw [hz, nD0] at hx; cases hx), t7.st.keepP e7 nD7 (h0_none S nD0), t7.sub⟩
          · have ab : (us.any fun kv => decide (kv.1 = key)) = false := by
              rw [k7.any]
              exact List.any_eq_false.mpr fun kv hm => by simpa using hk kv hm
            have ep : putK us key z = us ++ [(key, z)] := by
              unfold L2.putK
              rw [ab]
              rfl
            rw [ep]
            rw [OT.fp] at nd dj
            have nd2 := List.nodup_cons.mp nd
            refine .dk g7 upd_same (OtK.snoc (otv.move (Same.refl _) fun a ha u hu _ g => ⟨?_, g⟩) (k7.move (Same.refl _) fun a ha u hu _ g => ⟨?_, g⟩))
            · rw [upd_ne (b := a) (a := Dl) fun z => dj a ha (z ▸ List.mem_cons_self)]
              exact hu
            · rw [upd_ne (b := a) (a := Dl) fun z => nd2.1 (z ▸ ha)]
              exact hu
          · rw [OT.fp, fpK_snoc, ← List.cons_append]
            rw [OT.fp] at nd dj
            exact List.nodup_append.mpr ⟨nd, ndv, fun a ha b hb e => dj b hb (e ▸ ha)⟩
          · intro a ha
            rw [OT.fp, fpK_snoc, ← List.cons_append] at ha
            rcases List.mem_append.mp ha with ha | ha
            · exact fr a (by rw [OT.fp]; exact ha)
            · exact frt a ha
  rcases y _ hdi with ⟨rfl, k⟩ | ⟨T, xs, es, rfl, nT, rfl, e, k⟩
  · exact go (Ext.refl s2.st.le) (k.mono e2)
  · have ex := Ext.new (F := fun _ => False) s2.st.le nT (.tup xs)
    refine go ex ?_
    rw [e]
    exact .tup (.inl (.inl upd_same)) (k.mono (e2.trans ex.gg))
end
end DL
/-! list(d.items()) of a dict with tuples as keys; sorting -/
namespace DLI
open PySem PySem.Spec PyProof.Rows L2
theorem rcLt_str (A : Around) (s : Shared) (x : Str) (t : Tok) (y : Str) (u : Tok) (prog : Program) (w : World) (E : Value → Shared → Prop) (Q : Value → Shared → Prop) (h : Q (.bool (decide (x.cps.toList < y.cps.toList))) s) :
    wpAny (model prog w) A (richCompare .Lt (.str x t) (.str y u)) Q E s :=
  (PyProof.Rows.lt_str h : wpAny (model prog w) A (compareOp .Lt (.str x t) (.str y u)) Q E s)
section
open PySem.SeqAt
open PySem.AutoSeq1 (wpAny_loadPart')
open PySem.MeetsSeq PySem.MeetsSeq2 PySem.MeetsSeq3
def lt2s (x1 x2 y1 y2 : Str) : Bool := if x1 = y1 then decide (x2.cps.toList < y2.cps.toList) else decide (x1.cps.toList < y1.cps.toList)
theorem tuple_lt_str2 (l b : Addr) (n n2 : Nat) (dd dd2 : Option Addr) (sl sl2 : Array (Option Value)) (x1 x2 y1 y2 : Str) (t1 t2 u1 u2 : Tok) (hne : ¬ (x1 = y1 ∧ x2 = y2)) :
    Meets (Builtin.«tuple.__lt__» ⟨[.ref l, .ref b], []⟩)
      (fun _ R s => s.heap.get? l = some { cls := .type "tuple", dict := dd, data := .seq #[.str x1 t1, .str x2 t2] n, slots := sl } ∧ s.heap.get? b = some { cls := .type "tuple", dict := dd2, data := .seq #[.str y1 u1, .str y2 u2] n2, slots := sl2 } ∧
        R (.ok (.ret (.bool (lt2s x1 x2 y1 y2)))) s) :=
  .of_wp fun prog w A R s h => by
    obtain ⟨hp, g, d, tk, os⟩ := s; obtain ⟨hl, hb, h⟩ := h
    have f2 := AutoSeq1.sub_tuple_tuple
    wp_walk using wpAny_loadPart' hl, wpAny_loadPart' hb, wpAny_forIn_list _ (fun rest b s' => b.1 = none ∧ s' = ⟨hp, g, d, tk, os⟩ ∧ (rest = [(Value.str x1 t1, Value.str y1 u1), (Value.str x2 t2, Value.str y2 u2)] ∨ (x1 = y1 ∧ rest = [(Value.str x2 t2, Value.str y2 u2)]))) _
    case turn =>
      rintro ⟨p, q⟩ rest b s' ⟨hb', rfl, hz⟩
      rcases hz with hz | ⟨e1, hz⟩
      · injection hz with h1 h2
        injection h1 with h3 h4
        subst h3 h4 h2
        have he := SeqAt.EqAt.str_str (A := A.in1) (s := ⟨hp, g, d, tk, os⟩) x1 t1 y1 u1
        refine wpAny_bind (he prog w _ _ ?_)
        by_cases e : x1 = y1
        · have eb : (x1 == y1) = true := by rw [e]; exact beq_self_eq_true y1
          rw [eb]
          wp_walk
          exact ⟨rfl, rfl, .inr ⟨e, rfl⟩⟩
        · have eb : (x1 == y1) = false := by simpa using e
          rw [eb]
          have hri := rcLt_str A.in1 ⟨hp, g, d, tk, os⟩ x1 t1 y1 u1 prog w
          wp_walk using hri
          refine ⟨_, rfl, ?_⟩
          have z : lt2s x1 x2 y1 y2 = decide (x1.cps.toList < y1.cps.toList) := if_neg e
          rw [z] at h
          simpa using h
      · injection hz with h1 h2
        injection h1 with h3 h4
        subst h3 h4 h2
        have he := SeqAt.EqAt.str_str (A := A.in1) (s := ⟨hp, g, d, tk, os⟩) x2 t2 y2 u2
        have e2 : ¬ x2 = y2 := fun e => hne ⟨e1, e⟩
        have eb : (x2 == y2) = false := by simpa using e2
        rw [eb] at he
        refine wpAny_bind (he prog w _ _ ?_)
        have hri := rcLt_str A.in1 ⟨hp, g, d, tk, os⟩ x2 t2 y2 u2 prog w
        wp_walk using hri
        refine ⟨_, rfl, ?_⟩
        have z : lt2s x1 x2 y1 y2 = decide (x2.cps.toList < y2.cps.toList) := if_pos e1
        rw [z] at h
        simpa using h
    case fin =>
      rintro ⟨b1, b2⟩ s' ⟨hb', rfl, hz⟩
      rcases hz with hz | ⟨_, hz⟩ <;> cases hz
    case h =>
      exact ⟨rfl, rfl, .inl rfl⟩
end
end DLI
/-! orders, by a Bool -/
namespace DL
open PySem
/-- a strict total order -/
structure Tot {α : Type} (lt : α → α → Bool) : Prop where
  asym : ∀ x y, lt x y = true → lt y x = false
  tr : ∀ x y z, lt y x = false → lt z y = false → lt z x = false
  eq : ∀ x y, lt x y = false → lt y x = false → x = y
theorem Tot.swo {α : Type} {lt : α → α → Bool} (T : Tot lt) : SrtO.Swo lt := ⟨T.asym, T.tr⟩
theorem Tot.irr {α : Type} {lt : α → α → Bool} (T : Tot lt) (x : α) : lt x x = false := T.swo.refl x
theorem Tot.trans {α : Type} {lt : α → α → Bool} (T : Tot lt) {x y z : α} (h1 : lt x y = true) (h2 : lt y z = true) : lt x z = true := T.swo.ltle h1 (T.asym y z h2)
def ltS (x y : Str) : Bool := decide (x.cps.toList < y.cps.toList)
theorem tot_str : Tot ltS := by
  refine ⟨fun x y h => ?_, fun x y z h1 h2 => ?_, fun x y h1 h2 => ?_⟩
  · have h := of_decide_eq_true h
    exact decide_eq_false (List.lt_asymm h)
  · have h1 := of_decide_eq_false h1
    have h2 := of_decide_eq_false h2
    exact decide_eq_false (List.not_lt.mpr (List.le_trans (List.not_lt.mp h1) (List.not_lt.mp h2)))
  · have h1 := of_decide_eq_false h1
    have h2 := of_decide_eq_false h2
    have e := List.le_antisymm (List.not_lt.mp h2) (List.not_lt.mp h1)
    cases x
    cases y
    congr 1
    exact Array.toList_inj.mp e
def ltZ (x y : Int) : Bool := decide (x < y)
theorem tot_int : Tot ltZ := by
  refine ⟨fun x y h => ?_, fun x y z h1 h2 => ?_, fun x y h1 h2 => ?_⟩
  · have h := of_decide_eq_true h
    exact decide_eq_false (by omega)
  · have h1 := of_decide_eq_false h1
    have h2 := of_decide_eq_false h2
    exact decide_eq_false (by omega)
  · have h1 := of_decide_eq_false h1
    have h2 := of_decide_eq_false h2
    omega
section
variable {α β : Type} [DecidableEq α] {la : α → α → Bool} {lb : β → β → Bool}
def lexP (la : α → α → Bool) (lb : β → β → Bool) (p q : α × β) : Bool := if p.1 = q.1 then lb p.2 q.2 else la p.1 q.1
theorem tot_lex (A : Tot la) (B : Tot lb) : Tot (lexP la lb) := by
  refine ⟨fun x y h => ?_, fun x y z h1 h2 => ?_, fun x y h1 h2 => ?_⟩
  · unfold lexP at h ⊢
    by_cases e : x.1 = y.1
    · rw [if_pos e] at h
      rw [if_pos e.symm]
      exact B.asym _ _ h
    · rw [if_neg e] at h
      rw [if_neg fun z => e z.symm]
      exact A.asym _ _ h
  · unfold lexP at h1 h2 ⊢
    by_cases e1 : y.1 = x.1
    · rw [if_pos e1] at h1
      by_cases e2 : z.1 = y.1
      · rw [if_pos e2] at h2
        rw [if_pos (e2.trans e1)]
        exact B.tr _ _ _ h1 h2
      · rw [if_neg e2] at h2
        rw [if_neg fun e => e2 (e.trans e1.symm), ← e1]
        exact h2
    · rw [if_neg e1] at h1
      by_cases e2 : z.1 = y.1
      · rw [if_pos e2] at h2
        rw [if_neg fun e => e1 (e2.symm.trans e), e2]
        exact h1
      · rw [if_neg e2] at h2
        have h3 := A.tr _ _ _ h1 h2
        by_cases e3 : z.1 = x.1
        · exfalso
          rw [e3] at h2
          exact e1 (A.eq _ _ h1 h2)
        · rw [if_neg e3]
          exact h3
  · unfold lexP at h1 h2
    by_cases e : x.1 = y.1
    · rw [if_pos e] at h1
      rw [if_pos e.symm] at h2
      exact Prod.ext e (B.eq _ _ h1 h2)
    · rw [if_neg e] at h1
      rw [if_neg fun z => e z.symm] at h2
      exact absurd (A.eq _ _ h1 h2) e
def lexL (la : α → α → Bool) : List α → List α → Bool
  | _, [] => false
  | [], _ :: _ => true
  | x :: xs, y :: ys => if x = y then lexL la xs ys else la x y
theorem lexL_asym (A : Tot la) : ∀ x y : List α, lexL la x y = true → lexL la y x = false
  | _, [], h => by cases ‹List α› <;> cases h
  | [], _ :: _, _ => rfl
  | x :: xs, y :: ys, h => by
    unfold lexL at h ⊢
    by_cases e : x = y
    · rw [if_pos e] at h
      rw [if_pos e.symm]
      exact lexL_asym A _ _ h
    · rw [if_neg e] at h
      rw [if_neg fun z => e z.symm]
      exact A.asym _ _ h
theorem lexL_eq (A : Tot la) : ∀ x y : List α, lexL la x y = false → lexL la y x = false → x = y
  | [], [], _, _ => rfl
  | _ :: _, [], _, h => by cases h
  | [], _ :: _, h, _ => by cases h
  | x :: xs, y :: ys, h1, h2 => by
    unfold lexL at h1 h2
    by_cases e : x = y
    · rw [if_pos e] at h1
      rw [if_pos e.symm] at h2
      rw [e, lexL_eq A _ _ h1 h2]
    · rw [if_neg e] at h1
      rw [if_neg fun z => e z.symm] at h2
      exact absurd (A.eq _ _ h1 h2) e
theorem lexL_tr (A : Tot la) : ∀ x y z : List α, lexL la y x = false → lexL la z y = false → lexL la z x = false
  | [], _, z, _, _ => by cases z <;> rfl
  | _ :: _, [], _, h, _ => by cases h
  | _ :: _, _ :: _, [], _, h => by cases h
  | x :: xs, y :: ys, z :: zs, h1, h2 => by
    unfold lexL at h1 h2 ⊢
    by_cases e1 : y = x
    · rw [if_pos e1] at h1
      by_cases e2 : z = y
      · rw [if_pos e2] at h2
        rw [if_pos (e2.trans e1)]
        exact lexL_tr A _ _ _ h1 h2
      · rw [if_neg e2] at h2
        rw [if_neg fun e => e2 (e.trans e1.symm), ← e1]
        exact h2
    · rw [if_neg e1] at h1
      by_cases e2 : z = y
      · rw [if_pos e2] at h2
        rw [if_neg fun e => e1 (e2.symm.trans e), e2]
        exact h1
      · rw [if_neg e2] at h2
        have h3 := A.tr _ _ _ h1 h2
        by_cases e3 : z = x
        · exfalso
          rw [e3] at h2
          exact e1 (A.eq _ _ h1 h2)
        · rw [if_neg e3]
          exact h3
theorem tot_lexL (A : Tot la) : Tot (lexL la) := ⟨lexL_asym A, lexL_tr A, lexL_eq A⟩
end
end DL
namespace DL
section
variable {α : Type} {lt : α → α → Bool}
/-- sorted, by insertion -/
def insO (lt : α → α → Bool) (x : α) : List α → List α
  | [] => [x]
  | y :: r => if lt y x = true then y :: insO lt x r else x :: y :: r
def isort (lt : α → α → Bool) : List α → List α
  | [] => []
  | x :: r => insO lt x (isort lt r)
abbrev Asc (lt : α → α → Bool) (l : List α) : Prop := l.Pairwise fun x y => lt y x = false
theorem insO_perm {x : α} : ∀ l : List α, (insO lt x l).Perm (x :: l)
  | [] => .refl _
  | y :: r => by
    unfold insO
    by_cases h : lt y x = true
    · rw [if_pos h]
      exact (List.Perm.cons y (insO_perm r)).trans (List.Perm.swap x y r)
    · rw [if_neg h]
theorem isort_perm : ∀ l : List α, (isort lt l).Perm l
  | [] => .refl _
  | x :: r => (insO_perm _).trans (List.Perm.cons x (isort_perm r))
theorem insO_asc (T : Tot lt) {x : α} : ∀ {l : List α}, Asc lt l → Asc lt (insO lt x l)
  | [], _ => List.pairwise_singleton _ _
  | y :: r, h => by
    obtain ⟨h1, h2⟩ := List.pairwise_cons.mp h
    unfold insO
    by_cases c : lt y x = true
    · rw [if_pos c]
      refine List.pairwise_cons.mpr ⟨fun z hz => ?_, insO_asc T h2⟩
      rcases List.mem_cons.mp ((insO_perm r).mem_iff.mp hz) with rfl | hz
      · exact T.asym _ _ c
      · exact h1 z hz
    · rw [if_neg c]
      have c : lt y x = false := by simpa using c
      refine List.pairwise_cons.mpr ⟨fun z hz => ?_, h⟩
      rcases List.mem_cons.mp hz with rfl | hz
      · exact c
      · exact T.tr _ _ _ c (h1 z hz)
theorem isort_asc (T : Tot lt) : ∀ l : List α, Asc lt (isort lt l)
  | [] => List.Pairwise.nil
  | _ :: r => insO_asc T (isort_asc T r)
theorem asc_uniq (T : Tot lt) : ∀ {l m : List α}, l.Perm m → Asc lt l → Asc lt m → l = m
  | [], m, p, _, _ => (List.nil_perm.mp p).symm
  | x :: l, [], p, _, _ => absurd (List.perm_nil.mp p) (by simp)
  | x :: l, y :: m, p, h1, h2 => by
    obtain ⟨a1, a2⟩ := List.pairwise_cons.mp h1
    obtain ⟨b1, b2⟩ := List.pairwise_cons.mp h2
    have e : x = y := by
      have hx : x ∈ y :: m := p.mem_iff.mp List.mem_cons_self
      have hy : y ∈ x :: l := p.mem_iff.mpr List.mem_cons_self
      rcases List.mem_cons.mp hx with e | hx
      · exact e
      · rcases List.mem_cons.mp hy with e | hy
        · exact e.symm
        · exact (T.eq y x (a1 y hy) (b1 x hx)).symm
    subst e
    rw [asc_uniq T (List.Perm.cons_inv p) a2 b2]
theorem asc_isort (T : Tot lt) {l m : List α} (p : l.Perm m) (h : Asc lt l) : l = isort lt m := asc_uniq T (p.trans (isort_perm m).symm) h (isort_asc T m)
/-- the other way about -/
def flipO (lt : α → α → Bool) : α → α → Bool := fun x y => lt y x
theorem Tot.flip (T : Tot lt) : Tot (flipO lt) := ⟨fun x y => T.asym y x, fun x y z h1 h2 => T.tr z y x h2 h1, fun x y h1 h2 => T.eq x y h2 h1⟩
theorem swo_on {β : Type} (T : Tot lt) (k : β → α) : SrtO.Swo fun x y => lt (k x) (k y) := ⟨fun x y => T.asym _ _, fun x y z => T.tr _ _ _⟩
end
end DL
/-! sorted(xs), sorted(xs, reverse=b), of lists and tuples -/
namespace DLI
open PySem PySem.Spec PySem.Calls PyProof.Rows L2 Srt SrtO
section
variable {prog : Program} {w : World} {A : Around} {E : Value → Shared → Prop} {s : Shared}
/-- the heap in which the things are gathered -/
def gath (h : Heap) (vs : List Value) : Heap := (h.push (seqObj "list" #[] 0)).update h.objs.size (Obj.mapSeq (· ++ vs.toArray))
theorem gather {l : Addr} {vs : List Value} {Q : List Value → Shared → Prop} (hl : s.heap.IsList l vs.toArray ∨ IsTup s.heap l vs.toArray) (hz : vs.length ≤ sizeLine) (q : Q vs { s with heap := gath s.heap vs }) : wpAny (model prog w) A (collect (.ref l)) Q E s := by
  rcases hl with hl | hl
  · exact collect_list hl q hz
  · obtain ⟨o, ho, hc, n, hd⟩ := id hl
    unfold collect
    refine wpAny_bind (wpAny_runValue (codeAny_builtin entry_proto_collect' ?_))
    show wpAny _ _ (do again (.builtin "list.__iadd__" ⟨[← newList [], .ref l], []⟩)) _ _ s
    refine wpAny_bind (wpAny_newList (wpAny_pure ⟨Code.quiet_builtin _ (by decide +kernel), codeAny_builtin entry_list_iadd' ?_⟩))
    show wpAny _ _ (Builtin.List.listExtendWith (.ref s.heap.objs.size) (.ref l) (.ref s.heap.objs.size)) _ _ { s with heap := s.heap.push (seqObj "list" #[] 0) }
    unfold Builtin.List.listExtendWith
    have up : (s.heap.push (seqObj "list" #[] 0)).get? l = some o := Heap.get?_push_of_some _ ho
    refine wpAny_bind (wpAny_typeOf (T := "tuple") ⟨o, up, hc⟩ ?_)
    have ht : (Value.type "tuple" == Value.type "tuple") = true := by rfl
    rw [if_pos (by rw [ht]; simp)]
    refine wpAny_bind (listItems_at up hd ?_)
    refine wpAny_bind (listItems_at (xs := #[]) (n := 0) (Heap.get?_push_size _ rfl) rfl ?_)
    rw [if_neg (by simp)]
    refine wpAny_bind (listUpdate_at (xs := #[]) (n := 0) (Heap.get?_push_size _ rfl) rfl ?_ (Nat.zero_le _) (by show (#[] ++ vs.toArray).size ≤ sizeLine + 1; simp only [Array.size_append, List.size_toArray, List.length_nil]; omega))
    refine wpAny_pure ?_
    show wpAny (model prog w) A (do
        let o ← load s.heap.objs.size
        match o.data with
        | .seq xs _ => pure xs.toList
        | _ => unsupported "internal:collect") Q E { s with heap := gath s.heap vs }
    refine wpAny_bind (wpAny_load (get?_update_seq (Heap.get?_push_size _ rfl) _) ?_)
    show wpAny _ _ (pure ((#[] : Array Value) ++ vs.toArray).toList) Q E _
    rw [show ((#[] : Array Value) ++ vs.toArray).toList = vs by simp]
    exact wpAny_pure q
theorem sort_any {l : Addr} {vs : List Value} {b : Bool} {kw : List (Str × Value)} {ltv : Value → Value → Bool} {Q : Value → Shared → Prop} (hk : ∀ a, Builtin.«list.sort» ⟨[.ref a], kw⟩ = Builtin.«list.sort» ⟨[.ref a], [(Str.ofString "reverse", .bool b)]⟩)
    (ha1 : argsOk "sorted" ⟨[.ref l], kw⟩) (ha2 : ∀ a, argsOk "list.sort" ⟨[a], kw⟩) (O : Swo ltv) (hl : s.heap.IsList l vs.toArray ∨ IsTup s.heap l vs.toArray) (hz : vs.length ≤ sizeLine)
    (hS : 2 ≤ vs.length → ∀ (h₁ : Heap) (a : Addr), h₁.get? a = some (seqObj "list" vs.toArray 0) → (∀ b o, s.heap.get? b = some o → b ≠ a ∧ h₁.get? b = some o) → SortableO prog w A.in1.in1 { s with heap := h₁ } a vs ltv)
    (h : ∀ out : List Value, Srtd ltv out → Stb ltv out (if b = true then vs.reverse else vs) → Q (.ref (s.heap.objs.size + 1)) { s with heap := sortedAll s.heap vs (if b = true then out.toArray.reverse else out.toArray) }) :
    wpAny (model prog w) A (call (.builtin "sorted") [.ref l] kw) Q E s := by
  refine call_function_entry_kw kind_sorted plain_sorted entry_sorted ha1 ?_
  unfold Builtin.«sorted»
  refine wpAny_bind (m := checkCount "sorted" 1 1 _) (wpAny_pure ?_)
  refine wpAny_bind (gather hl hz ?_)
  refine wpAny_bind (wpAny_newList ?_ hz)
  have hsz : (gath s.heap vs).objs.size = s.heap.objs.size + 1 := by
    unfold gath
    rw [Heap.size_update, size_push']
  have hoL : ((gath s.heap vs).push (seqObj "list" vs.toArray 0)).get? (s.heap.objs.size + 1) = some (seqObj "list" vs.toArray 0) := by
    rw [← hsz]
    exact Heap.get?_push_size _ rfl
  have old : ∀ b o, s.heap.get? b = some o → b ≠ s.heap.objs.size + 1 ∧ ((gath s.heap vs).push (seqObj "list" vs.toArray 0)).get? b = some o := fun b o q => by
    have hlt : b < s.heap.objs.size := Heap.lt_size q
    refine ⟨Nat.ne_of_lt (Nat.lt_succ_of_lt hlt), Heap.get?_push_of_some _ ?_⟩
    unfold gath
    rw [Heap.get?_update_ne _ _ _ _ (Nat.ne_of_lt hlt)]
    exact Heap.get?_push_of_some _ q
  show wpAny _ _ _ _ _ { s with heap := (gath s.heap vs).push (seqObj "list" vs.toArray 0) }
  rw [hsz]
  refine wpAny_bind (wpAny_holding (wpAny_call_entry_kw slot_list_sort ⟨_, hoL, rfl⟩ entry_list_sort ?_ (ha2 _)))
  rw [hk]
  refine SrtR.list_sort_ordR O hoL hz (fun h2 => hS h2 _ _ hoL old) fun out hs hb => ⟨_, rfl, ?_⟩
  exact wpAny_pure ⟨_, rfl, h out hs hb⟩
end
/-! ### by values -/
def toV : Value → V
  | .ref a => .ref a
  | .str x _ => .str x
  | .int i _ => .int i
  | _ => .non
def Simple (y : V) : Prop := (∃ t, y = .ref t) ∨ (∃ x, y = .str x) ∨ ∃ i, y = .int i
theorem simple_to {y : V} {u : Value} (h : Simple y) (r : RelV y u) : toV u = y ∧ RelV (toV u) u := by
  rcases h with ⟨t, rfl⟩ | ⟨x, rfl⟩ | ⟨i, rfl⟩
  · obtain rfl : u = Value.ref t := r
    exact ⟨rfl, rfl⟩
  · obtain ⟨t, rfl⟩ := r
    exact ⟨rfl, t, rfl⟩
  · obtain ⟨t, rfl⟩ := r
    exact ⟨rfl, t, rfl⟩
theorem vals_to : ∀ {ys : List V} {its : List Value}, (∀ y ∈ ys, Simple y) → Vals ys its → its.map toV = ys ∧ ∀ u ∈ its, RelV (toV u) u ∧ toV u ∈ ys
  | _, _, _, .nil => ⟨rfl, fun u h => by simp at h⟩
  | _, _, h, .cons r t => by
    obtain ⟨e, k⟩ := vals_to (fun y hy => h y (List.mem_cons_of_mem _ hy)) t
    obtain ⟨e1, k1⟩ := simple_to (h _ List.mem_cons_self) r
    refine ⟨by rw [List.map_cons, e, e1], fun u hu => ?_⟩
    rcases List.mem_cons.mp hu with rfl | hu
    · exact ⟨k1, by rw [e1]; exact List.mem_cons_self⟩
    · exact ⟨(k u hu).1, List.mem_cons_of_mem _ (k u hu).2⟩
theorem vals_back : ∀ {us : List Value}, (∀ u ∈ us, RelV (toV u) u) → Vals (us.map toV) us
  | [], _ => .nil
  | u :: us, h => .cons (h u List.mem_cons_self) (vals_back fun v hv => h v (List.mem_cons_of_mem _ hv))
section
variable {X : Cx}
abbrev OrdV (b : Bool) (ltv : V → V → Bool) (ss : List V) : Prop := ss.Pairwise fun x y => (if b = true then ltv x y else ltv y x) = false
theorem sorted_val {b : Bool} {kw : List (Str × Value)} {pins : List (Addr × Obj)} {s : Shared} {σ : L2.St} {H : Hp} {a : Addr} {ys : List V} {Q : VK} {ltv : V → V → Bool} (I : Inv X pins σ H s) (hs : SqL X.K H a ys ∨ SqT X.K H a ys) (hy : ∀ y ∈ ys, Simple y) (O : Swo ltv)
    (hk : ∀ a, Builtin.«list.sort» ⟨[.ref a], kw⟩ = Builtin.«list.sort» ⟨[.ref a], [(Str.ofString "reverse", .bool b)]⟩) (ha1 : argsOk "sorted" ⟨[.ref a], kw⟩) (ha2 : ∀ a, argsOk "list.sort" ⟨[a], kw⟩)
    (hS : ∀ (h₁ : Heap) (its : List Value) (a' : Addr), Vals ys its → h₁.get? a' = some (seqObj "list" its.toArray 0) → (∀ b o, s.heap.get? b = some o → b ≠ a' ∧ h₁.get? b = some o) → 2 ≤ its.length → SortableO X.prog X.w X.A.in1.in1 { s with heap := h₁ } a' its fun v u => ltv (toV v) (toV u))
    (q : ∀ (ss : List V) (p : Addr), ss.Perm ys → OrdV b ltv ss → H p = none → Q (.ref p) (upd H p (.lst ss))) : wpAny (model X.prog X.w) X.A (call (.builtin "sorted") [.ref a] kw) (EP X pins σ Q) X.xe s := by
  have key : ∃ its : List Value, Vals ys its ∧ (s.heap.IsList a its.toArray ∨ IsTup s.heap a its.toArray) ∧ ys.length ≤ sizeLine := by
    rcases hs with hs | hs
    · obtain ⟨its, rv, hl, hz⟩ := I.list hs
      exact ⟨its, rv, .inl hl.isList, hz⟩
    · obtain ⟨its, rv, hl, hz⟩ := I.tuple hs
      exact ⟨its, rv, .inr hl, hz⟩
  obtain ⟨its, rv, hl, hz⟩ := key
  obtain ⟨e0, k0⟩ := vals_to hy rv
  have hlen0 := rv.length
  refine sort_any (ltv := fun v u => ltv (toV v) (toV u)) hk ha1 ha2 ⟨fun x y => O.asym _ _, fun x y z => O.tr _ _ _⟩ hl (by rw [← hlen0]; exact hz) (fun h2 h₁ a' e kk => hS h₁ its a' rv e kk h2) fun out h1 h2 => ?_
  obtain ⟨ep, he'⟩ := PyProof.Rows.sortedAll_at s.heap its (if b = true then out.toArray.reverse else out.toArray)
  -- what comes of it
  have pm : (if b = true then out.toArray.reverse else out.toArray).toList.Perm its := by
    have p0 := h2.perm
    cases b with
    | true =>
      simp only [if_true] at p0 ⊢
      rw [Array.toList_reverse]
      exact (List.reverse_perm _).trans (p0.trans (List.reverse_perm _))
    | false =>
      simp only [Bool.false_eq_true, if_false] at p0 ⊢
      exact p0
  have od : OrdV b ltv ((if b = true then out.toArray.reverse else out.toArray).toList.map toV) := by
    unfold OrdV
    rw [List.pairwise_map]
    cases b with
    | true =>
      simp only [if_true]
      rw [Array.toList_reverse]
      exact List.pairwise_reverse.mpr h1
    | false =>
      simp only [Bool.false_eq_true, if_false]
      exact h1
  generalize ho : (if b = true then out.toArray.reverse else out.toArray) = oa at pm od he' ⊢
  have e0a : (oa.toList).toArray = oa := by rw [Array.toArray_toList]
  have vb : Vals (oa.toList.map toV) oa.toList := vals_back fun u hu => (k0 u (pm.mem_iff.mp hu)).1
  have pv : (oa.toList.map toV).Perm ys := by
    rw [← e0]
    exact pm.map toV
  exact ⟨.ref _, upd H (s.heap.objs.size + 1) (.lst (oa.toList.map toV)), I.laid (t' := s.toks) (fun _ _ => PyProof.Rows.sortedAll_old) (Nat.le_succ _) ⟨by rw [pv.length_eq]; exact hz, _, ep, vb, by rw [e0a]; exact he'⟩, rfl, q _ _ pv od (I.hok.fresh (Nat.le_succ _))⟩
end
end DLI
/-! what can be sorted: texts, pairs of a pair of texts and a number, tuples of texts -/
namespace DLI
open PySem PySem.Spec PySem.Calls PySem.W PyProof.Rows L2 Srt SrtO DL
section
variable {prog : Program} {w : World} {A : Around} {E : Value → Shared → Prop} {s : Shared}
def strV : V → Str
  | .str x => x
  | _ => ⟨#[]⟩
theorem strs_are : ∀ {vs : List Value}, (∀ v ∈ vs, ∃ x t, v = Value.str x t) → ∃ ss, StrsAre vs ss
  | [], _ => ⟨[], .nil⟩
  | v :: vs, h => by
    obtain ⟨x, t, rfl⟩ := h v List.mem_cons_self
    obtain ⟨ss, k⟩ := strs_are fun u hu => h u (List.mem_cons_of_mem _ hu)
    exact ⟨x :: ss, .cons x t k⟩
theorem strs_sort {a : Addr} {vs : List Value} (h : ∀ v ∈ vs, ∃ x t, v = Value.str x t) (h2 : 2 ≤ vs.length) : SortableO prog w A s a vs fun v u => ltS (strV (toV v)) (strV (toV u)) := by
  intro h' _
  refine ⟨oneType', fun Q E hq => ?_, fun p q hm hm' => ?_⟩
  · obtain ⟨ss, hI⟩ := strs_are h
    match vs, hI, h2 with
    | v1 :: v2 :: rest, hI, _ =>
      rw [keyKind_strs hI]
      exact wpAny_pure hq
    | [], _, h => exact absurd h (by decide)
    | [v], _, h => exact absurd h (by simp)
  · obtain ⟨x, t, e⟩ := h _ hm
    obtain ⟨y, u, e'⟩ := h _ hm'
    show wpAny (model prog w) A (keyLt' oneType' p.1 q.1) (fun r s' => s' = _ ∧ r = ltS (strV (toV p.1)) (strV (toV q.1))) (fun _ _ => False) _
    rw [e, e', keyLt'_oneType]
    exact oneLt_str ⟨rfl, rfl⟩
/-! ### ((a, b), n) -/
abbrev It3 : Type := Str × Str × Int
def ltI : It3 → It3 → Bool := fun x y => lexP (lexP ltS ltS) ltZ ((x.1, x.2.1), x.2.2) ((y.1, y.2.1), y.2.2)
theorem tot_I : Tot ltI := by
  have T := tot_lex (tot_lex tot_str tot_str) tot_int
  refine ⟨fun x y => T.asym _ _, fun x y z => T.tr _ _ _, fun x y h1 h2 => ?_⟩
  have e := T.eq _ _ h1 h2
  obtain ⟨a, b, c⟩ := x
  obtain ⟨a', b', c'⟩ := y
  simp only [Prod.mk.injEq] at e
  obtain ⟨⟨rfl, rfl⟩, rfl⟩ := e
  rfl
def ItemIn (h : Heap) (v : Value) (x : It3) : Prop := ∃ (q k : Addr) (t1 t2 tn : Tok), v = .ref q ∧ IsTup h q #[.ref k, .int x.2.2 tn] ∧ IsTup h k #[.str x.1 t1, .str x.2.1 t2]
theorem ItemIn.keeps {h h' : Heap} {v : Value} {x : It3} (i : ItemIn h v x) (k : ∀ b o, h.get? b = some o → o.cls = .type "tuple" → h'.get? b = some o) : ItemIn h' v x := by
  obtain ⟨q, c, t1, t2, tn, e, ⟨o, ho, hc, r⟩, ⟨o2, ho2, hc2, r2⟩⟩ := i
  exact ⟨q, c, t1, t2, tn, e, ⟨o, k _ _ ho hc, hc, r⟩, ⟨o2, k _ _ ho2 hc2, hc2, r2⟩⟩
theorem lt_tup2 {l b : Addr} {x1 x2 y1 y2 : Str} {t1 t2 u1 u2 : Tok} {Q : Value → Shared → Prop} (hl : IsTup s.heap l #[.str x1 t1, .str x2 t2]) (hb : IsTup s.heap b #[.str y1 u1, .str y2 u2]) (hne : ¬ (x1 = y1 ∧ x2 = y2)) (hu : A.units < cLine)
    (h : Q (.bool (lt2s x1 x2 y1 y2)) s) : wpAny (model prog w) A (compareOp .Lt (.ref l) (.ref b)) Q E s := by
  obtain ⟨⟨cls, dd, data, sl⟩, ho, hc, n, hd⟩ := id hl
  obtain ⟨⟨cls2, dd2, data2, sl2⟩, ho2, hc2, n2, hd2⟩ := id hb
  simp only at hc hd hc2 hd2
  subst hc hd hc2 hd2
  exact richCompare_meets_room (op := .Lt) ⟨_, ho, rfl⟩ ⟨_, ho2, rfl⟩ PySem.F.slot_tuple_lt PySem.F.entry_tuple_lt (PySem.F.args_tuple_lt_2 _ _) (tuple_lt_str2 l b n n2 dd dd2 sl sl2 x1 x2 y1 y2 t1 t2 u1 u2 hne)
    ⟨ho, ho2, (fun z => nomatch z), h⟩ hu
theorem firsts_it {h : Heap} {k : Value → It3} : ∀ vs : List Value, (∀ v ∈ vs, ItemIn h v (k v)) → ∃ fs : List Value, KatTups h vs fs ∧ fs.length = vs.length ∧ ∀ f ∈ fs, ∃ (q : Addr) (o : Obj), f = Value.ref q ∧ h.get? q = some o ∧ o.cls = .type "tuple"
  | [], _ => ⟨[], KatTups.nil, rfl, fun f hf => by simp at hf⟩
  | v :: vs, x => by
    obtain ⟨fs, kt, hl, hi⟩ := firsts_it vs fun u hu => x u (List.mem_cons_of_mem _ hu)
    obtain ⟨q, c, t1, t2, tn, e, ⟨o, ho, hc, n, hd⟩, ⟨o2, ho2, hc2, _⟩⟩ := x v List.mem_cons_self
    subst e
    refine ⟨.ref c :: fs, KatTups.cons ho hc hd rfl kt, by rw [List.length_cons, List.length_cons, hl], fun f hf => ?_⟩
    rcases List.mem_cons.mp hf with rfl | hf
    · exact ⟨c, o2, rfl, ho2, hc2⟩
    · exact hi f hf
theorem key2 {h : Heap} {k : Addr} {x y : Str} {t u : Tok} (i : IsTup h k #[.str x t, .str y u]) : IsTupleKey (L2.mixKind prog w) h [Sum.inr x, Sum.inr y] k := by
  obtain ⟨o, ho, hc, n, hd⟩ := i
  exact ⟨o, _, n, ho, hc, hd, .cons (L2.mixKind_str prog w x t) (.cons (L2.mixKind_str prog w y u) .nil)⟩
theorem item_cmp {vs : List Value} {k : Value → It3} (hu : A.units < cLine) (hp : ∀ v ∈ vs, ItemIn s.heap v (k v)) : SrtO.Cmp prog w A s (tuples' false) (fun p => p.1 ∈ vs) (lt2 fun v u => ltI (k v) (k u)) := by
  intro p q hm hm'
  have h1 := hp _ hm
  have h2 := hp _ hm'
  show wpAny (model prog w) A (keyLt' (tuples' false) p.1 q.1) (fun r s' => s' = s ∧ r = ltI (k p.1) (k q.1)) (fun _ _ => False) s
  generalize k p.1 = x at h1 ⊢
  generalize k q.1 = y at h2 ⊢
  obtain ⟨a, c, t1, t2, tn, e, ⟨o, ho, hc, n, hd⟩, ic⟩ := h1
  obtain ⟨a', c', t1', t2', tn', e', ⟨o', ho', hc', n', hd'⟩, ic'⟩ := h2
  rw [e, e']
  refine kat_lt ho hd ho' hd' ?_
  show KatLex prog w A false (decide (2 < 2)) _ [(.ref c, .ref c'), (.int x.2.2 tn, .int y.2.2 tn')] 0 s
  refine kat_cons (wpAny_eqBool_tuple hu (key2 ic) (key2 ic') ?_)
  have kk : ([Sum.inr x.1, Sum.inr x.2.1] : List L2.Key) = [Sum.inr y.1, Sum.inr y.2.1] ↔ (x.1 = y.1 ∧ x.2.1 = y.2.1) := by simp
  refine kat_go (fun e0 => ?_) (fun e0 => ?_)
  · have ex := kk.mp (of_decide_eq_true e0)
    have ev : ltI x y = decide (x.2.2 < y.2.2) := by
      unfold ltI lexP
      rw [if_pos (by rw [ex.1, ex.2])]
      rfl
    refine kat_yes (kat_cons (SeqAt.EqAt.int_int x.2.2 tn y.2.2 tn' prog w _ _ ?_))
    refine kat_go (fun e2 => ?_) (fun e2 => ?_)
    · have ey : x.2.2 = y.2.2 := by simpa using e2
      refine kat_yes (kat_nil ⟨rfl, ?_⟩)
      rw [ev, ey]
      simp
    · exact kat_no (kat_one _ _ (PyProof.Rows.lt_int (show s = s ∧ decide (x.2.2 < y.2.2) = ltI x y from ⟨rfl, ev.symm⟩)))
  · have ex : ¬ (x.1 = y.1 ∧ x.2.1 = y.2.1) := fun z => absurd (kk.mpr z) (of_decide_eq_false e0)
    have ev : ltI x y = lt2s x.1 x.2.1 y.1 y.2.1 := by
      unfold ltI lexP lt2s
      rw [if_neg fun z => ex (by simpa using z)]
      rfl
    refine kat_no ?_
    show wpAny (model prog w) A (oneLt' false _ _) _ _ _
    exact kat_one _ _ (lt_tup2 ic ic' ex hu (show s = s ∧ lt2s x.1 x.2.1 y.1 y.2.1 = ltI x y from ⟨rfl, ev.symm⟩))
theorem item_sort {a : Addr} {vs : List Value} {k : Value → It3} (hu : A.units < cLine) (h2 : 2 ≤ vs.length) (hp : ∀ v ∈ vs, ItemIn s.heap v (k v)) (ha : ∀ o, s.heap.get? a = some o → o.cls ≠ .type "tuple") : SortableO prog w A s a vs fun v u => ltI (k v) (k u) := by
  intro h' keep
  have hp' : ∀ v ∈ vs, ItemIn h' v (k v) := fun v hm => (hp v hm).keeps fun b o e c => keep b o (fun z => by subst z; exact ha o e c) e
  obtain ⟨fs, f1, f2, f3⟩ := firsts_it vs hp'
  refine ⟨tuples' false, fun Q E hq => ?_, item_cmp hu hp'⟩
  refine kat_kind (T := Value.type "tuple") f1 (by omega) (fun f hf => ?_) rfl ?_
  · obtain ⟨q, o, rfl, ho, hc⟩ := f3 f hf
    have z : PySem.W.Looks (model prog w) h' (typeOf (.ref q)) o.cls := (PySem.W.Looks.ld ho).andThen .now
    rw [hc] at z
    exact z
  · have hb : (Value.type "tuple" != Value.type "tuple") = false := by first | rfl | decide | simp
    rw [hb]
    exact hq
end
end DLI
/-! the rules: sorted(texts, reverse=b), sorted(items, reverse=True), list(d.items()) -/
namespace DLI
open PySem PySem.Spec PySem.Calls PySem.W PyProof.Rows L2 Srt SrtO DL
section
variable {X : Cx}
def rSortSR (K : PySem.W.Frag) (b : Bool) : List V → List V → Hp → VK → Prop := fun vs zs H Q => ∃ (a : Addr) (xs : List Str), vs = [V.ref a] ∧ zs = [.bl b] ∧ (SqL K H a (xs.map V.str) ∨ SqT K H a (xs.map V.str)) ∧
  ∀ (ss : List Str) (p : Addr), ss.Perm xs → Asc (if b = true then flipO ltS else ltS) ss → H p = none → Q (.ref p) (upd H p (.lst (ss.map V.str)))
theorem strs_map {ss : List V} {xs : List Str} (h : ss.Perm (xs.map V.str)) : ∃ ys : List Str, ss = ys.map V.str ∧ ys.Perm xs := by
  have e : ss = (ss.map strV).map V.str := by
    rw [List.map_map]
    refine (List.map_id _).symm.trans (List.map_congr_left fun y hy => ?_)
    obtain ⟨x, _, rfl⟩ := List.mem_map.mp (h.mem_iff.mp hy)
    rfl
  refine ⟨ss.map strV, e, ?_⟩
  have p := h.map strV
  rw [List.map_map] at p
  exact p.trans (List.Perm.of_eq (List.map_id _))
theorem vals_strs : ∀ {xs : List Str} {us : List Value}, Vals (xs.map V.str) us → ∀ u ∈ us, ∃ x t, u = Value.str x t
  | [], [], _, u, h => by simp at h
  | x :: xs, _, .cons r t, u, h => by
    rcases List.mem_cons.mp h with rfl | h
    · obtain ⟨k, rfl⟩ := r
      exact ⟨x, k, rfl⟩
    · exact vals_strs t u h
theorem simple_strs {xs : List Str} : ∀ y ∈ xs.map V.str, Simple y := fun y h => by
  obtain ⟨x, _, rfl⟩ := List.mem_map.mp h
  exact .inr (.inl ⟨x, rfl⟩)
theorem cr_sortSR {b : Bool} : CallRK X (.builtin "sorted") [Str.ofString "reverse"] (rSortSR X.K b) := by
  intro pins s σ H vs zs us ws Q I r rz h
  obtain ⟨a, xs, rfl, rfl, hs, q⟩ := h
  obtain rfl := Vals.ref1 r
  obtain ⟨w1, rfl, e1⟩ := vals1 rz
  obtain rfl : w1 = Value.bool b := e1
  refine sorted_val (ltv := fun x y => ltS (strV x) (strV y)) I hs simple_strs (swo_on tot_str strV) (fun _ => rfl) (PyProof.Rows.args_sorted_rev _ _) (fun _ => PyProof.Rows.args_list_sort_rev _ _) (fun h₁ its a' rv _ _ h2 => strs_sort (vals_strs rv) h2) fun ss p pm od n => ?_
  obtain ⟨ys, rfl, py⟩ := strs_map pm
  refine q ys p py ?_ n
  unfold OrdV at od
  rw [List.pairwise_map] at od
  cases b with
  | true => exact od
  | false => exact od
/-! ### items -/
def ItV (K : PySem.W.Frag) (H : Hp) (y : V) (x : It3) : Prop := ∃ t c, y = V.ref t ∧ SqT K H t [.ref c, .int x.2.2] ∧ SqT K H c [.str x.1, .str x.2.1]
def rSortIt (K : PySem.W.Frag) : List V → List V → Hp → VK → Prop := fun vs zs H Q => ∃ (a : Addr) (ys : List V) (its : List It3), vs = [V.ref a] ∧ zs = [.bl true] ∧ SqL K H a ys ∧ Paired (ItV K H) ys its ∧
  ((∀ (y : V) (x x' : It3), ItV K H y x → ItV K H y x' → x = x') → ∀ (ss : List V) (js : List It3) (p : Addr), ss.Perm ys → Paired (ItV K H) ss js → js.Perm its → Asc (flipO ltI) js → H p = none → Q (.ref p) (upd H p (.lst ss)))
theorem itv_uniq {X : Cx} {pins : List (Addr × Obj)} {s : Shared} {σ : L2.St} {H : Hp} (I : Inv X pins σ H s) (y : V) (x x' : It3) (h : ItV X.K H y x) (h' : ItV X.K H y x') : x = x' := by
  obtain ⟨t, c, rfl, h1, h2⟩ := h
  obtain ⟨t', c', e, h3, h4⟩ := h'
  cases e
  have e1 := I.tuple_inj h1 h3
  simp only [List.cons.injEq, V.ref.injEq, V.int.injEq, and_true] at e1
  obtain ⟨rfl, e2⟩ := e1
  have e3 := I.tuple_inj h2 h4
  simp only [List.cons.injEq, V.str.injEq, and_true] at e3
  obtain ⟨a, b, n⟩ := x
  obtain ⟨a', b', n'⟩ := x'
  simp only at e2 e3
  rw [e2, e3.1, e3.2]
theorem paired_map {α β : Type} {F : α → β → Prop} {k : α → β} : ∀ {l : List α}, (∀ y ∈ l, F y (k y)) → Paired F l (l.map k)
  | [], _ => .nil
  | y :: l, h => .cons (h y List.mem_cons_self) (paired_map fun z hz => h z (List.mem_cons_of_mem _ hz))
theorem paired_at {α β : Type} {F : α → β → Prop} : ∀ {l : List α} {m : List β}, Paired F l m → ∀ y ∈ l, ∃ x ∈ m, F y x
  | _, _, .nil, y, h => by simp at h
  | _, _, .cons r t, y, h => by
    rcases List.mem_cons.mp h with rfl | h
    · exact ⟨_, List.mem_cons_self, r⟩
    · obtain ⟨x, hx, f⟩ := paired_at t y h
      exact ⟨x, List.mem_cons_of_mem _ hx, f⟩
theorem paired_eq {α β : Type} {F : α → β → Prop} {k : α → β} (u : ∀ y x, F y x → x = k y) : ∀ {l : List α} {m : List β}, Paired F l m → m = l.map k
  | _, _, .nil => rfl
  | _, _, .cons r t => by rw [List.map_cons, ← paired_eq u t, ← u _ _ r]
theorem itv_in {X : Cx} {pins : List (Addr × Obj)} {s : Shared} {σ : L2.St} {H : Hp} {y : V} {u : Value} {x : It3} (I : Inv X pins σ H s) (i : ItV X.K H y x) (r : RelV y u) : ItemIn s.heap u x := by
  obtain ⟨t, c, rfl, h1, h2⟩ := i
  obtain rfl : u = Value.ref t := r
  obtain ⟨i1, v1, p1, _⟩ := I.tuple h1
  obtain ⟨i2, v2, p2, _⟩ := I.tuple h2
  obtain ⟨a1, a2, rfl, e1, e2⟩ := vals2 v1
  obtain ⟨b1, b2, rfl, e3, e4⟩ := vals2 v2
  obtain rfl : a1 = Value.ref c := e1
  obtain ⟨tn, rfl⟩ := e2
  obtain ⟨t1, rfl⟩ := e3
  obtain ⟨t2, rfl⟩ := e4
  exact ⟨t, c, t1, t2, tn, rfl, p1, p2⟩
open Classical in
theorem cr_sortIt (hu : X.A.in1.in1.units < cLine) : CallRK X (.builtin "sorted") [Str.ofString "reverse"] (rSortIt X.K) := by
  intro pins s σ H vs zs us ws Q I r rz h
  obtain ⟨a, ys, its0, rfl, rfl, hs, hi0, q⟩ := h
  obtain rfl := Vals.ref1 r
  obtain ⟨w1, rfl, e1⟩ := vals1 rz
  obtain rfl : w1 = Value.bool true := e1
  have q := q (itv_uniq I)
  obtain ⟨k, hk⟩ : ∃ k : V → It3, ∀ y x, ItV X.K H y x → x = k y := ⟨fun y => if h : ∃ x, ItV X.K H y x then h.choose else (⟨#[]⟩, ⟨#[]⟩, 0), fun y x hx => by
    have h : ∃ x, ItV X.K H y x := ⟨x, hx⟩
    show x = if h : ∃ x, ItV X.K H y x then h.choose else _
    rw [dif_pos h]
    exact itv_uniq I y _ _ hx h.choose_spec⟩
  have hi : ∀ y ∈ ys, ItV X.K H y (k y) := fun y hy => by
    obtain ⟨x, _, f⟩ := paired_at hi0 y hy
    rw [← hk y x f]
    exact f
  have ei : its0 = ys.map k := paired_eq hk hi0
  refine sorted_val (b := true) (ltv := fun x y => ltI (k x) (k y)) I (.inl hs) (fun y hy => ?_) (swo_on tot_I k) (fun _ => rfl) (PyProof.Rows.args_sorted_rev _ _) (fun _ => PyProof.Rows.args_list_sort_rev _ _) (fun h₁ its a' rv e kk h2 => ?_) fun ss p pm od n => q ss (ss.map k) p pm (paired_map fun y hy => hi y (pm.mem_iff.mp hy)) (by rw [ei]; exact pm.map k) ?_ n
  · obtain ⟨t, c, rfl, _⟩ := hi y hy
    exact .inl ⟨t, rfl⟩
  · refine item_sort (s := { s with heap := h₁ }) (k := fun v => k (toV v)) hu h2 (fun v hv => ?_) fun o eo => ?_
    · obtain ⟨e0, k0⟩ := vals_to (fun y hy => by
        obtain ⟨t, c, rfl, _⟩ := hi y hy
        exact .inl ⟨t, rfl⟩) rv
      exact (itv_in I (hi _ (k0 v hv).2) (k0 v hv).1).keeps fun b o eb _ => (kk b o eb).2
    · have z : some o = some (seqObj "list" its.toArray 0) := eo.symm.trans e
      cases z
      intro c
      exact absurd (Value.type.inj c) (by decide)
  · exact List.pairwise_map.mpr od
end
/-! ### list(d.items()), tuples as keys -/
section
open PySem.F
variable {prog : Program} {w : World} {A : Around} {E : Value → Shared → Prop} {s : Shared} {r d : Addr} {es : Array DictEntry} {ep : Nat}
theorem fillI {R : Result → Shared → Prop} (hh : A.handled = none) (hv : s.heap.IsItemsView r d) (hm : DT.Raw s.heap d es ep) (S : Addr) (hSr : S ≠ r) (hSd : d ≠ S) (hS : s.heap.get? S = some { cls := .type "list", data := .seq #[] })
    (hR : ∀ h' tk acc c as, (∀ b o, b ≠ S → s.heap.get? b = some o → h'.get? b = some o) → h'.get? S = some { cls := .type "list", dict := none, data := .seq acc c, slots := #[] } → as.length = es.size → DT.Made es S h' as →
      acc.toList = as.map Value.ref → R (.ok (.ret .none)) { s with heap := h', toks := tk }) (hn : es.size ≤ sizeLine) :
    wpAny (model prog w) A.in1 (Builtin.«list.__init__» ⟨[.ref S, .ref r], []⟩)
      (fun fin s' => match fin with | .done f => R (.ok f) s' | .again c' => c'.quiet = true ∧ codeAny (model prog w) A c' R s') (fun e s' => R (.error e) s') s := by
  show wpAny _ _ (do let old ← Builtin.List.listItems (.ref S); Builtin.List.listUpdate (.ref S) (fun _ => #[]); letGo old.toList.reverse; Builtin.List.listExtendWith (.ref S) (.ref r) .none) _ _ s
  refine wpAny_bind ?_
  unfold Builtin.List.listItems
  refine wpAny_bind (wpAny_seqItems hS rfl (wpAny_pure ?_))
  show wpAny _ _ (updateSeq S (fun _ => #[]) >>= fun _ => letGo (#[] : Array Value).toList.reverse >>= fun _ => Builtin.List.listExtendWith (.ref S) (.ref r) .none) _ _ s
  refine wpAny_bind (wpAny_updateSeq hS rfl ?_)
  have e2 := Heap.get?_update_self (Obj.mapSeq (fun _ => (#[] : Array Value))) hS rfl
  have oth : ∀ b o, b ≠ S → s.heap.get? b = some o → (s.heap.update S (Obj.mapSeq (fun _ => (#[] : Array Value)))).get? b = some o :=
    fun b o hb e => (Heap.get?_update_other _ _ (Ne.symm hb)).trans e
  refine wpAny_bind (wpAny_letGo ?_)
  refine DT.extI (es := es) (ep := ep) hh (let ⟨o, ho, x⟩ := hv; ⟨o, oth r o hSr.symm ho, x⟩) (hm.at' fun o e => oth d o hSd e) S hSr hSd .none _ e2 (fun h' tk acc c as hk hS' hl hG hacc => ?_) hn
  exact hR h' tk acc c as (fun b o hb e => hk b o hb (oth b o hb e)) hS' hl (hG.low (Nat.le_of_lt (Heap.lt_size e2))) hacc
theorem callI {Q : Value → Shared → Prop} (hh : A.handled = none) (hv : s.heap.IsItemsView r d) (hm : DT.Raw s.heap d es ep) (hn : es.size ≤ sizeLine)
    (hQ : ∀ h' tk acc c as, (∀ b o, s.heap.get? b = some o → h'.get? b = some o) → h'.get? s.heap.objs.size = some { cls := .type "list", dict := none, data := .seq acc c, slots := #[] } → as.length = es.size → DT.Made es s.heap.objs.size h' as →
      acc.toList = as.map Value.ref → Q (.ref s.heap.objs.size) { s with heap := h', toks := tk }) :
    wpAny (model prog w) A (call (.type "list") [.ref r]) Q E s := by
  refine callType_codes (Q₁ := fun obj s₁ => obj = .ref s.heap.objs.size ∧ s₁ = { s with heap := s.heap.push { cls := .type "list", data := .seq #[] } }) PySem.F.called_list (PySem.F.typeCall_list_1 _) PySem.F.entry_list_init
    (code_list_new _ ⟨rfl, rfl⟩) fun obj s₁ h₁ => ?_
  obtain ⟨rfl, rfl⟩ := h₁
  have hS : (s.heap.push { cls := .type "list", data := .seq #[] }).get? s.heap.objs.size = some { cls := .type "list", data := .seq #[] } := Heap.get?_push_size _ rfl
  have hr : r < s.heap.objs.size := let ⟨_, ho, _⟩ := hv; Heap.lt_size ho
  have hd : d < s.heap.objs.size := hm.lt
  refine ⟨⟨_, hS, rfl⟩, PySem.F.args_list_init_2 _ _, fillI (es := es) (ep := ep) (A := A.in1) hh (let ⟨o, ho, x⟩ := hv; ⟨o, Heap.get?_push_of_some _ ho, x⟩) (hm.push _) _ (Nat.ne_of_gt hr) (Nat.ne_of_lt hd) hS (fun h' tk acc c as hk hS' hl hG hacc => ?_) hn⟩
  exact ⟨rfl, hQ h' tk acc c as (fun b o e => hk b o (Nat.ne_of_lt (Heap.lt_size e)) (Heap.get?_push_of_some _ e)) hS' hl hG hacc⟩
end
end DLI
/-! the same over data -/
namespace DLI
open PySem PySem.Spec PySem.Calls PySem.W PyProof.Rows L2 DL
/-- list(d.items()), tuples as keys -/
def rItemsLT : V → Hp → VK → Prop := fun x H Q => ∃ (d : Addr) (kvs : List (List L2.Key × V)), x = .ref d ∧ H d = some (.dT kvs) ∧
  ∀ (H' : Hp) (p : Addr) (ts : List Addr), (∀ b o, H b = some o → H' b = some o) → H p = none → H' p = some (.lst (ts.map V.ref)) → ts.length = kvs.length →
    (∀ (j : Nat) (t : Addr) (q : List L2.Key × V), ts[j]? = some t → kvs[j]? = some q → ∃ c, H' t = some (.tup [.ref c, q.2]) ∧ H' c = some (.tup (q.1.map kV))) → Q (.ref p) H'
def tListItemsT (te : TE) : TE := fun σ H Q => te σ H fun x H1 => rItemsLT x H1 Q
theorem vals_refsA : ∀ as : List Addr, Vals (as.map V.ref) (as.map Value.ref)
  | [] => .nil
  | a :: as => .cons rfl (vals_refsA as)
section
variable {X : Cx} {e : Expr} {te : TE} {p apos cpos pos : Pos}
theorem pe_listItemsT (hc : X.calm = true) (he : PE X e te) (hg : Gl X "list") (hm : X.mg "list" = none) (hv : bootBuiltins "list" = some (.type "list")) (hbase : attributeBase e "items" X.env (eval e X.env) = eval e X.env := by rfl) (hline : (apos.endLine == cpos.line) = true := by rfl)
    (hs : starEach [.Call (.Attribute e "items" apos) [] [] cpos] X.env = (false, eval (.Call (.Attribute e "items" apos) [] [] cpos) X.env) :: starEach [] X.env := by rfl) :
    PE X (.Call (.Name "list" p) [.Call (.Attribute e "items" apos) [] [] cpos] [] pos) (tListItemsT te) := by
  refine ⟨fun pins s σ H Q I hq => ?_⟩
  refine wpAny_Call_Name_kw (ld_blt I hg hm hv ?_)
  refine PyProof.Rows.callWith_type1 ?_ hs rfl
  rw [hs]
  show wpAny _ _ (spliced ((false, eval (.Call (.Attribute e "items" apos) [] [] cpos) X.env) :: backTo pos (starEach [] X.env))) _ _ s
  refine Calls.spliced_cons ?_
  refine wpAny_Call_method (T := "dict") (id := "dict.items") hbase rfl hline F.plainAttrs_dict F.slot_dict_items F.type_dict_items (thn (he.run pins s σ H _ I hq) fun u s1 ⟨x, H1, I1, rx, d, kvs, ex, hd, q⟩ => ?_)
  subst ex
  obtain rfl : u = Value.ref d := rx
  obtain ⟨z, hd0, xs', rel, o, es, ep, ho, hx, hdat, hes, his, hn⟩ := dt_of I1.hok hd
  have l1 : kvs.length = xs'.length := Paired.length rel
  have l2 : es.size = xs'.length := size_of_entries hes
  have hraw : DT.Raw s1.heap d es ep := ⟨o, ho, hx, hdat⟩
  have I2 : Inv X pins σ H1 { s1 with heap := s1.heap.push { cls := .type "dict_items", data := .fields #[.ref d] } } := I1.kept (t' := s1.toks) fun b ob q => Heap.get?_push_of_some _ q
  refine ⟨hraw.typeIs, fun a ea => (by cases ea; exact ⟨o, ho, hx.2.1⟩), ?_⟩
  show wpAny _ _ (callWith cpos (.builtin "dict.items") [.ref d] [] []) _ X.xe s1
  refine method_meetsIn F.slot_dict_items F.entry_dict_items rfl (PySem.evalArgs_none ⟨rfl, hraw.typeIs, F.args_dict_items_1 _, _, DT.meetsItems (es := es) (ep := ep) hd0, hraw, ?_⟩)
  refine Calls.spliced_nil ?_
  refine callI (es := es) (ep := ep) (I1.ok.hd hc) ⟨_, Heap.get?_push_size _ rfl, rfl, rfl⟩ (hraw.push _) (by rw [l2, ← l1]; exact z) fun h' tk acc c as hk hS hl hG hacc => ?_
  generalize hs2 : ({ s1 with heap := s1.heap.push { cls := .type "dict_items", data := .fields #[.ref d] } } : Shared) = s2 at I2 hk hS hG
  have nd : as.Nodup := List.Pairwise.imp (fun h => Nat.ne_of_lt h) hG.rise
  have lak : as.length = kvs.length := by omega
  have hSn : s2.heap.objs.size ∉ as := fun z => Nat.lt_irrefl _ (hG.above _ z)
  have newS : H1 s2.heap.objs.size = none := I2.hok.fresh (Nat.le_refl _)
  -- the pairs that were made
  have pr : ∀ (j : Nat) (b : Addr), as[j]? = some b → ∃ (q : List L2.Key × V) (c : Addr), kvs[j]? = some q ∧ H1 c = some (.tup (q.1.map kV)) ∧ ∃ u, RelV q.2 u ∧ h'.get? b = some { cls := .type "tuple", data := .seq #[Value.ref c, u] } := by
    intro j b hj
    obtain ⟨en, he, hg⟩ := hG.pairs j b hj
    rw [entry_at hes j] at he
    cases hxj : xs'[j]? with
    | none =>
      rw [hxj] at he
      exact nomatch (show (none : Option DictEntry) = some en from he)
    | some x =>
      rw [hxj] at he
      have een : entryOfKey (tupleKind (mixKind X.prog X.w)) x = en := Option.some.inj he
      obtain ⟨e0, he0, r1, r2, r3⟩ := L2.DX.pget rel hxj
      refine ⟨e0, x.2.1, he0, r2, x.2.2, r3, ?_⟩
      rw [hg, ← een]
      rfl
  have I3 : Inv X pins σ (upd H1 s2.heap.objs.size (.lst (as.map V.ref))) { s2 with heap := h', toks := tk } := I2.laid (t' := tk) hk (Nat.le_refl _) ⟨by rw [List.length_map, lak]; exact z, acc.toList, c, by rw [hacc]; exact vals_refsA as, by rw [Array.toArray_toList]; exact hS⟩
  obtain ⟨H4, I4, g4, q4⟩ := L2.DX.takeT (P := fun a vs => ∀ (j : Nat) (q : List L2.Key × V), as[j]? = some a → kvs[j]? = some q → ∃ c, vs = [V.ref c, q.2] ∧ H1 c = some (.tup (q.1.map kV))) I2 as _ I3 nd fun a ha => by
    have ha1 : H1 a = none := I2.hok.fresh (Nat.le_of_lt (hG.above a ha))
    refine ⟨Nat.le_of_lt (hG.above a ha), by rw [upd_ne (b := a) (a := s2.heap.objs.size) fun z => hSn (z ▸ ha)]; exact ha1, ?_⟩
    obtain ⟨j, hj⟩ := List.getElem?_of_mem ha
    obtain ⟨q1, c1, e1, e2, u1, e3, e4⟩ := pr j a hj
    refine ⟨[V.ref c1, q1.2], fun j2 q2 h1 h2 => ?_, fun H2 => ⟨by show 2 ≤ sizeLine; decide, [Value.ref c1, u1], .cons rfl (.cons e3 .nil), ⟨_, e4, rfl, 0, rfl⟩⟩⟩
    have ej : j2 = j := by
      obtain ⟨b1, f1⟩ := List.getElem?_eq_some_iff.mp h1
      obtain ⟨b2, f2⟩ := List.getElem?_eq_some_iff.mp hj
      exact (List.getElem_inj nd).mp (f1.trans f2.symm)
    subst ej
    rw [e1] at h2
    cases h2
    exact ⟨c1, rfl, e2⟩
  refine ⟨.ref _, H4, I4, rfl, q H4 _ as (fun b o e => g4 b o (by rw [upd_ne (ne_of_none e newS)]; exact e)) newS (g4 _ _ upd_same) lak fun j t q1 h1 h2 => ?_⟩
  obtain ⟨vs, pv, ev⟩ := q4 t (List.mem_of_getElem? h1)
  obtain ⟨c1, rfl, e2⟩ := pv j q1 h1 h2
  exact ⟨c1, ev, g4 _ _ (by rw [upd_ne (ne_of_none e2 newS)]; exact e2)⟩
end
end DLI
/-! list(d.items()), sorted, over data -/
namespace DL
open PySem PySem.Spec PyProof.Rows L2 DLI
/-- all tuples, and what stands at p, are frozen -/
def allT (G H : Hp) (p : Addr) : Hp := fun b => match G b with
  | some o => some o
  | none => if b = p then H b else match H b with
    | some (.tup xs) => some (.tup xs)
    | _ => none
theorem allT_old {G H : Hp} {p b : Addr} {o : HO} (h : G b = some o) : allT G H p b = some o := by
  unfold allT
  rw [h]
theorem allT_p {G H : Hp} {p : Addr} (h : G p = none) : allT G H p p = H p := by
  unfold allT
  rw [h]
  simp
theorem allT_tup {G H : Hp} {p b : Addr} {xs : List V} (h : G b = none) (e : H b = some (.tup xs)) : allT G H p b = some (.tup xs) := by
  unfold allT
  rw [h]
  by_cases hb : b = p
  · rw [if_pos hb, e]
  · rw [if_neg hb, e]
theorem allT_non {G H : Hp} {p b : Addr} (h : G b = none) (hb : b ≠ p) (e : ∀ xs, H b ≠ some (.tup xs)) : allT G H p b = none := by
  have key : ∀ q : Option HO, (∀ xs, q ≠ some (.tup xs)) → (match q with
    | some (.tup xs) => some (HO.tup xs)
    | _ => none) = none := fun q hq => by
    cases q with
    | none => rfl
    | some o =>
      cases o with
      | tup xs => exact absurd rfl (hq xs)
      | _ => rfl
  have z := key (H b) e
  unfold allT
  rw [h]
  show (if b = p then H b else _) = none
  rw [if_neg hb]
  exact z
theorem allT_same {G H : Hp} {p : Addr} : Same G (allT G H p) := fun b o e => allT_old e
variable [TabT] [CacT]
/-- the heap has grown by tuples and one thing at p -/
theorem ext_allT {G H H' : Hp} {p : Addr} {u : HO} (le : Lo G H) (m : ∀ b o, H b = some o → H' b = some o) (n : H p = none) (hp : H' p = some u) (nu : ∀ ps, u ≠ .tbl ps) : Ext G H (allT G H' p) H' (fun _ => False) := by
  have gp : G p = none := le.free n
  refine ⟨allT_same, fun b o e => ?_, fun b o e _ _ _ => m b o e, fun b o e t g _ => ?_, fun b o e => ⟨o, m b o e⟩, fun t => t.ext m, fun g b ps e => ?_⟩
  · cases hg : G b with
    | some o2 =>
      rw [allT_old hg] at e
      cases e
      obtain ⟨u2, e2⟩ := (le b o hg).so
      have k := (le b o hg).mono (allT_same (H := H') (p := p))
      rw [e2] at k
      rw [m b u2 e2]
      exact k
    | none =>
      by_cases hb : b = p
      · subst hb
        rw [allT_p hg] at e
        exact Ky.of e
      · cases z : H' b with
        | none =>
          rw [allT_non hg hb fun xs e2 => by rw [z] at e2; cases e2] at e
          cases e
        | some o3 =>
          by_cases t3 : ∃ xs, o3 = .tup xs
          · obtain ⟨xs, rfl⟩ := t3
            rw [allT_tup hg z] at e
            cases e
            exact rfl
          · rw [allT_non hg hb fun xs e2 => by
              rw [z] at e2
              exact t3 ⟨xs, Option.some.inj e2⟩] at e
            cases e
  · refine allT_non g (ne_of_none e n) fun xs e2 => ?_
    rw [m b o e] at e2
    exact t.2 xs (Option.some.inj e2)
  · cases hg : G b with
    | some o2 =>
      rw [allT_old hg] at e
      exact g b ps (hg.trans e)
    | none =>
      by_cases hb : b = p
      · subst hb
        rw [allT_p hg, hp] at e
        exact nu ps (Option.some.inj e)
      · cases z : H' b with
        | none =>
          rw [allT_non hg hb fun xs e2 => by rw [z] at e2; cases e2] at e
          cases e
        | some o3 =>
          by_cases t3 : ∃ xs, o3 = .tup xs
          · obtain ⟨xs, rfl⟩ := t3
            rw [allT_tup hg z] at e
            cases e
          · rw [allT_non hg hb fun xs e2 => by
              rw [z] at e2
              exact t3 ⟨xs, Option.some.inj e2⟩] at e
            cases e
theorem allT_at {G H H' : Hp} {p c : Addr} {xs : List V} (le : Lo G H) (m : ∀ b o, H b = some o → H' b = some o) (e : H' c = some (.tup xs)) : allT G H' p c = some (.tup xs) := by
  cases hg : G c with
  | none => exact allT_tup hg e
  | some o =>
    rw [allT_old hg]
    obtain ⟨u, e2⟩ := (le c o hg).so
    have k := le c o hg
    rw [e2] at k
    have e3 := m c u e2
    rw [e] at e3
    cases e3
    cases o with
    | ins C dx fs =>
      obtain ⟨fs', z, _⟩ := k
      cases z
    | _ => first | exact k.symm | cases k
theorem is_kV {K : PySem.W.Frag} {G : Hp} : ∀ k : Key, Is K G (kV k) (keyD k)
  | .inl i => .int i
  | .inr x => .str x
theorem is_kVs {K : PySem.W.Frag} {G : Hp} : ∀ ks : List Key, IsL K G (ks.map kV) (ks.map keyD)
  | [] => .nil
  | k :: ks => .cons (is_kV k) (is_kVs ks)
def itemsD (kvs : List (List Key × D)) : List D := kvs.map fun kv => .tup [.tup (kv.1.map keyD), kv.2]
theorem IsT.at_ {K : PySem.W.Frag} {G : Hp} : ∀ {vs : List (List Key × V)} {ds : List (List Key × D)} {j : Nat} {q : List Key × D}, IsT K G vs ds → ds[j]? = some q → ∃ v, vs[j]? = some (q.1, v) ∧ Is K G v q.2
  | _, _, j, q, .nil, e => by simp at e
  | _, _, 0, q, .cons h t, e => by
    simp at e
    subst e
    exact ⟨_, rfl, h⟩
  | _, _, j + 1, q, .cons h t, e => by
    obtain ⟨v, e1, e2⟩ := IsT.at_ (j := j) t (by simpa using e)
    exact ⟨v, by simpa using e1, e2⟩
theorem isL_by {K : PySem.W.Frag} {G : Hp} : ∀ {vs : List V} {ds : List D}, vs.length = ds.length → (∀ (j : Nat) (v : V) (d : D), vs[j]? = some v → ds[j]? = some d → Is K G v d) → IsL K G vs ds
  | [], [], _, _ => .nil
  | v :: vs, d :: ds, h, k => .cons (k 0 v d rfl rfl) (isL_by (by simpa using h) fun j v' d' h1 h2 => k (j + 1) v' d' (by simpa using h1) (by simpa using h2))
theorem IsL.mono' {K : PySem.W.Frag} {G G' : Hp} (e : Same G G') {vs : List V} {ds : List D} (h : IsL K G vs ds) : IsL K G' vs ds := IsL.mono e h
theorem isL_strs {K : PySem.W.Frag} {G : Hp} : ∀ xs : List Str, IsL K G (xs.map V.str) (xs.map D.str)
  | [] => .nil
  | x :: xs => .cons (.str x) (isL_strs xs)
theorem strs_isL {K : PySem.W.Frag} {G : Hp} : ∀ {vs : List V} {xs : List Str}, IsL K G vs (xs.map D.str) → vs = xs.map V.str
  | _, [], .nil => rfl
  | _, x :: xs, .cons h t => by
    cases h
    rw [List.map_cons, strs_isL t]
section
variable {C : Fx} {ρ : List Slot} {te : TE} {ta tk : TA} {P : PD}
/-- list(d.items()) -/
theorem ev_listItems (h : Ev C te ρ fun d ρ1 => ∃ kvs, d = .dct kvs ∧ P (.lst (itemsD kvs)) ρ1) : Ev C (tListItemsT te) ρ P := fun σ G H Q S q => by
  refine h σ G H _ S fun v d G1 H1 ρ1 s1 p1 k1 => ?_
  obtain ⟨kvs, rfl, p1⟩ := p1
  cases k1 with
  | @dct a vs _ h1 h2 =>
    refine ⟨a, vs, rfl, s1.st.le _ _ h1, fun H2 p ts m n hp hl pt => ?_⟩
    have ex := ext_allT s1.st.le m n hp (fun _ z => nomatch z)
    have g1 : G1 p = none := s1.st.le.free n
    refine q _ _ _ H2 ρ1 (s1.trans (s1.st.keep ex)) p1 (.lst ((allT_p g1).trans hp) (isL_by ?_ fun j v d e1 e2 => ?_))
    · rw [List.length_map, itemsD, List.length_map, hl, h2.length]
    · rw [itemsD, List.getElem?_map] at e2
      rw [List.getElem?_map] at e1
      cases q1 : kvs[j]? with
      | none =>
        rw [q1] at e2
        cases e2
      | some kv =>
        rw [q1] at e2
        cases e2
        cases t1 : ts[j]? with
        | none =>
          rw [t1] at e1
          cases e1
        | some t =>
          rw [t1] at e1
          cases e1
          obtain ⟨v, e3, e4⟩ := h2.at_ q1
          obtain ⟨c, f1, f2⟩ := pt j t _ t1 e3
          exact .tup (.inl (.inl (allT_at s1.st.le m f1))) (.cons (.tup (.inl (.inl (allT_at s1.st.le m f2))) (is_kVs _)) (.cons (e4.mono allT_same) .nil))
def itD (x : It3) : D := .tup [.tup [.str x.1, .str x.2.1], .int x.2.2]
theorem itv_of {K : PySem.W.Frag} {G : Hp} {v : V} {x : It3} (i : Is K G v (itD x)) : ItV K G v x := by
  cases i with
  | @tup a vs ds h k =>
    cases k with
    | cons k1 k2 =>
      cases k1 with
      | @tup c ws _ h1 k3 =>
        cases k2 with
        | cons k2 k4 =>
          cases k4
          cases k2
          cases k3 with
          | cons k5 k6 =>
            cases k5
            cases k6 with
            | cons k7 k8 =>
              cases k7
              cases k8
              exact ⟨a, c, rfl, h, h1⟩
theorem itv_lo {K : PySem.W.Frag} {G H : Hp} {v : V} {x : It3} (le : Lo G H) (i : ItV K G v x) : ItV K H v x := by
  obtain ⟨t, c, e, h1, h2⟩ := i
  exact ⟨t, c, e, le.seqT h1, le.seqT h2⟩
end
theorem pair_it {K : PySem.W.Frag} {G H : Hp} (le : Lo G H) : ∀ {vs : List V} {its : List It3}, IsL K G vs (its.map itD) → Paired (ItV K H) vs its
  | _, [], .nil => .nil
  | _, x :: its, .cons h t => .cons (itv_lo le (itv_of h)) (pair_it le t)
theorem isL_at {K : PySem.W.Frag} {G : Hp} : ∀ {vs : List V} {ds : List D}, IsL K G vs ds → ∀ v ∈ vs, ∃ d ∈ ds, Is K G v d
  | _, _, .nil, v, h => by simp at h
  | _, _, .cons k t, v, h => by
    rcases List.mem_cons.mp h with rfl | h
    · exact ⟨_, List.mem_cons_self, k⟩
    · obtain ⟨d, hd, f⟩ := isL_at t v h
      exact ⟨d, List.mem_cons_of_mem _ hd, f⟩
theorem isL_back {K : PySem.W.Frag} {G H : Hp} (le : Lo G H) (u : ∀ (y : V) (x x' : It3), ItV K H y x → ItV K H y x' → x = x') {vs : List V} {its : List It3} (k : IsL K G vs (its.map itD)) : ∀ {ss : List V} {js : List It3}, (∀ y ∈ ss, y ∈ vs) → Paired (ItV K H) ss js → IsL K G ss (js.map itD) := by
  intro ss js h p
  induction p with
  | nil => exact .nil
  | @cons y j ss js r t ih =>
    refine .cons ?_ (ih fun z hz => h z (List.mem_cons_of_mem _ hz))
    obtain ⟨d, hd, f⟩ := isL_at k y (h y List.mem_cons_self)
    obtain ⟨x, _, rfl⟩ := List.mem_map.mp hd
    rw [← u y x j (itv_lo le (itv_of f)) r]
    exact f
section
variable {C : Fx} {ρ : List Slot} {te : TE} {ta tk : TA} {P : PD}
/-- sorted(items, reverse=True) -/
theorem ev_sortIt {K' : PySem.W.Frag} (h : EvA C ta ρ fun ds ρ1 => EvA C tk ρ1 fun zs ρ2 => ∃ its : List It3, ds = [.lst (its.map itD)] ∧ zs = [.bl true] ∧ P (.lst ((isort (flipO ltI) its).map itD)) ρ2) (hK : K' = C.K := by rfl) : Ev C (tCKw (rSortIt K') ta tk) ρ P := fun σ G H Q S q => by
  subst hK
  refine h σ G H _ S fun vs ds G1 H1 ρ1 s1 p1 k1 => p1 σ G1 H1 _ s1.st fun us zs G2 H2 ρ2 s2 p2 k2 => ?_
  obtain ⟨its, rfl, rfl, p2⟩ := p2
  cases k2 with
  | cons k2 k3 =>
    cases k2
    cases k3
    have kk := k1.mono' s2.ext.gg
    cases kk with
    | cons ka kb =>
      cases kb
      cases ka with
      | @lst a ys _ h1 h2 =>
        refine ⟨a, ys, its, rfl, rfl, .inl (.inl (s2.st.le _ _ h1)), pair_it s2.st.le h2, fun u ss js p pm pr pj od n => ?_⟩
        have ex := Ext.new (F := fun _ => False) s2.st.le n (.lst ss)
        have ej : js = isort (flipO ltI) its := asc_isort tot_I.flip pj od
        subst ej
        exact q _ _ _ _ ρ2 ((s1.trans s2).trans (s2.st.keep ex)) p2 (.lst upd_same ((isL_back s2.st.le u h2 (fun y hy => pm.mem_iff.mp hy) pr).mono' ex.gg))
/-- sorted(texts, reverse=b) -/
theorem ev_sortSR {K' : PySem.W.Frag} {b : Bool} (h : EvA C ta ρ fun ds ρ1 => EvA C tk ρ1 fun zs ρ2 => ∃ xs : List Str, (ds = [.lst (xs.map .str)] ∨ ds = [.tup (xs.map .str)]) ∧ zs = [.bl b] ∧ P (.lst ((isort (if b = true then flipO ltS else ltS) xs).map .str)) ρ2) (hK : K' = C.K := by rfl) : Ev C (tCKw (rSortSR K' b) ta tk) ρ P := fun σ G H Q S q => by
  subst hK
  refine h σ G H _ S fun vs ds G1 H1 ρ1 s1 p1 k1 => p1 σ G1 H1 _ s1.st fun us zs G2 H2 ρ2 s2 p2 k2 => ?_
  obtain ⟨xs, hd, rfl, p2⟩ := p2
  cases k2 with
  | cons k2 k3 =>
    cases k2
    cases k3
    have T : Tot (if b = true then flipO ltS else ltS) := by
      cases b
      · exact tot_str
      · exact tot_str.flip
    have fin : ∀ (a : Addr), (SqL C.K H2 a (xs.map V.str) ∨ SqT C.K H2 a (xs.map V.str)) → rSortSR C.K b [.ref a] [.bl b] H2 Q := fun a hs => ⟨a, xs, rfl, rfl, hs, fun ss p pm od n => by
      have ex := Ext.new (F := fun _ => False) s2.st.le n (.lst (ss.map V.str))
      have ej := asc_isort T pm od
      rw [← ej] at p2
      exact q _ _ _ _ ρ2 ((s1.trans s2).trans (s2.st.keep ex)) p2 (.lst upd_same (isL_strs ss))⟩
    have kk := k1.mono' s2.ext.gg
    rcases hd with rfl | rfl
    · cases kk with
      | cons ka kb =>
        cases kb
        cases ka with
        | @lst a ys _ h1 h2 =>
          cases strs_isL h2
          exact fin a (.inl (.inl (.inl (s2.st.le _ _ h1))))
    · cases kk with
      | cons ka kb =>
        cases kb
        cases ka with
        | @tup a ys _ h1 h2 =>
          cases strs_isL h2
          exact fin a (.inr (s2.st.le.seqT h1))
end
end DL
/-! (*xs, y): stars in displays and calls -/
namespace DL
open PySem PySem.Spec PyProof.Rows L2 LamX StX
theorem pa_starK {X : Cx} {K : PySem.W.Frag} {e : Expr} {es : List Expr} {te : TE} {t : TA} {p : Pos} (h : X.K = K) (he : PE X e te) (hr : PA X es t) (hs : starEach (.Starred e p :: es) X.env = (true, eval e X.env) :: starEach es X.env := by rfl) : PA X (.Starred e p :: es) (tStar K te t) := h ▸ pa_star he hr hs
variable [TabT] [CacT]
theorem ea_star {C : Fx} {ρ : List Slot} {te : TE} {t : TA} {P : List D → List Slot → Prop} {K' : PySem.W.Frag} (h : Ev C te ρ fun d ρ1 => ∃ xs, (d = .tup xs ∨ d = .lst xs) ∧ EvA C t ρ1 fun ys ρ2 => P (xs ++ ys) ρ2) (hK : K' = C.K := by rfl) : EvA C (tStar K' te t) ρ P := fun σ G H Q S q => by
  subst hK
  refine h σ G H _ S fun v d G1 H1 ρ1 s1 p1 k1 => ?_
  obtain ⟨xs, hd, p1⟩ := p1
  rcases hd with rfl | rfl
  · cases k1 with
    | tup h1 h2 =>
      refine ⟨_, _, rfl, .inl (s1.st.le.seqT h1), p1 σ G1 H1 _ s1.st fun vs ys G2 H2 ρ2 s2 p2 k2 => ?_⟩
      exact q _ _ G2 H2 ρ2 (s1.trans s2) p2 ((h2.mono s2.ext.gg).append k2)
  · cases k1 with
    | lst h1 h2 =>
      refine ⟨_, _, rfl, .inr (.inl (.inl (s1.st.le _ _ h1))), p1 σ G1 H1 _ s1.st fun vs ys G2 H2 ρ2 s2 p2 k2 => ?_⟩
      exact q _ _ G2 H2 ρ2 (s1.trans s2) p2 ((h2.mono s2.ext.gg).append k2)
end DL
/-! methods of a made object, over data -/
namespace DL
open PySem PySem.Spec PyProof.Rows L2 LamX
variable [TabT] [CacT]
section
variable {X : Cx} {CX : CXT} {k : Nat} {f C : Addr} {fd : FuncData} {ps : List Str} {sp : Sp} {E : XK} {m : Str} {pos apos : Pos} {o e : Expr} {es : List Expr} {ta : TE} {t : TA}
/-- o.m(e, ..) -/
theorem pe_methG {pl : Sem Bool} (gd : X.A.guards = some []) (c : Cls X.K C) (hm : Meth X.K C m f) (F : FnG X.prog X.w X.K X.mg X.base CX k f fd ps sp) (hr : Room k X.A) (hb : Binds X.K fd ps []) (hx : Passes CX X E) (he : PE X o ta) (ha : PA X (e :: es) t)
    (hst : starEach (e :: es) X.env = (false, eval e X.env) :: starEach es X.env := by rfl) (hpl : (backTo pos (starEach es X.env)).any (·.1) = false := by rfl)
    (ht : eval (.Call (.Attribute o m apos) (e :: es) [] pos) X.env = (do
      let ov ← eval o X.env
      standAt apos.atName
      let (f, first) ← holding [ov] (getMethod ov m pl)
      callWith pos f first (backTo pos (starEach (e :: es) X.env)) (backToKw pos (keywordEach [] X.env))) := by rfl) :
    PE X (.Call (.Attribute o m apos) (e :: es) [] pos) (tMeth C m sp [] E ta t) := by
  refine ⟨fun pins s σ H Q I h => ?_⟩
  refine PySem.W.methodCall_KW (pl := pl) (thn (he.run pins s σ H _ I h) fun u s1 ⟨x, H1, I1, rx, a, dx, fs, ex, ea, l, q⟩ => ?_) ht
  subst ex
  obtain rfl : u = Value.ref a := rx
  refine getmeth_ok I1 ea c hm l ?_
  refine PySem.W.callWith_K (first := [.ref a]) (h₀ := X.base) I.ok.mod.kin hm.kp (thn (ha.run pos pins s1 σ H1 _ I1 q) fun us s2 ⟨vs, H2, I2, r, q2⟩ => ⟨I2.kIn, ?_⟩) hst hpl
  exact run_g (us := .ref a :: us) (vs := .ref a :: vs) gd F hr hb .nil hx I2 (.cons rfl r) q2
end
theorem pe_fldK {X : Cx} {K : PySem.W.Frag} {e : Expr} {ta : TE} {f : Str} {pos : Pos} (h : X.K = K) (he : PE X e ta) (hb : attributeBase e f X.env (eval e X.env) = eval e X.env) : PE X (.Attribute e f pos) (tFld K ta f) := h ▸ pe_fld he hb
theorem ev_meth {C : Fx} {ρ : List Slot} {ta : TE} {t : TA} {E : XK} {Z : Addr → D → Prop} {P : PD} {K' : PySem.W.Frag} {Cl : Addr} {m : Str} {f : FS} (hE : Flies C.K C.G0 C.H0 C.F0 Z E)
    (h : Ev C ta ρ fun d ρ1 => ∃ fs, d = .ins Cl fs ∧ fs.lookup m = none ∧ EvA C t ρ1 fun ds ρ2 => f (d :: ds) (fun d => P d ρ2) Z) (hK : K' = C.K := by rfl) (hc : m ∉ cacN := by decide) : Ev C (tMeth Cl m (spD K' f) [] E ta t) ρ P := fun σ G H Q S q => by
  subst hK
  refine h σ G H _ S fun v d G1 H1 ρ1 s1 p1 k1 => ?_
  obtain ⟨fs, rfl, l, p1⟩ := p1
  cases k1 with
  | @ins a dx _ us _ h1 h2 =>
    obtain ⟨fs', e3, e4⟩ := s1.st.le.look h1
    refine ⟨a, dx, fs', rfl, e3, (e4 m hc).trans (IsF.none h2 l), p1 σ G1 H1 _ s1.st fun vs ds G2 H2 ρ2 s2 p2 k2 => ?_⟩
    have ki : Is C.K G2 (.ref a) (.ins Cl fs) := Is.mono s2.ext.gg (.ins h1 h2)
    refine ⟨G2, .ins Cl fs :: ds, _, Z, s2.st.le, .cons ki (by rw [List.append_nil]; exact k2), p2, fun v d G' H' e k r => q v d G' H' ρ2 ((s1.trans s2).trans (s2.st.keep e)) r k, fun X dx v d G' H' e g k z => ?_⟩
    exact hE X dx v d G' H' (s2.st.ext.trans e fun _ _ _ z => z.elim) g k z
end DL
/-! enumerate(tuple, start=k) -/
namespace DL
open PySem PySem.Spec PyProof.Rows L2
/-- the tuple at a, counted from k, in new pairs -/
def IteTS (K : PySem.W.Frag) (k : Int) (a : Addr) : It :=
  ⟨fun i H => ∃ (xs : List V) (x : V), SqT K H a xs ∧ xs[i]? = some x, fun i H v H' => ∃ T x, v = .ref T ∧ H T = none ∧ H' = upd H T (.tup [.int (k + (i : Nat)), x]) ∧ ∀ xs, SqT K H a xs → xs[i]? = some x, fun i H => ∃ xs : List V, SqT K H a xs ∧ xs.length = i⟩
theorem turn_enumTS {P : Program} {w : World} {K : PySem.W.Frag} {elts : List Expr} {kk : Nat} {tpos : Pos} (k : Int) (a e it : Addr) :
    Turn P w K (.Tuple elts kk tpos) (IteTS K k a) [e, it] e (fun i h => (∃ old, IsEnum h e it (k + (i : Nat)) old) ∧ h.IsTupleIter it a i ∧ e ≠ it ∧ e ≠ a ∧ a ≠ it) where
  mem := by simp
  obj := fun i h st b hb => by
    obtain ⟨⟨old, he⟩, ⟨o, ho, hc, hd⟩, _⟩ := st
    have e' : b = e ∨ b = it := by simpa using hb
    rcases e' with z | z
    · rw [z]; exact ⟨_, he, fun v q => nomatch q⟩
    · rw [z]; exact ⟨o, ho, fun v q => by rw [hd] at q; cases q⟩
  keep := fun i h h' st k => let ⟨⟨old, he⟩, hi, hne⟩ := st; ⟨⟨old, k e (by simp) _ he⟩, hi.at fun o q => k it (by simp) o q, hne⟩
  item := by
    intro X hP hw hK hc i pins s σ H E I hf st hg
    subst hP hw hK
    obtain ⟨⟨old, he⟩, hit, hne, hea, hai⟩ := st
    obtain ⟨xs, x, hq, hx⟩ := hg
    obtain ⟨its, rv, p, hz⟩ := I.tuple hq
    obtain ⟨u, hu, ru⟩ := rv.get hx
    have hel : e < s.heap.objs.size := Heap.lt_size he
    have hil : it < s.heap.objs.size := by obtain ⟨_, q, _⟩ := hit; exact Heap.lt_size q
    have hlt : i < its.toArray.size := by
      have := (List.getElem?_eq_some_iff.mp hu).1
      simpa using this
    refine wpAny_pyNext_enum_itemC (Draws.tuple (by rw [Around.in1]; exact I.ok.hd hc) it a hai its.toArray) he ⟨hit, (p : s.heap.IsTuple a its.toArray)⟩ hlt hne (by simp [hne, hea]) fun x1 h' tk hx1 ho hst' hT hsz hk => ?_
    obtain ⟨hit', _⟩ := hst'
    have ex : x1 = u := by
      have hx1 : its.toArray[i]? = some x1 := hx1
      rw [List.getElem?_toArray, hu] at hx1
      exact (Option.some.inj hx1).symm
    subst ex
    refine ⟨_, rfl, wpAny_letOwnedTupleGo_enum (s := { s with heap := h', toks := tk + 1 }) ho fun h'' he' sb => ?_⟩
    have hT2 : h''.get? s.heap.objs.size = some { cls := .type "tuple", data := .seq #[.int (k + (i : Nat)) tk, x1] } := (sb.2 _ (Nat.ne_of_gt hel)).trans hT
    have new : ObjOk X.prog X.w (upd H s.heap.objs.size (.tup [.int (k + (i : Nat)), x])) h'' s.heap.objs.size (.tup [.int (k + (i : Nat)), x]) :=
      ⟨by show 2 ≤ sizeLine; decide, [.int (k + (i : Nat)) tk, x1], .cons ⟨_, rfl⟩ (.cons ru .nil), ⟨_, hT2, rfl, _, rfl⟩⟩
    have I1 : Inv X pins σ (upd H s.heap.objs.size (.tup [.int (k + (i : Nat)), x])) { s with heap := h'', toks := tk + 1 } :=
      I.turnedNew (ch := [e, it]) (fun b ob hb q => (sb.2 b (fun z => hb (by simp [z]))).trans (hk b ob (fun z => hb (by simp [z])) (fun z => hb (by simp [z])) q)) hf (Nat.le_refl _) new
    refine ⟨.ref s.heap.objs.size, _, I1, rfl, ⟨_, x, rfl, I.hok.fresh (Nat.le_refl _), rfl, fun ys hy => by rw [I.tuple_inj hy hq]; exact hx⟩, ⟨⟨x1, ?_⟩, hit'.at fun o q => (sb.2 it (Ne.symm hne)).trans q, hne, hea, hai⟩, fun b hb => ?_⟩
    · have e1 : k + ((i + 1 : Nat) : Int) = k + (i : Int) + 1 := by omega
      rw [e1]; exact he'
    · have hb' : b < s.heap.objs.size := by
        have e' : b = e ∨ b = it := by simpa using hb
        rcases e' with z | z
        · rw [z]; exact hel
        · rw [z]; exact hil
      rw [upd_ne (Nat.ne_of_lt hb')]
      exact (hf b hb).1
  done := by
    intro X hP hw hK hc i pins s σ H E I hf st hg
    subst hP hw hK
    obtain ⟨⟨old, he⟩, hit, hne, hea, hai⟩ := st
    obtain ⟨xs, hq, hx⟩ := hg
    obtain ⟨its, rv, p, hz⟩ := I.tuple hq
    obtain ⟨f0, f1, f2, f3, f4, f5⟩ := hf it (by simp)
    have hl := rv.length
    have hs : its.toArray.size = i := by simp; omega
    subst hs
    exact wpAny_pyNext_enum_endD (Draws.tuple (by rw [Around.in1]; exact I.ok.hd hc) it a hai its.toArray) he ⟨hit, (p : s.heap.IsTuple a its.toArray)⟩ fun h' eb => ⟨rfl, I.turned (t' := s.toks) (fun b o hb q => eb b o hb q) f0 f1 f3 f4 f5⟩
  self := fun A i s Q E st h => let ⟨⟨_, he⟩, _⟩ := st; wpAny_pyIter_enum he h
def iEnumTS (K : PySem.W.Frag) (ta tk : TA) : TI := fun σ H R => ta σ H fun vs H1 => tk σ H1 fun ks H2 => ∃ (a : Addr) (xs : List V) (k : Int), vs = [.ref a] ∧ ks = [.int k] ∧ SqT K H2 a xs ∧ -(2 ^ 63) ≤ k ∧ k < 2 ^ 63 ∧ R (IteTS K k a) H2
theorem pi_enumTS {X : Cx} {e e2 : Expr} {ta tk : TA} {p pos tpos kpos : Pos} {elts : List Expr} {kk : Nat} (hg : Gl X "enumerate") (hm : X.mg "enumerate" = none) (ha : PA X [e] ta) (hk : PK X [⟨some "start", e2, kpos⟩] tk)
    (he : backTo pos (starEach [e] X.env) = (false, eval e X.env) :: backTo pos (starEach [] X.env) := by rfl) (hpl : (backTo pos (starEach [e] X.env)).any (·.1) = false := by rfl) :
    PI X (.Tuple elts kk tpos) (.Call (.Name "enumerate" p) [e] [⟨some "start", e2, kpos⟩] pos) (iEnumTS X.K ta tk) := by
  refine ⟨fun pins s σ H R I h => ?_⟩
  refine wpAny_Call_Name_kw (ld_blt I hg hm boot_enumerate ?_)
  refine callWith_typeKw (thn (ha.run pos pins s σ H _ I h) fun us s1 ⟨vs, H1, I1, r1, q1⟩ => thn (hk.run pos pins s1 σ H1 _ I1 q1) fun ws s2 ⟨zs, H2, I2, r2, q2⟩ => ?_) he hpl
  obtain ⟨a, xs, k, e1, e2, hq, k0, k1, q⟩ := q2
  subst e1 e2
  cases r1 with
  | cons r rr =>
    cases rr
    cases r
    cases r2 with
    | cons r rr =>
      cases rr
      obtain ⟨t, rfl⟩ := r
      obtain ⟨its, rv, p', hz⟩ := I2.tuple hq
      show wpAny _ _ (call (.type "enumerate") [.ref a] [(Str.ofString "start", .int k t)]) _ _ _
      refine enum_begins_start (begins_tuple a its.toArray) (p' : s2.heap.IsTuple a its.toArray) k0 k1 fun h' he hit hsz hk => wpAny_pyIter_enum he ?_
      have I3 : Inv X pins σ H2 { s2 with heap := h' } := I2.kept (t' := s2.toks) hk
      have hla : a < s2.heap.objs.size := by
        obtain ⟨_, q, _⟩ := (p' : s2.heap.IsTuple a its.toArray)
        exact Heap.lt_size q
      refine ⟨s2.heap.objs.size + 1, [s2.heap.objs.size + 1, s2.heap.objs.size], _, _, H2, rfl, I3, turn_enumTS k a (s2.heap.objs.size + 1) s2.heap.objs.size, ⟨⟨.none, ?_⟩, ⟨_, hit, rfl, rfl⟩, Nat.succ_ne_self _, Ne.symm (Nat.ne_of_lt (Nat.lt_succ_of_lt hla)), Nat.ne_of_lt hla⟩, fun b hb => ?_, q⟩
      · have e1 : k + ((0 : Nat) : Int) = k := by omega
        rw [e1]
        exact he
      · have e' : b = s2.heap.objs.size + 1 ∨ b = s2.heap.objs.size := by simpa using hb
        have hle : s2.heap.objs.size ≤ b := by
          rcases e' with z | z
          · rw [z]; exact Nat.le_add_right _ _
          · rw [z]; exact Nat.le_refl _
        exact I2.fpOk hle (I2.hok.fresh hle)
section
variable [TabT] [CacT] {C : Fx} {ρ : List Slot} {ta tk : TA} {K : PySem.W.Frag} {G : Hp} {ds : List D}
theorem wd_enumTS {k : Int} {a : Addr} {vs : List V} (h : SqT K G a vs) (t : IsL K G vs ds) : WD K G (IteTS K k a) (pairsZ k 0 ds) where
  goes := fun i H hi e => by
    rw [pairsZ_len] at hi
    exact ⟨vs, _, e.seqT h, List.getElem?_eq_getElem (by rw [t.length]; exact hi)⟩
  stops := fun H e => ⟨vs, e.seqT h, by rw [pairsZ_len, t.length]⟩
  yields := fun i H x H' d e hd y => by
    obtain ⟨T, z, rfl, n, rfl, q⟩ := y
    obtain ⟨e', h1, rfl⟩ := pairsZ_get hd
    obtain ⟨v, h2, h3⟩ := t.get h1
    have w := q vs (e.seqT h)
    rw [h2] at w
    cases w
    exact .inr ⟨T, _, _, rfl, n, rfl, rfl, by
      rw [Nat.zero_add]
      exact .cons (.int _) (.cons h3 .nil)⟩
theorem ei_enumTS {K' : PySem.W.Frag} {P : List D → List Slot → Prop} (h : EvA C ta ρ fun ds ρ1 => EvA C tk ρ1 fun ks ρ2 => ∃ es k, ds = [.tup es] ∧ ks = [.int k] ∧ -(2 ^ 63) ≤ k ∧ k < 2 ^ 63 ∧ P (pairsZ k 0 es) ρ2) (hK : K' = C.K := by rfl) : EvI C (iEnumTS K' ta tk) ρ P := fun σ G H R S q => by
  subst hK
  refine h σ G H _ S fun vs ds G1 H1 ρ1 s1 p1 k1 => p1 σ G1 H1 _ s1.st fun us ks G2 H2 ρ2 s2 p2 k2 => ?_
  obtain ⟨es, k, rfl, rfl, b1, b2, p2⟩ := p2
  obtain ⟨v, rfl, k3⟩ := (k1.mono' s2.ext.gg).one
  obtain ⟨u, rfl, k4⟩ := k2.one
  cases k4
  cases k3 with
  | tup h1 t1 => exact ⟨_, _, k, rfl, rfl, s2.st.le.seqT h1, b1, b2, q _ _ G2 H2 ρ2 (s1.trans s2) p2 (wd_enumTS h1 t1)⟩
end
theorem bt_sorted : bootBuiltins "sorted" = some (.builtin "sorted") := by decide +kernel
theorem bt_sum : bootBuiltins "sum" = some (.builtin "sum") := by decide +kernel
section
variable [TabT] [CacT] {X : Cx} {CX : CXT} {k : Nat} {f C : Addr} {fd : FuncData} {ps : List Str} {sp : Sp} {E : XK} {m : Str} {pos apos : Pos} {o : Expr} {ta : TE}
/-- o.m() -/
theorem pe_methG0 {pl : Sem Bool} (gd : X.A.guards = some []) (c : Cls X.K C) (hm : Meth X.K C m f) (F : FnG X.prog X.w X.K X.mg X.base CX k f fd ps sp) (hr : Room k X.A) (hb : Binds X.K fd ps []) (hx : Passes CX X E) (he : PE X o ta)
    (ht : eval (.Call (.Attribute o m apos) [] [] pos) X.env = (do
      let ov ← eval o X.env
      standAt apos.atName
      let (f, first) ← holding [ov] (getMethod ov m pl)
      callWith pos f first (backTo pos (starEach [] X.env)) (backToKw pos (keywordEach [] X.env))) := by rfl) :
    PE X (.Call (.Attribute o m apos) [] [] pos) (tMeth C m sp [] E ta tNil) := by
  refine ⟨fun pins s σ H Q I h => ?_⟩
  refine PySem.W.methodCall_KW (pl := pl) (thn (he.run pins s σ H _ I h) fun u s1 ⟨x, H1, I1, rx, a, dx, fs, ex, ea, l, q⟩ => ?_) ht
  subst ex
  obtain rfl : u = Value.ref a := rx
  refine getmeth_ok I1 ea c hm l ?_
  exact PySem.W.callWith_K0 (first := [.ref a]) I1.kIn hm.kp (run_g (us := [.ref a]) (vs := [.ref a]) gd F hr hb .nil hx I1 (.cons rfl .nil) q)
end
section
variable [TabT] [CacT] {C : Fx} {ρ : List Slot} {te tb : TE} {tu : TS} {po : Po} {r : R2} {i : Nat}
/-- while (x := e) op f: .. -/
theorem xs_whileW (I : Nat → List Slot → Prop) {m0 : Nat} (h0 : I m0 ρ) (step : ∀ m ρ', I m ρ' → Ev C te ρ' fun d ρ2 => Ev C tb (ρ2.set i (.dat d)) fun y ρ3 => RD C.K r d y fun z => ∃ b, z = .bl b ∧ (b = true → Xs C tu ρ3 { nx := fun ρ4 => ∃ m', m' < m ∧ I m' ρ4, rt := po.rt, bk := po.nx, ct := fun ρ4 => ∃ m', m' < m ∧ I m' ρ4 }) ∧ (b = false → po.nx ρ3)) : Xs C (tWhileW (wCmp r (wNm (wE te) i) tb) tu tNext) ρ po := fun σ G H Dn S hn hr hb hc => by
  refine ⟨fun m σ2 H2 => ∃ G2 ρ2, Sg C G2 H2 σ2 ρ2 ∧ Same G G2 ∧ I m ρ2, ⟨m0, G, ρ, S, Same.refl G, h0⟩, fun m σ2 H2 ⟨G2, ρ2, S2, e2, i2⟩ => ?_⟩
  show te σ2 H2 _
  refine step m ρ2 i2 σ2 G2 H2 _ S2 fun v d G3 H3 ρ3 s3 p3 k3 => ?_
  refine p3 (σ2.set i (some v)) G3 H3 _ (s3.st.setD k3) fun u y G4 H4 ρ4 s4 p4 k4 => ?_
  refine p4 G4 H4 v u _ s4.st.le (k3.mono s4.ext.gg) k4 fun z d5 G5 H5 e5 _ p5 k5 => ?_
  obtain ⟨b, rfl, pt, pf⟩ := p5
  cases k5
  have s5 := s4.st.keep e5
  have gg : Same G G5 := ((e2.trans s3.ext.gg).trans s4.ext.gg).trans e5.gg
  refine ⟨b, rfl, ?_⟩
  cases b with
  | false => exact iteF (hn _ G5 H5 ρ4 s5.st gg (pf rfl))
  | true =>
    refine iteT ⟨fun σ4 H4 => ∃ m', m' < m ∧ ∃ G4 ρ4, Sg C G4 H4 σ4 ρ4 ∧ Same G G4 ∧ I m' ρ4, fun σ4 H4 z => z, ?_⟩
    exact pt rfl _ G5 H5 _ s5.st (fun σ6 G6 H6 ρ6 S6 e6 ⟨m', l, p6⟩ => ⟨m', l, G6, ρ6, S6, gg.trans e6, p6⟩) hr (fun σ6 G6 H6 ρ6 S6 e6 p6 => hn σ6 G6 H6 ρ6 S6 (gg.trans e6) p6) fun σ6 G6 H6 ρ6 S6 e6 ⟨m', l, p6⟩ => ⟨m', l, G6, ρ6, S6, gg.trans e6, p6⟩
end
end DL
/-! ways of a net, one behind the other: a stack of paths -/
namespace DL
open PySem
/-- a path, and the numbers of the ties along it -/
abbrev Pth := List Str × List Int
def lastS (l : List Str) : Str := l.getLastD ⟨#[]⟩
section
variable {on : Str → List (Str × Int)} {e : Pth → Bool} {ps : List Str}
def kids (on : Str → List (Str × Int)) (x : Pth) : List Pth := ((on (lastS x.1)).filter fun q => !decide (q.1 ∈ x.1)).map fun q => (x.1 ++ [q.1], x.2 ++ [q.2])
def emit (e : Pth → Bool) (x : Pth) : List Pth := if e x = true then [x] else []
def dfs (on : Str → List (Str × Int)) (e : Pth → Bool) : Nat → Pth → List Pth
  | 0, x => emit e x
  | k + 1, x => emit e x ++ (kids on x).reverse.flatMap (dfs on e k)
def outS (on : Str → List (Str × Int)) (e : Pth → Bool) (P : Nat) (S : List Pth) : List Pth := S.reverse.flatMap fun x => dfs on e (P - x.1.length) x
/-- places of the net, none twice, one at least; as many numbers as steps -/
structure GoodP (ps : List Str) (x : Pth) : Prop where
  ne : x.1 ≠ []
  nd : x.1.Nodup
  sub : ∀ p ∈ x.1, p ∈ ps
  len : x.2.length + 1 = x.1.length
structure GoodN (on : Str → List (Str × Int)) (ps : List Str) : Prop where
  nd : ∀ p, ((on p).map (·.1)).Nodup
  sub : ∀ p, ∀ q ∈ on p, q.1 ∈ ps
theorem kids_mem {x y : Pth} (h : y ∈ kids on x) : ∃ q ∈ on (lastS x.1), q.1 ∉ x.1 ∧ y = (x.1 ++ [q.1], x.2 ++ [q.2]) := by
  unfold kids at h
  obtain ⟨q, hq, rfl⟩ := List.mem_map.mp h
  obtain ⟨h1, h2⟩ := List.mem_filter.mp hq
  exact ⟨q, h1, by simpa using h2, rfl⟩
theorem kids_good (N : GoodN on ps) {x y : Pth} (g : GoodP ps x) (h : y ∈ kids on x) : GoodP ps y ∧ y.1.length = x.1.length + 1 ∧ y.1.head? = x.1.head? := by
  obtain ⟨q, h1, h2, rfl⟩ := kids_mem h
  refine ⟨⟨by simp, ?_, fun p hp => ?_, by simp [g.len]⟩, by simp, ?_⟩
  · exact List.nodup_append.mpr ⟨g.nd, by simp, fun a ha b hb => by
      rw [List.mem_singleton.mp hb]
      exact fun z => h2 (z ▸ ha)⟩
  · rcases List.mem_append.mp hp with hp | hp
    · exact g.sub p hp
    · rw [List.mem_singleton.mp hp]
      exact N.sub _ q h1
  · have := g.ne
    cases hx : x.1 with
    | nil => exact absurd hx this
    | cons a r => simp
theorem nodup_sub_len {α : Type} [DecidableEq α] : ∀ {l m : List α}, l.Nodup → (∀ a ∈ l, a ∈ m) → l.length ≤ m.length
  | [], _, _, _ => Nat.zero_le _
  | a :: l, m, h, s => by
    obtain ⟨h1, h2⟩ := List.nodup_cons.mp h
    have hm : a ∈ m := s a List.mem_cons_self
    have ih := nodup_sub_len (m := m.erase a) h2 fun b hb => (List.mem_erase_of_ne (fun z : b = a => h1 (z ▸ hb))).mpr (s b (List.mem_cons_of_mem _ hb))
    rw [List.length_erase_of_mem hm] at ih
    have := List.length_pos_of_mem hm
    rw [List.length_cons]
    omega
theorem kids_len (N : GoodN on ps) {x : Pth} (g : GoodP ps x) : (kids on x).length + x.1.length ≤ ps.length := by
  unfold kids
  rw [List.length_map]
  have nd : (x.1 ++ ((on (lastS x.1)).filter fun q => !decide (q.1 ∈ x.1)).map (·.1)).Nodup := by
    refine List.nodup_append.mpr ⟨g.nd, ?_, fun a ha b hb z => ?_⟩
    · exact (N.nd _).sublist (List.filter_sublist.map _)
    · obtain ⟨q, hq, rfl⟩ := List.mem_map.mp hb
      have := (List.mem_filter.mp hq).2
      simp only [Bool.not_eq_true', decide_eq_false_iff_not] at this
      exact this (z ▸ ha)
  have := nodup_sub_len nd fun a ha => by
    rcases List.mem_append.mp ha with ha | ha
    · exact g.sub a ha
    · obtain ⟨q, hq, rfl⟩ := List.mem_map.mp ha
      exact N.sub _ q (List.mem_filter.mp hq).1
  rw [List.length_append, List.length_map] at this
  omega
theorem good_len {x : Pth} (g : GoodP ps x) : 1 ≤ x.1.length ∧ x.1.length ≤ ps.length := by
  refine ⟨?_, nodup_sub_len g.nd g.sub⟩
  have := g.ne
  cases hx : x.1 with
  | nil => exact absurd hx this
  | cons a r => simp
theorem kids_end (N : GoodN on ps) {x : Pth} (g : GoodP ps x) (h : ps.length ≤ x.1.length) : kids on x = [] := by
  have := kids_len N g
  exact List.eq_nil_of_length_eq_zero (by omega)
theorem flatMap_eq {α β : Type} {f g : α → List β} : ∀ {l : List α}, (∀ y ∈ l, f y = g y) → l.flatMap f = l.flatMap g
  | [], _ => rfl
  | y :: l, h => by rw [List.flatMap_cons, List.flatMap_cons, h y List.mem_cons_self, flatMap_eq fun z hz => h z (List.mem_cons_of_mem _ hz)]
theorem out_step (N : GoodN on ps) {S : List Pth} {x : Pth} (g : GoodP ps x) : outS on e ps.length (S ++ [x]) = emit e x ++ outS on e ps.length (S ++ kids on x) := by
  unfold outS
  rw [List.reverse_append, List.reverse_append, List.flatMap_append, List.flatMap_append, ← List.append_assoc]
  congr 1
  show List.flatMap _ [x] = _
  rw [List.flatMap_singleton]
  have hl := (good_len g).2
  cases hj : ps.length - x.1.length with
  | zero =>
    rw [kids_end N g (by omega)]
    simp [dfs]
  | succ j =>
    rw [show dfs on e (j + 1) x = emit e x ++ (kids on x).reverse.flatMap (dfs on e j) from rfl]
    congr 1
    refine flatMap_eq fun y hy => ?_
    have := (kids_good N g (List.mem_reverse.mp hy)).2.1
    rw [show ps.length - y.1.length = j by omega]
/-- how many may come of a path when so many places are left -/
def Wn : Nat → Nat
  | 0 => 1
  | k + 1 => 1 + (k + 1) * Wn k
def wtS (P : Nat) (S : List Pth) : Nat := (S.map fun x => Wn (P - x.1.length)).sum
theorem wn_pos : ∀ k, 1 ≤ Wn k
  | 0 => Nat.le_refl _
  | k + 1 => by
    unfold Wn
    omega
theorem wt_app {P : Nat} {S T : List Pth} : wtS P (S ++ T) = wtS P S + wtS P T := by
  unfold wtS
  rw [List.map_append, List.sum_append_nat]
theorem wt_len {P : Nat} : ∀ S : List Pth, S.length ≤ wtS P S
  | [] => Nat.zero_le _
  | x :: S => by
    have h1 := wt_len (P := P) S
    have h2 := wn_pos (P - x.1.length)
    unfold wtS at h1 ⊢
    rw [List.map_cons, List.sum_cons, List.length_cons]
    omega
theorem wt_all {P k : Nat} : ∀ {S : List Pth}, (∀ y ∈ S, P - y.1.length = k) → wtS P S = S.length * Wn k
  | [], _ => by simp [wtS]
  | x :: S, h => by
    have ih := wt_all (P := P) (k := k) (S := S) fun y hy => h y (List.mem_cons_of_mem _ hy)
    unfold wtS at ih ⊢
    rw [List.map_cons, List.sum_cons, ih, h x List.mem_cons_self, List.length_cons, Nat.succ_mul]
    omega
theorem wt_step (N : GoodN on ps) {S : List Pth} {x : Pth} (g : GoodP ps x) : wtS ps.length (S ++ kids on x) < wtS ps.length (S ++ [x]) := by
  rw [wt_app, wt_app]
  have hk := kids_len N g
  have h1 : wtS ps.length [x] = Wn (ps.length - x.1.length) := by simp [wtS]
  rw [h1]
  cases hj : ps.length - x.1.length with
  | zero =>
    rw [kids_end N g (by omega)]
    simp [wtS, Wn]
  | succ j =>
    rw [wt_all (k := j) (S := kids on x) fun y hy => by
      have := (kids_good N g hy).2.1
      omega]
    rw [show Wn (j + 1) = 1 + (j + 1) * Wn j from rfl]
    have : (kids on x).length * Wn j ≤ (j + 1) * Wn j := Nat.mul_le_mul_right _ (by omega)
    omega
theorem wt_mono {P : Nat} {S : List Pth} {x : Pth} : wtS P S ≤ wtS P (S ++ [x]) := by
  rw [wt_app]
  omega
theorem emit_len {x : Pth} : (emit e x).length ≤ 1 := by
  unfold emit
  split <;> simp
theorem dfs_len (N : GoodN on ps) : ∀ (k : Nat) {x : Pth}, GoodP ps x → ps.length - x.1.length = k → (dfs on e k x).length ≤ Wn k
  | 0, x, g, h => emit_len
  | k + 1, x, g, h => by
    rw [show dfs on e (k + 1) x = emit e x ++ (kids on x).reverse.flatMap (dfs on e k) from rfl, List.length_append]
    have h1 := emit_len (e := e) (x := x)
    have hk := kids_len N g
    have h2 : ∀ l : List Pth, (∀ y ∈ l, y ∈ kids on x) → (l.flatMap (dfs on e k)).length ≤ l.length * Wn k := by
      intro l
      induction l with
      | nil => intro _; simp
      | cons y l ih =>
        intro hl
        rw [List.flatMap_cons, List.length_append, List.length_cons, Nat.succ_mul]
        have a1 := ih fun z hz => hl z (List.mem_cons_of_mem _ hz)
        obtain ⟨gy, ly, _⟩ := kids_good N g (hl y List.mem_cons_self)
        have a2 := dfs_len N k gy (by omega)
        omega
    have h3 := h2 (kids on x).reverse fun y hy => List.mem_reverse.mp hy
    rw [List.length_reverse] at h3
    have h4 : (kids on x).length * Wn k ≤ (k + 1) * Wn k := Nat.mul_le_mul_right _ (by omega)
    rw [show Wn (k + 1) = 1 + (k + 1) * Wn k from rfl]
    omega
theorem out_len (N : GoodN on ps) : ∀ {S : List Pth}, (∀ x ∈ S, GoodP ps x) → (outS on e ps.length S).length ≤ wtS ps.length S := by
  intro S
  unfold outS wtS
  have key : ∀ l : List Pth, (∀ x ∈ l, GoodP ps x) → (l.flatMap fun x => dfs on e (ps.length - x.1.length) x).length ≤ (l.map fun x => Wn (ps.length - x.1.length)).sum := by
    intro l
    induction l with
    | nil => intro _; simp
    | cons y l ih =>
      intro hl
      rw [List.flatMap_cons, List.length_append, List.map_cons, List.sum_cons]
      have a1 := ih fun z hz => hl z (List.mem_cons_of_mem _ hz)
      have a2 := dfs_len (e := e) N _ (hl y List.mem_cons_self) rfl
      omega
  intro h
  have := key S.reverse fun x hx => h x (List.mem_reverse.mp hx)
  rw [List.map_reverse, List.sum_reverse] at this
  exact this
end
end DL
/-! lists of lists of texts -/
namespace DL
open PySem PySem.Spec PyProof.Rows L2
section
variable [TabT] [CacT] {K K' : PySem.W.Frag} {P : D → Prop}
def lls (xs : List (List Str)) : List D := xs.map fun x => .lst (txs x)
theorem lls_len (xs : List (List Str)) : (lls xs).length = xs.length := by simp [lls]
theorem lls_get {ts : List (List Str)} {i : Nat} {d : D} (h : (lls ts)[i]? = some d) : ∃ t, ts[i]? = some t ∧ d = .lst (txs t) := by
  unfold lls at h
  rw [List.getElem?_map] at h
  cases q : ts[i]? with
  | none => simp [q] at h
  | some t =>
    rw [q] at h
    exact ⟨t, rfl, (Option.some.inj h).symm⟩
theorem pys_lls : ∀ xs : List (List Str), D.pys (lls xs) = some (xs.map fun x => .list (x.map .str))
  | [] => rfl
  | x :: xs => by
    show D.pys (.lst (txs x) :: lls xs) = _
    simp only [D.pys, pys_lls xs, D.py, pys_txs]
    rfl
theorem lls_ok : ∀ xs : List (List Str), (∀ x ∈ xs, ∀ y ∈ x, PyData.strOk y = true) → PyData.canLayAll0 (xs.map fun x => .list (x.map .str)) = true ∧ PyData.depthAll (xs.map fun x => .list (x.map .str)) ≤ 1
  | [], _ => ⟨rfl, by decide⟩
  | x :: xs, h => by
    obtain ⟨h1, h2⟩ := lls_ok xs fun y hy => h y (List.mem_cons_of_mem _ hy)
    obtain ⟨h3, h4⟩ := txs_ok x (h x (by simp))
    refine ⟨?_, ?_⟩
    · simp only [List.map_cons, PyData.canLayAll0, h1, Bool.and_true, PyData.canLay0, h3]
    · simp only [List.map_cons, PyData.depthAll, PyData.depth, h4]
      omega
theorem lls_shaped {xs : List (List Str)} (h : ∀ x ∈ xs, ∀ y ∈ x, PyData.strOk y = true) : SeqAt.shaped (.list (xs.map fun x => .list (x.map .str))) = true := by
  obtain ⟨h1, h2⟩ := lls_ok xs h
  unfold SeqAt.shaped
  simp only [PyData.canLay0, h1, PyData.depth, Bool.true_and]
  exact decide_eq_true (by omega)
theorem lrow_shaped {xs : List Str} (h : ∀ x ∈ xs, PyData.strOk x = true) : SeqAt.shaped (.list (xs.map .str)) = true := by
  obtain ⟨h1, h2⟩ := txs_ok xs h
  unfold SeqAt.shaped
  simp only [PyData.canLay0, h1, PyData.depth, h2]
  decide
theorem lls_any (xs : List (List Str)) (y : List Str) : ((xs.map fun x => PyData.list (x.map .str)).any fun z => PyData.eqv z (.list (y.map .str))) = decide (y ∈ xs) := by
  induction xs with
  | nil => simp
  | cons x xs ih =>
    rw [List.map_cons, List.any_cons, ih]
    simp only [PyData.eqv, row_eqv]
    by_cases h : x = y
    · subst h
      simp
    · have h2 : ¬ y = x := fun e => h e.symm
      simp [h, h2, List.mem_cons]
theorem in_lls {y : List Str} {xs : List (List Str)} (h : ∀ x ∈ xs, ∀ y ∈ x, PyData.strOk y = true) (h2 : ∀ x ∈ y, PyData.strOk x = true) (hK : K' = K) (p : P (.bl (decide (y ∈ xs)))) : RD K (rInA K') (.lst (txs y)) (.lst (lls xs)) P :=
  in_dpL hK (d := .list (y.map .str)) (ds := xs.map fun x => .list (x.map .str)) (by simp [D.py, pys_txs]) (by simp [D.py, pys_lls]) (lrow_shaped h2) (lls_shaped h) (by rw [lls_any]; exact p)
/-- == of lists of texts -/
theorem eq_lrow {xs ys : List Str} (h1 : ∀ x ∈ xs, PyData.strOk x = true) (h2 : ∀ x ∈ ys, PyData.strOk x = true) (hK : K' = K) (p : P (.bl (decide (xs = ys)))) : RD K (rEqA K') (.lst (txs xs)) (.lst (txs ys)) P := by
  refine rd_k (r := rEqA) hK (rd_or1 (rd_eq (p := .list (xs.map .str)) (r := .list (ys.map .str)) (by simp [D.py, pys_txs]) (by simp [D.py, pys_txs]) (lrow_shaped h1) (lrow_shaped h2) ?_))
  have e : PyData.eqv (.list (xs.map .str)) (.list (ys.map .str)) = decide (xs = ys) := by
    simp only [PyData.eqv, row_eqv]
  rw [e]
  exact p
theorem ne_lrow {xs ys : List Str} (h1 : ∀ x ∈ xs, PyData.strOk x = true) (h2 : ∀ x ∈ ys, PyData.strOk x = true) (hK : K' = K) (p : P (.bl (!decide (xs = ys)))) : RD K (rNeA K') (.lst (txs xs)) (.lst (txs ys)) P := by
  refine rd_k (r := rNeA) hK (rd_or1 (rd_ne (p := .list (xs.map .str)) (r := .list (ys.map .str)) (by simp [D.py, pys_txs]) (by simp [D.py, pys_txs]) (lrow_shaped h1) (lrow_shaped h2) ?_))
  have e : PyData.eqv (.list (xs.map .str)) (.list (ys.map .str)) = decide (xs = ys) := by
    simp only [PyData.eqv, row_eqv]
  rw [e]
  exact p
theorem eq_lls0 {xs : List (List Str)} (h : ∀ x ∈ xs, ∀ y ∈ x, PyData.strOk y = true) (hK : K' = K) (p : P (.bl (decide (xs = [])))) : RD K (rEqA K') (.lst (lls xs)) (.lst []) P := by
  refine rd_k (r := rEqA) hK (rd_or1 (rd_eq (p := .list (xs.map fun x => .list (x.map .str))) (r := .list []) (by simp [D.py, pys_lls]) rfl (lls_shaped h) rfl ?_))
  have e : PyData.eqv (.list (xs.map fun x => .list (x.map .str))) (.list []) = decide (xs = []) := by
    cases xs with
    | nil => rfl
    | cons x xs => simp [PyData.eqv, PyData.eqvAll]
  rw [e]
  exact p
end
end DL
namespace DL
open PySem PySem.Spec PyProof.Rows L2
section
variable [TabT] [CacT] {K K' : PySem.W.Frag} {P : D → Prop}
theorem atI_last {α : Type} {xs : List α} {x : α} (h : xs[xs.length - 1]? = some x) : atI xs (-1) = some x := by
  have hl : 0 < xs.length := by
    cases xs with
    | nil => simp at h
    | cons a r => simp
  have e : ixN xs.length (-1) = some (xs.length - 1) := by
    unfold ixN
    rw [if_neg (by decide)]
    first
      | (rw [if_pos (by omega)]; congr 1; omega)
      | (simp; omega)
  unfold atI
  rw [e]
  exact h
/-- xs[-1] -/
theorem ix_last {ds : List D} {d : D} (h : ds[ds.length - 1]? = some d) (p : P d) : RD K (rIx K) (.lst ds) (.int (-1)) P := fun G H v u Q le a b q => by
  cases b
  cases a with
  | lst h1 h2 =>
    obtain ⟨w, e1, e2⟩ := h2.get h
    rw [← h2.length] at e1
    exact .inl ⟨_, _, _, w, rfl, rfl, .inl (.inl (le _ _ h1)), atI_last e1, q w d G H (Ext.refl le) (Same.refl _) p e2⟩
theorem cut_fromL (ds : List D) (a : Nat) : (cutD ds (some (a : Int)) none).length ≤ ds.length - a := by
  unfold cutD
  rw [List.length_take, List.length_drop, HT.sIx_nat, HT.sIx_none]
  omega
theorem cut_toL (ds : List D) (b : Nat) : (cutD ds none (some (b : Int))).length ≤ b := by
  unfold cutD
  rw [List.length_take, List.length_drop, HT.sIx_nat, HT.sIx_none]
  omega
theorem cut_abL (ds : List D) (a b : Nat) : (cutD ds (some (a : Int)) (some (b : Int))).length ≤ min b ds.length - a := by
  unfold cutD
  rw [List.length_take, List.length_drop, HT.sIx_nat, HT.sIx_nat]
  omega
/-- data that are texts of a kind are texts -/
theorem txs_of {q : Str → Prop} : ∀ {ds : List D}, (∀ d ∈ ds, ∃ x, q x ∧ d = .str x) → ∃ xs, ds = txs xs ∧ ∀ x ∈ xs, q x
  | [], _ => ⟨[], rfl, by simp⟩
  | d :: ds, h => by
    obtain ⟨x, hx, rfl⟩ := h d (by simp)
    obtain ⟨xs, rfl, hxs⟩ := txs_of fun e he => h e (List.mem_cons_of_mem _ he)
    exact ⟨x :: xs, rfl, fun y hy => by
      rcases List.mem_cons.mp hy with rfl | hy
      · exact hx
      · exact hxs y hy⟩
end
end DL
/-! a comprehension within a comprehension: the rules with the written part told -/
namespace DL
open PySem PySem.Spec PyProof.Rows L2
section
variable {X : Cx} {K : PySem.W.Frag} {tg l : Expr} {tl : TE}
theorem pi_listK (h : X.K = K) (hl : PE X l tl) : PI X tg l (iList K tl) := h ▸ pi_list hl
theorem pi_tupK (h : X.K = K) (hl : PE X l tl) : PI X tg l (iTup K tl) := h ▸ pi_tup hl
theorem kAll (h : X.K = K) (hc : X.calm = true) : CallR X (.builtin "all") (rAll K) := h ▸ cr_all hc
theorem kAny (h : X.K = K) (hc : X.calm = true) : CallR X (.builtin "any") (rAny K) := h ▸ cr_any hc
end
section
variable [TabT] [CacT] {K K' : PySem.W.Frag} {P : D → Prop}
theorem notIn_txsL {x : Str} {xs : List Str} (hK : K' = K) (p : P (.bl (!decide (x ∈ xs)))) : RD K (rNotInA K') (.str x) (.lst (txs xs)) P := fun G H v u Q le a b q => by
  subst hK
  cases a
  cases b with
  | lst h1 h2 =>
    cases h2.txs
    refine .inl ⟨_, _, rfl, .inl (.inl (.inl (le _ _ h1))), rfl, flat_txs xs, q _ _ G H (Ext.refl le) (Same.refl _) ?_ (.bl _)⟩
    rw [if_pos rfl, inV_txs]
    exact p
end
end DL
/-! a walk as data -/
namespace DL
open PySem PySem.Spec PyProof.Rows L2 DLI
variable [TabT] [CacT]
theorem ix_lastT {K : PySem.W.Frag} {P : D → Prop} {ds : List D} {d : D} (h : ds[ds.length - 1]? = some d) (p : P d) : RD K (rIx K) (.tup ds) (.int (-1)) P := fun G H v u Q le a b q => by
  cases b
  cases a with
  | tup h1 h2 =>
    obtain ⟨w, e1, e2⟩ := h2.get h
    rw [← h2.length] at e1
    exact .inr (.inl ⟨_, _, _, w, rfl, rfl, le.seqT h1, atI_last e1, q w d G H (Ext.refl le) (Same.refl _) p e2⟩)
def pthD (x : Pth) : D := .tup [.tup (txs x.1), .tup (x.2.map .int)]
def nbD (q : Str × Int) : D := .tup [.str q.1, .int q.2]
def onDt (ps : List Str) (on : Str → List (Str × Int)) : D := .dic (ps.map fun p => (.inr p, .lst ((on p).map nbD)))
def endL : List Str → List (Key × D)
  | [] => []
  | w :: r => (.inr w, .tup (txs r)) :: endL r
def afterF : List Str → Str → List Str
  | [], _ => []
  | w :: r, p => if w = p then r else afterF r p
def headS (l : List Str) : Str := l.headD ⟨#[]⟩
def isE (ws : List Str) (x : Pth) : Bool := decide (lastS x.1 ∈ afterF ws (headS x.1))
def walkT (p W b : Addr) (onD enD : D) (S : List Pth) : OT := .ins p W [("onward", .dat onD), ("ends", .dat enD), ("paths", .lst b (S.map pthD))]
theorem walk_has {p W b : Addr} {onD enD : D} {S : List Pth} {ds : List D} (h : S.map pthD = ds) : OT.has b ds (walkT p W b onD enD S) := by
  simp [walkT, OT.has, OT.hasF, h]
theorem walk_set {p W b : Addr} {onD enD : D} {S T : List Pth} {ds : List D} (h : ds = T.map pthD) : OT.setL b ds (walkT p W b onD enD S) = walkT p W b onD enD T := by
  simp [walkT, OT.setL, OT.setLF, h]
theorem val_on {ps : List Str} {on : Str → List (Str × Int)} {p : Str} : p ∈ ps → valD (ps.map fun p => (.inr p, .lst ((on p).map nbD))) p = some (.lst ((on p).map nbD)) := by
  induction ps with
  | nil => intro h; simp at h
  | cons a r ih =>
    intro h
    unfold valD at ih ⊢
    rw [List.map_cons, List.find?_cons]
    by_cases e : a = p
    · subst e
      simp
    · have e2 : decide ((Sum.inr a : Key) = .inr p) = false := by simpa using e
      rw [e2]
      exact ih ((List.mem_cons.mp h).resolve_left fun z => e z.symm)
theorem val_end {ws : List Str} {p : Str} : p ∈ ws → valD (endL ws) p = some (.tup (txs (afterF ws p))) := by
  induction ws with
  | nil => intro h; simp at h
  | cons a r ih =>
    intro h
    unfold valD at ih ⊢
    rw [endL, List.find?_cons, afterF]
    by_cases e : a = p
    · subst e
      simp
    · have e2 : decide ((Sum.inr a : Key) = .inr p) = false := by simpa using e
      rw [e2, if_neg e]
      exact ih ((List.mem_cons.mp h).resolve_left fun z => e z.symm)
theorem lastS_get {l : List Str} (h : l ≠ []) : l[l.length - 1]? = some (lastS l) := by
  unfold lastS
  rw [List.getLastD_eq_getLast?, List.getLast?_eq_getElem?]
  cases hl : l[l.length - 1]? with
  | none =>
    have := List.getElem?_eq_none_iff.mp hl
    have := List.length_pos_iff.mpr h
    omega
  | some a => rfl
theorem lastS_mem {l : List Str} (h : l ≠ []) : lastS l ∈ l := List.mem_of_getElem? (lastS_get h)
theorem headS_get {l : List Str} (h : l ≠ []) : l[0]? = some (headS l) := by
  cases l with
  | nil => exact absurd rfl h
  | cons a r => rfl
theorem headS_mem {l : List Str} (h : l ≠ []) : headS l ∈ l := List.mem_of_getElem? (headS_get h)
theorem txs_last {l : List Str} (h : l ≠ []) : (txs l)[(txs l).length - 1]? = some (.str (lastS l)) := by
  rw [txs_len]
  unfold txs
  rw [List.getElem?_map, lastS_get h]
  rfl
theorem txs_head {l : List Str} (h : l ≠ []) : (txs l)[0]? = some (.str (headS l)) := by
  unfold txs
  rw [List.getElem?_map, headS_get h]
  rfl
/-- the paths of a stack are right -/
structure GoodS (ps ws : List Str) (S : List Pth) : Prop where
  good : ∀ x ∈ S, GoodP ps x
  head : ∀ x ∈ S, headS x.1 ∈ ws
theorem GoodS.app {ps ws : List Str} {S T : List Pth} (a : GoodS ps ws S) (b : GoodS ps ws T) : GoodS ps ws (S ++ T) :=
  ⟨fun x h => (List.mem_append.mp h).elim (a.good x) (b.good x), fun x h => (List.mem_append.mp h).elim (a.head x) (b.head x)⟩
theorem GoodS.left {ps ws : List Str} {S T : List Pth} (a : GoodS ps ws (S ++ T)) : GoodS ps ws S :=
  ⟨fun x h => a.good x (List.mem_append_left _ h), fun x h => a.head x (List.mem_append_left _ h)⟩
theorem GoodS.right {ps ws : List Str} {S T : List Pth} (a : GoodS ps ws (S ++ T)) : GoodS ps ws T :=
  ⟨fun x h => a.good x (List.mem_append_right _ h), fun x h => a.head x (List.mem_append_right _ h)⟩
theorem head_of {x y : Pth} (h : y.1.head? = x.1.head?) : headS y.1 = headS x.1 := by
  unfold headS
  rw [List.headD_eq_head?_getD, List.headD_eq_head?_getD, h]
theorem kids_goodS {ps ws : List Str} {on : Str → List (Str × Int)} (N : GoodN on ps) {x : Pth} (g : GoodP ps x) (h : headS x.1 ∈ ws) : GoodS ps ws (kids on x) :=
  ⟨fun y hy => (kids_good N g hy).1, fun y hy => by
    rw [head_of (kids_good N g hy).2.2]
    exact h⟩
end DL
/-! a walk's beginning -/
namespace DL
open PySem PySem.Spec PyProof.Rows L2 DLI
/-- a list of one's own for each place -/
def accL (f : Str → List D) : List Str → List Addr → List (Key × OT)
  | p :: ps, l :: ls => (.inr p, .lst l (f p)) :: accL f ps ls
  | _, _ => []
theorem acc_fp {f : Str → List D} : ∀ {ps : List Str} {ls : List Addr}, ls.length = ps.length → OT.fpK (accL f ps ls) = ls
  | [], [], _ => rfl
  | p :: ps, l :: ls, h => by
    rw [accL, OT.fpK, acc_fp (by simpa using h)]
    rfl
theorem acc_toD {f : Str → List D} : ∀ {ps : List Str} {ls : List Addr}, ls.length = ps.length → OT.toDK (accL f ps ls) = ps.map fun p => ((.inr p : Key), D.lst (f p))
  | [], [], _ => rfl
  | p :: ps, l :: ls, h => by
    rw [accL, OT.toDK, acc_toD (by simpa using h)]
    rfl
theorem acc_snoc {f : Str → List D} {p : Str} {l : Addr} : ∀ {ps : List Str} {ls : List Addr}, ls.length = ps.length → accL f (ps ++ [p]) (ls ++ [l]) = accL f ps ls ++ [(.inr p, .lst l (f p))]
  | [], [], _ => rfl
  | q :: ps, m :: ls, h => by
    rw [List.cons_append, List.cons_append, accL, accL, acc_snoc (by simpa using h), List.cons_append]
theorem acc_keys {f : Str → List D} : ∀ {ps : List Str} {ls : List Addr} {kv : Key × OT}, kv ∈ accL f ps ls → ∃ p ∈ ps, kv.1 = .inr p
  | [], _, _, h => by simp [accL] at h
  | _ :: _, [], _, h => by simp [accL] at h
  | p :: ps, l :: ls, kv, h => by
    rw [accL] at h
    rcases List.mem_cons.mp h with rfl | h
    · exact ⟨p, List.mem_cons_self, rfl⟩
    · obtain ⟨q, hq, e⟩ := acc_keys h
      exact ⟨q, List.mem_cons_of_mem _ hq, e⟩
theorem acc_same {f g : Str → List D} : ∀ {ps : List Str} {ls : List Addr}, (∀ p ∈ ps, f p = g p) → accL f ps ls = accL g ps ls
  | [], _, _ => by simp [accL]
  | _ :: _, [], _ => by simp [accL]
  | p :: ps, l :: ls, h => by
    rw [accL, accL, h p List.mem_cons_self, acc_same fun q hq => h q (List.mem_cons_of_mem _ hq)]
theorem acc_off {f : Str → List D} {b : Addr} {es : List D} : ∀ {ps : List Str} {ls : List Addr}, b ∉ ls → OT.setLK b es (accL f ps ls) = accL f ps ls
  | [], _, _ => by simp [accL, OT.setLK]
  | _ :: _, [], _ => by simp [accL, OT.setLK]
  | p :: ps, l :: ls, h => by
    simp only [List.mem_cons, not_or] at h
    rw [accL, OT.setLK, acc_off h.2, OT.setL, if_neg fun z => h.1 z.symm]
/-- the list of one place -/
theorem acc_at {f : Str → List D} {a : Str} : ∀ {ps : List Str} {ls : List Addr}, ls.length = ps.length → ls.Nodup → ps.Nodup → a ∈ ps →
    ∃ l, valT (accL f ps ls) (.inr a) = some (.lst l (f a)) ∧ OT.hasK l (f a) (accL f ps ls) ∧ ∀ es, OT.setLK l es (accL f ps ls) = accL (fun p => if p = a then es else f p) ps ls
  | [], _, _, _, _, h => by simp at h
  | p :: ps, l :: ls, hl, hn, hp, h => by
    obtain ⟨n1, n2⟩ := List.nodup_cons.mp hn
    obtain ⟨q1, q2⟩ := List.nodup_cons.mp hp
    by_cases e : p = a
    · subst e
      refine ⟨l, ?_, ?_, fun es => ?_⟩
      · simp [accL, valT]
      · rw [accL]
        exact .inl ⟨rfl, rfl⟩
      · rw [accL, OT.setLK, acc_off n1, OT.setL, if_pos rfl, accL, if_pos rfl]
        congr 1
        exact acc_same fun q hq => by
          have ne : ¬ q = p := fun z => q1 (z ▸ hq)
          show f q = if q = p then es else f q
          rw [if_neg ne]
    · have ha : a ∈ ps := (List.mem_cons.mp h).resolve_left fun z => e z.symm
      obtain ⟨m, h1, h2, h3⟩ := acc_at (f := f) (by simpa using hl) n2 q2 ha
      have ml : m ∈ ls := by
        have k : ∀ {ps : List Str} {ls : List Addr}, OT.hasK m (f a) (accL f ps ls) → m ∈ ls := by
          intro ps
          induction ps with
          | nil => intro ls h; simp [accL, OT.hasK] at h
          | cons q qs ih =>
            intro ls h
            cases ls with
            | nil => simp [accL, OT.hasK] at h
            | cons b bs =>
              rw [accL] at h
              rcases h with h | h
              · rw [h.1]
                exact List.mem_cons_self
              · exact List.mem_cons_of_mem _ (ih h)
        exact k h2
      refine ⟨m, ?_, ?_, fun es => ?_⟩
      · unfold valT at h1 ⊢
        rw [accL, List.find?_cons]
        have e2 : decide ((Sum.inr p : Key) = .inr a) = false := by simpa using e
        rw [e2]
        exact h1
      · rw [accL]
        exact .inr h2
      · have ne : ¬ l = m := fun z => n1 (z ▸ ml)
        rw [accL, OT.setLK, h3 es, OT.setL, if_neg ne, accL, if_neg e]
def itK (x : It3) : List Key × D := ([.inr x.1, .inr x.2.1], .int x.2.2)
theorem items_it (its : List It3) : itemsD (its.map itK) = its.map itD := by
  unfold itemsD
  rw [List.map_map]
  rfl
/-- where on from a place: later names first -/
def onF (its : List It3) (p : Str) : List (Str × Int) := ((isort (flipO ltI) its).filter fun x => decide (x.1 = p)).map fun x => x.2
def stk0 (ws : List Str) : List Pth := (isort (flipO ltS) ws.dropLast).map fun p => ([p], [])
def datK (kvs : List (Key × D)) : List (Key × OT) := kvs.map fun kv => (kv.1, .dat kv.2)
theorem dat_toD : ∀ kvs : List (Key × D), OT.toDK (datK kvs) = kvs
  | [] => rfl
  | (k, d) :: r => by
    show (k, d) :: OT.toDK (datK r) = _
    rw [dat_toD r]
theorem end_get : ∀ {ws : List Str} {i : Nat} {w : Str}, ws[i]? = some w → (endL ws)[i]? = some (.inr w, .tup (txs (ws.drop (i + 1))))
  | [], _, _, h => by simp at h
  | w :: r, 0, _, h => by
    simp at h
    subst h
    rfl
  | w :: r, i + 1, x, h => by
    have h : r[i]? = some x := by simpa using h
    have k := end_get h
    simpa [endL] using k
theorem end_len : ∀ ws : List Str, (endL ws).length = ws.length
  | [] => rfl
  | _ :: r => by rw [endL, List.length_cons, List.length_cons, end_len r]
end DL
namespace DL
open PySem PySem.Spec PyProof.Rows L2 DLI
theorem cut_but (ds : List D) : cutD ds none (some (-1)) = ds.dropLast := by
  unfold cutD
  have e : HT.sIx ds.length ds.length (some (-1)) = ds.length - 1 := by
    unfold HT.sIx
    simp
    omega
  rw [e, HT.sIx_none, List.drop_zero, Nat.sub_zero, List.dropLast_eq_take]
theorem txs_drop (xs : List Str) (i : Nat) : (txs xs).drop i = txs (xs.drop i) := by
  unfold txs
  rw [List.map_drop]
theorem cut_fr (ds : List D) (a : Nat) : cutD ds (some (a : Int)) none = ds.drop a := by
  unfold cutD
  rw [HT.sIx_none, HT.sIx_nat]
  by_cases h : a ≤ ds.length
  · rw [Nat.min_eq_left h, List.take_of_length_le (by rw [List.length_drop]; exact Nat.le_refl _)]
  · rw [Nat.min_eq_right (by omega), List.drop_eq_nil_of_le (Nat.le_refl _), List.drop_eq_nil_of_le (by omega)]
    simp
/-- what a walk begins with -/
structure NetF (K : PySem.W.Frag) (N : Addr) (fs : List (Str × D)) (ps ws : List Str) (its : List It3) : Prop where
  cls : Cls K N
  aP : NoAttr K N "places"
  aW : NoAttr K N "watchers"
  aN : NoAttr K N "numbers"
  fP : fs.lookup ("places" : Str) = some (.tup (txs ps))
  fW : fs.lookup ("watchers" : Str) = some (.tup (txs ws))
  fN : fs.lookup ("numbers" : Str) = some (.dct (its.map itK))
  nP : ps.Nodup
  nW : ws.Nodup
  sub : ∀ x ∈ its, x.1 ∈ ps
  lP : ps.length ≤ 1000
  lW : ws.length ≤ 1000
  lI : its.length ≤ 1000
theorem nodup_take {l : List Str} {i : Nat} {x : Str} (h : l.Nodup) (e : l[i]? = some x) : x ∉ l.take i := fun z => by
  obtain ⟨j, hj⟩ := List.getElem?_of_mem z
  rw [List.getElem?_take] at hj
  by_cases c : j < i
  · rw [if_pos c] at hj
    obtain ⟨b1, f1⟩ := List.getElem?_eq_some_iff.mp e
    obtain ⟨b2, f2⟩ := List.getElem?_eq_some_iff.mp hj
    have := (List.getElem_inj h).mp (f2.trans f1.symm)
    omega
  · rw [if_neg c] at hj
    cases hj
theorem has_first {p W q l : Addr} {f : Str} {ds : List D} {kvs : List (Key × OT)} {r : List (Str × OT)} (h : OT.hasK l ds kvs) : OT.has l ds (.ins p W ((f, .dk q kvs) :: r)) := Or.inl h
theorem put_on {x y : OT} : putT ("onward" : Str) x [("onward", y)] = [(("onward" : Str), x)] := rfl
theorem put_en {x y : OT} : putT ("ends" : Str) x [("onward", y)] = [(("onward" : Str), y), ("ends", x)] := rfl
theorem put_pa {x y z : OT} : putT ("paths" : Str) x [("onward", y), ("ends", z)] = [(("onward" : Str), y), ("ends", z), ("paths", x)] := rfl
theorem dat_snoc {kvs : List (Key × D)} {k : Key} {d : D} : datK (kvs ++ [(k, d)]) = datK kvs ++ [(k, .dat d)] := by
  unfold datK
  rw [List.map_append]
  rfl
theorem end_fst : ∀ ws : List Str, (endL ws).map (·.1) = ws.map fun w => (.inr w : Key)
  | [] => rfl
  | w :: r => by rw [endL, List.map_cons, List.map_cons, end_fst r]
theorem end_keys {ws : List Str} {i : Nat} {kv : Key × OT} (h : kv ∈ datK ((endL ws).take i)) : ∃ w ∈ ws.take i, kv.1 = .inr w := by
  unfold datK at h
  obtain ⟨kd, hk, rfl⟩ := List.mem_map.mp h
  have k : kd.1 ∈ ((endL ws).take i).map (·.1) := List.mem_map.mpr ⟨kd, hk, rfl⟩
  rw [List.map_take, end_fst, ← List.map_take] at k
  obtain ⟨w, hw, e⟩ := List.mem_map.mp k
  exact ⟨w, hw, e.symm⟩
theorem txs_but (xs : List Str) : (txs xs).dropLast = txs xs.dropLast := by
  unfold txs
  rw [List.map_dropLast]
/-- all ways, as they are gone -/
def waysP (ps ws : List Str) (its : List It3) : List Pth := outS (onF its) (isE ws) ps.length (stk0 ws)
structure WalkOk (ps ws : List Str) (its : List It3) : Prop where
  on : GoodN (onF its) ps
  st : GoodS ps ws (stk0 ws)
  wt : wtS ps.length (stk0 ws) ≤ 99000
end DL
/-! if o.f is None: ..; o.f = x. return o.f, where o keeps f -/
namespace DL
open PySem PySem.Spec PyProof.Rows L2
variable [TabT] [CacT]
section
variable {C : Fx} {ρ : List Slot} {P : PD} {Cl : Addr} {f x : Str} {kd : Str → Str → Option D} {K' : PySem.W.Frag} {i j : Nat} {s1 s2 : TS} {po : Po} {fs : List (Str × D)}
theorem lo_put {K : PySem.W.Frag} (hcl : CacT.cls Cl) (hc : ∀ G fs fs', CacT.ok G Cl fs fs' → Keeps K kd G fs fs') (hc' : ∀ G fs fs', Keeps K kd G fs fs' → CacT.ok G Cl fs fs') (hf : f ∈ cacN) {G H : Hp} (le : Lo G H) {a dx : Addr} {us : List (Str × V)} (h1 : G a = some (.ins Cl dx us)) (h2 : IsF K G us fs) (lz : ∃ z, fs.lookup f = some z) (lx : fs.lookup ("text" : Str) = some (.str x)) {y : V} {d : D} (hk : kd f x = some d) (kv : Is K G y d) :
    ∃ fs', H a = some (.ins Cl dx fs') ∧ fs'.length = fs.length ∧ Ext G H G (upd H a (.ins Cl dx (putF f y fs'))) (fun _ => False) := by
  obtain ⟨fs', e3, kp⟩ := le.keeps (fun _ => hc) h1
  obtain ⟨vx, lvx, ix⟩ := h2.lookD lx
  cases ix
  obtain ⟨z, lz⟩ := lz
  obtain ⟨vz, lvz, _⟩ := h2.lookD lz
  have kp2 := kp.put hf lvx hk kv (kp.all f ⟨_, lvz⟩)
  have cg : Cac G a := ⟨Cl, dx, us, h1, hcl⟩
  refine ⟨fs', e3, by rw [kp.len, h2.len'], Same.refl _, fun b o e => ?_, fun b o e t _ nc => ?_, fun b o e _ g _ => g, fun b o e => ?_, fun t => tabs_upd e3 (fun _ z => nomatch z) (fun _ z => nomatch z) t, fun g => g⟩
  · by_cases hb2 : b = a
    · subst hb2
      rw [h1] at e
      cases e
      rw [upd_same]
      exact ⟨_, rfl, .inr ⟨hcl, hc' _ _ _ kp2⟩⟩
    · rw [upd_ne hb2]
      exact le b o e
  · have nb : b ≠ a := fun z => nc (z ▸ cg)
    rw [upd_ne nb]
    exact e
  · by_cases hb2 : b = a
    · exact ⟨_, by rw [hb2, upd_same]⟩
    · exact ⟨o, by rw [upd_ne hb2]; exact e⟩
theorem xs_cache (hcl : CacT.cls Cl) (hc : ∀ G fs fs', CacT.ok G Cl fs fs' → Keeps C.K kd G fs fs') (hc' : ∀ G fs fs', Keeps C.K kd G fs fs' → CacT.ok G Cl fs fs') (hf : f ∈ cacN)
    (hi : ρ[i]? = some (.dat (.ins Cl fs))) (c : Cls C.K Cl) (n : NoAttr C.K Cl f) (ln : fs.length < 1000) (l0 : fs.lookup f = some .non) (lx : fs.lookup ("text" : Str) = some (.str x)) (hnn : ∀ d, kd f x = some d → ∀ G v, Is C.K G v d → v ≠ .non) (hret : ∀ d ρ', kd f x = some d → po.rt d ρ')
    (h : Xs C (tSeq s1 s2) ρ { nx := fun ρ2 => ∃ ρ3 d, (∀ (σ : L2.St) (G H : Hp), Sg C G H σ ρ2 → ∃ G', Stp C G H σ ρ2 G' H ρ3) ∧ ρ3[i]? = some (.dat (.ins Cl fs)) ∧ ρ3[j]? = some (.dat d) ∧ kd f x = some d, rt := fun _ _ => False }) (hK : K' = C.K := by rfl) :
    Xs C (tSeq (tIfS (tB (tOp (fun x y H Q => y = .non ∧ Q (.bl (decide (x = .non))) H) (tFld K' (tVar i) f) (tC .non))) (tSeq s1 (tSeq s2 (sFld K' (tVar i) (tVar j) f))) tNext) (tRet (tFld K' (tVar i) f))) ρ po := fun σ G H Dn S hn hr hb hcn => by
  subst hK
  obtain ⟨o, ho, v, rfl, k1⟩ := S.sl i _ hi
  cases k1 with
  | @ins a dx _ us _ h1 h2 =>
    obtain ⟨fs', e3, kp⟩ := S.le.keeps (fun _ => hc) h1
    obtain ⟨v0, lv0, i0⟩ := h2.lookD l0
    cases i0
    obtain ⟨vx, lvx, ix⟩ := h2.lookD lx
    cases ix
    obtain ⟨u, hu⟩ := kp.all f ⟨_, lv0⟩
    refine ⟨_, ho, a, Cl, dx, fs', u, rfl, e3, c, n, hu, rfl, decide (u = V.non), rfl, ?_⟩
    have yes : u = V.non ∨ ∃ d, kd f x = some d ∧ Is C.K G u d := by
      rcases kp.kept f u hf hu with z | ⟨x', d, hx, hk, hv⟩
      · rw [lv0] at z
        exact .inl (Option.some.inj z).symm
      · rw [lvx] at hx
        cases hx
        exact .inr ⟨d, hk, hv⟩
    rcases yes with rfl | ⟨d, hk, hv⟩
    · refine iteT ?_
      refine h σ G H _ S (fun σ2 G2 H2 ρ2 S2 e2 p2 => ?_) (fun _ _ _ _ _ _ _ _ z => z.elim) (fun _ _ _ _ _ _ z => z.elim) (fun _ _ _ _ _ _ z => z.elim)
      obtain ⟨ρ3, d, fz, q1, q2, hk⟩ := p2
      obtain ⟨G3, s3⟩ := fz σ2 G2 H2 S2
      obtain ⟨o1, ho1, w1, rfl, k1⟩ := s3.st.sl i _ q1
      obtain ⟨o2, ho2, y, rfl, k2⟩ := s3.st.sl j _ q2
      cases k1 with
      | @ins a2 dx2 _ us2 _ g1 g2 =>
        obtain ⟨fs2, e4, l4, ex⟩ := lo_put hcl hc hc' hf s3.st.le g1 g2 ⟨_, l0⟩ lx hk k2
        refine ⟨_, ho2, _, ho1, a2, Cl, dx2, fs2, rfl, e4, c, n, by rw [l4]; exact ln, ?_⟩
        refine ⟨_, ho1, a2, Cl, dx2, putF f y fs2, y, rfl, upd_same, c, n, put_look, ?_⟩
        exact hr y d σ2 G3 _ ρ3 (s3.st.keep ex).st k2 (hret d ρ3 hk)
    · have ne := hnn d hk G u hv
      have e5 : decide (u = V.non) = false := decide_eq_false ne
      rw [e5]
      refine iteF ?_
      exact ⟨_, ho, a, Cl, dx, fs', u, rfl, e3, c, n, hu, hr u d σ G H ρ S hv (hret d ρ hk)⟩
end
end DL
namespace K13
open DLI
variable [TabT] [CacT]
/-- the items of a net's numbers, one after the other -/
def numIt (ts : List (List Str)) : Nat → List It3
  | 0 => []
  | n + 1 => match ts[n]? with
    | some [a, b] => numIt ts n ++ [(a, b, (n : Int)), (b, a, (n : Int))]
    | _ => numIt ts n
theorem numIt_mem {ts : List (List Str)} {x : It3} : ∀ {n : Nat}, x ∈ numIt ts n → ∃ j < n, (ts[j]? = some [x.1, x.2.1] ∨ ts[j]? = some [x.2.1, x.1]) ∧ x.2.2 = (j : Int)
  | 0, h => by simp [numIt] at h
  | n + 1, h => by
    unfold numIt at h
    split at h
    · rename_i a b e
      rcases List.mem_append.mp h with h | h
      · obtain ⟨j, h1, h2⟩ := numIt_mem h
        exact ⟨j, by omega, h2⟩
      · rcases List.mem_cons.mp h with rfl | h
        · exact ⟨n, by omega, .inl e, rfl⟩
        · rw [List.mem_singleton.mp h]
          exact ⟨n, by omega, .inr e, rfl⟩
    · obtain ⟨j, h1, h2⟩ := numIt_mem h
      exact ⟨j, by omega, h2⟩
theorem numIt_len (ts : List (List Str)) : ∀ n, (numIt ts n).length ≤ 2 * n
  | 0 => Nat.le_refl _
  | n + 1 => by
    have ih := numIt_len ts n
    unfold numIt
    split
    · rw [List.length_append]
      simp
      omega
    · omega
/-- ties of different places, none twice, either way about -/
structure TiesOk (ps : List Str) (ts : List (List Str)) : Prop where
  two : ∀ t ∈ ts, ∃ a b, t = [a, b] ∧ a ∈ ps ∧ b ∈ ps ∧ a ≠ b ∧ [b, a] ∉ ts
  nd : ts.Nodup
  np : ps.Nodup
theorem putDK_new {κ : Type} [DecidableEq κ] {kvs : List (κ × D)} {k : κ} {v : D} (h : ∀ kv ∈ kvs, kv.1 ≠ k) : putDK kvs k v = kvs ++ [(k, v)] := by
  have e : (kvs.any fun kv => decide (kv.1 = k)) = false := List.any_eq_false.mpr fun kv hm => by simpa using h kv hm
  unfold putDK
  rw [e]
  rfl
theorem numIt_key {ps : List Str} {ts : List (List Str)} (T : TiesOk ps ts) {n : Nat} {a b : Str} (e : ts[n]? = some [a, b]) {x : It3} (h : x ∈ numIt ts n) : (x.1, x.2.1) ≠ (a, b) ∧ (x.1, x.2.1) ≠ (b, a) := by
  obtain ⟨j, hj, h1, _⟩ := numIt_mem h
  have inj : ∀ {i k : Nat} {t : List Str}, ts[i]? = some t → ts[k]? = some t → i = k := fun {i k t} h1 h2 => by
    obtain ⟨b1, f1⟩ := List.getElem?_eq_some_iff.mp h1
    obtain ⟨b2, f2⟩ := List.getElem?_eq_some_iff.mp h2
    exact (List.getElem_inj T.nd).mp (f1.trans f2.symm)
  obtain ⟨a2, b2, e2, _, _, _, no⟩ := T.two _ (List.mem_of_getElem? e)
  simp only [List.cons.injEq, and_true] at e2
  obtain ⟨rfl, rfl⟩ := e2
  refine ⟨fun z => ?_, fun z => ?_⟩
  · simp only [Prod.mk.injEq] at z
    rw [z.1, z.2] at h1
    rcases h1 with h1 | h1
    · have := inj h1 e
      omega
    · exact no (List.mem_of_getElem? h1)
  · simp only [Prod.mk.injEq] at z
    rw [z.1, z.2] at h1
    rcases h1 with h1 | h1
    · exact no (List.mem_of_getElem? h1)
    · have := inj h1 e
      omega
theorem num_it {ps : List Str} {ts : List (List Str)} (T : TiesOk ps ts) : ∀ n, numD ts n = (numIt ts n).map itK
  | 0 => rfl
  | n + 1 => by
    have ih := num_it T n
    cases e : ts[n]? with
    | none =>
      unfold numD numIt
      rw [e]
      exact ih
    | some t =>
      obtain ⟨a, b, rfl, _, _, ab, _⟩ := T.two t (List.mem_of_getElem? e)
      unfold numD numIt
      rw [e]
      show putDK (putDK (numD ts n) _ _) _ _ = _
      have k0 : ∀ kv ∈ (numIt ts n).map itK, kv.1 ≠ [(.inr a : Key), .inr b] ∧ kv.1 ≠ [(.inr b : Key), .inr a] := fun kv hkv => by
        obtain ⟨x, hx, rfl⟩ := List.mem_map.mp hkv
        obtain ⟨h1, h2⟩ := numIt_key T e hx
        refine ⟨fun z => h1 ?_, fun z => h2 ?_⟩
        · simp [itK] at z
          exact Prod.ext z.1 z.2
        · simp [itK] at z
          exact Prod.ext z.1 z.2
      rw [ih, putDK_new fun kv h => (k0 kv h).1, putDK_new fun kv h => ?_, List.append_assoc, List.map_append]
      · rfl
      · rcases List.mem_append.mp h with h | h
        · exact (k0 kv h).2
        · rw [List.mem_singleton.mp h]
          simpa using fun z _ => ab z
theorem numIt_nodup {ps : List Str} {ts : List (List Str)} (T : TiesOk ps ts) : ∀ n, ((numIt ts n).map fun x => (x.1, x.2.1)).Nodup
  | 0 => List.nodup_nil
  | n + 1 => by
    have ih := numIt_nodup T n
    cases e : ts[n]? with
    | none =>
      unfold numIt
      rw [e]
      exact ih
    | some t =>
      obtain ⟨a, b, rfl, _, _, ab, _⟩ := T.two t (List.mem_of_getElem? e)
      unfold numIt
      rw [e]
      show ((numIt ts n ++ _).map _).Nodup
      rw [List.map_append]
      refine List.nodup_append.mpr ⟨ih, ?_, fun x hx y hy z => ?_⟩
      · simpa using fun z _ => ab z
      · subst z
        obtain ⟨u, hu, rfl⟩ := List.mem_map.mp hx
        obtain ⟨h1, h2⟩ := numIt_key T e hu
        simp only [List.map_cons, List.map_nil, List.mem_cons, List.not_mem_nil, or_false] at hy
        rcases hy with hy | hy
        · exact h1 hy
        · exact h2 hy
theorem numIt_in {ps : List Str} {ts : List (List Str)} (T : TiesOk ps ts) {n : Nat} {x : It3} (h : x ∈ numIt ts n) : x.1 ∈ ps ∧ x.2.1 ∈ ps := by
  obtain ⟨j, _, h1, _⟩ := numIt_mem h
  rcases h1 with h1 | h1
  · obtain ⟨a, b, e, ha, hb, _⟩ := T.two _ (List.mem_of_getElem? h1)
    simp only [List.cons.injEq, and_true] at e
    rw [e.1, e.2]
    exact ⟨ha, hb⟩
  · obtain ⟨a, b, e, ha, hb, _⟩ := T.two _ (List.mem_of_getElem? h1)
    simp only [List.cons.injEq, and_true] at e
    rw [e.1, e.2]
    exact ⟨hb, ha⟩
theorem goodN_its {its : List It3} {ps : List Str} (nd : (its.map fun x => (x.1, x.2.1)).Nodup) (sub : ∀ x ∈ its, x.2.1 ∈ ps) : GoodN (onF its) ps := by
  have pm := isort_perm (lt := flipO DLI.ltI) its
  refine ⟨fun p => ?_, fun p q hq => ?_⟩
  · unfold onF
    have h1 : ((isort (flipO DLI.ltI) its).map fun x => (x.1, x.2.1)).Nodup := (pm.map _).nodup_iff.mpr nd
    have h2 : (((isort (flipO DLI.ltI) its).filter fun x => decide (x.1 = p)).map fun x => (x.1, x.2.1)).Nodup := h1.sublist (List.filter_sublist.map _)
    rw [List.map_map]
    unfold List.Nodup at h2 ⊢
    rw [List.pairwise_map] at h2 ⊢
    refine h2.imp_of_mem fun {x y} hx hy h z => h ?_
    have ex := of_decide_eq_true (List.mem_filter.mp hx).2
    have ey := of_decide_eq_true (List.mem_filter.mp hy).2
    exact Prod.ext (ex.trans ey.symm) z
  · unfold onF at hq
    obtain ⟨x, hx, rfl⟩ := List.mem_map.mp hq
    exact sub x (pm.mem_iff.mp (List.mem_filter.mp hx).1)
theorem stk_mem {ws : List Str} {x : Pth} (h : x ∈ stk0 ws) : ∃ p ∈ ws, x = ([p], []) := by
  unfold stk0 at h
  obtain ⟨p, hp, rfl⟩ := List.mem_map.mp h
  exact ⟨p, (List.dropLast_sublist ws).subset ((isort_perm _).mem_iff.mp hp), rfl⟩
theorem good_stk {ps ws : List Str} (sub : ∀ x ∈ ws, x ∈ ps) : GoodS ps ws (stk0 ws) :=
  ⟨fun x h => by
    obtain ⟨p, hp, rfl⟩ := stk_mem h
    exact ⟨by simp, by simp, fun q hq => by rw [List.mem_singleton.mp hq]; exact sub p hp, rfl⟩, fun x h => by
    obtain ⟨p, hp, rfl⟩ := stk_mem h
    exact hp⟩
theorem wt_stk {ps ws : List Str} (h8 : ps.length ≤ 8) (hw : ws.length ≤ ps.length) : wtS ps.length (stk0 ws) ≤ 99000 := by
  rw [wt_all (k := ps.length - 1) (S := stk0 ws) fun y hy => by
    obtain ⟨p, hp, rfl⟩ := stk_mem hy
    rfl]
  have l1 : (stk0 ws).length = ws.length - 1 := by
    unfold stk0
    rw [List.length_map, (isort_perm _).length_eq, List.length_dropLast]
  rw [l1]
  have key : ∀ P, P ≤ 8 → (P - 1) * Wn (P - 1) ≤ 99000 := by decide
  exact Nat.le_trans (Nat.mul_le_mul_right _ (by omega)) (key ps.length h8)
theorem walk_ok {ps ws : List Str} {ts : List (List Str)} (T : TiesOk ps ts) (h8 : ps.length ≤ 8) (sub : ∀ x ∈ ws, x ∈ ps) (hw : ws.length ≤ ps.length) : WalkOk ps ws (numIt ts ts.length) :=
  ⟨goodN_its (numIt_nodup T _) fun x hx => (numIt_in T hx).2, good_stk sub, wt_stk h8 hw⟩
/-- a text's rows -/
def rowOf (l : Str) : Str × List Str := match Txt.split l " " with
  | [] => (("" : Str), [])
  | w :: r => (w, r)
def parseT (x : Str) : List (Str × List Str) := (padL (Txt.split x "\n")).map rowOf
theorem parse_ok {x : Str} {rows : List (Str × List Str)} (T : TextOk x rows) : parseT x = rows := by
  unfold parseT
  refine List.ext_getElem? fun i => ?_
  rw [List.getElem?_map]
  cases e : (padL (Txt.split x "\n"))[i]? with
  | none =>
    have h1 := List.getElem?_eq_none_iff.mp e
    rw [← T.rl] at h1
    rw [List.getElem?_eq_none_iff.mpr h1]
    rfl
  | some l =>
    have h1 := (List.getElem?_eq_some_iff.mp e).1
    rw [← T.rl] at h1
    have h2 : rows[i]? = some rows[i] := List.getElem?_eq_getElem h1
    have L := T.row i l _ e h2
    rw [h2]
    show some (rowOf l) = _
    unfold rowOf
    rw [L.spl]
/-- what a net keeps: all its ways, one after the other -/
def waysD (n : NetD) : D := .lst ((waysP n.1 n.2.1 (numIt n.2.2 n.2.2.length)).map pthD)
def kdW (f x : Str) : Option D := if f = ("walked" : Str) then (match netOf (parseT x) with
  | .ok n => some (waysD n)
  | .error _ => none) else none
theorem kd_walked {x : Str} {rows : List (Str × List Str)} {n : NetD} (T : TextOk x rows) (N : netOf rows = .ok n) : kdW "walked" x = some (waysD n) := by
  unfold kdW
  rw [if_pos rfl, parse_ok T, N]
end K13
namespace K13
variable [TabT] [CacT]
open DLI LamX



abbrev s_Walk_init : Stmt := clsDef (topS 15) 0
abbrev n_Walk_init : List Str := ["self", "net", "place", "other", "number", "at"]
abbrev p_Walk_init : List Str := ["self", "net"]
theorem sc_Walk_init : FnScope n_Walk_init p_Walk_init (defScope s_Walk_init) := ⟨rfl, rfl, rfl, by decide +kernel, rfl, by decide +kernel, by decide +kernel⟩

section
variable {P : Program} {w : World} {K : PySem.W.Frag} {mg : Str → Option Value} {base : Heap}
def fm_winit (K : PySem.W.Frag) (W : Addr) : FM := fun t ds R _ => ∃ p N fs ps ws its, t = .ins p W [] ∧ ds = [.ins N fs] ∧ NetF K N fs ps ws its ∧ ∀ b, R .non (walkT p W b (onDt ps (onF its)) (.dic (endL ws)) (stk0 ws))
theorem ok_walkinit {f C_Walk : Addr} {fd : FuncData} (B : Bt mg) (c_W : Cls K C_Walk) (a_onward : NoAttr K C_Walk "onward") (a_ends : NoAttr K C_Walk "ends") (a_paths : NoAttr K C_Walk "paths") (F : Fun K "__init__" "Walk.__init__" s_Walk_init f fd) : FnG P w K mg base CX0 1 f fd p_Walk_init (spM K (fm_winit K C_Walk)) := by
  refine okG F sc_Walk_init (spM_len fun t ds R Z h => by
    obtain ⟨_, _, _, _, _, _, _, rfl, _⟩ := h
    rfl) (fun cdv A outer s H vs Q E gd hr ⟨p0, wsv, G, t, ds, R, Z, ev, le, rt, ot, nd, kd, hf, hq, hz⟩ => ?_)
  have hu : (cxOf CX0 P w K mg base n_Walk_init "Walk.__init__" (defScope s_Walk_init) f cdv A outer s H E).nox.A.units + 64 < cLine := hr.units
  have hu0 : (cxOf CX0 P w K mg base n_Walk_init "Walk.__init__" (defScope s_Walk_init) f cdv A outer s H E).nox.A.units + 1 < cLine := Nat.lt_of_le_of_lt (by omega) hu
  have hu2 : (cxOf CX0 P w K mg base n_Walk_init "Walk.__init__" (defScope s_Walk_init) f cdv A outer s H E).nox.A.in1.in1.units < cLine := by
    have := hr.un
    show (A.deeper (envOfC "Walk.__init__" (defScope s_Walk_init) s.heap.objs.size f cdv)).in1.in1.units < cLine
    have e : ∀ B : Around, B.in1.in1.units ≤ B.units + 2 := fun B => by
      first | exact Nat.le_refl _ | (show B.units + 1 + 1 ≤ B.units + 2; omega)
    exact Nat.lt_of_le_of_lt (e _) (by omega)
  subst ev
  obtain ⟨p, N, fs, ps, ws, its, rfl, rfl, T, hR⟩ := hf
  have e0 : p = p0 := Option.some.inj rt
  subst e0
  refine ⟨_, PSs.nox ((pss_cons (ps_fld (pv 0) (pe_dc (own := [("place", 2)]) (g := (gName 2)) (tt := tYes) rfl sc_Walk_init.nd (pi_tup (pe_fld (pv 1) rfl)) (blkOk_by (N := n_Walk_init) (sc := defScope s_Walk_init) (by decide +kernel)) (fun _ _ _ _ _ => (pg_name (i := 2) sc_Walk_init.nd rfl (by first | exact Or.inl rfl | exact Or.inr rfl))) (fun _ _ _ _ _ => pts_nil) (fun _ _ _ _ _ => (pv 2)) (fun _ _ _ _ _ => (pe_lst pa_nil))) rfl)
      (pss_cons (ps_for PassesOwn.never rfl (pi_list (pe_callBK (DLI.cr_sortIt hu2) rfl B.b_sorted bt_sorted (pa_cons (DLI.pe_listItemsT rfl (pe_fld (pv 1) rfl) rfl B.b_list bt_list) pa_nil) (pk_cons pe_bl pk_nil))) (pg_tup rfl (pgs_cons (pg_tup rfl (pgs_cons (pg_name (i := 2) sc_Walk_init.nd rfl (by first | exact Or.inl rfl | exact Or.inr rfl)) (pgs_cons (pg_name (i := 3) sc_Walk_init.nd rfl (by first | exact Or.inl rfl | exact Or.inr rfl)) pgs_nil))) (pgs_cons (pg_name (i := 4) sc_Walk_init.nd rfl (by first | exact Or.inl rfl | exact Or.inr rfl)) pgs_nil)))
      (pss_one (ps_expr (pe_bm PySem.F.plainAttrs_list PySem.F.slot_list_append PySem.F.type_list_append mt_append (pe_dget hu0 (pe_fld (pv 0) rfl) (pv 2) (fun _ _ => rfl)) (pa_cons (pe_tup (pa_cons (pv 3) (pa_cons (pv 4) pa_nil))) pa_nil)))))
      (pss_cons (ps_fld (pv 0) (pe_dc (own := [("at", 5), ("place", 2)]) (g := (gTup K 2 (gCons (gName 5) (gCons (gName 2) gNil)))) (tt := tYes) rfl sc_Walk_init.nd (pi_enumTS rfl B.b_enumerate (pa_cons (pe_fld (pv 1) rfl) pa_nil) (pk_cons pe_int pk_nil)) (blkOk_by (N := n_Walk_init) (sc := defScope s_Walk_init) (by decide +kernel)) (fun _ _ _ _ _ => (pg_tup rfl (pgs_cons (pg_name (i := 5) sc_Walk_init.nd rfl (by first | exact Or.inl rfl | exact Or.inr rfl)) (pgs_cons (pg_name (i := 2) sc_Walk_init.nd rfl (by first | exact Or.inl rfl | exact Or.inr rfl)) pgs_nil)))) (fun _ _ _ _ _ => pts_nil) (fun _ _ _ _ _ => (pv 2)) (fun _ _ _ _ _ => (pe_slice (kCut (K := K) rfl) (pe_fldK (K := K) rfl (pv 1) rfl) (po_some (pv 5)) po_none))) rfl)
      (pss_one (ps_fld (pv 0) (pe_lc (own := [("place", 2)]) (g := (gName 2)) (tt := tYes) rfl sc_Walk_init.nd (pi_list (pe_callBK (DLI.cr_sortSR (b := true)) rfl B.b_sorted bt_sorted (pa_cons (pe_slice sl_cut (pe_fld (pv 1) rfl) po_none (po_some (pe_un un_neg pe_int))) pa_nil) (pk_cons pe_bl pk_nil))) (blkOk_by (N := n_Walk_init) (sc := defScope s_Walk_init) (by decide +kernel)) (fun _ _ _ _ _ => (pg_name (i := 2) sc_Walk_init.nd rfl (by first | exact Or.inl rfl | exact Or.inr rfl))) (fun _ _ _ _ _ => pts_nil) (fun _ _ _ _ _ => (pe_tup (pa_cons (pe_tup (pa_cons (pv 2) pa_nil)) (pa_cons (pe_tup pa_nil) pa_nil))))) rfl)))))), fin_M le rt ot nd kd hq ?_⟩
  -- self.onward = {place: [] for place in net.places}
  refine xs_seq (xs_fldN (et_dc (is := [2]) (fun _ i acc ρ' => ρ' = [.tre (.ins p C_Walk []), .dat (.ins N fs), .un, .un, .un, .un] ∧ ∃ ls, ls.length = i ∧ acc = accL (fun _ => []) (ps.take i) ls) (by simp) (ei_tup (ev_fld (ev_var rfl ⟨N, fs, _, rfl, T.cls, T.aP, T.fP, _, rfl, ?_⟩)))))
  refine ⟨by rw [txs_len]; have := T.lP; omega, ⟨rfl, [], rfl, rfl⟩, fun i d acc ρ' hd hI => ?_, fun acc ρ' q hl hI nd1 => ?_⟩
  · obtain ⟨e, ls, hl, rfl⟩ := hI
    rw [e]
    obtain ⟨x, hx, rfl⟩ := txs_get hd
    refine eg_name (et_yes ⟨fun _ => ev_var rfl (et_newL (en_lst (ea_nil ⟨Nat.le_of_ble_eq_true rfl, fun b => ⟨.inr x, rfl, fun kv hkv => ?_, rfl, ls ++ [b], ?_, ?_⟩⟩))), fun h => nomatch h⟩)
    · obtain ⟨q, hq, e2⟩ := acc_keys hkv
      rw [e2]
      intro z
      cases z
      exact nodup_take T.nP hx hq
    · rw [List.length_append, hl]
      rfl
    · have il := (List.getElem?_eq_some_iff.mp hx).1
      rw [List.take_succ, hx]
      exact (acc_snoc (by rw [hl, List.length_take]; omega)).symm
  obtain ⟨e, ls, hl2, rfl⟩ := hI
  rw [e]
  rw [txs_len] at hl2
  rw [txs_len, List.take_length] at nd1 ⊢
  rw [OT.fp, acc_fp hl2] at nd1
  obtain ⟨nq, nl⟩ := List.nodup_cons.mp nd1
  refine ⟨p, C_Walk, [], rfl, c_W, a_onward, Nat.le_of_ble_eq_true rfl, ?_⟩
  -- for (place, other), number in sorted(list(net.numbers.items()), reverse=True)
  refine xs_seq (xs_for (is := [2, 3, 4]) (fun _ i ρ => ∃ y2 y3 y4, ρ = [.tre (.ins p C_Walk [("onward", .dk q (accL (fun a => ((((isort (flipO ltI) its).take i).filter fun x => decide (x.1 = a)).map fun x => nbD x.2)) ps ls))]), .dat (.ins N fs), y2, y3, y4, .un]) (ei_list (ev_sortIt (ea_cons (ev_listItems (ev_fld (ev_var rfl ⟨N, fs, _, rfl, T.cls, T.aN, T.fN, _, rfl, ea_nil ?_⟩)))))))
  refine ea_cons (ev_bl (ea_nil ⟨its, by rw [items_it], rfl, _, rfl, ⟨_, _, _, rfl⟩, fun i d ρ hd hI => ?_, fun ρ hI => ?_⟩))
  · obtain ⟨y2, y3, y4, rfl⟩ := hI
    rw [List.getElem?_map] at hd
    obtain ⟨x, hx, rfl⟩ := Option.map_eq_some_iff.mp hd
    obtain ⟨a, b, n⟩ := x
    have hxi : (a, b, n) ∈ its := (isort_perm its).mem_iff.mp (List.mem_of_getElem? hx)
    have ha : a ∈ ps := T.sub _ hxi
    refine eg_tup rfl (egs_cons (is := [2, 3]) (js := [4]) (eg_tup rfl (egs_cons (is := [2]) (js := [3]) (eg_name (egs_cons (is := [3]) (js := []) (eg_name (egs_nil ?_)))))))
    refine egs_cons (is := [4]) (js := []) (eg_name (egs_nil ?_))
    obtain ⟨l, h1, h2, h3⟩ := acc_at (f := fun a => ((((isort (flipO ltI) its).take i).filter fun x => decide (x.1 = a)).map fun x => nbD x.2)) hl2 nl T.nP ha
    refine xs_drop (ev_appT ?_)
    refine ep_item (i := 0) rfl c_W a_onward rfl ?_
    refine ev_var rfl ?_
    refine ⟨p, C_Walk, _, _, .inr a, _, l, rfl, rfl, rfl, h1, rfl, ?_, ?_⟩
    · exact ⟨_, 0, _, rfl, has_first h2⟩
    refine ev_tup (ea_cons (ev_var rfl (ea_cons (ev_var rfl (ea_nil ⟨Nat.le_of_ble_eq_true rfl, 0, _, _, rfl, has_first h2, ?_, .dat (.str a), .dat (.str b), .dat (.int n), ?_⟩)))))
    · rw [List.length_map]
      refine Nat.lt_of_le_of_lt (List.length_filter_le _ _) ?_
      rw [List.length_take]
      have := (isort_perm (lt := flipO ltI) its).length_eq
      have := T.lI
      omega
    · show [Slot.tre (.ins p C_Walk [("onward", .dk q (OT.setLK l _ _))]), _, _, _, _, _] = _
      rw [h3]
      have e5 := acc_same (ls := ls) (ps := ps) (f := fun r => if r = a then ((((isort (flipO ltI) its).take i).filter fun x => decide (x.1 = a)).map fun x => nbD x.2) ++ [nbD (b, n)] else ((((isort (flipO ltI) its).take i).filter fun x => decide (x.1 = r)).map fun x => nbD x.2)) (g := fun r => ((((isort (flipO ltI) its).take (i + 1)).filter fun x => decide (x.1 = r)).map fun x => nbD x.2)) fun r hr => by
        rw [List.take_succ, hx]
        show _ = ((((isort (flipO ltI) its).take i ++ [(a, b, n)]).filter _).map _)
        rw [List.filter_append, List.map_append]
        by_cases e : r = a
        · rw [if_pos e, e, List.filter_cons_of_pos (by simp)]
          rfl
        · rw [if_neg e, List.filter_cons_of_neg (by simpa using fun z => e z.symm)]
          simp
      rw [← e5]
      rfl
  obtain ⟨y2, y3, y4, rfl⟩ := hI
  rw [List.length_map, List.take_length]
  -- what was made is not changed any more
  refine xs_frzF (i := 0) (sub := .dk q _) "onward" rfl rfl ?_
  have eon : OT.toD (.dk q (accL (fun a => (((isort (flipO ltI) its).filter fun x => decide (x.1 = a)).map fun x => nbD x.2)) ps ls)) = onDt ps (onF its) := by
    rw [OT.toD, acc_toD hl2]
    unfold onDt onF
    congr 1
    refine List.map_congr_left fun r _ => ?_
    rw [List.map_map]
    rfl
  rw [eon, put_on]
  -- self.ends = {place: net.watchers[at:] for at, place in enumerate(net.watchers, start=1)}
  refine xs_seq (xs_fldT (EvTr.ev (et_dc (is := [5, 2]) (fun _ i acc ρ' => ρ' = [.tre (.ins p C_Walk [("onward", .dat (onDt ps (onF its)))]), .dat (.ins N fs), .un, y3, y4, .un] ∧ acc = datK ((endL ws).take i)) (by simp) (ei_enumTS (ea_cons (ev_fld (ev_var rfl ⟨N, fs, _, rfl, T.cls, T.aW, T.fW, ea_nil ?_⟩)))))))
  refine ea_cons (ev_int (ea_nil ⟨_, _, rfl, rfl, by decide, by decide, ?_⟩))
  refine ⟨by rw [pairsZ_len, txs_len]; have := T.lW; omega, ⟨rfl, rfl⟩, fun i d acc ρ' hd hI => ?_, fun acc ρ' q2 hl3 hI => ?_⟩
  · obtain ⟨e, rfl⟩ := hI
    rw [e]
    obtain ⟨d', hd', rfl⟩ := pairsZ_get hd
    obtain ⟨x, hx, rfl⟩ := txs_get hd'
    refine eg_tup rfl (egs_cons (is := [5]) (js := [2]) (eg_name (egs_cons (is := [2]) (js := []) (eg_name (egs_nil ?_)))))
    refine et_yes ⟨fun _ => ev_var rfl (Ev.tr (ev_cut (ev_fld (ev_var rfl ⟨N, fs, _, rfl, T.cls, T.aW, T.fW, ?_⟩)))), fun h => nomatch h⟩
    refine eo_some (ev_var rfl ⟨_, rfl, eo_none (.inr (.inl ⟨_, rfl, .inr x, rfl, fun kv hkv => ?_, rfl, ?_⟩))⟩)
    · obtain ⟨w2, hw2, e2⟩ := end_keys hkv
      rw [e2]
      intro z
      cases z
      exact nodup_take T.nW hx hw2
    · rw [List.take_succ, end_get hx]
      show _ = datK (_ ++ [_])
      rw [dat_snoc, ← txs_drop, ← cut_fr]
      have e3 : (1 : Int) + ((0 + i : Nat) : Int) = ((i + 1 : Nat) : Int) := by omega
      rw [e3]
  obtain ⟨e, rfl⟩ := hI
  rw [e]
  have e4 : (endL ws).take (pairsZ 1 0 (txs ws)).length = endL ws := List.take_of_length_le (by rw [pairsZ_len, txs_len, end_len]; exact Nat.le_refl _)
  rw [e4, OT.toD, dat_toD]
  refine ⟨p, C_Walk, _, rfl, c_W, a_ends, Nat.le_of_ble_eq_true rfl, ?_⟩
  rw [put_en]
  -- self.paths = [((place,), ()) for place in sorted(net.watchers[:-1], reverse=True)]
  refine xs_fldN (et_newL (en_lc (is := [2]) (fun _ i acc ρ' => ρ' = [.tre (.ins p C_Walk [("onward", .dat (onDt ps (onF its))), ("ends", .dat (.dic (endL ws)))]), .dat (.ins N fs), .un, y3, y4, .un] ∧ acc = ((isort (flipO ltS) ws.dropLast).take i).map fun p => pthD ([p], [])) (by simp) (ei_list (ev_sortSR (ea_cons (ev_cut (ev_fld (ev_var rfl ⟨N, fs, _, rfl, T.cls, T.aW, T.fW, ?_⟩))))))))
  refine eo_none (eo_some ?_)
  repeat walk_at "ar"
  refine ⟨_, rfl, .inr (.inl ⟨_, rfl, ea_nil ?_⟩)⟩
  refine ea_cons (ev_bl (ea_nil ⟨ws.dropLast, .inr ?_, rfl, _, rfl, ?_, ⟨rfl, rfl⟩, fun i d acc ρ' hd hI => ?_, fun acc ρ' hl3 hI b nd2 => ?_⟩))
  · rw [cut_but, txs_but]
    rfl
  · have h1 := (isort_perm (lt := flipO ltS) ws.dropLast).length_eq
    have h2 := T.lW
    have h3 := List.length_dropLast (xs := ws)
    rw [List.length_map]
    show (isort (flipO ltS) ws.dropLast).length ≤ 100000
    omega
  · obtain ⟨e, rfl⟩ := hI
    rw [e]
    obtain ⟨x, hx, rfl⟩ := txs_get hd
    have hx : (isort (flipO ltS) ws.dropLast)[i]? = some x := hx
    refine eg_name (et_yes ⟨fun _ => ?_, fun h => nomatch h⟩)
    refine ev_tup (ea_cons (ev_tup (ea_cons (ev_var rfl (ea_nil ⟨Nat.le_of_ble_eq_true rfl, ?_⟩)))))
    refine ea_cons (ev_tup (ea_nil ⟨Nat.le_of_ble_eq_true rfl, ea_nil ⟨Nat.le_of_ble_eq_true rfl, rfl, ?_⟩⟩))
    rw [List.take_succ, hx]
    show _ = (_ ++ [x]).map _
    rw [List.map_append]
    rfl
  obtain ⟨e, rfl⟩ := hI
  rw [e]
  refine ⟨p, C_Walk, _, rfl, c_W, a_paths, Nat.le_of_ble_eq_true rfl, _, rfl, rfl, ?_⟩
  rw [put_pa]
  have e5 : ((isort (flipO ltS) ws.dropLast).take ((isort (flipO ltS) ws.dropLast).map D.str).length).map (fun p => pthD ([p], [])) = (stk0 ws).map pthD := by
    rw [List.length_map, List.take_length]
    unfold stk0
    rw [List.map_map]
    rfl
  have hb := hR b
  rw [show walkT p C_Walk b (onDt ps (onF its)) (.dic (endL ws)) (stk0 ws) = .ins p C_Walk [("onward", .dat (onDt ps (onF its))), ("ends", .dat (.dic (endL ws))), ("paths", .lst b ((stk0 ws).map pthD))] from rfl, ← e5] at hb
  exact hb
end
end K13
namespace K13
variable [TabT] [CacT]
open DLI LamX


abbrev s_Walk_step : Stmt := clsDef (topS 15) 1
abbrev n_Walk_step : List Str := ["self", "path", "row", "place", "number"]
abbrev p_Walk_step : List Str := ["self"]
theorem sc_Walk_step : FnScope n_Walk_step p_Walk_step (defScope s_Walk_step) := ⟨rfl, rfl, rfl, by decide +kernel, rfl, by decide +kernel, by decide +kernel⟩

section
variable {P : Program} {w : World} {K : PySem.W.Frag} {mg : Str → Option Value} {base : Heap}
abbrev oS (ps ws : List Str) (on : Str → List (Str × Int)) (S : List Pth) : List Pth := outS on (isE ws) ps.length S
abbrev wlk (p W b : Addr) (ps ws : List Str) (on : Str → List (Str × Int)) (S : List Pth) : OT := walkT p W b (onDt ps on) (.dic (endL ws)) S
def fm_step (W : Addr) : FM := fun t ds R _ => ∃ p b ps ws on S, t = wlk p W b ps ws on S ∧ ds = [] ∧ GoodN on ps ∧ GoodS ps ws S ∧ wtS ps.length S ≤ 99000 ∧ ps.length ≤ 1000 ∧
  (∀ y S', oS ps ws on S = y :: oS ps ws on S' → GoodS ps ws S' → wtS ps.length S' < wtS ps.length S → R (pthD y) (wlk p W b ps ws on S')) ∧ (oS ps ws on S = [] → R .non (wlk p W b ps ws on []))
theorem ok_walkstep {f C_Walk : Addr} {fd : FuncData} (B : Bt mg) (c_W : Cls K C_Walk) (a_onward : NoAttr K C_Walk "onward") (a_ends : NoAttr K C_Walk "ends") (a_paths : NoAttr K C_Walk "paths") (F : Fun K "step" "Walk.step" s_Walk_step f fd) : FnG P w K mg base CX0 1 f fd p_Walk_step (spM K (fm_step C_Walk)) := by
  refine okG F sc_Walk_step (spM_len fun t ds R Z h => by
    obtain ⟨_, _, _, _, _, _, _, rfl, _⟩ := h
    rfl) (fun cdv A outer s H vs Q E gd hr ⟨p0, wsv, G, t, ds, R, Z, ev, le, rt, ot, nd, kd, hf, hq, hz⟩ => ?_)
  have hu : (cxOf CX0 P w K mg base n_Walk_step "Walk.step" (defScope s_Walk_step) f cdv A outer s H E).nox.A.units + 64 < cLine := hr.units
  have hu0 : (cxOf CX0 P w K mg base n_Walk_step "Walk.step" (defScope s_Walk_step) f cdv A outer s H E).nox.A.units + 1 < cLine := Nat.lt_of_le_of_lt (by omega) hu
  have hu1 : (cxOf CX0 P w K mg base n_Walk_step "Walk.step" (defScope s_Walk_step) f cdv A outer s H E).nox.A.units + 65 < cLine := by
    have := hr.un
    show (A.deeper (envOfC "Walk.step" (defScope s_Walk_step) s.heap.objs.size f cdv)).units + 65 < cLine
    omega
  subst ev
  obtain ⟨p, b, ps, ws, on, S, rfl, rfl, N, gS, hw, hp, hy, hn⟩ := hf
  have e0 : p = p0 := Option.some.inj rt
  subst e0
  refine ⟨_, PSs.nox ((pss_cons (ps_while PassesOwn.never (pt_cmpR op_gt (pe_callB ((CallR.or call_len_seq call_len_str)) rfl B.b_len bt_len (pa_cons (pe_fld (pv 0) rfl) pa_nil)) pe_int (nomark _))
      (pss_cons (ps_asg (pe_bm0 PySem.F.plainAttrs_list PySem.F.slot_list_pop PySem.F.type_list_pop mt_pop (pe_fld (pv 0) rfl)) (pg_tup rfl (pgs_cons (pg_name (i := 1) sc_Walk_step.nd rfl (by first | exact Or.inl rfl | exact Or.inr rfl)) (pgs_cons (pg_name (i := 2) sc_Walk_step.nd rfl (by first | exact Or.inl rfl | exact Or.inr rfl)) pgs_nil))))
      (pss_cons (ps_for PassesOwn.never rfl (pi_list (pe_dget hu0 (pe_fld (pv 0) rfl) (pe_ix ix_seq (pv 1) (pe_un un_neg pe_int) (fun _ _ => rfl)) (fun _ _ => rfl))) (pg_tup rfl (pgs_cons (pg_name (i := 3) sc_Walk_step.nd rfl (by first | exact Or.inl rfl | exact Or.inr rfl)) (pgs_cons (pg_name (i := 4) sc_Walk_step.nd rfl (by first | exact Or.inl rfl | exact Or.inr rfl)) pgs_nil)))
      (pss_one (ps_if (pt_cmpR (op_notInA hu1) (pv 3) (pv 1) rfl)
      (pss_one (ps_expr (pe_bm PySem.F.plainAttrs_list PySem.F.slot_list_append PySem.F.type_list_append mt_append (pe_fld (pv 0) rfl) (pa_cons (pe_tup (pa_cons (pe_tup (StX.pa_star (pv 1) (pa_cons (pv 3) pa_nil))) (pa_cons (pe_tup (StX.pa_star (pv 2) (pa_cons (pv 4) pa_nil))) pa_nil))) pa_nil))))
      pss_nil)))
      (pss_one (ps_if (pt_cmpR (op_inA hu1) (pe_ix ix_seq (pv 1) (pe_un un_neg pe_int) (fun _ _ => rfl)) (pe_dget hu0 (pe_fld (pv 0) rfl) (pe_ix ix_seq (pv 1) pe_int (fun _ _ => rfl)) (fun _ _ => rfl)) rfl)
      (pss_one (ps_ret (pe_tup (pa_cons (pv 1) (pa_cons (pv 2) pa_nil)))))
      pss_nil)))))
      (pss_one (ps_ret pe_non)))), fin_M le rt ot nd kd hq ?_⟩
  refine xs_seq (xs_while (fun m ρ => ∃ S1 x1 x2 x3 x4, ρ = [.tre (wlk p C_Walk b ps ws on S1), x1, x2, x3, x4] ∧ m = wtS ps.length S1 ∧ oS ps ws on S = oS ps ws on S1 ∧ GoodS ps ws S1 ∧ wtS ps.length S1 ≤ wtS ps.length S) (m0 := wtS ps.length S) ⟨S, _, _, _, _, rfl, rfl, rfl, gS, Nat.le_refl _⟩ fun m ρ hI => ?_)
  obtain ⟨S1, x1, x2, x3, x4, rfl, rfl, e1, g1, w1⟩ := hI
  refine et_B (ev_op (ev_lenT (fun b vs H Q h q => .inl ⟨_, _, rfl, .inl (.inl (.inl h)), q⟩) (ep_fld rfl c_W a_paths rfl rfl ⟨_, ⟨0, _, rfl, walk_has rfl⟩, ev_int (rd_B0 ⟨_, rfl, fun h => ?_, fun h => ?_⟩)⟩)))
  · have h : ((S1.map pthD).length : Int) > 0 := of_decide_eq_true h
    rw [List.length_map] at h
    obtain ⟨S2, x, rfl⟩ := SrtO.snoc_of (l := S1) (by omega)
    have gx : GoodP ps x := g1.good x (by simp)
    have hx : headS x.1 ∈ ws := g1.head x (by simp)
    have gl := good_len gx
    refine xs_seq (xs_asg (is := [1, 2]) (ev_popT (ep_fld rfl c_W a_paths rfl rfl ⟨0, _, S2.map pthD, pthD x, rfl, walk_has (by rw [List.map_append]; rfl), ?_⟩)))
    rw [walk_set rfl]
    refine eg_tup rfl (egs_cons (is := [1]) (js := [2]) (eg_name (egs_cons (is := [2]) (js := []) (eg_name (egs_nil ?_)))))
    have hon : valD (ps.map fun p => (.inr p, .lst ((on p).map nbD))) (lastS x.1) = some (.lst ((on (lastS x.1)).map nbD)) := val_on (gx.sub _ (lastS_mem gx.ne))
    let part : Nat → List Pth := fun i => (((on (lastS x.1)).take i).filter fun q => !decide (q.1 ∈ x.1)).map fun q => (x.1 ++ [q.1], x.2 ++ [q.2])
    have pfull : part (on (lastS x.1)).length = kids on x := by
      show (((on (lastS x.1)).take _).filter _).map _ = _
      rw [List.take_length]
      rfl
    have psub : ∀ i, (part i).length ≤ (kids on x).length := fun i => by
      show ((((on (lastS x.1)).take i).filter _).map _).length ≤ (((on (lastS x.1)).filter _).map _).length
      rw [List.length_map, List.length_map]
      exact ((List.take_sublist i _).filter _).length_le
    have wt2 := wt_step N (S := S2) gx
    have wl := wt_len (P := ps.length) (S2 ++ kids on x)
    rw [List.length_append] at wl
    refine xs_seq (xs_for (is := [3, 4]) (fun _ i ρ => ∃ y3 y4, ρ = [.tre (wlk p C_Walk b ps ws on (S2 ++ part i)), .dat (.tup (txs x.1)), .dat (.tup (x.2.map .int)), y3, y4]) (ei_list (ev_dget (ev_fldT rfl c_W a_onward rfl (ev_op (ev_var rfl (ev_un (ev_int (ru_neg (ix_lastT (txs_last gx.ne) ⟨_, _, _, rfl, rfl, hon, _, rfl, ⟨x3, x4, ?_⟩, fun i d ρ hd hI => ?_, fun ρ hI => ?_⟩))))))))))
    · have p0 : part 0 = [] := rfl
      rw [p0, List.append_nil]
      rfl
    · obtain ⟨y3, y4, rfl⟩ := hI
      rw [List.getElem?_map] at hd
      obtain ⟨q, hq, rfl⟩ := Option.map_eq_some_iff.mp hd
      have pnext : part (i + 1) = part i ++ if q.1 ∈ x.1 then [] else [(x.1 ++ [q.1], x.2 ++ [q.2])] := by
        show (((on (lastS x.1)).take (i + 1)).filter _).map _ = _
        rw [List.take_succ, hq]
        show (((on (lastS x.1)).take i ++ [q]).filter _).map _ = _
        rw [List.filter_append, List.map_append]
        congr 1
        by_cases e : q.1 ∈ x.1
        · rw [if_pos e, List.filter_cons_of_neg (by simpa using e)]
          rfl
        · rw [if_neg e, List.filter_cons_of_pos (by simpa using e)]
          rfl
      refine eg_tup rfl (egs_cons (is := [3]) (js := [4]) (eg_name (egs_cons (is := [4]) (js := []) (eg_name (egs_nil ?_)))))
      refine xs_if (et_B (ev_op (ev_var rfl (ev_var rfl (notIn_txsT rfl ⟨_, rfl, fun hb => ?_, fun hb => ?_⟩)))))
      · have hb : q.1 ∉ x.1 := by simpa using hb
        rw [if_neg hb] at pnext
        have pl := psub (i + 1)
        rw [pnext, List.length_append, List.length_singleton] at pl
        have gq := good_len gx
        have gr := gx.len
        refine xs_drop (ev_appT (ep_fld rfl c_W a_paths rfl rfl ⟨⟨_, 0, _, rfl, walk_has rfl⟩, ?_⟩))
        refine ev_tup (ea_cons (ev_tup (ea_star (ev_var rfl ⟨_, .inl rfl, ?_⟩))))
        refine ea_cons (ev_var rfl (ea_nil ⟨?_, ?_⟩))
        · rw [List.length_append, txs_len]
          show _ + 1 ≤ _
          omega
        refine ea_cons (ev_tup (ea_star (ev_var rfl ⟨_, .inl rfl, ?_⟩)))
        refine ea_cons (ev_var rfl (ea_nil ⟨?_, ?_⟩))
        · rw [List.length_append, List.length_map]
          show _ + 1 ≤ _
          omega
        refine ea_nil ⟨Nat.le_of_ble_eq_true rfl, 0, _, (S2 ++ part i).map pthD, rfl, walk_has rfl, ?_, ?_⟩
        · rw [List.length_map, List.length_append]
          omega
        refine ⟨.dat (.str q.1), .dat (.int q.2), ?_⟩
        rw [pnext, walk_set (T := S2 ++ (part i ++ [(x.1 ++ [q.1], x.2 ++ [q.2])])) (by
          rw [← List.append_assoc, List.map_append, List.map_append]
          simp [pthD, txs])]
        rfl
      · have hb : q.1 ∈ x.1 := by simpa using hb
        rw [if_pos hb, List.append_nil] at pnext
        refine xs_next ⟨.dat (.str q.1), .dat (.int q.2), ?_⟩
        rw [pnext]
        rfl
    · obtain ⟨y3, y4, rfl⟩ := hI
      rw [List.length_map, pfull]
      have out1 := out_step (e := isE ws) N (S := S2) gx
      have gk : GoodS ps ws (S2 ++ kids on x) := g1.left.app (kids_goodS N gx hx)
      refine xs_if (et_B (ev_op (ev_op (ev_var rfl (ev_un (ev_int (ru_neg (ix_lastT (txs_last gx.ne) ?_))))))))
      refine ev_dget (ev_fldT rfl c_W a_ends rfl (ev_op (ev_var rfl (ev_int (ix_tupl ⟨0, rfl, txs_head gx.ne⟩ ⟨_, _, _, rfl, rfl, val_end hx, ?_⟩)))))
      refine in_txsT rfl ⟨_, rfl, fun hb => ?_, fun hb => ?_⟩
      · refine xs_ret (ev_tup ?_)
        refine ea_cons (ev_var rfl (ea_cons (ev_var rfl (ea_nil ⟨Nat.le_of_ble_eq_true rfl, _, rfl, rfl, ?_⟩))))
        refine hy x (S2 ++ kids on x) ?_ gk (Nat.lt_of_lt_of_le wt2 w1)
        rw [e1, oS, out1]
        have : emit (isE ws) x = [x] := by
          unfold emit isE
          rw [if_pos hb]
        rw [this]
        rfl
      · refine xs_next ⟨_, wt2, _, _, _, _, _, rfl, rfl, ?_, gk, Nat.le_trans (Nat.le_of_lt wt2) w1⟩
        rw [e1, oS, out1]
        have : emit (isE ws) x = [] := by
          unfold emit isE
          rw [if_neg (by rw [hb]; simp)]
        rw [this]
        rfl
  · have h : ¬ ((S1.map pthD).length : Int) > 0 := of_decide_eq_false h
    rw [List.length_map] at h
    have e2 : S1 = [] := List.eq_nil_of_length_eq_zero (by omega)
    subst e2
    exact xs_ret (ev_non ⟨_, rfl, rfl, hn (by rw [e1]; rfl)⟩)
end



abbrev s_walked : Stmt := topS 16
abbrev n_walked : List Str := ["net", "walk", "found", "step"]
abbrev p_walked : List Str := ["net"]
theorem sc_walked : FnScope n_walked p_walked (defScope s_walked) := ⟨rfl, rfl, rfl, by decide +kernel, rfl, by decide +kernel, by decide +kernel⟩

section
variable {P : Program} {w : World} {K : PySem.W.Frag} {mg : Str → Option Value} {base : Heap}
/-- a net's fields, as they are looked at by its ways -/
structure NetW (K : PySem.W.Frag) (kd : Str → Str → Option D) (N : Addr) (fs : List (Str × D)) (ps ws : List Str) (its : List It3) (x : Str) : Prop where
  T : NetF K N fs ps ws its
  ok : WalkOk ps ws its
  aK : NoAttr K N "walked"
  fK : fs.lookup ("walked" : Str) = some .non
  fT : fs.lookup ("text" : Str) = some (.str x)
  len : fs.length < 1000
  kept : kd "walked" x = some (.lst ((waysP ps ws its).map pthD))
def fs_walked (K : PySem.W.Frag) (kd : Str → Str → Option D) (N : Addr) : FS := fun ds R _ => ∃ fs ps ws its x, ds = [.ins N fs] ∧ NetW K kd N fs ps ws its x ∧ R (.lst ((waysP ps ws its).map pthD))
theorem ok_walked {f C_Walk C_Net fI fS : Addr} {fd fdI fdS : FuncData} {kd : Str → Str → Option D} (hcl : CacT.cls C_Net) (hc : ∀ G fs fs', CacT.ok G C_Net fs fs' → Keeps K kd G fs fs') (hc' : ∀ G fs fs', Keeps K kd G fs fs' → CacT.ok G C_Net fs fs')
    (B : Bt mg) (c_Walk : Cls K C_Walk) (m_Walk : mg "Walk" = some (.ref C_Walk)) (M_Walk : Mk K C_Walk fI) (F_Walk_init : FnG P w K mg base CX0 1 fI fdI p_Walk_init (spM K (fm_winit K C_Walk))) (b_Walk_init : Binds K fdI p_Walk_init [])
    (mt_Walk_step : Meth K C_Walk "step" fS) (F_Walk_step : FnG P w K mg base CX0 1 fS fdS p_Walk_step (spM K (fm_step C_Walk))) (b_Walk_step : Binds K fdS p_Walk_step []) (F : Fun K "walked" "walked" s_walked f fd) : FnG P w K mg base CX0 3 f fd p_walked (spD K (fs_walked K kd C_Net)) := by
  refine okG F sc_walked (spD_len fun ds R Z h => by
    obtain ⟨_, _, _, _, _, rfl, _⟩ := h
    rfl) (fun cdv A outer s H vs Q E gd hr ⟨G, ds, R, Z, le, kk, hf, hq, hz⟩ => ?_)
  have hu : (cxOf CX0 P w K mg base n_walked "walked" (defScope s_walked) f cdv A outer s H E).nox.A.units + 64 < cLine := hr.units
  obtain ⟨fs, ps, ws, its, x, rfl, W, hR⟩ := hf
  refine ⟨_, PSs.nox ((pss_cons (ps_if (pt_cmpR op_isN (pe_fld (pv 0) rfl) pe_non (nomark _))
      (pss_cons (ps_par (i := 1) (j := 2) rfl sc_walked.nd rfl rfl (by decide) rfl rfl (pa_cons (pe_makeG gd M_Walk F_Walk_init (hr.mono (by first | decide | omega)) b_Walk_init pass0 rfl m_Walk (pa_cons (pv 0) pa_nil)) (pa_cons (pe_lst pa_nil) pa_nil)) rfl)
      (pss_cons (ps_whileW PassesOwn.never (ptw_cmp op_notN (pew_named (i := 3) sc_walked.nd rfl (by first | exact Or.inl rfl | exact Or.inr rfl) (pew_of (pe_methG0 gd c_Walk mt_Walk_step F_Walk_step (hr.mono (by first | decide | omega)) b_Walk_step pass0 (pv 1)))) pe_non rfl)
      (pss_one (ps_expr (pe_bm PySem.F.plainAttrs_list PySem.F.slot_list_append PySem.F.type_list_append mt_append (pv 2) (pa_cons (pv 3) pa_nil)))) pss_nil)
      (pss_one (ps_fld (pv 0) (pv 2) rfl))))
      pss_nil)
      (pss_one (ps_ret (pe_fld (pv 0) rfl))))), fin_D le kk hq ?_⟩
  refine xs_cache hcl hc hc' (f := "walked") (x := x) (by decide) (i := 0) (j := 2) rfl W.T.cls W.aK W.len W.fK W.fT (fun d hk G v iv => ?_) (fun d ρ' hk => ?_) ?_
  · rw [W.kept] at hk
    cases hk
    cases iv
    exact fun z => nomatch z
  · rw [W.kept] at hk
    cases hk
    exact hR
  refine xs_seq (xs_parTN (by decide) (et_make (Z := fun _ _ => False) Flies.none (ea_cons (ev_var rfl (ea_nil fun p => ⟨p, C_Net, fs, ps, ws, its, rfl, rfl, W.T, fun b => ⟨rfl, en_lst (ea_nil ⟨Nat.le_of_ble_eq_true rfl, ?_⟩)⟩⟩)))))
  refine xs_whileW (fun m ρ => ∃ S acc s3, ρ = [.dat (.ins C_Net fs), .tre (wlk p C_Walk b ps ws (onF its) S), .own (acc.map pthD), s3] ∧ m = wtS ps.length S ∧ acc ++ oS ps ws (onF its) S = waysP ps ws its ∧ GoodS ps ws S ∧ wtS ps.length S ≤ 99000) (m0 := wtS ps.length (stk0 ws)) ⟨stk0 ws, [], _, rfl, rfl, rfl, W.ok.st, W.ok.wt⟩ fun m ρ hI => ?_
  obtain ⟨S, acc, s3, rfl, rfl, e1, gS, hw⟩ := hI
  have ol := out_len (e := isE ws) W.ok.on gS.good
  refine ev_methT (Z := fun _ _ => False) (i := 1) Flies.none rfl rfl (ea_nil ⟨_, rfl, rfl, p, b, ps, ws, onF its, S, rfl, rfl, W.ok.on, gS, hw, W.T.lP, fun y S' e2 g2 w2 => ⟨fun a ha => ha, ?_⟩, fun e2 => ⟨fun a ha => ha, ?_⟩⟩)
  · refine ev_non (rd_notN (b := false) (fun G v iv => ?_) ⟨_, rfl, fun _ => ?_, fun h => nomatch h⟩)
    · cases iv
      rfl
    · refine xs_drop (ev_append rfl ⟨_, rfl⟩ (ev_var rfl ⟨acc.map pthD, rfl, ?_, ?_⟩))
      · have h1 := out_len (e := isE ws) W.ok.on W.ok.st.good
        have h2 := W.ok.wt
        have h3 : (acc ++ oS ps ws (onF its) S).length ≤ 99000 := by
          rw [e1]
          exact Nat.le_trans h1 h2
        rw [List.length_append] at h3
        rw [List.length_map]
        omega
      · refine ⟨_, w2, S', acc ++ [y], .dat (pthD y), ?_, rfl, ?_, g2, Nat.le_trans (Nat.le_of_lt w2) hw⟩
        · rw [List.map_append]
          rfl
        · rw [← e1, e2, List.append_assoc]
          rfl
  · refine ev_non (rd_notN (b := true) (fun G v iv => ?_) ⟨_, rfl, (fun h => nomatch h), fun _ => ?_⟩)
    · cases iv
      rfl
    · rw [e2, List.append_nil] at e1
      subst e1
      refine ⟨[.dat (.ins C_Net fs), .tre (wlk p C_Walk b ps ws (onF its) []), .dat (.lst ((waysP ps ws its).map pthD)), .dat .non], _, fun σ G1 H1 S1 => ?_, rfl, rfl, W.kept⟩
      obtain ⟨q, vs, _, _, _, _, _, _, st⟩ := S1.freeze (i := 2) (ds := (waysP ps ws its).map pthD) rfl
      exact ⟨_, st⟩
end
end K13
open LamX
namespace K13
variable [TabT] [CacT]
abbrev s_l_gcd : Stmt := topS 45
abbrev n_l_gcd : List Str := ["_law_some_here", "_law_found", "_law_number", "_law_rest"]
abbrev p_l_gcd : List Str := ["_law_some_here"]
theorem sc_l_gcd : FnScope n_l_gcd p_l_gcd (defScope s_l_gcd) := ⟨rfl, rfl, rfl, by decide +kernel, rfl, by decide +kernel, by decide +kernel⟩

section
variable {P : Program} {w : World} {K : PySem.W.Frag} {mg : Str → Option Value} {base : Heap}
def gcds (ns : List Int) : Nat := ns.foldl (fun g n => Nat.gcd g n.natAbs) 0
def fs_gcd : FS := fun ds R _ => ∃ ns : List Int, ds = [.lst (ns.map .int)] ∧ R (.int (gcds ns : Nat))
theorem gcds_take {ns : List Int} {i : Nat} {n : Int} (h : ns[i]? = some n) : gcds (ns.take (i + 1)) = Nat.gcd (gcds (ns.take i)) n.natAbs := by
  unfold gcds
  rw [List.take_add_one, h]
  simp [List.foldl_append]
theorem ok_gcd {f : Addr} {fd : FuncData} (B : Bt mg) (F : Fun K "_law_gcd" "_law_gcd" s_l_gcd f fd) : FnG P w K mg base CX0 1 f fd p_l_gcd (spD K fs_gcd) := by
  refine okG F sc_l_gcd (spD_len fun ds R Z ⟨ns, e, _⟩ => by rw [e]; rfl) (fun cdv A outer s H vs Q E gd hr ⟨G, ds, R, Z, le, kd, hf, hq, hz⟩ => ?_)
  obtain ⟨ns, rfl, hf⟩ := hf
  refine ⟨_, PSs.nox ((pss_cons (ps_set (i := 1) sc_l_gcd.nd rfl (by first | exact Or.inl rfl | exact Or.inr rfl) pe_int)
      (pss_cons (ps_for PassesOwn.never rfl (pi_list (pv 0)) (pg_name (i := 2) sc_l_gcd.nd rfl (by first | exact Or.inl rfl | exact Or.inr rfl))
      (pss_cons (ps_set (i := 3) sc_l_gcd.nd rfl (by first | exact Or.inl rfl | exact Or.inr rfl) (pe_callB (call_abs) rfl B.b_abs bt_abs (pa_cons (pe_callTy (call_int1) rfl B.b_int bt_int (pa_cons (pv 2) pa_nil)) pa_nil)))
      (pss_one (ps_while PassesOwn.never (pt_cmpR op_gt (pv 3) pe_int (nomark _))
      (pss_one (ps_par (i := 1) (j := 3) rfl sc_l_gcd.nd rfl rfl (by decide) rfl rfl (pa_cons (pv 3) (pa_cons (pe_op op_modN (pe_callTy (call_int1) rfl B.b_int bt_int (pa_cons (pv 1) pa_nil)) (pv 3)) pa_nil)) rfl))))))
      (pss_one (ps_ret (pv 1)))))), fin_D le kd hq ?_⟩
  refine xs_seq (xs_set (ev_int ?_))
  refine xs_seq ?_
  refine xs_for (is := [2]) (fun _ i ρ => ∃ u1 u2 : Slot, ρ = [.dat (.lst (ns.map .int)), .dat (.int (gcds (ns.take i) : Nat)), u1, u2]) (ei_list (ev_var rfl ?_))
  refine ⟨_, rfl, ⟨.un, .un, rfl⟩, fun i d ρ hd hI => ?_, fun ρ hI => ?_⟩
  · obtain ⟨u1, u2, rfl⟩ := hI
    rw [List.getElem?_map] at hd
    obtain ⟨n, hn, rfl⟩ := Option.map_eq_some_iff.mp hd
    refine eg_name ?_
    refine xs_seq (xs_set ?_)
    repeat walk_at "ev"
    have ea : (if n < 0 then -n else n) = (n.natAbs : Int) := by split <;> omega
    rw [ea]
    refine xs_while (fun m ρ => ∃ g r : Nat, m = r ∧ Nat.gcd g r = gcds (ns.take (i + 1)) ∧ ρ = [.dat (.lst (ns.map .int)), .dat (.int (g : Int)), .dat (.int n), .dat (.int (r : Int))]) ⟨_, n.natAbs, rfl, (gcds_take hn).symm, rfl⟩ fun m ρ hm => ?_
    obtain ⟨g, r, hmr, hg, rfl⟩ := hm
    repeat walk_at "ev"
    refine ⟨fun h => ?_, fun h => ?_⟩
    · have hr0 : (0 : Int) < (r : Int) := of_decide_eq_true h
      refine xs_parDD ?_
      repeat walk_at "ev"
      refine rd_I (show (r : Int) ≠ 0 by omega) ?_
      have e1 : (g : Int).fmod (r : Int) = ((g % r : Nat) : Int) := by
        rw [Int.fmod_eq_emod_of_nonneg _ (by omega)]
        rfl
      rw [e1]
      refine ⟨g % r, by rw [hmr]; exact Nat.mod_lt _ (by omega), r, g % r, rfl, ?_, rfl⟩
      rw [← hg, Nat.gcd_comm g r, Nat.gcd_rec r g, Nat.gcd_comm]
    · have h : ¬ (0 : Int) < (r : Int) := of_decide_eq_false h
      have r0 : r = 0 := by omega
      subst r0
      rw [Nat.gcd_zero_right] at hg
      subst hg
      exact ⟨_, _, rfl⟩
  · obtain ⟨u1, u2, rfl⟩ := hI
    refine xs_ret (ev_var rfl ?_)
    rw [List.length_map, List.take_length]
    exact hf
theorem gcds2 (a b : Int) : gcds [a, b] = Nat.gcd a.natAbs b.natAbs := by
  unfold gcds
  simp
end
abbrev s_l_fraction : Stmt := topS 46
abbrev n_l_fraction : List Str := ["_law_top", "_law_low", "_law_size"]
abbrev p_l_fraction : List Str := ["_law_top", "_law_low"]
theorem sc_l_fraction : FnScope n_l_fraction p_l_fraction (defScope s_l_fraction) := ⟨rfl, rfl, rfl, by decide +kernel, rfl, by decide +kernel, by decide +kernel⟩

section
variable {P : Program} {w : World} {K : PySem.W.Frag} {mg : Str → Option Value} {base : Heap}
def fs_lfraction : FS := fun ds R _ => ∃ t l : Int, ds = [.int t, .int l] ∧ 0 < l ∧ l.natAbs < 2 ^ 8950 ∧ R (frq (mkRat t l.toNat))
theorem ok_lfraction {f : Addr} {fd : FuncData} (B : Bt mg) (c_l_gcd : Cal P w K mg base CX0 1 "_law_gcd" p_l_gcd [] (spD K fs_gcd)) (F : Fun K "_law_fraction" "_law_fraction" s_l_fraction f fd) : FnG P w K mg base CX0 2 f fd p_l_fraction (spD K fs_lfraction) := by
  refine okG F sc_l_fraction (spD_len fun ds R Z ⟨t, l, e, _⟩ => by rw [e]; rfl) (fun cdv A outer s H vs Q E gd hr ⟨G, ds, R, Z, le, kd, hf, hq, hz⟩ => ?_)
  obtain ⟨t, l, rfl, l0, lb, hf⟩ := hf
  rw [frq_mk l0] at hf
  refine ⟨_, PSs.nox ((pss_cons (ps_set (i := 2) sc_l_fraction.nd rfl (by first | exact Or.inl rfl | exact Or.inr rfl) (pe_op op_timesA (pe_cal c_l_gcd gd (hr.mono (by first | decide | omega)) pass0 (pa_cons (pe_lst (pa_cons (pv 0) (pa_cons (pv 1) pa_nil))) pa_nil)) (pe_ifExp (pt_cmpR op_gt (pv 1) pe_int (nomark _)) pe_int (pe_un un_neg pe_int))))
      (pss_one (ps_ret (pe_tup (pa_cons (pe_op op_fdivG (pv 0) (pv 2)) (pa_cons (pe_op op_fdivG (pv 1) (pv 2)) pa_nil))))))), fin_D le kd hq ?_⟩
  refine xs_seq (xs_set ?_)
  refine ev_op (ev_call (Z := fun _ _ => False) Flies.none (fun _ => .nil) ?_)
  repeat walk_at "ev"
  refine ⟨[t, l], rfl, ?_⟩
  rw [gcds2]
  have hl : 0 < l.natAbs := by omega
  have g0 : 0 < Nat.gcd t.natAbs l.natAbs := Nat.gcd_pos_of_pos_right _ hl
  have g1 : Nat.gcd t.natAbs l.natAbs ≤ l.natAbs := Nat.gcd_le_right _ hl
  generalize Nat.gcd t.natAbs l.natAbs = g at g0 g1 hf
  have gb : ((g : Nat) : Int).natAbs < 2 ^ 8950 := by
    rw [Int.natAbs_natCast]
    exact Nat.lt_of_le_of_lt g1 lb
  repeat walk_at "ev"
  refine ⟨fun h => ?_, fun h => ?_⟩
  · repeat walk_at "ev"
    refine rd_k (r := rTimesA) rfl (DL.mul_int (mulW (a := 8950) (b := 2) gb (by decide) (by decide)) ?_)
    rw [Int.mul_one]
    refine xs_ret ?_
    repeat walk_at "ev"
    refine rd_I (fdivG (a := 8950) (by omega) gb (by decide)) ?_
    repeat walk_at "ev"
    refine rd_I (fdivG (a := 8950) (by omega) gb (by decide)) ?_
    repeat walk_at "ev"
    exact hf
  · have h : ¬ (0 : Int) < l := of_decide_eq_false h
    exact absurd l0 h
end
abbrev s_l_drawn_fraction : Stmt := topS 47
abbrev n_l_drawn_fraction : List Str := ["_law_pot_here", "_law_top"]
abbrev p_l_drawn_fraction : List Str := ["_law_pot_here"]
theorem sc_l_drawn_fraction : FnScope n_l_drawn_fraction p_l_drawn_fraction (defScope s_l_drawn_fraction) := ⟨rfl, rfl, rfl, by decide +kernel, rfl, by decide +kernel, by decide +kernel⟩

section
variable {P : Program} {w : World} {K : PySem.W.Frag} {mg : Str → Option Value} {base : Heap}
def fp_drawn : FP := fun k ds R _ => ds = [] ∧ k + 10 < 2 ^ 40 ∧ ∀ q, Sm 17 q → R (frq q) (k + 5)
theorem ok_drawn {f : Addr} {fd : FuncData} (B : Bt mg) (c_l_take : Cal P w K mg base CX0 1 "_law_take" p_l_take [] (spP K fp_take)) (c_l_of : Cal P w K mg base CX0 2 "_law_of" p_l_of [] (spP K fp_of)) (c_l_fraction : Cal P w K mg base CX0 2 "_law_fraction" p_l_fraction [] (spD K fs_lfraction)) (F : Fun K "_law_drawn_fraction" "_law_drawn_fraction" s_l_drawn_fraction f fd) : FnG P w K mg base CX0 3 f fd p_l_drawn_fraction (spP K fp_drawn) := by
  refine okG F sc_l_drawn_fraction (spP_len fun k ds R Z ⟨e, _⟩ => by rw [e]; rfl) (fun cdv A outer s H vs Q E gd hr ⟨a, ws, G, ds, k, R, Z, ev, le, ga, pa, kd, hf, hq, hz⟩ => ?_)
  obtain ⟨rfl, k1, hf⟩ := hf
  subst ev
  refine ⟨_, PSs.nox ((pss_cons (ps_set (i := 1) sc_l_drawn_fraction.nd rfl (by first | exact Or.inl rfl | exact Or.inr rfl) (pe_op op_timesA (pe_cal c_l_take gd (hr.mono (by first | decide | omega)) pass0 (pa_cons (pv 0) (pa_cons (pe_cal c_l_of gd (hr.mono (by first | decide | omega)) pass0 (pa_cons (pv 0) (pa_cons (pe_lst (pa_cons pe_int (pa_cons pe_int (pa_cons pe_int (pa_cons pe_int (pa_cons (pe_op op_powG pe_int pe_int) pa_nil)))))) pa_nil))) pa_nil))) (pe_cal c_l_of gd (hr.mono (by first | decide | omega)) pass0 (pa_cons (pv 0) (pa_cons (pe_lst (pa_cons pe_int (pa_cons pe_int (pa_cons (pe_un un_neg pe_int) pa_nil)))) pa_nil)))))
      (pss_one (ps_ret (pe_cal c_l_fraction gd (hr.mono (by first | decide | omega)) pass0 (pa_cons (pv 1) (pa_cons (pe_op op_plus pe_int (pe_cal c_l_take gd (hr.mono (by first | decide | omega)) pass0 (pa_cons (pv 0) (pa_cons (pe_cal c_l_of gd (hr.mono (by first | decide | omega)) pass0 (pa_cons (pv 0) (pa_cons (pe_lst (pa_cons pe_int (pa_cons pe_int (pa_cons pe_int (pa_cons pe_int (pa_cons pe_int pa_nil)))))) pa_nil))) pa_nil)))) pa_nil))))))), fin_P le ga pa kd hq ?_⟩
  refine xs_mid (fun ρ => ∃ t : Int, t.natAbs < 2 ^ 17 ∧ ρ = [.pot a (k + 3), .dat (.int t)]) ?_ fun ρ ⟨t, ht, e⟩ => ?_
  · refine xs_set (ev_op (ev_callP (Z := fun _ _ => False) Flies.none (fun _ => .nil) (by exact ⟨_, _, rfl⟩) ?_))
    refine ea_cons (ev_callP (Z := fun _ _ => False) Flies.none (fun _ => .nil) (by exact ⟨_, _, rfl⟩) ?_)
    repeat walk_at "ev"
    refine rd_I (powG (a := 10) (by decide) (by decide) (by decide)) ?_
    repeat walk_at "ev"
    refine ⟨_, _, rfl, _, rfl, by simp, by simp, by omega, fun x hx => ?_⟩
    have hx' : ∃ n : Int, x = .int n ∧ 0 < n ∧ n ≤ 100000 := by
      simp only [List.mem_cons, List.not_mem_nil, or_false] at hx
      rcases hx with rfl | rfl | rfl | rfl | rfl
      · exact ⟨_, rfl, by decide, by decide⟩
      · exact ⟨_, rfl, by decide, by decide⟩
      · exact ⟨_, rfl, by decide, by decide⟩
      · exact ⟨_, rfl, by decide, by decide⟩
      · exact ⟨_, rfl, by decide, by decide⟩
    obtain ⟨n, rfl, n0, n1⟩ := hx'
    repeat walk_at "ev"
    refine ⟨_, _, rfl, _, rfl, n0, by omega, by omega, fun d d0 d1 => ?_⟩
    refine ev_callP (Z := fun _ _ => False) Flies.none (fun _ => .nil) (by exact ⟨_, _, rfl⟩) ?_
    repeat walk_at "ev"
    refine ⟨_, _, rfl, _, rfl, by simp, by simp, by omega, fun x hx => ?_⟩
    have hx' : ∃ s : Int, x = .int s ∧ (s = 1 ∨ s = -1) := by
      simp only [List.mem_cons, List.not_mem_nil, or_false] at hx
      rcases hx with rfl | rfl | rfl
      · exact ⟨_, rfl, .inl rfl⟩
      · exact ⟨_, rfl, .inl rfl⟩
      · exact ⟨_, rfl, .inr rfl⟩
    obtain ⟨s, rfl, hs⟩ := hx'
    refine rd_k (r := rTimesA) rfl (DL.mul_int (mulW (a := 17) (b := 2) (natAbs_lt (by omega) (by omega)) (by rcases hs with rfl | rfl <;> decide) (by decide)) ?_)
    refine ⟨d * s, ?_, rfl⟩
    rcases hs with rfl | rfl
    · exact natAbs_lt (by omega) (by omega)
    · exact natAbs_lt (by omega) (by omega)
  subst e
  refine xs_ret (ev_call (Z := fun _ _ => False) Flies.none (fun _ => .nil) ?_)
  repeat walk_at "ev"
  refine ev_callP (Z := fun _ _ => False) Flies.none (fun _ => .nil) (by exact ⟨_, _, rfl⟩) ?_
  refine ea_cons (ev_callP (Z := fun _ _ => False) Flies.none (fun _ => .nil) (by exact ⟨_, _, rfl⟩) ?_)
  repeat walk_at "ev"
  refine ⟨_, _, rfl, _, rfl, by simp, by simp, by omega, fun x hx => ?_⟩
  have hx' : ∃ n : Int, x = .int n ∧ 0 < n ∧ n ≤ 1000 := by
    simp only [List.mem_cons, List.not_mem_nil, or_false] at hx
    rcases hx with rfl | rfl | rfl | rfl | rfl
    · exact ⟨_, rfl, by decide, by decide⟩
    · exact ⟨_, rfl, by decide, by decide⟩
    · exact ⟨_, rfl, by decide, by decide⟩
    · exact ⟨_, rfl, by decide, by decide⟩
    · exact ⟨_, rfl, by decide, by decide⟩
  obtain ⟨n, rfl, n0, n1⟩ := hx'
  repeat walk_at "ev"
  refine ⟨_, _, rfl, _, rfl, n0, by omega, by omega, fun d d0 d1 => ?_⟩
  repeat walk_at "ev"
  have hl : (1 + d).toNat ≠ 0 := by omega
  have sm := mk_small (n := t) (d := (1 + d).toNat) hl ht
  refine ⟨_, _, rfl, by omega, nbM (natAbs_lt (a := 17) (by omega) (by omega)) (by decide), _, rfl, hf _ ⟨sm.1, Nat.lt_of_le_of_lt sm.2 (by omega)⟩⟩
end
end K13
open LamX
namespace K13
variable [TabT] [CacT]

section
variable {P : Program} {w : World} {K : PySem.W.Frag} {mg : Str → Option Value} {base : Heap}
def fs_gcdT : FS := fun ds R _ => ∃ ns : List Int, ds = [.tup (ns.map .int)] ∧ R (.int (gcds ns : Nat))
theorem ok_gcdT {f : Addr} {fd : FuncData} (B : Bt mg) (F : Fun K "_law_gcd" "_law_gcd" s_l_gcd f fd) : FnG P w K mg base CX0 1 f fd p_l_gcd (spD K fs_gcdT) := by
  refine okG F sc_l_gcd (spD_len fun ds R Z ⟨ns, e, _⟩ => by rw [e]; rfl) (fun cdv A outer s H vs Q E gd hr ⟨G, ds, R, Z, le, kd, hf, hq, hz⟩ => ?_)
  obtain ⟨ns, rfl, hf⟩ := hf
  refine ⟨_, PSs.nox ((pss_cons (ps_set (i := 1) sc_l_gcd.nd rfl (by first | exact Or.inl rfl | exact Or.inr rfl) pe_int)
      (pss_cons (ps_for PassesOwn.never rfl (pi_tup (pv 0)) (pg_name (i := 2) sc_l_gcd.nd rfl (by first | exact Or.inl rfl | exact Or.inr rfl))
      (pss_cons (ps_set (i := 3) sc_l_gcd.nd rfl (by first | exact Or.inl rfl | exact Or.inr rfl) (pe_callB (call_abs) rfl B.b_abs bt_abs (pa_cons (pe_callTy (call_int1) rfl B.b_int bt_int (pa_cons (pv 2) pa_nil)) pa_nil)))
      (pss_one (ps_while PassesOwn.never (pt_cmpR op_gt (pv 3) pe_int (nomark _))
      (pss_one (ps_par (i := 1) (j := 3) rfl sc_l_gcd.nd rfl rfl (by decide) rfl rfl (pa_cons (pv 3) (pa_cons (pe_op op_modN (pe_callTy (call_int1) rfl B.b_int bt_int (pa_cons (pv 1) pa_nil)) (pv 3)) pa_nil)) rfl))))))
      (pss_one (ps_ret (pv 1)))))), fin_D le kd hq ?_⟩
  refine xs_seq (xs_set (ev_int ?_))
  refine xs_seq ?_
  refine xs_for (is := [2]) (fun _ i ρ => ∃ u1 u2 : Slot, ρ = [.dat (.tup (ns.map .int)), .dat (.int (gcds (ns.take i) : Nat)), u1, u2]) (ei_tup (ev_var rfl ?_))
  refine ⟨_, rfl, ⟨.un, .un, rfl⟩, fun i d ρ hd hI => ?_, fun ρ hI => ?_⟩
  · obtain ⟨u1, u2, rfl⟩ := hI
    rw [List.getElem?_map] at hd
    obtain ⟨n, hn, rfl⟩ := Option.map_eq_some_iff.mp hd
    refine eg_name ?_
    refine xs_seq (xs_set ?_)
    repeat walk_at "ev"
    have ea : (if n < 0 then -n else n) = (n.natAbs : Int) := by split <;> omega
    rw [ea]
    refine xs_while (fun m ρ => ∃ g r : Nat, m = r ∧ Nat.gcd g r = gcds (ns.take (i + 1)) ∧ ρ = [.dat (.tup (ns.map .int)), .dat (.int (g : Int)), .dat (.int n), .dat (.int (r : Int))]) ⟨_, n.natAbs, rfl, (gcds_take hn).symm, rfl⟩ fun m ρ hm => ?_
    obtain ⟨g, r, hmr, hg, rfl⟩ := hm
    repeat walk_at "ev"
    refine ⟨fun h => ?_, fun h => ?_⟩
    · have hr0 : (0 : Int) < (r : Int) := of_decide_eq_true h
      refine xs_parDD ?_
      repeat walk_at "ev"
      refine rd_I (show (r : Int) ≠ 0 by omega) ?_
      have e1 : (g : Int).fmod (r : Int) = ((g % r : Nat) : Int) := by
        rw [Int.fmod_eq_emod_of_nonneg _ (by omega)]
        rfl
      rw [e1]
      refine ⟨g % r, by rw [hmr]; exact Nat.mod_lt _ (by omega), r, g % r, rfl, ?_, rfl⟩
      rw [← hg, Nat.gcd_comm g r, Nat.gcd_rec r g, Nat.gcd_comm]
    · have h : ¬ (0 : Int) < (r : Int) := of_decide_eq_false h
      have r0 : r = 0 := by omega
      subst r0
      rw [Nat.gcd_zero_right] at hg
      subst hg
      exact ⟨_, _, rfl⟩
  · obtain ⟨u1, u2, rfl⟩ := hI
    refine xs_ret (ev_var rfl ?_)
    rw [List.length_map, List.take_length]
    exact hf
end
abbrev s_l_is_fraction : Stmt := topS 52
abbrev n_l_is_fraction : List Str := ["_law_value", "_law_one"]
abbrev p_l_is_fraction : List Str := ["_law_value"]
theorem sc_l_is_fraction : FnScope n_l_is_fraction p_l_is_fraction (defScope s_l_is_fraction) := ⟨rfl, rfl, rfl, by decide +kernel, rfl, by decide +kernel, by decide +kernel⟩

abbrev s_l_are_fractions : Stmt := topS 53
abbrev n_l_are_fractions : List Str := ["_law_value", "_law_many", "_law_one"]
abbrev p_l_are_fractions : List Str := ["_law_value", "_law_many"]
theorem sc_l_are_fractions : FnScope n_l_are_fractions p_l_are_fractions (defScope s_l_are_fractions) := ⟨rfl, rfl, rfl, by decide +kernel, rfl, by decide +kernel, by decide +kernel⟩

section
variable {P : Program} {w : World} {K : PySem.W.Frag} {mg : Str → Option Value} {base : Heap}
def fs_lisfr : FS := fun ds R _ => ∃ d, ds = [d] ∧ Ty2 d ∧ R (.bl (isF d))
theorem ok_lisfr {f : Addr} {fd : FuncData} (B : Bt mg) (c_l_gcd : Cal P w K mg base CX0 1 "_law_gcd" p_l_gcd [] (spD K fs_gcdT)) (F : Fun K "_law_is_fraction" "_law_is_fraction" s_l_is_fraction f fd) : FnG P w K mg base CX0 2 f fd p_l_is_fraction (spD K fs_lisfr) := by
  refine okG F sc_l_is_fraction (spD_len fun ds R Z ⟨q, e, _⟩ => by rw [e]; rfl) (fun cdv A outer s H vs Q E gd hr ⟨G, ds, R, Z, le, kd, hf, hq, hz⟩ => ?_)
  have hu : (cxOf CX0 P w K mg base n_l_is_fraction "_law_is_fraction" (defScope s_l_is_fraction) f cdv A outer s H E).nox.A.units + 64 < cLine := hr.units
  obtain ⟨d, rfl, ⟨hn, ht⟩, hf⟩ := hf
  refine ⟨_, PSs.nox ((pss_cons (ps_if (PW.pt (pw_or (pt_not (pt_val (pe_callB (call_isA) rfl B.b_isinstance bt_isinstance (pa_cons (pv 0) (pa_cons (pe_bltn (v := .ty "tuple") rfl B.b_tuple bt_tuple rfl) pa_nil))))) (pw_or (pt_cmpR (op_neA hu) (pe_callB ((CallR.or call_len_seq call_len_str)) rfl B.b_len bt_len (pa_cons (pv 0) pa_nil)) pe_int (nomark _)) (pw_or1 (pt_not (pt_val (pe_callB (cr_all rfl) rfl B.b_all bt_all (pa_cons (pe_lc (own := [("_law_one", 1)]) (g := (gName 1)) (tt := tYes) rfl sc_l_is_fraction.nd (pi_tup (pv 0)) (blkOk_by (N := n_l_is_fraction) (sc := defScope s_l_is_fraction) (by decide +kernel)) (fun _ _ _ _ _ => (pg_name (i := 1) sc_l_is_fraction.nd rfl (by first | exact Or.inl rfl | exact Or.inr rfl))) (fun _ _ _ _ _ => pts_nil) (fun _ _ _ _ _ => (pe_callB (kIsA (K := K) rfl) rfl B.b_isinstance bt_isinstance (pa_cons (pv 1) (pa_cons (pe_bltn (v := .ty "int") rfl B.b_int bt_int rfl) pa_nil))))) pa_nil))))))))
      (pss_one (ps_ret pe_bl))
      pss_nil)
      (pss_cons (ps_if (PW.pt (pw_or (pt_val (pe_callB (cr_any rfl) rfl B.b_any bt_any (pa_cons (pe_lc (own := [("_law_one", 1)]) (g := (gName 1)) (tt := tYes) rfl sc_l_is_fraction.nd (pi_tup (pv 0)) (blkOk_by (N := n_l_is_fraction) (sc := defScope s_l_is_fraction) (by decide +kernel)) (fun _ _ _ _ _ => (pg_name (i := 1) sc_l_is_fraction.nd rfl (by first | exact Or.inl rfl | exact Or.inr rfl))) (fun _ _ _ _ _ => pts_nil) (fun _ _ _ _ _ => (pe_callB (kIsA (K := K) rfl) rfl B.b_isinstance bt_isinstance (pa_cons (pv 1) (pa_cons (pe_bltn (v := .ty "bool") rfl B.b_bool bt_bool rfl) pa_nil))))) pa_nil))) (pw_or1 (pt_cmpR op_lt (pe_ix ix_seq (pv 0) pe_int (fun _ _ => rfl)) pe_int (nomark _)))))
      (pss_one (ps_ret pe_bl))
      pss_nil)
      (pss_one (ps_ret (pe_cmpR (op_eqA hu) (pe_cal c_l_gcd gd (hr.mono (by first | decide | omega)) pass0 (pa_cons (pv 0) pa_nil)) pe_int (nomark _))))))), fin_D le kd hq ?_⟩
  repeat walk_at "ar"
  refine isa_tup rfl hn ?_
  refine ⟨_, rfl, fun h => ?_, fun h => ?_⟩
  · have h : isT d = false := by simpa using h
    rw [isF_not h] at hf
    refine ⟨fun _ => ?_, fun h => (nomatch h)⟩
    repeat walk_at "ar"
    exact hf
  have h : isT d = true := by simpa using h
  obtain ⟨xs, rfl⟩ := isT_inv h
  repeat walk_at "ar"
  refine ne_int rfl ?_
  refine ⟨_, rfl, fun h2 => ?_, fun h2 => ?_⟩
  · have h2 : xs.length ≠ 2 := by
      intro e
      rw [e] at h2
      exact absurd h2 (by decide)
    rw [isF_len h2] at hf
    refine ⟨fun _ => ?_, fun h => (nomatch h)⟩
    repeat walk_at "ar"
    exact hf
  have h2 : xs.length = 2 := by
    have h2 : ((xs.length : Int) == 2) = true := by simpa using h2
    have := eq_of_beq h2
    omega
  match xs, h2 with
  | [x, y], _ =>
    have tx := ht _ rfl x (by simp)
    have ty := ht _ rfl y (by simp)
    have tz : ∀ (i : Nat) (d : D), [x, y][i]? = some d → Ty1 d := fun i d hd => by
      have := List.mem_of_getElem? hd
      simp only [List.mem_cons, List.not_mem_nil, or_false] at this
      rcases this with rfl | rfl
      · exact tx
      · exact ty
    have fin : (isI x = false ∨ isI y = false) → R (.bl false) := fun h => by
      have e : isF (.tup [x, y]) = false := by
        cases q : isF (.tup [x, y]) with
        | false => rfl
        | true =>
          obtain ⟨a, b⟩ := isF_two x y q
          rcases h with h | h
          · rw [h] at a
            cases a
          · rw [h] at b
            cases b
      rw [e] at hf
      exact hf
    refine et_not (et_B (ev_cb (ea_cons (EvN.ev (en_lc (is := [1]) (fun _ i acc ρ => acc = ([x, y].take i).map (fun e => .bl (isIB e)) ∧ ρ = [.dat (.tup [x, y]), .un]) (by decide) (ei_tup (ev_var rfl ?_)))))))
    refine ⟨_, rfl, Nat.le_of_ble_eq_true rfl, ⟨rfl, rfl⟩, fun i d acc ρ hd hI => ?_, fun acc ρ hl2 hI => ?_⟩
    · obtain ⟨rfl, e⟩ := hI
      rw [e]
      refine eg_name (et_yes ⟨fun _ => ?_, fun h => nomatch h⟩)
      repeat walk_at "ar"
      refine isa_int rfl (tz i d hd) ?_
      exact ⟨(take_map (f := fun e => D.bl (isIB e)) hd).symm, rfl⟩
    obtain ⟨rfl, e⟩ := hI
    rw [e]
    refine ea_nil (rc_k (r := rAll) rfl ?_)
    refine (rc_all (bs := [isIB x, isIB y]) ?_ : RC1 _ _ _ _)
    refine ⟨_, rfl, fun h => ?_, fun h => ?_⟩
    · have h : isI x = false ∨ isI y = false := by
        rw [isI_eq, isI_eq]
        have h : isIB x = false ∨ isIB y = false := by
          cases a : isIB x <;> cases b : isIB y <;> simp_all
        rcases h with h | h
        · exact .inl (by rw [h]; rfl)
        · exact .inr (by rw [h]; rfl)
      repeat walk_at "ar"
      exact fin h
    have hB : isIB x = true ∧ isIB y = true := by
      cases a : isIB x <;> cases b : isIB y <;> simp_all
    refine xs_next ?_
    refine xs_seq (xs_if (et_or (et_B (ev_cb (ea_cons (EvN.ev (en_lc (is := [1]) (fun _ i acc ρ => acc = ([x, y].take i).map (fun e => .bl (isBo e)) ∧ ρ = [.dat (.tup [x, y]), .un]) (by decide) (ei_tup (ev_var rfl ?_)))))))))
    refine ⟨_, rfl, Nat.le_of_ble_eq_true rfl, ⟨rfl, rfl⟩, fun i d acc ρ hd hI => ?_, fun acc ρ hl2 hI => ?_⟩
    · obtain ⟨rfl, e⟩ := hI
      rw [e]
      refine eg_name (et_yes ⟨fun _ => ?_, fun h => nomatch h⟩)
      repeat walk_at "ar"
      refine isa_bool rfl (tz i d hd) ?_
      exact ⟨(take_map (f := fun e => D.bl (isBo e)) hd).symm, rfl⟩
    obtain ⟨rfl, e⟩ := hI
    rw [e]
    refine ea_nil (rc_k (r := rAny) rfl ?_)
    refine (rc_any (bs := [isBo x, isBo y]) ?_ : RC1 _ _ _ _)
    refine ⟨_, rfl, fun h => ?_, fun h => ?_⟩
    · have h : isI x = false ∨ isI y = false := by
        rw [isI_eq, isI_eq]
        have h : isBo x = true ∨ isBo y = true := by
          cases a : isBo x <;> cases b : isBo y <;> simp_all
        rcases h with h | h
        · exact .inl (by rw [h]; simp)
        · exact .inr (by rw [h]; simp)
      refine ⟨fun _ => ?_, fun h => (nomatch h)⟩
      repeat walk_at "ar"
      exact fin h
    have hC : isBo x = false ∧ isBo y = false := by
      cases a : isBo x <;> cases b : isBo y <;> simp_all
    obtain ⟨t, rfl⟩ := isI_of hB.1 hC.1
    obtain ⟨l, rfl⟩ := isI_of hB.2 hC.2
    have hf : R (.bl (decide (1 ≤ l) && decide (Nat.gcd t.natAbs l.natAbs = 1))) := hf
    repeat walk_at "ar"
    refine ix_tupl ⟨1, rfl, rfl⟩ ?_
    repeat walk_at "ar"
    refine ⟨_, rfl, fun h1 => ?_, fun h1 => ?_⟩
    · have h1 : l < 1 := of_decide_eq_true h1
      rw [decide_eq_false (show ¬ (1 : Int) ≤ l by omega), Bool.false_and] at hf
      repeat walk_at "ar"
      exact hf
    · have h1 : ¬ l < 1 := of_decide_eq_false h1
      rw [decide_eq_true (show (1 : Int) ≤ l by omega), Bool.true_and] at hf
      repeat walk_at "ar"
      refine ev_call (Z := fun _ _ => False) Flies.none (fun _ => .nil) ?_
      repeat walk_at "ar"
      refine ⟨[t, l], rfl, ?_⟩
      rw [gcds2]
      repeat walk_at "ar"
      refine eq_int rfl ?_
      have e : (((Nat.gcd t.natAbs l.natAbs : Nat) : Int) == 1) = decide (Nat.gcd t.natAbs l.natAbs = 1) := by
        rw [show ((((Nat.gcd t.natAbs l.natAbs : Nat) : Int) == 1)) = decide (((Nat.gcd t.natAbs l.natAbs : Nat) : Int) = 1) from rfl]
        exact decide_eq_decide.mpr ⟨fun h => by omega, fun h => by omega⟩
      rw [e]
      exact hf
def lenIs (m : Int) : D → Bool
  | .tup xs => ((xs.length : Int) == m)
  | _ => false
def fs_laref : FS := fun ds R _ => ∃ d m, ds = [d, .int m] ∧ Ty3 d ∧ R (.bl (areF d && lenIs m d))
theorem ok_laref {f : Addr} {fd : FuncData} (B : Bt mg) (c_l_is_fraction : Cal P w K mg base CX0 2 "_law_is_fraction" p_l_is_fraction [] (spD K fs_lisfr)) (F : Fun K "_law_are_fractions" "_law_are_fractions" s_l_are_fractions f fd) : FnG P w K mg base CX0 3 f fd p_l_are_fractions (spD K fs_laref) := by
  refine okG F sc_l_are_fractions (spD_len fun ds R Z ⟨q, m, e, _⟩ => by rw [e]; rfl) (fun cdv A outer s H vs Q E gd hr ⟨G, ds, R, Z, le, kd, hf, hq, hz⟩ => ?_)
  have hu : (cxOf CX0 P w K mg base n_l_are_fractions "_law_are_fractions" (defScope s_l_are_fractions) f cdv A outer s H E).nox.A.units + 64 < cLine := hr.units
  obtain ⟨d, m, rfl, ⟨hn, ht⟩, hf⟩ := hf
  refine ⟨_, PSs.nox ((pss_one (ps_ret (pe_and (pe_callB (call_isA) rfl B.b_isinstance bt_isinstance (pa_cons (pv 0) (pa_cons (pe_bltn (v := .ty "tuple") rfl B.b_tuple bt_tuple rfl) pa_nil))) (pe_and (pe_cmpR (op_eqA hu) (pe_callB ((CallR.or call_len_seq call_len_str)) rfl B.b_len bt_len (pa_cons (pv 0) pa_nil)) (pv 1) (nomark _)) (pe_one (pe_callB (cr_all rfl) rfl B.b_all bt_all (pa_cons (pe_lc (own := [("_law_one", 2)]) (g := (gName 2)) (tt := tYes) rfl sc_l_are_fractions.nd (pi_tup (pv 0)) (blkOk_by (N := n_l_are_fractions) (sc := defScope s_l_are_fractions) (by decide +kernel)) (fun _ _ _ _ _ => (pg_name (i := 2) sc_l_are_fractions.nd rfl (by first | exact Or.inl rfl | exact Or.inr rfl))) (fun _ _ _ _ _ => pts_nil) (fun _ _ _ _ _ => (pe_cal c_l_is_fraction gd (hr.mono (by first | decide | omega)) pass0 (pa_cons (pv 2) pa_nil)))) pa_nil)))))))), fin_D le kd hq ?_⟩
  repeat walk_at "ar"
  refine isa_tup rfl hn ?_
  refine ⟨_, rfl, fun h => ?_, fun h => ?_⟩
  · obtain ⟨xs, rfl⟩ := isT_inv h
    obtain ⟨hl, hx⟩ := ht _ rfl
    have hf : R (.bl (xs.all isF && ((xs.length : Int) == m))) := hf
    repeat walk_at "ar"
    refine eq_int rfl ?_
    refine ⟨_, rfl, fun h => ?_, fun h => ?_⟩
    · rw [h, Bool.and_true] at hf
      repeat walk_at "ar"
      refine EvN.ev (en_lc (is := [2]) (fun _ i acc ρ => acc = (xs.take i).map (fun e => .bl (isF e)) ∧ ρ = [.dat (.tup xs), .dat (.int m), .un]) (by decide) (ei_tup (ev_var rfl ?_)))
      refine ⟨_, rfl, by omega, ⟨rfl, rfl⟩, fun i d acc ρ hd hI => ?_, fun acc ρ hl2 hI => ?_⟩
      · obtain ⟨rfl, e⟩ := hI
        rw [e]
        refine eg_name (et_yes ⟨fun _ => ?_, fun h => nomatch h⟩)
        refine ev_call (Z := fun _ _ => False) Flies.none (fun _ => .nil) ?_
        repeat walk_at "ar"
        exact ⟨d, rfl, hx d (List.mem_of_getElem? hd), (take_map (f := fun e => D.bl (isF e)) hd).symm, rfl⟩
      · obtain ⟨rfl, e⟩ := hI
        repeat walk_at "ar"
        rw [List.take_length, show xs.map (fun e => D.bl (isF e)) = (xs.map isF).map .bl by rw [List.map_map]; rfl]
        refine rc_k (r := rAll) rfl (rc_all ?_)
        rw [show (xs.map isF).all id = xs.all isF by rw [List.all_map]; rfl]
        exact hf
    · rw [h, Bool.and_false] at hf
      exact hf
  · rw [areF_not h, Bool.false_and] at hf
    exact hf
end
end K13
open LamX
namespace K13
variable [TabT] [CacT]

abbrev s_is_integer : Stmt := topS 7
abbrev n_is_integer : List Str := ["value"]
abbrev p_is_integer : List Str := ["value"]
theorem sc_is_integer : FnScope n_is_integer p_is_integer (defScope s_is_integer) := ⟨rfl, rfl, rfl, by decide +kernel, rfl, by decide +kernel, by decide +kernel⟩

section
variable {P : Program} {w : World} {K : PySem.W.Frag} {mg : Str → Option Value} {base : Heap}
/-- is_integer, of any data whose type is told -/
def fs_isint : FS := fun ds R _ => ∃ d, ds = [d] ∧ Ty1 d ∧ R (.bl (isI d))
theorem ok_isint {f : Addr} {fd : FuncData} (B : Bt mg) (F : Fun K "is_integer" "is_integer" s_is_integer f fd) : FnG P w K mg base CX0 1 f fd p_is_integer (spD K fs_isint) := by
  refine okG F sc_is_integer (spD_len fun ds R Z ⟨d, e, _⟩ => by rw [e]; rfl) (fun cdv A outer s H vs Q E gd hr ⟨G, ds, R, Z, le, kd, hf, hq, hz⟩ => ?_)
  obtain ⟨d, rfl, hn, hf⟩ := hf
  refine ⟨_, PSs.nox ((pss_one (ps_ret (pe_and (pe_callB (call_isA) rfl B.b_isinstance bt_isinstance (pa_cons (pv 0) (pa_cons (pe_bltn (v := .ty "int") rfl B.b_int bt_int rfl) pa_nil))) (pe_one (pe_not (pe_callB (call_isA) rfl B.b_isinstance bt_isinstance (pa_cons (pv 0) (pa_cons (pe_bltn (v := .ty "bool") rfl B.b_bool bt_bool rfl) pa_nil))))))))), fin_D le kd hq ?_⟩
  rw [isI_eq] at hf
  repeat walk_at "ar"
  refine isa_int rfl hn ?_
  refine ⟨_, rfl, fun h => ?_, fun h => ?_⟩
  · rw [h] at hf
    repeat walk_at "ar"
    refine isa_bool rfl hn ?_
    exact ⟨_, rfl, hf⟩
  · rw [h] at hf
    exact hf
end
abbrev s_is_fraction : Stmt := topS 8
abbrev n_is_fraction : List Str := ["value", "top", "low"]
abbrev p_is_fraction : List Str := ["value"]
theorem sc_is_fraction : FnScope n_is_fraction p_is_fraction (defScope s_is_fraction) := ⟨rfl, rfl, rfl, by decide +kernel, rfl, by decide +kernel, by decide +kernel⟩

abbrev s_are_fractions : Stmt := topS 9
abbrev n_are_fractions : List Str := ["value", "one"]
abbrev p_are_fractions : List Str := ["value"]
theorem sc_are_fractions : FnScope n_are_fractions p_are_fractions (defScope s_are_fractions) := ⟨rfl, rfl, rfl, by decide +kernel, rfl, by decide +kernel, by decide +kernel⟩

section
variable {P : Program} {w : World} {K : PySem.W.Frag} {mg : Str → Option Value} {base : Heap}
def fs_isfr : FS := fun ds R _ => ∃ d, ds = [d] ∧ Ty2 d ∧ R (.bl (isF d))
theorem ok_isfr {f : Addr} {fd : FuncData} (B : Bt mg) (m_gcd : mg "gcd" = some (.builtin "math.gcd")) (c_is_integer : Cal P w K mg base CX0 1 "is_integer" p_is_integer [] (spD K fs_isint)) (F : Fun K "is_fraction" "is_fraction" s_is_fraction f fd) : FnG P w K mg base CX0 2 f fd p_is_fraction (spD K fs_isfr) := by
  refine okG F sc_is_fraction (spD_len fun ds R Z ⟨q, e, _⟩ => by rw [e]; rfl) (fun cdv A outer s H vs Q E gd hr ⟨G, ds, R, Z, le, kd, hf, hq, hz⟩ => ?_)
  have hu : (cxOf CX0 P w K mg base n_is_fraction "is_fraction" (defScope s_is_fraction) f cdv A outer s H E).nox.A.units + 64 < cLine := hr.units
  obtain ⟨d, rfl, ⟨hn, ht⟩, hf⟩ := hf
  refine ⟨_, PSs.nox ((pss_cons (ps_if (PW.pt (pw_or (pt_not (pt_val (pe_callB (call_isA) rfl B.b_isinstance bt_isinstance (pa_cons (pv 0) (pa_cons (pe_bltn (v := .ty "tuple") rfl B.b_tuple bt_tuple rfl) pa_nil))))) (pw_or1 (pt_cmpR (op_neA hu) (pe_callB ((CallR.or call_len_seq call_len_str)) rfl B.b_len bt_len (pa_cons (pv 0) pa_nil)) pe_int (nomark _)))))
      (pss_one (ps_ret pe_bl))
      pss_nil)
      (pss_cons (ps_asg (pv 0) (pg_tup rfl (pgs_cons (pg_name (i := 1) sc_is_fraction.nd rfl (by first | exact Or.inl rfl | exact Or.inr rfl)) (pgs_cons (pg_name (i := 2) sc_is_fraction.nd rfl (by first | exact Or.inl rfl | exact Or.inr rfl)) pgs_nil))))
      (pss_one (ps_ret (pe_and (pe_cal c_is_integer gd (hr.mono (by first | decide | omega)) pass0 (pa_cons (pv 1) pa_nil)) (pe_and (pe_cal c_is_integer gd (hr.mono (by first | decide | omega)) pass0 (pa_cons (pv 2) pa_nil)) (pe_and (pe_cmpR op_ge (pv 2) pe_int (nomark _)) (pe_one (pe_cmpR (op_eqA hu) (pe_callBfun cr_gcd rfl m_gcd (pa_cons (pv 1) (pa_cons (pv 2) pa_nil))) pe_int (nomark _))))))))))), fin_D le kd hq ?_⟩
  repeat walk_at "ar"
  refine isa_tup rfl hn ?_
  refine ⟨_, rfl, fun h => ?_, fun h => ?_⟩
  · have h : isT d = false := by simpa using h
    rw [isF_not h] at hf
    refine ⟨fun _ => ?_, fun h => (nomatch h)⟩
    repeat walk_at "ar"
    exact hf
  have h : isT d = true := by simpa using h
  obtain ⟨xs, rfl⟩ := isT_inv h
  repeat walk_at "ar"
  refine ne_int rfl ?_
  refine ⟨_, rfl, fun h2 => ?_, fun h2 => ?_⟩
  · have h2 : xs.length ≠ 2 := by
      intro e
      rw [e] at h2
      exact absurd h2 (by decide)
    rw [isF_len h2] at hf
    repeat walk_at "ar"
    exact hf
  have h2 : xs.length = 2 := by
    have h2 : ((xs.length : Int) == 2) = true := by simpa using h2
    have := eq_of_beq h2
    omega
  match xs, h2 with
  | [x, y], _ =>
    have tx := ht _ rfl x (by simp)
    have ty := ht _ rfl y (by simp)
    repeat walk_at "ar"
    refine xs_asg (is := [1, 2]) (ev_var rfl ?_)
    refine eg_tup rfl (egs_cons (is := [1]) (js := [2]) (eg_name (egs_cons (is := [2]) (js := []) (eg_name (egs_nil ?_)))))
    repeat walk_at "ar"
    refine ev_call (Z := fun _ _ => False) Flies.none (fun _ => .nil) ?_
    repeat walk_at "ar"
    refine ⟨x, rfl, tx, ?_⟩
    have fin : (isI x = false ∨ isI y = false) → R (.bl false) := fun h => by
      have e : isF (.tup [x, y]) = false := by
        cases q : isF (.tup [x, y]) with
        | false => rfl
        | true =>
          obtain ⟨a, b⟩ := isF_two x y q
          rcases h with h | h
          · rw [h] at a
            cases a
          · rw [h] at b
            cases b
      rw [e] at hf
      exact hf
    refine ⟨_, rfl, fun hx => ?_, fun hx => fin (.inl hx)⟩
    repeat walk_at "ar"
    refine ev_call (Z := fun _ _ => False) Flies.none (fun _ => .nil) ?_
    repeat walk_at "ar"
    refine ⟨y, rfl, ty, ?_⟩
    refine ⟨_, rfl, fun hy => ?_, fun hy => fin (.inr hy)⟩
    obtain ⟨t, rfl⟩ := isI_inv hx
    obtain ⟨l, rfl⟩ := isI_inv hy
    have hf : R (.bl (decide (1 ≤ l) && decide (Nat.gcd t.natAbs l.natAbs = 1))) := hf
    repeat walk_at "ar"
    refine ⟨_, rfl, fun h1 => ?_, fun h1 => ?_⟩
    · have h1 : decide (1 ≤ l) = true := h1
      rw [h1, Bool.true_and] at hf
      repeat walk_at "ar"
      refine eq_int rfl ?_
      have e : (((Nat.gcd t.natAbs l.natAbs : Nat) : Int) == 1) = decide (Nat.gcd t.natAbs l.natAbs = 1) := by
        rw [show ((((Nat.gcd t.natAbs l.natAbs : Nat) : Int) == 1)) = decide (((Nat.gcd t.natAbs l.natAbs : Nat) : Int) = 1) from rfl]
        exact decide_eq_decide.mpr ⟨fun h => by omega, fun h => by omega⟩
      rw [e]
      exact hf
    · have h1 : decide (1 ≤ l) = false := h1
      rw [h1, Bool.false_and] at hf
      exact hf
def fs_aref : FS := fun ds R _ => ∃ d, ds = [d] ∧ Ty3 d ∧ R (.bl (areF d))
theorem ok_aref {f : Addr} {fd : FuncData} (B : Bt mg) (c_is_fraction : Cal P w K mg base CX0 2 "is_fraction" p_is_fraction [] (spD K fs_isfr)) (F : Fun K "are_fractions" "are_fractions" s_are_fractions f fd) : FnG P w K mg base CX0 3 f fd p_are_fractions (spD K fs_aref) := by
  refine okG F sc_are_fractions (spD_len fun ds R Z ⟨q, e, _⟩ => by rw [e]; rfl) (fun cdv A outer s H vs Q E gd hr ⟨G, ds, R, Z, le, kd, hf, hq, hz⟩ => ?_)
  obtain ⟨d, rfl, ⟨hn, ht⟩, hf⟩ := hf
  refine ⟨_, PSs.nox ((pss_one (ps_ret (pe_and (pe_callB (call_isA) rfl B.b_isinstance bt_isinstance (pa_cons (pv 0) (pa_cons (pe_bltn (v := .ty "tuple") rfl B.b_tuple bt_tuple rfl) pa_nil))) (pe_one (pe_callB (cr_all rfl) rfl B.b_all bt_all (pa_cons (pe_lc (own := [("one", 1)]) (g := (gName 1)) (tt := tYes) rfl sc_are_fractions.nd (pi_tup (pv 0)) (blkOk_by (N := n_are_fractions) (sc := defScope s_are_fractions) (by decide +kernel)) (fun _ _ _ _ _ => (pg_name (i := 1) sc_are_fractions.nd rfl (by first | exact Or.inl rfl | exact Or.inr rfl))) (fun _ _ _ _ _ => pts_nil) (fun _ _ _ _ _ => (pe_cal c_is_fraction gd (hr.mono (by first | decide | omega)) pass0 (pa_cons (pv 1) pa_nil)))) pa_nil))))))), fin_D le kd hq ?_⟩
  repeat walk_at "ar"
  refine isa_tup rfl hn ?_
  refine ⟨_, rfl, fun h => ?_, fun h => ?_⟩
  · obtain ⟨xs, rfl⟩ := isT_inv h
    obtain ⟨hl, hx⟩ := ht _ rfl
    repeat walk_at "ar"
    refine EvN.ev (en_lc (is := [1]) (fun _ i acc ρ => acc = (xs.take i).map (fun e => .bl (isF e)) ∧ ρ = [.dat (.tup xs), .un]) (by decide) (ei_tup (ev_var rfl ?_)))
    refine ⟨_, rfl, by omega, ⟨rfl, rfl⟩, fun i d acc ρ hd hI => ?_, fun acc ρ hl2 hI => ?_⟩
    · obtain ⟨rfl, e⟩ := hI
      rw [e]
      refine eg_name (et_yes ⟨fun _ => ?_, fun h => nomatch h⟩)
      refine ev_call (Z := fun _ _ => False) Flies.none (fun _ => .nil) ?_
      repeat walk_at "ar"
      exact ⟨d, rfl, hx d (List.mem_of_getElem? hd), (take_map (f := fun e => D.bl (isF e)) hd).symm, rfl⟩
    · obtain ⟨rfl, e⟩ := hI
      repeat walk_at "ar"
      rw [List.take_length, show xs.map (fun e => D.bl (isF e)) = (xs.map isF).map .bl by rw [List.map_map]; rfl]
      refine rc_k (r := rAll) rfl (rc_all ?_)
      rw [show (xs.map isF).all id = xs.all isF by rw [List.all_map]; rfl]
      exact hf
  · rw [areF_not h] at hf
    exact hf
end
abbrev s_cut : Stmt := topS 10
abbrev n_cut : List Str := ["top", "low", "divisor"]
abbrev p_cut : List Str := ["top", "low"]
theorem sc_cut : FnScope n_cut p_cut (defScope s_cut) := ⟨rfl, rfl, rfl, by decide +kernel, rfl, by decide +kernel, by decide +kernel⟩

section
variable {P : Program} {w : World} {K : PySem.W.Frag} {mg : Str → Option Value} {base : Heap}
def fs_cut : FS := fun ds R _ => ∃ t l : Int, ds = [.int t, .int l] ∧ 0 < l ∧ l.natAbs < 2 ^ 8950 ∧ R (frq (mkRat t l.toNat))
theorem ok_cut {f : Addr} {fd : FuncData} (B : Bt mg) (m_gcd : mg "gcd" = some (.builtin "math.gcd")) (F : Fun K "cut" "cut" s_cut f fd) : FnG P w K mg base CX0 1 f fd p_cut (spD K fs_cut) := by
  refine okG F sc_cut (spD_len fun ds R Z ⟨t, l, e, _⟩ => by rw [e]; rfl) (fun cdv A outer s H vs Q E gd hr ⟨G, ds, R, Z, le, kd, hf, hq, hz⟩ => ?_)
  obtain ⟨t, l, rfl, l0, lb, hf⟩ := hf
  rw [frq_mk l0] at hf
  have hl : 0 < l.natAbs := by omega
  refine ⟨_, PSs.nox ((pss_cons (ps_set (i := 2) sc_cut.nd rfl (by first | exact Or.inl rfl | exact Or.inr rfl) (pe_callBfun cr_gcd rfl m_gcd (pa_cons (pv 0) (pa_cons (pv 1) pa_nil))))
      (pss_one (ps_ret (pe_tup (pa_cons (pe_op op_fdivG (pv 0) (pv 2)) (pa_cons (pe_op op_fdivG (pv 1) (pv 2)) pa_nil))))))), fin_D le kd hq ?_⟩
  repeat walk_at "ev"
  refine xs_set ?_
  repeat walk_at "ev"
  have g0 : 0 < Nat.gcd t.natAbs l.natAbs := Nat.gcd_pos_of_pos_right _ hl
  have g1 : Nat.gcd t.natAbs l.natAbs ≤ l.natAbs := Nat.gcd_le_right _ hl
  generalize Nat.gcd t.natAbs l.natAbs = g at g0 g1 hf
  have gb : ((g : Nat) : Int).natAbs < 2 ^ 8950 := by
    rw [Int.natAbs_natCast]
    exact Nat.lt_of_le_of_lt g1 lb
  refine rd_I (fdivG (a := 8950) (by omega) gb (by decide)) ?_
  repeat walk_at "ev"
  refine rd_I (fdivG (a := 8950) (by omega) gb (by decide)) ?_
  repeat walk_at "ev"
  exact hf
end
end K13
open LamX
namespace K13
variable [TabT] [CacT]

abbrev s_l_odd : Stmt := topS 49
abbrev n_l_odd : List Str := ["_law_pot_here", "_law_some_here"]
abbrev p_l_odd : List Str := ["_law_pot_here"]
theorem sc_l_odd : FnScope n_l_odd p_l_odd (defScope s_l_odd) := ⟨rfl, rfl, rfl, by decide +kernel, rfl, by decide +kernel, by decide +kernel⟩

def odds : List D := [.non, .bl true, .bl false, .int 0, .int 1, .int (-1), .int 7, .int (10 ^ (8 : Int).toNat), .str "", .str "a", .str "nosuch", .str "told", .tup [], .lst [], .dic [], .tup [.int 0], .tup [.tup []], .lst [.int 0], .tup [.int 1, .int 0]] ++
  [.tup [.str "a"], .tup [.str "a", .str "b"], .tup [.int 1, .int 2], .tup [.int 2, .int 4], .tup [.int 0, .int 1], .tup [.tup [.int 1, .int 1]], .tup [.non], .dic [(.inr "a", .int 1)], .str "A", .tup [.str "told", .tup []], .str "1"]
section
variable {P : Program} {w : World} {K : PySem.W.Frag} {mg : Str → Option Value} {base : Heap}
def fp_odd : FP := fun k ds R _ => ds = [] ∧ k < 2 ^ 40 ∧ ∀ x ∈ odds, R x (k + 1)
theorem ok_odd {f : Addr} {fd : FuncData} (B : Bt mg) (c_l_of : Cal P w K mg base CX0 2 "_law_of" p_l_of [] (spP K fp_of)) (F : Fun K "_law_odd" "_law_odd" s_l_odd f fd) : FnG P w K mg base CX0 3 f fd p_l_odd (spP K fp_odd) := by
  refine okG F sc_l_odd (spP_len fun k ds R Z ⟨e, _⟩ => by rw [e]; rfl) (fun cdv A outer s H vs Q E gd hr ⟨a, ws, G, ds, k, R, Z, ev, le, ga, pa, kd, hf, hq, hz⟩ => ?_)
  obtain ⟨rfl, k1, hf⟩ := hf
  subst ev
  refine ⟨_, PSs.nox ((pss_cons (ps_set (i := 1) sc_l_odd.nd rfl (by first | exact Or.inl rfl | exact Or.inr rfl) (pe_lst (pa_cons pe_non (pa_cons pe_bl (pa_cons pe_bl (pa_cons pe_int (pa_cons pe_int (pa_cons (pe_un un_neg pe_int) (pa_cons pe_int (pa_cons (pe_op op_powG pe_int pe_int) (pa_cons pe_str (pa_cons pe_str (pa_cons pe_str (pa_cons pe_str (pa_cons (pe_tup pa_nil) (pa_cons (pe_lst pa_nil) (pa_cons pe_dnewK (pa_cons (pe_tup (pa_cons pe_int pa_nil)) (pa_cons (pe_tup (pa_cons (pe_tup pa_nil) pa_nil)) (pa_cons (pe_lst (pa_cons pe_int pa_nil)) (pa_cons (pe_tup (pa_cons pe_int (pa_cons pe_int pa_nil))) pa_nil)))))))))))))))))))))
      (pss_cons (ps_set (i := 1) sc_l_odd.nd rfl (by first | exact Or.inl rfl | exact Or.inr rfl) (pe_op op_plus (pv 1) (pe_lst (pa_cons (pe_tup (pa_cons pe_str pa_nil)) (pa_cons (pe_tup (pa_cons pe_str (pa_cons pe_str pa_nil))) (pa_cons (pe_tup (pa_cons pe_int (pa_cons pe_int pa_nil))) (pa_cons (pe_tup (pa_cons pe_int (pa_cons pe_int pa_nil))) (pa_cons (pe_tup (pa_cons pe_int (pa_cons pe_int pa_nil))) (pa_cons (pe_tup (pa_cons (pe_tup (pa_cons pe_int (pa_cons pe_int pa_nil))) pa_nil)) (pa_cons (pe_tup (pa_cons pe_non pa_nil)) (pa_cons (pe_disp (pps_cons pe_str pe_int pps_nil) rfl rfl (by simp) (by decide)) (pa_cons pe_str (pa_cons (pe_tup (pa_cons pe_str (pa_cons (pe_tup pa_nil) pa_nil))) (pa_cons pe_str pa_nil))))))))))))))
      (pss_one (ps_ret (pe_cal c_l_of gd (hr.mono (by first | decide | omega)) pass0 (pa_cons (pv 0) (pa_cons (pv 1) pa_nil)))))))), fin_P le ga pa kd hq ?_⟩
  refine xs_seq (xs_set ?_)
  repeat walk_at "ev"
  refine rd_I (powG (a := 10) (by decide) (by decide) (by decide)) ?_
  repeat walk_at "ev"
  refine ev_dnew ?_
  repeat walk_at "ev"
  refine xs_set ?_
  repeat walk_at "ev"
  refine ev_disp1 ?_
  repeat walk_at "ev"
  refine rd_k (r := rPlus) rfl (plus_lst (by decide) ?_)
  refine xs_ret (ev_callP (Z := fun _ _ => False) Flies.none (fun _ => .nil) (by exact ⟨_, _, rfl⟩) ?_)
  repeat walk_at "ar"
  refine ⟨_, _, rfl, odds, rfl, by decide, by decide, k1, fun x hx => ?_⟩
  exact ⟨_, rfl, hf x hx⟩
end
abbrev s_l_net : Stmt := topS 44
abbrev n_l_net : List Str := ["_law_lore_here"]
abbrev p_l_net : List Str := ["_law_lore_here"]
theorem sc_l_net : FnScope n_l_net p_l_net (defScope s_l_net) := ⟨rfl, rfl, rfl, by decide +kernel, rfl, by decide +kernel, by decide +kernel⟩

section
variable {P : Program} {w : World} {K : PySem.W.Frag} {mg : Str → Option Value} {base : Heap}
def loreT (ps ws : List Str) (ts : List (List Str)) : Str := Txt.join "\n" ((netRows ps ws ts).map lineOf)
theorem Lore.rows {few most : Nat} {ps ws : List Str} {ts : List (List Str)} (L : Lore few most ps ws ts) (m8 : most ≤ 8) : ∀ r ∈ netRows ps ws ts, Rw r := by
  have lw : ws.length ≤ ps.length := by
    rw [L.wq]
    exact List.length_filter_le _ _
  have lp := L.lm
  have wdp : ∀ x ∈ ps, Wd x := fun x hx => pool_wd x (L.sub x hx)
  have wdw : ∀ x ∈ ws, Wd x := fun x hx => by
    rw [L.wq] at hx
    exact wdp x (seq_mem.mp hx).1
  intro r hr
  rcases List.mem_cons.mp hr with rfl | hr
  · exact ⟨wdb_ok (x := "places") (by decide +kernel), by show ps.length ≤ 20; omega, wdp⟩
  rcases List.mem_cons.mp hr with rfl | hr
  · exact ⟨wdb_ok (x := "watchers") (by decide +kernel), by show ws.length ≤ 20; omega, wdw⟩
  obtain ⟨t, ht, rfl⟩ := List.mem_map.mp hr
  obtain ⟨x, y, rfl, hx, hy⟩ := pairs_in (L.ti t ht)
  refine ⟨wdb_ok (x := "tie") (by decide +kernel), by show 2 ≤ 20; decide, fun z hz => ?_⟩
  rcases List.mem_cons.mp hz with rfl | hz
  · exact wdp _ hx
  · rw [List.mem_singleton.mp hz]
    exact wdp _ hy
theorem Lore.net {few most : Nat} {ps ws : List Str} {ts : List (List Str)} (L : Lore few most ps ws ts) (f3 : 3 ≤ few) (m8 : most ≤ 8) : TextOk (loreT ps ws ts) (netRows ps ws ts) ∧ netOf (netRows ps ws ts) = .ok (ps, ws, ts) := by
  have lp := L.lm
  have lf := L.lf
  have tl := L.tl
  have hl : (netRows ps ws ts).length = ts.length + 2 := by simp [netRows]
  have t1 : 1 ≤ ts.length := by
    rcases Nat.lt_or_ge 0 ts.length with h | h
    · exact h
    · exact absurd (List.eq_nil_of_length_eq_zero (by omega)) L.t0
  have hp : padR (netRows ps ws ts) = netRows ps ws ts := by
    unfold padR
    rw [if_neg (by omega)]
  refine ⟨?_, ?_⟩
  · have := text_ok (rows := netRows ps ws ts) (by simp [netRows]) (by omega) (L.rows m8)
    rw [hp] at this
    exact this
  · have h1 := rp_yes L.nd L.sub (by omega) (by omega)
    have h2 := rw_yes L.w2 L.wq
    have h3 := ties_go (ps := ps) (A := ts) (acc := []) (n := 3) (B := []) (fun t ht => by
      obtain ⟨x, y, e, _, _⟩ := pairs_in (L.ti t ht)
      exact ⟨by rw [e]; rfl, pairs_seq L.nd (L.ti t ht)⟩) (by rw [List.nil_append]; exact L.tn) (by simp; omega)
    rw [List.append_nil] at h3
    show netOf (("places", ps) :: ("watchers", ws) :: ts.map tieR) = _
    rw [net_cons, if_pos h1, if_pos h2, h3]
    rfl
def fs_net (C_Net : Addr) : FS := fun ds R _ => ∃ few most ps ws ts, ds = [loreD ps ws ts] ∧ Lore few most ps ws ts ∧ 3 ≤ few ∧ most ≤ 8 ∧ R (.ins C_Net (netFs (loreT ps ws ts) (ps, ws, ts)))
theorem ok_net {f fN C_BadNet C_Net : Addr} {fd fdN : FuncData} (B : Bt mg) (m_Net : mg "Net" = some (.ref C_Net)) (M_Net : Mk K C_Net fN) (F_Net_init : FnG P w K mg base (L2.CX P w) 4 fN fdN p_Net_init (spI K C_Net (fi_net C_BadNet))) (b_Net_init : Binds K fdN p_Net_init [])
    (c_l_text : Cal P w K mg base CX0 1 "_law_text" p_l_text [] (spD K fs_text)) (F : Fun K "_law_net" "_law_net" s_l_net f fd) : FnG P w K mg base CX0 6 f fd p_l_net (spD K (fs_net C_Net)) := by
  refine okG F sc_l_net (spD_len fun ds R Z ⟨_, _, _, _, _, e, _⟩ => by rw [e]; rfl) (fun cdv A outer s H vs Q E gd hr ⟨G, ds, R, Z, le, kd, hf, hq, hz⟩ => ?_)
  obtain ⟨few, most, ps, ws, ts, rfl, L, f3, m8, hf⟩ := hf
  refine ⟨_, PSs.nox ((pss_one (ps_ret (pe_makeG gd M_Net F_Net_init (hr.mono (by first | decide | omega)) b_Net_init passN rfl m_Net (pa_cons (pe_cal c_l_text gd (hr.mono (by first | decide | omega)) pass0 (pa_cons (pv 0) pa_nil)) pa_nil))))), fin_D le kd hq ?_⟩
  obtain ⟨T, N⟩ := L.net f3 m8
  refine xs_ret (ev_make (Z := fun _ _ => False) Flies.none (ea_cons (ev_call (Z := fun _ _ => False) Flies.none (fun _ => .nil) (ea_cons (ev_var rfl (ea_nil ?_))))))
  refine ⟨few, most, ps, ws, ts, rfl, L, m8, ea_nil ?_⟩
  refine .inr ⟨_, _, rfl, T, fun n hn => ?_, fun n hn => ?_⟩
  · rw [N] at hn
    cases hn
    exact hf
  · rw [N] at hn
    cases hn
end
end K13
set_option exponentiation.threshold 20000
/-! math.lcm, sum -/
namespace DL
open PySem PySem.Spec PyProof.Rows L2
theorem log_le {n k : Nat} (h : n < 2 ^ (k + 1)) : n.log2 ≤ k := PySem.W.mg_log h
def rLcm : List V → Hp → VK → Prop := fun vs H Q => ∃ a b : Int, vs = [.int a, .int b] ∧ a.natAbs < 2 ^ 3000 ∧ b.natAbs < 2 ^ 3000 ∧ Q (.int ((Nat.lcm a.natAbs b.natAbs : Nat) : Int)) H
theorem cr_lcm {X : Cx} : CallR X (.builtin "math.lcm") rLcm := by
  intro pins s σ H vs us Q I r h
  obtain ⟨a, b, rfl, ha, hb, q⟩ := h
  obtain ⟨t, u, rfl⟩ := Vals.int2 r
  have one : 1 < 2 ^ 3000 := Nat.one_lt_two_pow (by decide)
  have h1 : (max 1 a.natAbs).log2 ≤ 2999 := log_le (k := 2999) (by omega)
  have h2 : (max a.natAbs b.natAbs).log2 ≤ 2999 := log_le (k := 2999) (by omega)
  have e1 : Nat.lcm 1 a.natAbs = a.natAbs := PySem.W.mc_lcm_one _
  have hl : (a.natAbs.lcm b.natAbs).log2 < bitsLine := by
    have h3 : a.natAbs.lcm b.natAbs ≤ a.natAbs * b.natAbs := PySem.W.mc_lcm_le _ _
    have h4 : a.natAbs * b.natAbs < 2 ^ 3000 * 2 ^ 3000 := Nat.mul_lt_mul'' ha hb
    rw [← Nat.pow_add] at h4
    have h5 := log_le (k := 5999) (Nat.lt_of_le_of_lt h3 h4)
    exact Nat.lt_of_le_of_lt h5 (by decide)
  refine call_function_meets PySem.W.MGF.kind_lcm PySem.W.MGF.plain_lcm PySem.W.MGF.entry_lcm (PySem.W.MGF.args_lcm _ _) (PySem.W.mg_run_lcm a t b u (by omega) (by omega) (by rw [e1]; exact hl)).meets ?_
  rw [e1]
  exact ⟨.int _, H, I.tok _, ⟨_, rfl⟩, q⟩
section
variable [TabT] [CacT] {K K' : PySem.W.Frag} {P : D → Prop}
theorem rc_lcm {i j : Int} (h1 : i.natAbs < 2 ^ 3000) (h2 : j.natAbs < 2 ^ 3000) (p : P (.int ((Nat.lcm i.natAbs j.natAbs : Nat) : Int))) : RC1 K rLcm [.int i, .int j] P := fun G H vs Q le a q => by
  obtain ⟨v, u, rfl, k, l⟩ := a.two
  cases k
  cases l
  exact ⟨i, j, rfl, h1, h2, q _ _ G H (Ext.refl le) (Same.refl _) p (.int _)⟩
theorem ints_isL {G : Hp} : ∀ {vs : List V} {ns : List Int}, IsL K G vs (ns.map D.int) → vs = ns.map V.int
  | _, [], .nil => rfl
  | _, n :: ns, .cons h t => by
    cases h
    rw [List.map_cons, ints_isL t]
theorem rc_sum {ns : List Int} (hK : K' = K) (p : P (.int ns.sum)) : RC1 K (rSum K') [.lst (ns.map .int)] P := fun G H vs Q le a q => by
  subst hK
  obtain ⟨v, rfl, k⟩ := a.one
  cases k with
  | @lst b ws _ h1 h2 =>
    cases ints_isL h2
    exact ⟨b, ns, rfl, .inl (.inl (le _ _ h1)), q _ _ G H (Ext.refl le) (Same.refl _) p (.int _)⟩
end
end DL
open LamX
namespace K13
variable [TabT] [CacT]

abbrev s_in_integers : Stmt := topS 12
abbrev n_in_integers : List Str := ["fractions", "low", "_", "under", "top"]
abbrev p_in_integers : List Str := ["fractions"]
theorem sc_in_integers : FnScope n_in_integers p_in_integers (defScope s_in_integers) := ⟨rfl, rfl, rfl, by decide +kernel, rfl, by decide +kernel, by decide +kernel⟩

abbrev s_sum_along : Stmt := topS 13
abbrev n_sum_along : List Str := ["row", "difference", "tie"]
abbrev p_sum_along : List Str := ["row", "difference"]
theorem sc_sum_along : FnScope n_sum_along p_sum_along (defScope s_sum_along) := ⟨rfl, rfl, rfl, by decide +kernel, rfl, by decide +kernel, by decide +kernel⟩

section
variable {P : Program} {w : World} {K : PySem.W.Frag} {mg : Str → Option Value} {base : Heap}
def lcmN (qs : List Rat) : Nat := qs.foldl (fun l q => Nat.lcm l q.den) 1
def topQ (l : Nat) (q : Rat) : Int := q.num * (((l / q.den : Nat)) : Int)
theorem lcm_snoc (qs : List Rat) (q : Rat) : lcmN (qs ++ [q]) = Nat.lcm (lcmN qs) q.den := by
  unfold lcmN
  rw [List.foldl_append]
  rfl
theorem lcm_lt {c : Nat} : ∀ {qs : List Rat}, (∀ q ∈ qs, Sm c q) → lcmN qs ≤ 2 ^ (c * qs.length) := by
  intro qs
  have key : ∀ (qs : List Rat) (l m : Nat), (∀ q ∈ qs, Sm c q) → l ≤ 2 ^ m → qs.foldl (fun l q => Nat.lcm l q.den) l ≤ 2 ^ (m + c * qs.length) := by
    intro qs
    induction qs with
    | nil =>
      intro l m _ h
      simpa using h
    | cons q qs ih =>
      intro l m hq h
      rw [List.foldl_cons]
      have h1 : Nat.lcm l q.den ≤ 2 ^ (m + c) := by
        refine Nat.le_trans (PySem.W.mc_lcm_le _ _) ?_
        rw [Nat.pow_add]
        exact Nat.mul_le_mul h (Nat.le_of_lt (hq q List.mem_cons_self).2)
      have h2 := ih _ (m + c) (fun r hr => hq r (List.mem_cons_of_mem _ hr)) h1
      rw [List.length_cons, Nat.mul_succ]
      rw [show m + (c * qs.length + c) = m + c + c * qs.length by omega]
      exact h2
  intro h
  have := key qs 1 0 h (Nat.le_refl _)
  rw [Nat.zero_add] at this
  exact this
theorem lcm_pos : ∀ qs : List Rat, 0 < lcmN qs := by
  intro qs
  have key : ∀ (qs : List Rat) (l : Nat), 0 < l → 0 < qs.foldl (fun l q => Nat.lcm l q.den) l := by
    intro qs
    induction qs with
    | nil => intro l h; exact h
    | cons q qs ih =>
      intro l h
      exact ih _ (Nat.lcm_pos h q.den_pos)
  exact key qs 1 (by decide)
theorem lcm_nb {c : Nat} {qs : List Rat} (h : ∀ q ∈ qs, Sm c q) (hc : c * qs.length ≤ 2900) : (((lcmN qs : Nat) : Int)).natAbs < 2 ^ 3000 := by
  rw [Int.natAbs_natCast]
  refine Nat.lt_of_le_of_lt (lcm_lt h) ?_
  exact Nat.pow_lt_pow_right (by decide) (by omega)
def fs_inint : FS := fun ds R _ => ∃ qs : List Rat, ds = [.tup (qs.map frq)] ∧ qs.length ≤ 100 ∧ (∀ q ∈ qs, Sm 28 q) ∧ R (.tup [.int ((lcmN qs : Nat) : Int), .lst ((qs.map (topQ (lcmN qs))).map .int)])
theorem ok_inint {f : Addr} {fd : FuncData} (B : Bt mg) (m_lcm : mg "lcm" = some (.builtin "math.lcm")) (F : Fun K "in_integers" "in_integers" s_in_integers f fd) : FnG P w K mg base CX0 1 f fd p_in_integers (spD K fs_inint) := by
  refine okG F sc_in_integers (spD_len fun ds R Z ⟨q, e, _⟩ => by rw [e]; rfl) (fun cdv A outer s H vs Q E gd hr ⟨G, ds, R, Z, le, kd, hf, hq, hz⟩ => ?_)
  have hu : (cxOf CX0 P w K mg base n_in_integers "in_integers" (defScope s_in_integers) f cdv A outer s H E).nox.A.units + 64 < cLine := hr.units
  obtain ⟨qs, rfl, hl, hS, hf⟩ := hf
  refine ⟨_, PSs.nox ((pss_cons (ps_set (i := 1) sc_in_integers.nd rfl (by first | exact Or.inl rfl | exact Or.inr rfl) pe_int)
      (pss_cons (ps_for PassesOwn.never rfl (pi_tup (pv 0)) (pg_tup rfl (pgs_cons (pg_name (i := 2) sc_in_integers.nd rfl (by first | exact Or.inl rfl | exact Or.inr rfl)) (pgs_cons (pg_name (i := 3) sc_in_integers.nd rfl (by first | exact Or.inl rfl | exact Or.inr rfl)) pgs_nil)))
      (pss_one (ps_set (i := 1) sc_in_integers.nd rfl (by first | exact Or.inl rfl | exact Or.inr rfl) (pe_callBfun cr_lcm rfl m_lcm (pa_cons (pv 1) (pa_cons (pv 3) pa_nil))))))
      (pss_one (ps_ret (pe_tup (pa_cons (pv 1) (pa_cons (pe_lc (own := [("top", 4), ("under", 3)]) (g := (gTup K 2 (gCons (gName 4) (gCons (gName 3) gNil)))) (tt := tYes) rfl sc_in_integers.nd (pi_tup (pv 0)) (blkOk_by (N := n_in_integers) (sc := defScope s_in_integers) (by decide +kernel)) (fun _ _ _ _ _ => (pg_tup rfl (pgs_cons (pg_name (i := 4) sc_in_integers.nd rfl (by first | exact Or.inl rfl | exact Or.inr rfl)) (pgs_cons (pg_name (i := 3) sc_in_integers.nd rfl (by first | exact Or.inl rfl | exact Or.inr rfl)) pgs_nil)))) (fun _ _ _ _ _ => pts_nil) (fun _ _ _ _ _ => (pe_op (kTimes (K := K) rfl) (pv 4) (pe_op op_fdivG (pv 1) (pv 3))))) pa_nil)))))))), fin_D le kd hq ?_⟩
  refine xs_seq (xs_set (ev_int ?_))
  refine xs_seq (xs_for (is := [2, 3]) (fun _ i ρ => ∃ a b, ρ = [.dat (.tup (qs.map frq)), .dat (.int ((lcmN (qs.take i) : Nat) : Int)), a, b, .un]) (ei_tup (ev_var rfl ?_)))
  refine ⟨_, rfl, ⟨_, _, rfl⟩, fun i d ρ hd hI => ?_, fun ρ hI => ?_⟩
  · obtain ⟨a, b, rfl⟩ := hI
    rw [List.getElem?_map] at hd
    obtain ⟨q, hq2, rfl⟩ := Option.map_eq_some_iff.mp hd
    have hqm := List.mem_of_getElem? hq2
    have hil := (List.getElem?_eq_some_iff.mp hq2).1
    refine eg_tup rfl (egs_cons (is := [2]) (js := [3]) (eg_name (egs_cons (is := [3]) (js := []) (eg_name (egs_nil ?_)))))
    refine xs_set (ev_cb (ea_cons (ev_var rfl (ea_cons (ev_var rfl (ea_nil (rc_lcm ?_ ?_ ?_)))))))
    · exact lcm_nb (c := 28) (fun r hr => hS r (List.mem_of_mem_take hr)) (by rw [List.length_take]; omega)
    · rw [Int.natAbs_natCast]
      exact Nat.lt_trans (hS q hqm).2 (Nat.pow_lt_pow_right (by decide) (by decide))
    · refine ⟨Slot.dat (.int q.num), Slot.dat (.int (q.den : Int)), ?_⟩
      rw [List.take_succ, hq2]
      show _ = [_, Slot.dat (.int ((lcmN (_ ++ [q]) : Nat) : Int)), _, _, _]
      rw [lcm_snoc, Int.natAbs_natCast, Int.natAbs_natCast]
      rfl
  · obtain ⟨a, b, rfl⟩ := hI
    rw [List.length_map, List.take_length]
    have hlow := lcm_nb hS (by omega)
    refine xs_ret (ev_tup (ea_cons (ev_var rfl (ea_cons (EvN.ev (en_lc (is := [4, 3]) (fun _ i acc ρ => acc = ((qs.take i).map (topQ (lcmN qs))).map .int ∧ ρ = [.dat (.tup (qs.map frq)), .dat (.int ((lcmN qs : Nat) : Int)), a, .un, .un]) (by simp) (ei_tup (ev_var rfl ?_))))))))
    refine ⟨_, rfl, by rw [List.length_map]; omega, ⟨rfl, rfl⟩, fun i d acc ρ hd hI => ?_, fun acc ρ hl2 hI => ?_⟩
    · obtain ⟨rfl, e⟩ := hI
      rw [e]
      rw [List.getElem?_map] at hd
      obtain ⟨q, hq2, rfl⟩ := Option.map_eq_some_iff.mp hd
      have hqm := List.mem_of_getElem? hq2
      refine eg_tup rfl (egs_cons (is := [4]) (js := [3]) (eg_name (egs_cons (is := [3]) (js := []) (eg_name (egs_nil ?_)))))
      refine et_yes ⟨fun _ => ?_, fun h => nomatch h⟩
      refine ev_op (ev_var rfl (ev_op (ev_var rfl (ev_var rfl ?_))))
      have hd0 : (q.den : Int) ≠ 0 := by have := q.den_pos; omega
      have hdb : ((q.den : Int)).natAbs < 2 ^ 28 := by rw [Int.natAbs_natCast]; exact (hS q hqm).2
      refine rd_I (fdivG (a := 28) hd0 hdb (by decide)) ?_
      have ef : ((lcmN qs : Nat) : Int).fdiv (q.den : Int) = ((lcmN qs / q.den : Nat) : Int) := by
        rw [Int.fdiv_eq_ediv_of_nonneg _ (by omega)]
        rfl
      rw [ef]
      have hb : (((lcmN qs / q.den : Nat)) : Int).natAbs < 2 ^ 3000 := by
        rw [Int.natAbs_natCast] at hlow ⊢
        exact Nat.lt_of_le_of_lt (Nat.div_le_self _ _) hlow
      refine rd_k (r := rTimesA) rfl (DL.mul_int (mulW (a := 28) (b := 3000) (hS q hqm).1 hb (by decide)) ?_)
      refine ⟨?_, rfl⟩
      rw [List.take_succ, hq2]
      show _ = ((_ ++ [q]).map _).map _
      rw [List.map_append, List.map_append]
      rfl
    · obtain ⟨rfl, e⟩ := hI
      rw [List.length_map, List.take_length]
      exact ea_nil ⟨Nat.le_of_ble_eq_true rfl, hf⟩
/-- the sum along a row of numbers of ties -/
def sumR (ts : List Int) (ks : List Int) : Int := (ks.map fun k => ts.getD k.toNat 0).sum
def fs_sumal : FS := fun ds R _ => ∃ (ks ts : List Int), ds = [.tup (ks.map .int), .lst (ts.map .int)] ∧ ks.length ≤ 1000 ∧ (∀ k ∈ ks, ∃ j : Nat, k = (j : Int) ∧ j < ts.length) ∧ R (.int (sumR ts ks))
theorem ok_sumal {f : Addr} {fd : FuncData} (B : Bt mg) (F : Fun K "sum_along" "sum_along" s_sum_along f fd) : FnG P w K mg base CX0 1 f fd p_sum_along (spD K fs_sumal) := by
  refine okG F sc_sum_along (spD_len fun ds R Z ⟨_, _, e, _⟩ => by rw [e]; rfl) (fun cdv A outer s H vs Q E gd hr ⟨G, ds, R, Z, le, kd, hf, hq, hz⟩ => ?_)
  have hu : (cxOf CX0 P w K mg base n_sum_along "sum_along" (defScope s_sum_along) f cdv A outer s H E).nox.A.units + 64 < cLine := hr.units
  obtain ⟨ks, ts, rfl, hl, hk, hf⟩ := hf
  refine ⟨_, PSs.nox ((pss_one (ps_ret (pe_callB (cr_sum rfl) rfl B.b_sum bt_sum (pa_cons (pe_lc (own := [("tie", 2)]) (g := (gName 2)) (tt := tYes) rfl sc_sum_along.nd (pi_tup (pv 0)) (blkOk_by (N := n_sum_along) (sc := defScope s_sum_along) (by decide +kernel)) (fun _ _ _ _ _ => (pg_name (i := 2) sc_sum_along.nd rfl (by first | exact Or.inl rfl | exact Or.inr rfl))) (fun _ _ _ _ _ => pts_nil) (fun _ _ _ _ _ => (pe_ix (kIx (K := K) rfl) (pv 1) (pv 2) (fun _ _ => rfl)))) pa_nil))))), fin_D le kd hq ?_⟩
  refine xs_ret (ev_cb (ea_cons (EvN.ev (en_lc (is := [2]) (fun _ i acc ρ => acc = ((ks.take i).map fun k => ts.getD k.toNat 0).map .int ∧ ρ = [.dat (.tup (ks.map .int)), .dat (.lst (ts.map .int)), .un]) (by simp) (ei_tup (ev_var rfl ?_))))))
  refine ⟨_, rfl, by rw [List.length_map]; omega, ⟨rfl, rfl⟩, fun i d acc ρ hd hI => ?_, fun acc ρ hl2 hI => ?_⟩
  · obtain ⟨rfl, e⟩ := hI
    rw [e]
    rw [List.getElem?_map] at hd
    obtain ⟨k, hk2, rfl⟩ := Option.map_eq_some_iff.mp hd
    obtain ⟨j, rfl, hj⟩ := hk k (List.mem_of_getElem? hk2)
    have hg : (ts.map D.int)[j]? = some (.int ts[j]) := by
      rw [List.getElem?_map, List.getElem?_eq_getElem hj]
      rfl
    refine eg_name (et_yes ⟨fun _ => ev_op (ev_var rfl (ev_var rfl (ix_lst ⟨j, rfl, hg⟩ ?_))), fun h => nomatch h⟩)
    refine ⟨?_, rfl⟩
    rw [List.take_succ, hk2]
    show _ = ((_ ++ [((j : Nat) : Int)]).map _).map _
    rw [List.map_append, List.map_append]
    congr 1
    simp [List.getD, List.getElem?_eq_getElem hj]
  · obtain ⟨rfl, e⟩ := hI
    rw [List.length_map, List.take_length]
    exact ea_nil (rc_sum rfl hf)
end
end K13
/-! len(o), x in o of an own class -/
namespace DL
open PySem PySem.Spec PyProof.Rows L2
variable [TabT] [CacT]
/-- where a special method of the class at C stands -/
structure Spc (K : PySem.W.Frag) (C : Addr) (n : Str) (f : Addr) : Prop where
  at_ : PySem.W.findIn K (.ref C) n = some (some (.ref f))
  fn : PySem.W.isFn K (.ref f) = true
section
variable {X : Cx} {CX : CXT} {k : Nat} {f C : Addr} {fd : FuncData} {ps : List Str} {sp : Sp} {E : XK} {A1 : Around}
theorem run_A {pins : List (Addr × Obj)} {σ : L2.St} {H : Hp} {s : Shared} {Q : VK} {us : List Value} {vs : List V} (gd : A1.guards = some []) (fr : A1.frames = X.A.frames) (F : FnG X.prog X.w X.K X.mg X.base CX k f fd ps sp) (hr : Room k A1) (hb : Binds X.K fd ps []) (hx : Passes CX X E)
    (I : Inv X pins σ H s) (r : Vals vs us) (h : sp vs H Q E) : wpAny (model X.prog X.w) A1 (call (.ref f) us) (EP X pins σ Q) X.xe s := by
  have e0 : Env0 X.prog X.w X.K X.mg X.base A1 X.stack s H :=
    let e := I.env0
    ⟨fr ▸ e.frames, e.mod, e.bs, e.bsz, e.funs, e.frf, e.hok, e.bare⟩
  have key := F.run A1 X.stack s H ⟨us, []⟩ us vs Q E gd hr e0 (by
    have := hb s us I.kIn (by rw [List.append_nil, ← r.length]; exact F.len _ _ _ _ h)
    rwa [List.append_nil] at this) r h
  refine wpAny_call (codeAny_mono key fun r s' hq => ?_)
  match r, hq with
  | .error e, hq => exact hx pins σ H s e s' I hq
  | .ok (.ret u), hq => exact I.after hq
def rLenO (C : Addr) (sp : Sp) (E : XK) : List V → Hp → VK → Prop := fun xs H Q => ∃ a dx fs, xs = [.ref a] ∧ H a = some (.ins C dx fs) ∧ sp [.ref a] H (fun v H' => ∃ n : Nat, v = .int (n : Int) ∧ n < 2 ^ 62 ∧ Q v H') E
theorem call_lenO (gd : X.A.guards = some []) (F : FnG X.prog X.w X.K X.mg X.base CX k f fd ps sp) (hr : Room (k + 1) X.A) (hb : Binds X.K fd ps []) (hs : Spc X.K C "__len__" f) (hx : Passes CX X E) : CallR X (.builtin "len") (rLenO C sp E) := by
  intro pins s σ H xs us Q I rv ⟨a, dx, fs, e, ha, h⟩
  subst e
  obtain ⟨u, rfl, ru⟩ := rv.one
  cases ru
  obtain ⟨mA, J, _⟩ := ins_get I.hok ha
  obtain ⟨od, J, _⟩ := J.look
  obtain ⟨m, hF⟩ := I.fr
  refine PySem.W.len_K hF I.ok.mod.kin J hs.at_ hs.fn (wpAny_mono (run_A (A1 := X.A.in1) gd rfl F hr.in1 hb hx I (vs := [V.ref a]) (us := [Value.ref a]) (.cons rfl .nil) h) (fun r s' ⟨v, H', I', rv, n, e, hn, q⟩ => ?_) fun _ _ y => y)
  subst e
  obtain ⟨t, rfl⟩ := rv
  exact ⟨⟨by omega, by omega⟩, .int (n : Int), H', I'.tok _, ⟨_, rfl⟩, q⟩
def rInO (C : Addr) (sp : Sp) (E : XK) : R2 := fun x y H Q => ∃ a dx fs, y = .ref a ∧ H a = some (.ins C dx fs) ∧ sp [.ref a, x] H (fun v H' => ∃ b, v = .bl b ∧ Q v H') E
theorem op_inO (gd : X.A.guards = some []) (F : FnG X.prog X.w X.K X.mg X.base CX k f fd ps sp) (hr : Room k X.A) (hb : Binds X.K fd ps []) (hs : Spc X.K C "__contains__" f) (hx : Passes CX X E) : OpR X (compareOp .In) (rInO C sp E) := by
  intro pins s σ H x y v u Q I rx ry ⟨a, dx, fs, e, ha, h⟩
  subst e
  cases ry
  obtain ⟨mA, J, _⟩ := ins_get I.hok ha
  obtain ⟨od, J, _⟩ := J.look
  obtain ⟨m, hF⟩ := I.fr
  refine PySem.W.in_K hF I.ok.mod.kin J hs.at_ hs.fn (wpAny_mono (run_A gd rfl F hr hb hx I (vs := [V.ref a, x]) (us := [Value.ref a, v]) (.cons rfl (.cons rx .nil)) h) (fun r s' ⟨v, H', I', rv, b, e, q⟩ => ?_) fun _ _ y => y)
  subst e
  cases rv
  exact wpAny_truthy_bool ⟨.bl b, H', I', rfl, q⟩
end
section
variable {K K' : PySem.W.Frag} {P : D → Prop} {C : Addr} {f : FS} {E : XK} {fs : List (Str × D)}
theorem rc_lenO (hK : K' = K) (hE : ∀ G H, Flies K G H (fun _ => False) (fun _ _ => False) E) (h : f [.ins C fs] (fun d => ∃ n : Nat, d = .int (n : Int) ∧ n < 2 ^ 62 ∧ P d) fun _ _ => False) : RC1o K (rLenO C (spD K' f) E) [.ins C fs] P := fun G H vs Q le a q => by
  subst hK
  obtain ⟨v, rfl, k1⟩ := a.one
  have k2 := k1
  cases k1 with
  | ins h1 t1 =>
    obtain ⟨fs', e3, _⟩ := le.ins h1
    refine ⟨_, _, _, rfl, e3, G, _, _, _, le, .cons k2 .nil, h, fun v d G' H' e i r => ?_, hE G H⟩
    obtain ⟨n, rfl, hn, p⟩ := r
    cases i
    exact ⟨n, rfl, hn, q _ _ G' H' e p (.int _)⟩
theorem rd_inO (hK : K' = K) {x : D} (hE : ∀ G H, Flies K G H (fun _ => False) (fun _ _ => False) E) (h : f [.ins C fs, x] (fun d => ∃ b, d = .bl b ∧ P d) fun _ _ => False) : RDo K (rInO C (spD K' f) E) x (.ins C fs) P := fun G H v u Q le a b q => by
  subst hK
  have b2 := b
  cases b with
  | ins h1 t1 =>
    obtain ⟨fs', e3, _⟩ := le.ins h1
    refine ⟨_, _, _, rfl, e3, G, _, _, _, le, .cons b2 (.cons a .nil), h, fun v d G' H' e i r => ?_, hE G H⟩
    obtain ⟨k, rfl, p⟩ := r
    cases i
    exact ⟨k, rfl, q _ _ G' H' e p (.bl _)⟩
end
end DL
open LamX
namespace K13
variable [TabT] [CacT]

abbrev s_Net_len : Stmt := clsDef (topS 33) 2
abbrev n_Net_len : List Str := ["self"]
abbrev p_Net_len : List Str := ["self"]
theorem sc_Net_len : FnScope n_Net_len p_Net_len (defScope s_Net_len) := ⟨rfl, rfl, rfl, by decide +kernel, rfl, by decide +kernel, by decide +kernel⟩

section
variable {P : Program} {w : World} {K : PySem.W.Frag} {mg : Str → Option Value} {base : Heap}
def fs_nlen (C_Net : Addr) : FS := fun ds R _ => ∃ text n, ds = [.ins C_Net (netFs text n)] ∧ R (.int (n.2.2.length : Nat))
theorem ok_nlen {f C_Net : Addr} {fd : FuncData} (B : Bt mg) (c_Net : Cls K C_Net) (a_ties : NoAttr K C_Net "ties") (F : Fun K "__len__" "Net.__len__" s_Net_len f fd) : FnG P w K mg base CX0 1 f fd p_Net_len (spD K (fs_nlen C_Net)) := by
  refine okG F sc_Net_len (spD_len fun ds R Z ⟨_, _, e, _⟩ => by rw [e]; rfl) (fun cdv A outer s H vs Q E gd hr ⟨G, ds, R, Z, le, kd, hf, hq, hz⟩ => ?_)
  obtain ⟨text, n, rfl, hf⟩ := hf
  refine ⟨_, PSs.nox ((pss_one (ps_ret (pe_callB ((CallR.or call_len_seq call_len_str)) rfl B.b_len bt_len (pa_cons (pe_fld (pv 0) rfl) pa_nil))))), fin_D le kd hq ?_⟩
  refine xs_ret (ev_cb (ea_cons (ev_fld (ev_var rfl ⟨C_Net, _, _, rfl, c_Net, a_ties, rfl, ea_nil ?_⟩))))
  repeat walk_at "ar"
  rw [DL.rws_len]
  exact hf
end



abbrev s_are_costs : Stmt := topS 17
abbrev n_are_costs : List Str := ["net", "value"]
abbrev p_are_costs : List Str := ["net", "value"]
theorem sc_are_costs : FnScope n_are_costs p_are_costs (defScope s_are_costs) := ⟨rfl, rfl, rfl, by decide +kernel, rfl, by decide +kernel, by decide +kernel⟩

abbrev s_sums : Stmt := topS 18
abbrev n_sums : List Str := ["net", "costs", "low", "tops", "way", "row"]
abbrev p_sums : List Str := ["net", "costs"]
theorem sc_sums : FnScope n_sums p_sums (defScope s_sums) := ⟨rfl, rfl, rfl, by decide +kernel, rfl, by decide +kernel, by decide +kernel⟩

theorem out_all {on : Str → List (Str × Int)} {e : Pth → Bool} {Pr : Pth → Prop} (hk : ∀ x y, Pr x → y ∈ kids on x → Pr y) {P : Nat} {S : List Pth} (h : ∀ x ∈ S, Pr x) : ∀ y ∈ outS on e P S, Pr y := by
  have hd : ∀ (k : Nat) (x : Pth), Pr x → ∀ y ∈ dfs on e k x, Pr y := by
    intro k
    induction k with
    | zero =>
      intro x hx y hy
      unfold dfs emit at hy
      split at hy
      · rw [List.mem_singleton.mp hy]
        exact hx
      · simp at hy
    | succ k ih =>
      intro x hx y hy
      rw [show dfs on e (k + 1) x = emit e x ++ (kids on x).reverse.flatMap (dfs on e k) from rfl] at hy
      rcases List.mem_append.mp hy with hy | hy
      · unfold emit at hy
        split at hy
        · rw [List.mem_singleton.mp hy]
          exact hx
        · simp at hy
      · obtain ⟨z, hz, hy⟩ := List.mem_flatMap.mp hy
        exact ih z (hk x z hx (List.mem_reverse.mp hz)) y hy
  intro y hy
  unfold outS at hy
  obtain ⟨z, hz, hy⟩ := List.mem_flatMap.mp hy
  exact hd _ z (h z (List.mem_reverse.mp hz)) y hy
/-- a way's row: numbers of ties -/
theorem ways_row {ps ws : List Str} {ts : List (List Str)} (T : TiesOk ps ts) (sub : ∀ x ∈ ws, x ∈ ps) : ∀ y ∈ waysP ps ws (numIt ts ts.length), GoodP ps y ∧ ∀ k ∈ y.2, ∃ j : Nat, k = (j : Int) ∧ j < ts.length := by
  have N : GoodN (onF (numIt ts ts.length)) ps := goodN_its (numIt_nodup T _) fun x hx => (numIt_in T hx).2
  refine out_all (Pr := fun y => GoodP ps y ∧ ∀ k ∈ y.2, ∃ j : Nat, k = (j : Int) ∧ j < ts.length) (fun x y hx hy => ?_) fun x hx => ?_
  · refine ⟨(kids_good N hx.1 hy).1, fun k hk => ?_⟩
    obtain ⟨q, h1, _, rfl⟩ := kids_mem hy
    rcases List.mem_append.mp hk with hk | hk
    · exact hx.2 k hk
    · rw [List.mem_singleton.mp hk]
      unfold onF at h1
      obtain ⟨z, hz, rfl⟩ := List.mem_map.mp h1
      obtain ⟨j, hj, _, e⟩ := numIt_mem ((isort_perm _).mem_iff.mp (List.mem_filter.mp hz).1)
      exact ⟨j, e, hj⟩
  · refine ⟨(good_stk sub).good x hx, fun k hk => ?_⟩
    obtain ⟨p, _, rfl⟩ := stk_mem hx
    simp at hk
/-- a net whose ways can be gone -/
structure NetOk (K : PySem.W.Frag) (C_Net : Addr) (text : Str) (n : NetD) : Prop where
  W : NetW K kdW C_Net (netFs text n) n.1 n.2.1 (numIt n.2.2 n.2.2.length) text
  ties : TiesOk n.1 n.2.2
  sub : ∀ x ∈ n.2.1, x ∈ n.1
  l14 : n.2.2.length ≤ 14
def sumsQ (n : NetD) (qs : List Rat) : List Rat := (waysP n.1 n.2.1 (numIt n.2.2 n.2.2.length)).map fun y => mkRat (sumR (qs.map (topQ (lcmN qs))) y.2) (lcmN qs)
section
variable {P : Program} {w : World} {K : PySem.W.Frag} {mg : Str → Option Value} {base : Heap}
def fs_arecosts (C_Net : Addr) : FS := fun ds R _ => ∃ text n d, ds = [.ins C_Net (netFs text n), d] ∧ n.2.2.length ≤ 14 ∧ Ty3 d ∧ R (.bl (areF d && lenIs (n.2.2.length : Nat) d))
theorem ok_arecosts {f C_Net f_len : Addr} {fd fd_len : FuncData} (B : Bt mg) (S_Net_len : Spc K C_Net "__len__" f_len) (F_Net_len : FnG P w K mg base CX0 1 f_len fd_len p_Net_len (spD K (fs_nlen C_Net))) (b_Net_len : Binds K fd_len p_Net_len []) (c_are_fractions : Cal P w K mg base CX0 3 "are_fractions" p_are_fractions [] (spD K fs_aref))
    (F : Fun K "are_costs" "are_costs" s_are_costs f fd) : FnG P w K mg base CX0 4 f fd p_are_costs (spD K (fs_arecosts C_Net)) := by
  refine okG F sc_are_costs (spD_len fun ds R Z ⟨_, _, _, e, _⟩ => by rw [e]; rfl) (fun cdv A outer s H vs Q E gd hr ⟨G, ds, R, Z, le, kd, hf, hq, hz⟩ => ?_)
  have hu : (cxOf CX0 P w K mg base n_are_costs "are_costs" (defScope s_are_costs) f cdv A outer s H E).nox.A.units + 64 < cLine := hr.units
  obtain ⟨text, n, d, rfl, l14, ty, hf⟩ := hf
  refine ⟨_, PSs.nox ((pss_one (ps_ret (pe_and (pe_callB (call_isA) rfl B.b_isinstance bt_isinstance (pa_cons (pv 1) (pa_cons (pe_bltn (v := .ty "tuple") rfl B.b_tuple bt_tuple rfl) pa_nil))) (pe_and (pe_cmpR (op_eqA hu) (pe_callB ((CallR.or call_len_seq call_len_str)) rfl B.b_len bt_len (pa_cons (pv 1) pa_nil)) (pe_callB (call_lenO gd F_Net_len (hr.mono (by first | decide | omega)) b_Net_len S_Net_len pass0) rfl B.b_len bt_len (pa_cons (pv 0) pa_nil)) (nomark _)) (pe_one (pe_cal c_are_fractions gd (hr.mono (by first | decide | omega)) pass0 (pa_cons (pv 1) pa_nil)))))))), fin_D le kd hq ?_⟩
  repeat walk_at "ar"
  refine isa_tup rfl ty.1 ?_
  refine ⟨_, rfl, fun h => ?_, fun h => ?_⟩
  · obtain ⟨xs, rfl⟩ := isT_inv h
    have hf : R (.bl (xs.all isF && ((xs.length : Int) == (n.2.2.length : Nat)))) := hf
    refine ev_andV (ev_op (ev_cb (ea_cons (ev_var rfl (ea_nil ?_)))))
    walk_at "ar"
    refine ev_cbO (ea_cons (ev_var rfl (ea_nil (rc_lenO rfl (fun _ _ => Flies.none) ⟨_, _, rfl, n.2.2.length, rfl, Nat.lt_of_le_of_lt l14 (by decide), ?_⟩))))
    refine eq_int rfl ?_
    refine ⟨_, rfl, fun hb => ?_, fun hb => ?_⟩
    · refine ev_call (Z := fun _ _ => False) Flies.none (fun _ => .nil) (ea_cons (ev_var rfl (ea_nil ⟨_, rfl, ty, ?_⟩)))
      rw [hb, Bool.and_true] at hf
      exact hf
    · rw [hb, Bool.and_false] at hf
      exact hf
  · rw [areF_not h, Bool.false_and] at hf
    exact hf
def fs_sums (K : PySem.W.Frag) (CB C_Net : Addr) : FS := fun ds R Z => ∃ text n d, ds = [.ins C_Net (netFs text n), d] ∧ NetOk K C_Net text n ∧ Ty3 d ∧
  (((areF d && lenIs (n.2.2.length : Nat) d) = false ∧ Z CB d) ∨
   ∃ qs : List Rat, d = .tup (qs.map frq) ∧ qs.length = n.2.2.length ∧ (∀ q ∈ qs, Sm 28 q) ∧ R (.tup ((sumsQ n qs).map frq)))
theorem ok_sums {f fI C_Net C_BadCosts : Addr} {fd fdI : FuncData} (B : Bt mg) (m_BadCosts : mg "BadCosts" = some (.ref C_BadCosts)) (T_BadCosts : OexC K C_BadCosts) (v_BadCosts : PySem.W.findIn K (.ref C_BadCosts) "value" = some none)
    (i_BadCosts : PySem.W.findIn K (.ref C_BadCosts) "__init__" = some (some (.ref fI))) (ti_init : PySem.W.typeIn K (.ref fI) = some (.type "function")) (F_init : FnG P w K mg base CX0 1 fI fdI ["self", "value"] (spInit K)) (b_init : Binds K fdI ["self", "value"] [])
    (c_are_costs : Cal P w K mg base CX0 4 "are_costs" p_are_costs [] (spD K (fs_arecosts C_Net))) (c_in_integers : Cal P w K mg base CX0 1 "in_integers" p_in_integers [] (spD K fs_inint)) (c_sum_along : Cal P w K mg base CX0 1 "sum_along" p_sum_along [] (spD K fs_sumal))
    (c_walked : Cal P w K mg base CX0 3 "walked" p_walked [] (spD K (fs_walked K kdW C_Net))) (c_cut : Cal P w K mg base CX0 1 "cut" p_cut [] (spD K fs_cut))
    (F : Fun K "sums" "sums" s_sums f fd) : FnG P w K mg base (L2.CX P w) 5 f fd p_sums (spD K (fs_sums K C_BadCosts C_Net)) := by
  refine okG F sc_sums (spD_len fun ds R Z ⟨_, _, _, e, _⟩ => by rw [e]; rfl) (fun cdv A outer s H vs Q E gd hr ⟨G, ds, R, Z, le, kd, hf, hq, hz⟩ => ?_)
  have hu : (cxOf (L2.CX P w) P w K mg base n_sums "sums" (defScope s_sums) f cdv A outer s H E).A.units + 64 < cLine := hr.units
  obtain ⟨text, n, d, rfl, N, ty, hf⟩ := hf
  refine ⟨_, (pss_cons (ps_if (pt_not (pt_val (pe_cal c_are_costs gd (hr.mono (by first | decide | omega)) pass0 (pa_cons (pv 0) (pa_cons (pv 1) pa_nil)))))
      (pss_one (ps_raise rfl (takes_of rfl rfl rfl rfl) (pmk_g gd T_BadCosts i_BadCosts ti_init F_init (hr.mono (by first | decide | omega)) b_init pass0 rfl m_BadCosts (pa_cons (pv 1) pa_nil))))
      pss_nil)
      (pss_cons (ps_asg (pe_cal c_in_integers gd (hr.mono (by first | decide | omega)) pass0 (pa_cons (pv 1) pa_nil)) (pg_tup rfl (pgs_cons (pg_name (i := 2) sc_sums.nd rfl (by first | exact Or.inl rfl | exact Or.inr rfl)) (pgs_cons (pg_name (i := 3) sc_sums.nd rfl (by first | exact Or.inl rfl | exact Or.inr rfl)) pgs_nil))))
      (pss_one (ps_ret (pe_callTy (call_tuple_of) rfl B.b_tuple bt_tuple (pa_cons (pe_lc (own := [("way", 4), ("row", 5)]) (g := (gTup K 2 (gCons (gName 4) (gCons (gName 5) gNil)))) (tt := tYes) rfl sc_sums.nd (pi_list (pe_cal c_walked gd (hr.mono (by first | decide | omega)) pass0 (pa_cons (pv 0) pa_nil))) (blkOk_by (N := n_sums) (sc := defScope s_sums) (by decide +kernel)) (fun _ _ _ _ _ => (pg_tup rfl (pgs_cons (pg_name (i := 4) sc_sums.nd rfl (by first | exact Or.inl rfl | exact Or.inr rfl)) (pgs_cons (pg_name (i := 5) sc_sums.nd rfl (by first | exact Or.inl rfl | exact Or.inr rfl)) pgs_nil)))) (fun _ _ _ _ _ => pts_nil) (fun _ _ _ _ _ => (pe_cal c_cut gd (hr.mono (by first | decide | omega)) pass0 (pa_cons (pe_cal c_sum_along gd (hr.mono (by first | decide | omega)) pass0 (pa_cons (pv 5) (pa_cons (pv 3) pa_nil))) (pa_cons (pv 2) pa_nil))))) pa_nil)))))), fin_D le kd hq ?_⟩
  refine xs_seq (xs_if (et_not (et_B (ev_call (Z := fun _ _ => False) Flies.none (fun _ => .nil) (ea_cons (ev_var rfl (ea_cons (ev_var rfl (ea_nil ?_)))))))))
  refine ⟨text, n, d, rfl, N.l14, ty, _, rfl, ?_⟩
  rcases hf with ⟨e, hf⟩ | ⟨qs, rfl, hl, hS, hf⟩
  · rw [e]
    refine ⟨fun _ => ?_, fun h => nomatch h⟩
    refine xs_raise T_BadCosts v_BadCosts hz ?_
    refine ea_cons (ev_var rfl (ea_nil ⟨_, rfl, hf⟩))
  have e : (areF (.tup (qs.map frq)) && lenIs (n.2.2.length : Nat) (.tup (qs.map frq))) = true := by
    show ((qs.map frq).all isF && (((qs.map frq).length : Int) == (n.2.2.length : Nat))) = true
    rw [List.length_map, hl, beq_self_eq_true, Bool.and_true, List.all_map, List.all_eq_true]
    exact fun q _ => isF_frq q
  rw [e]
  refine ⟨fun h => (nomatch h), fun _ => xs_next ?_⟩
  refine xs_seq (xs_asg (is := [2, 3]) (ev_call (Z := fun _ _ => False) Flies.none (fun _ => .nil) (ea_cons (ev_var rfl (ea_nil ?_)))))
  refine ⟨qs, rfl, by rw [hl]; have := N.l14; omega, hS, ?_⟩
  refine eg_tup rfl (egs_cons (is := [2]) (js := [3]) (eg_name (egs_cons (is := [3]) (js := []) (eg_name (egs_nil ?_)))))
  have ol := out_len (e := isE n.2.1) N.W.ok.on N.W.ok.st.good
  have hw := N.W.ok.wt
  refine xs_ret (ev_cb (ea_cons (EvN.ev (en_lc (is := [4, 5]) (fun _ i acc ρ => acc = ((waysP n.1 n.2.1 (numIt n.2.2 n.2.2.length)).take i).map (fun y => frq (mkRat (sumR (qs.map (topQ (lcmN qs))) y.2) (lcmN qs))) ∧ ρ = [.dat (.ins C_Net (netFs text n)), .dat (.tup (qs.map frq)), .dat (.int ((lcmN qs : Nat) : Int)), .dat (.lst ((qs.map (topQ (lcmN qs))).map .int)), .un, .un]) (by simp) (ei_list (ev_call (Z := fun _ _ => False) Flies.none (fun _ => .nil) (ea_cons (ev_var rfl (ea_nil ⟨_, _, _, _, _, rfl, N.W, ?_⟩)))))))))
  have wl : (waysP n.1 n.2.1 (numIt n.2.2 n.2.2.length)).length ≤ 99000 := Nat.le_trans ol hw
  refine ⟨_, rfl, by rw [List.length_map]; omega, ⟨rfl, rfl⟩, fun i d acc ρ hd hI => ?_, fun acc ρ hl2 hI => ?_⟩
  · obtain ⟨rfl, e⟩ := hI
    rw [e]
    rw [List.getElem?_map] at hd
    obtain ⟨y, hy, rfl⟩ := Option.map_eq_some_iff.mp hd
    obtain ⟨gy, hk⟩ := ways_row N.ties N.sub y (List.mem_of_getElem? hy)
    refine eg_tup rfl (egs_cons (is := [4]) (js := [5]) (eg_name (egs_cons (is := [5]) (js := []) (eg_name (egs_nil ?_)))))
    refine et_yes ⟨fun _ => ?_, fun h => nomatch h⟩
    refine ev_call (Z := fun _ _ => False) Flies.none (fun _ => .nil) (ea_cons (ev_call (Z := fun _ _ => False) Flies.none (fun _ => .nil) (ea_cons (ev_var rfl (ea_cons (ev_var rfl (ea_nil ?_)))))))
    refine ⟨y.2, _, rfl, ?_, ?_, ?_⟩
    · have := good_len gy
      have := gy.len
      have := N.W.T.lP
      omega
    · intro k h
      rw [List.length_map, hl]
      exact hk k h
    refine ea_cons (ev_var rfl (ea_nil ⟨_, _, rfl, ?_, ?_, ?_, rfl⟩))
    · have := lcm_pos qs
      omega
    · exact Nat.lt_of_lt_of_le (lcm_nb hS (by rw [hl]; have := N.l14; omega)) (Nat.pow_le_pow_right (by decide) (by decide))
    · rw [List.take_succ, hy, List.map_append]
      rfl
  · obtain ⟨rfl, e⟩ := hI
    rw [List.length_map, List.take_length]
    refine ea_nil (rc_tupL ?_)
    have e2 : List.map frq (sumsQ n qs) = _ := List.map_map
    rw [e2] at hf
    exact hf
end
end K13
open LamX
namespace K13
variable [TabT] [CacT]
theorem Lore.wsubs {few most : Nat} {ps ws : List Str} {ts : List (List Str)} (L : Lore few most ps ws ts) : ∀ x ∈ ws, x ∈ ps := fun x hx => by
  rw [L.wq] at hx
  exact (seq_mem.mp hx).1
theorem Lore.wnds {few most : Nat} {ps ws : List Str} {ts : List (List Str)} (L : Lore few most ps ws ts) : ws.Nodup := by
  rw [L.wq]
  exact L.nd.sublist List.filter_sublist
theorem Lore.wlen {few most : Nat} {ps ws : List Str} {ts : List (List Str)} (L : Lore few most ps ws ts) : ws.length ≤ ps.length := by
  rw [L.wq]
  exact List.length_filter_le _ _
theorem Lore.ties {few most : Nat} {ps ws : List Str} {ts : List (List Str)} (L : Lore few most ps ws ts) : TiesOk ps ts := by
  refine ⟨fun t ht => ?_, L.tn, L.nd⟩
  have h := L.ti t ht
  obtain ⟨a, b, rfl, ha, hb⟩ := pairs_in h
  have e := pairs_seq L.nd h
  have nd : [a, b].Nodup := by
    rw [e]
    exact L.nd.sublist List.filter_sublist
  have ab : a ≠ b := by simpa using nd
  refine ⟨a, b, rfl, ha, hb, ab, fun z => ?_⟩
  have e2 := pairs_seq L.nd (L.ti _ z)
  have : inSeq ps [a, b] = inSeq ps [b, a] := by
    unfold inSeq
    refine List.filter_congr fun x _ => ?_
    simp [or_comm]
  rw [← e, ← e2] at this
  simp only [List.cons.injEq, and_true] at this
  exact ab this.1
theorem Lore.netok {few most : Nat} {ps ws : List Str} {ts : List (List Str)} {K : PySem.W.Frag} {C_Net : Addr} (L : Lore few most ps ws ts) (f3 : 3 ≤ few) (m8 : most ≤ 8) (c_Net : Cls K C_Net) (a_places : NoAttr K C_Net "places") (a_watchers : NoAttr K C_Net "watchers") (a_numbers : NoAttr K C_Net "numbers") (a_walked : NoAttr K C_Net "walked") :
    NetOk K C_Net (loreT ps ws ts) (ps, ws, ts) := by
  have T := L.ties
  have lm := L.lm
  have lw := L.wlen
  have tl := L.tl
  obtain ⟨tx, nt⟩ := L.net f3 m8
  refine ⟨⟨⟨c_Net, a_places, a_watchers, a_numbers, rfl, rfl, ?_, L.nd, L.wnds, fun x hx => (numIt_in T hx).1, by show ps.length ≤ 1000; omega, by show ws.length ≤ 1000; omega, ?_⟩, walk_ok T (by show ps.length ≤ 8; omega) L.wsubs lw, a_walked, rfl, rfl, by show 7 < 1000; decide, ?_⟩, T, L.wsubs, tl⟩
  · show some (D.dct (numD ts ts.length)) = _
    rw [num_it T]
  · have := numIt_len ts ts.length
    show (numIt ts ts.length).length ≤ 1000
    omega
  · exact kd_walked tx nt
end K13
open LamX
namespace K13
variable [TabT] [CacT]
abbrev s_l_bent : Stmt := topS 50
abbrev n_l_bent : List Str := ["_law_pot_here", "_law_value", "_law_at", "_law_some_here"]
abbrev p_l_bent : List Str := ["_law_pot_here", "_law_value"]
theorem sc_l_bent : FnScope n_l_bent p_l_bent (defScope s_l_bent) := ⟨rfl, rfl, rfl, by decide +kernel, rfl, by decide +kernel, by decide +kernel⟩

section
variable {P : Program} {w : World} {K : PySem.W.Frag} {mg : Str → Option Value} {base : Heap}
def fp_bent (c L n : Nat) : FP := fun k ds R _ => ∃ d, ds = [d] ∧ Bn c L n d ∧ k + 3 * (n + 1) < 2 ^ 40 ∧ ∀ r k', Gd (c + 1) (L + 1) (n + 1) r → k' ≤ k + 3 * (n + 1) → R r k'
def fpb (c L : Nat) : Nat → FP
  | 0 => fun _ _ _ _ => False
  | n + 1 => fp_bent c L n
theorem bn_case {c L n : Nat} {d : D} (h : Bn c L n d) : (∃ i : Int, d = .int i ∧ i.natAbs < 2 ^ c) ∨ ∃ m ds, n = m + 1 ∧ d = .tup ds ∧ ds.length ≤ L ∧ ∀ e ∈ ds, Bn c L m e := by
  cases n with
  | zero => exact .inl h
  | succ n =>
    rcases h with h | ⟨ds, e, l, k⟩
    · exact .inl h
    · exact .inr ⟨n, ds, rfl, e, l, k⟩
theorem ok_bent {c L n : Nat} {f : Addr} {fd : FuncData} (c1 : 6 ≤ c) (c2 : c < 1800) (hL : L ≤ 900) (hn : n ≤ 50) (B : Bt mg) (c_l_take : Cal P w K mg base CX0 1 "_law_take" p_l_take [] (spP K fp_take)) (c_l_of : Cal P w K mg base CX0 2 "_law_of" p_l_of [] (spP K fp_of)) (c_l_odd : Cal P w K mg base CX0 3 "_law_odd" p_l_odd [] (spP K fp_odd))
    (c_l_bent : Cal P w K mg base CX0 (n + 3) "_law_bent" p_l_bent [] (spP K (fpb c L n))) (F : Fun K "_law_bent" "_law_bent" s_l_bent f fd) : FnG P w K mg base CX0 (n + 3 + 1) f fd p_l_bent (spP K (fp_bent c L n)) := by
  refine okG F sc_l_bent (spP_len fun k ds R Z ⟨d, e, _⟩ => by rw [e]; rfl) (fun cdv A outer s H vs Q E gd hr ⟨a, ws, G, ds, k, R, Z, ev, le, ga, pa, kd, hf, hq, hz⟩ => ?_)
  have hu : (cxOf CX0 P w K mg base n_l_bent "_law_bent" (defScope s_l_bent) f cdv A outer s H E).nox.A.units + 64 < cLine := hr.units
  obtain ⟨d, rfl, hd, k1, hf⟩ := hf
  subst ev
  refine ⟨_, PSs.nox ((pss_cons (ps_if (PW.pt (pw_and (pt_val (pe_callB (call_isA) rfl B.b_isinstance bt_isinstance (pa_cons (pv 1) (pa_cons (pe_bltn (v := .ty "tuple") rfl B.b_tuple bt_tuple rfl) pa_nil)))) (pw_and (pt_cmpR (op_neA hu) (pv 1) (pe_tup pa_nil) (nomark _)) (pw_and1 (pt_cmpR op_gt (pe_cal c_l_take gd (hr.mono (by first | decide | omega)) pass0 (pa_cons (pv 0) (pa_cons pe_int pa_nil))) pe_int (nomark _))))))
      (pss_cons (ps_set (i := 2) sc_l_bent.nd rfl (by first | exact Or.inl rfl | exact Or.inr rfl) (pe_cal c_l_take gd (hr.mono (by first | decide | omega)) pass0 (pa_cons (pv 0) (pa_cons (pe_callB ((CallR.or call_len_seq call_len_str)) rfl B.b_len bt_len (pa_cons (pv 1) pa_nil)) pa_nil))))
      (pss_one (ps_ret (pe_op op_plus (pe_op op_plus (pe_slice sl_cut (pv 1) po_none (po_some (pv 2))) (pe_tup (pa_cons (pe_cal c_l_bent gd (hr.mono (by first | decide | omega)) pass0 (pa_cons (pv 0) (pa_cons (pe_ix ix_seq (pv 1) (pv 2) (fun _ _ => rfl)) pa_nil))) pa_nil))) (pe_slice sl_cut (pv 1) (po_some (pe_op op_plus (pv 2) pe_int)) po_none)))))
      pss_nil)
      (pss_cons (ps_if (pt_val (pe_callB (call_isA) rfl B.b_isinstance bt_isinstance (pa_cons (pv 1) (pa_cons (pe_bltn (v := .ty "tuple") rfl B.b_tuple bt_tuple rfl) pa_nil))))
      (pss_cons (ps_set (i := 3) sc_l_bent.nd rfl (by first | exact Or.inl rfl | exact Or.inr rfl) (pe_lst (pa_cons (pe_callTy (call_list_of) rfl B.b_list bt_list (pa_cons (pv 1) pa_nil)) (pa_cons (pe_slice sl_cut (pv 1) (po_some pe_int) po_none) (pa_cons (pe_slice sl_cut (pv 1) po_none (po_some (pe_un un_neg pe_int))) (pa_cons (pe_op op_plus (pv 1) (pe_slice sl_cut (pv 1) (po_some (pe_un un_neg pe_int)) po_none)) (pa_cons (pe_revT (pv 1)) (pa_cons (pe_tup pa_nil) (pa_cons pe_non (pa_cons (pe_op op_plus (pv 1) (pe_tup (pa_cons pe_int pa_nil))) pa_nil))))))))))
      (pss_one (ps_ret (pe_cal c_l_of gd (hr.mono (by first | decide | omega)) pass0 (pa_cons (pv 0) (pa_cons (pv 3) pa_nil))))))
      pss_nil)
      (pss_cons (ps_if (pt_val (pe_callB (call_isA) rfl B.b_isinstance bt_isinstance (pa_cons (pv 1) (pa_cons (pe_bltn (v := .ty "bool") rfl B.b_bool bt_bool rfl) pa_nil))))
      (pss_one (ps_ret (pe_cal c_l_of gd (hr.mono (by first | decide | omega)) pass0 (pa_cons (pv 0) (pa_cons (pe_lst (pa_cons (pe_not (pv 1)) (pa_cons (pe_callTy (call_int1) rfl B.b_int bt_int (pa_cons (pv 1) pa_nil)) (pa_cons pe_non pa_nil)))) pa_nil)))))
      pss_nil)
      (pss_cons (ps_if (pt_val (pe_callB (call_isA) rfl B.b_isinstance bt_isinstance (pa_cons (pv 1) (pa_cons (pe_bltn (v := .ty "int") rfl B.b_int bt_int rfl) pa_nil))))
      (pss_one (ps_ret (pe_cal c_l_of gd (hr.mono (by first | decide | omega)) pass0 (pa_cons (pv 0) (pa_cons (pe_lst (pa_cons (pe_op op_plus (pv 1) pe_int) (pa_cons (pe_op op_sub (pv 1) pe_int) (pa_cons (pe_cmpR (op_eqA hu) (pv 1) pe_int (nomark _)) (pa_cons (pe_un un_neg (pv 1)) (pa_cons (pe_op op_timesA pe_int (pv 1)) (pa_cons pe_str (pa_cons pe_int (pa_cons pe_non (pa_cons (pe_tup (pa_cons (pv 1) pa_nil)) pa_nil)))))))))) pa_nil)))))
      pss_nil)
      (pss_cons (ps_if (pt_val (pe_callB (call_isA) rfl B.b_isinstance bt_isinstance (pa_cons (pv 1) (pa_cons (pe_bltn (v := .ty "str") rfl B.b_str bt_str rfl) pa_nil))))
      (pss_one (ps_ret (pe_cal c_l_of gd (hr.mono (by first | decide | omega)) pass0 (pa_cons (pv 0) (pa_cons (pe_lst (pa_cons (pe_op op_plus (pv 1) pe_str) (pa_cons (pe_slice sl_cut (pv 1) po_none (po_some (pe_un un_neg pe_int))) (pa_cons (pe_upper (pv 1)) (pa_cons (pe_lst (pa_cons (pv 1) pa_nil)) (pa_cons pe_str (pa_cons pe_str (pa_cons pe_str (pa_cons pe_non (pa_cons pe_int pa_nil)))))))))) pa_nil)))))
      pss_nil)
      (pss_one (ps_ret (pe_cal c_l_odd gd (hr.mono (by first | decide | omega)) pass0 (pa_cons (pv 0) pa_nil)))))))))), fin_P le ga pa kd hq ?_⟩
  rcases bn_case hd with ⟨i, rfl, hi⟩ | ⟨m, ds, rfl, rfl, hl, he⟩
  · have hi2 : i.natAbs < 2 ^ (c + 1) := nbM hi (by omega)
    repeat walk_at "ar"
    refine isa_tup rfl ⟨_, rfl⟩ ?_
    refine ⟨false, rfl, fun h => (nomatch h), fun _ => ⟨fun h => (nomatch h), fun _ => ?_⟩⟩
    repeat walk_at "ar"
    refine isa_tup rfl ⟨_, rfl⟩ ?_
    refine ⟨false, rfl, fun h => (nomatch h), fun _ => ?_⟩
    repeat walk_at "ar"
    refine isa_bool rfl ⟨_, rfl⟩ ?_
    refine ⟨false, rfl, fun h => (nomatch h), fun _ => ?_⟩
    repeat walk_at "ar"
    refine isa_int rfl ⟨_, rfl⟩ ?_
    refine ⟨true, rfl, fun _ => ?_, fun h => (nomatch h)⟩
    refine xs_ret (ev_callP (Z := fun _ _ => False) Flies.none (fun _ => .nil) (by exact ⟨_, _, rfl⟩) ?_)
    repeat walk_at "ar"
    refine eq_int rfl ?_
    repeat walk_at "ar"
    refine rd_k (r := rTimesA) rfl (DL.mul_int (mulW (a := 2) (b := c) (by decide) hi (by omega)) ?_)
    repeat walk_at "ar"
    refine ⟨Nat.le_of_ble_eq_true rfl, ?_⟩
    repeat walk_at "ar"
    refine ⟨Nat.le_of_ble_eq_true rfl, ?_⟩
    repeat walk_at "ar"
    refine ⟨_, _, rfl, _, rfl, by simp, by simp, by omega, fun x hx => ⟨_, rfl, hf x _ ?_ (by omega)⟩⟩
    have one : (1 : Int).natAbs < 2 ^ c := Nat.one_lt_two_pow (by omega)
    simp only [List.mem_cons, List.not_mem_nil, or_false] at hx
    rcases hx with rfl | rfl | rfl | rfl | rfl | rfl | rfl | rfl | rfl
    · exact .int (nbA hi one)
    · exact .int (nbS hi one)
    · exact .bl
    · exact .int (by rw [Int.natAbs_neg]; exact hi2)
    · exact .int (by rw [Int.natAbs_mul, Nat.pow_succ, Nat.mul_comm]; exact Nat.mul_lt_mul_of_pos_right hi (by decide))
    · exact .str (Nat.le_trans (by decide +kernel) (by omega : 1 ≤ c + 1)) (by decide +kernel)
    · exact .int (Nat.pow_pos (by decide))
    · exact .non
    · exact .tup (by simp) fun e h => by
        rw [List.mem_singleton.mp h]
        exact .int hi2
  · have hE : ∀ e ∈ ds, Gd (c + 1) (L + 1) (m + 1) e := fun e h => (he e h).gd.mono (by omega) (by omega) (by omega)
    have hS : Gd (c + 1) (L + 1) (m + 2) (.tup ds) := .tup (by omega) hE
    refine xs_mid (fun ρ => ∃ k', k' ≤ k + 1 ∧ ρ = [.pot a k', .dat (.tup ds), .un, .un]) ?_ fun ρ ⟨k', hk', e⟩ => ?_
    · repeat walk_at "ar"
      refine isa_tup rfl ⟨_, rfl⟩ ?_
      refine ⟨true, rfl, fun _ => ?_, fun h => (nomatch h)⟩
      repeat walk_at "ar"
      refine ⟨Nat.le_of_ble_eq_true rfl, ?_⟩
      refine ne_nil rfl (hS.shaped (by omega) (by omega)) ?_
      refine ⟨_, rfl, fun h => ?_, fun h => ⟨fun h => (nomatch h), fun _ => xs_next ⟨k, by omega, rfl⟩⟩⟩
      have h0 : 0 < ds.length := by
        cases ds with
        | nil => cases h
        | cons x xs => exact Nat.succ_pos _
      refine et_B (ev_op (ev_callP (Z := fun _ _ => False) Flies.none (fun _ => .nil) (by exact ⟨_, _, rfl⟩) ?_))
      repeat walk_at "ar"
      refine ⟨_, _, rfl, _, rfl, by decide, by decide, by omega, fun t t0 t1 => ?_⟩
      repeat walk_at "ar"
      refine ⟨_, rfl, fun h2 => ?_, fun h2 => xs_next ⟨k + 1, by omega, rfl⟩⟩
      refine xs_seq (xs_set (ev_callP (Z := fun _ _ => False) Flies.none (fun _ => .nil) (by exact ⟨_, _, rfl⟩) ?_))
      repeat walk_at "ar"
      refine ⟨_, _, rfl, _, rfl, by omega, by omega, by omega, fun at_ a0 a1 => ?_⟩
      obtain ⟨j, rfl⟩ : ∃ j : Nat, at_ = (j : Int) := ⟨at_.toNat, by omega⟩
      have hj : j < ds.length := by omega
      refine xs_ret (ev_op (ev_op (ev_cut (ev_var rfl (eo_none (eo_some (ev_var rfl ⟨_, rfl, .inr (.inl ⟨_, rfl, ?_⟩)⟩)))))))
      rw [cut_to (by omega)]
      refine ev_tup (ea_cons (ev_callP (Z := fun _ _ => False) Flies.none (fun _ => .nil) (by exact ⟨_, _, rfl⟩) ?_))
      repeat walk_at "ar"
      refine ix_tupl ⟨j, rfl, List.getElem?_eq_getElem hj⟩ ?_
      refine ea_nil ⟨_, _, rfl, ds[j], rfl, he _ (List.getElem_mem hj), by omega, fun r k2 hr2 hk2 => ?_⟩
      refine ea_nil ⟨Nat.le_of_ble_eq_true rfl, ?_⟩
      refine rd_k (r := rPlus) rfl (plus_tup (by rw [List.length_take]; simp; omega) ?_)
      refine ev_cut (ev_var rfl (eo_some (ev_op (ev_var rfl (ev_int (rd_k (r := rPlus) rfl (plus_int ⟨_, rfl, eo_none (.inr (.inl ⟨_, rfl, ?_⟩))⟩)))))))
      rw [show ((j : Int) + 1) = ((j + 1 : Nat) : Int) by omega, cut_from (by omega)]
      refine rd_k (r := rPlus) rfl (plus_tup (by simp; omega) ?_)
      refine ⟨_, rfl, hf _ _ (.tup ?_ fun e h => ?_) (by omega)⟩
      · simp
        omega
      · rcases List.mem_append.mp h with h | h
        · rcases List.mem_append.mp h with h | h
          · exact hE _ (List.mem_of_mem_take h)
          · rw [List.mem_singleton.mp h]
            exact hr2
        · exact hE _ (List.mem_of_mem_drop h)
    subst e
    repeat walk_at "ar"
    refine isa_tup rfl ⟨_, rfl⟩ ?_
    refine ⟨true, rfl, fun _ => ?_, fun h => (nomatch h)⟩
    refine xs_seq (xs_set ?_)
    refine ev_lst (ea_cons (EvN.ev (en_list (ea_cons (ev_var rfl (ea_nil ⟨ds, .inr rfl, ?_⟩))))))
    refine ea_cons (ev_cut (ev_var rfl (eo_some (ev_int ⟨_, rfl, eo_none (.inr (.inl ⟨_, rfl, ?_⟩))⟩))))
    refine ea_cons (ev_cut (ev_var rfl (eo_none (eo_some (ev_un (ev_int (ru_neg ⟨_, rfl, .inr (.inl ⟨_, rfl, ?_⟩)⟩)))))))
    refine ea_cons (ev_op (ev_var rfl (ev_cut (ev_var rfl (eo_some (ev_un (ev_int (ru_neg ⟨_, rfl, eo_none (.inr (.inl ⟨_, rfl, ?_⟩))⟩))))))))
    have h1 := cut_last ds
    refine rd_k (r := rPlus) rfl (plus_tup (by omega) ?_)
    refine ea_cons (ev_revT (ev_var rfl ⟨_, rfl, ?_⟩))
    repeat walk_at "ar"
    refine ⟨Nat.le_of_ble_eq_true rfl, ?_⟩
    repeat walk_at "ar"
    refine ⟨Nat.le_of_ble_eq_true rfl, ?_⟩
    refine rd_k (r := rPlus) rfl (plus_tup (by simp; omega) ?_)
    refine ea_nil ⟨Nat.le_of_ble_eq_true rfl, ?_⟩
    refine xs_ret (ev_callP (Z := fun _ _ => False) Flies.none (fun _ => .nil) (by exact ⟨_, _, rfl⟩) ?_)
    repeat walk_at "ar"
    refine ⟨_, _, rfl, _, rfl, by simp, by simp, by omega, fun x hx => ⟨_, rfl, hf x _ ?_ (by omega)⟩⟩
    have l1 := cut_len ds (some 1) none
    have l2 := cut_len ds none (some (-1))
    simp only [List.mem_cons, List.not_mem_nil, or_false] at hx
    rcases hx with rfl | rfl | rfl | rfl | rfl | rfl | rfl | rfl
    · exact .lst (by omega) hE
    · exact .tup (by omega) fun e h => hE e (cut_mem h)
    · exact .tup (by omega) fun e h => hE e (cut_mem h)
    · refine .tup (by rw [List.length_append]; omega) fun e h => ?_
      rcases List.mem_append.mp h with h | h
      · exact hE e h
      · exact hE e (cut_mem h)
    · exact .tup (by rw [List.length_reverse]; omega) fun e h => hE e (List.mem_reverse.mp h)
    · exact .tup (by simp) fun e h => absurd h (by simp)
    · exact .non
    · refine .tup (by rw [List.length_append]; simp; omega) fun e h => ?_
      rcases List.mem_append.mp h with h | h
      · exact hE e h
      · rw [List.mem_singleton.mp h]
        exact .int (Nat.pow_pos (by decide))
end
section
variable {P : Program} {w : World} {K : PySem.W.Frag} {mg : Str → Option Value} {base : Heap}
/-- a promise that is never asked -/
theorem fng_no {CX : CXT} {k : Nat} {f : Addr} {fd : FuncData} {ps : List Str} {sp : Sp} (h : ∀ vs H Q E, ¬ sp vs H Q E) : FnG P w K mg base CX k f fd ps sp :=
  ⟨fun vs H Q E z => absurd z (h vs H Q E), fun A outer s H args us vs Q E _ _ _ _ _ z => absurd z (h vs H Q E)⟩
theorem all_bent {c L : Nat} {f : Addr} {fd : FuncData} (c1 : 6 ≤ c) (c2 : c < 1800) (hL : L ≤ 900) (B : Bt mg) (c_l_take : Cal P w K mg base CX0 1 "_law_take" p_l_take [] (spP K fp_take)) (c_l_of : Cal P w K mg base CX0 2 "_law_of" p_l_of [] (spP K fp_of)) (c_l_odd : Cal P w K mg base CX0 3 "_law_odd" p_l_odd [] (spP K fp_odd))
    (F : Fun K "_law_bent" "_law_bent" s_l_bent f fd) (m : mg "_law_bent" = some (.ref f)) (kp : PySem.W.keepIn K (.ref f) = true) (bd : Binds K fd p_l_bent []) : ∀ n, n ≤ 50 → Cal P w K mg base CX0 (n + 3) "_law_bent" p_l_bent [] (spP K (fpb c L n))
  | 0, _ => ⟨f, fd, [], fng_no fun vs H Q E ⟨a, ws, G, ds, k, R, Z, _, _, _, _, _, z, _⟩ => z, m, kp, bd, .nil⟩
  | n + 1, h => ⟨f, fd, [], ok_bent c1 c2 hL (by omega) B c_l_take c_l_of c_l_odd (all_bent c1 c2 hL B c_l_take c_l_of c_l_odd F m kp bd n (by omega)) F, m, kp, bd, .nil⟩
end
abbrev s_l_costs : Stmt := topS 48
abbrev n_l_costs : List Str := ["_law_pot_here", "_law_lore_here", "_law_tie"]
abbrev p_l_costs : List Str := ["_law_pot_here", "_law_lore_here"]
theorem sc_l_costs : FnScope n_l_costs p_l_costs (defScope s_l_costs) := ⟨rfl, rfl, rfl, by decide +kernel, rfl, by decide +kernel, by decide +kernel⟩

section
variable {P : Program} {w : World} {K : PySem.W.Frag} {mg : Str → Option Value} {base : Heap}
def fp_lcosts : FP := fun k ds R _ => ∃ ps ws ts, ds = [loreD ps ws ts] ∧ ts.length ≤ 14 ∧ k + 100 < 2 ^ 40 ∧ ∀ (qs : List Rat) k', qs.length = ts.length → (∀ q ∈ qs, Sm 17 q) → k' ≤ k + 5 * ts.length → R (.tup (qs.map frq)) k'
theorem ok_lcosts {f : Addr} {fd : FuncData} (B : Bt mg) (c_l_drawn_fraction : Cal P w K mg base CX0 3 "_law_drawn_fraction" p_l_drawn_fraction [] (spP K fp_drawn)) (F : Fun K "_law_costs" "_law_costs" s_l_costs f fd) : FnG P w K mg base CX0 4 f fd p_l_costs (spP K fp_lcosts) := by
  refine okG F sc_l_costs (spP_len fun k ds R Z ⟨_, _, _, e, _⟩ => by rw [e]; rfl) (fun cdv A outer s H vs Q E gd hr ⟨a, ws_, G, ds, k, R, Z, ev, le, ga, pa, kd, hf, hq, hz⟩ => ?_)
  have hu : (cxOf CX0 P w K mg base n_l_costs "_law_costs" (defScope s_l_costs) f cdv A outer s H E).nox.A.units + 64 < cLine := hr.units
  have hu0 : (cxOf CX0 P w K mg base n_l_costs "_law_costs" (defScope s_l_costs) f cdv A outer s H E).nox.A.units + 1 < cLine := by omega
  obtain ⟨ps, ws, ts, rfl, l14, k1, hf⟩ := hf
  subst ev
  refine ⟨_, PSs.nox ((pss_one (ps_ret (pe_callTy (call_tuple_of) rfl B.b_tuple bt_tuple (pa_cons (pe_lc (own := [("_law_tie", 2)]) (g := (gName 2)) (tt := tYes) rfl sc_l_costs.nd (pi_list (pe_dget hu0 (pv 1) pe_str (fun _ _ => rfl))) (blkOk_by (N := n_l_costs) (sc := defScope s_l_costs) (by decide +kernel)) (fun _ _ _ _ _ => (pg_name (i := 2) sc_l_costs.nd rfl (by first | exact Or.inl rfl | exact Or.inr rfl))) (fun _ _ _ _ _ => pts_nil) (fun _ _ _ _ _ => (pe_cal c_l_drawn_fraction gd (hr.mono (by first | decide | omega)) pass0 (pa_cons (pv 0) pa_nil)))) pa_nil))))), fin_P le ga pa kd hq ?_⟩
  refine xs_ret (ev_cb (ea_cons (EvN.ev (en_lc (is := [2]) (fun ds j acc ρ => ds.length = ts.length ∧ ∃ qs : List Rat, acc = qs.map frq ∧ qs.length = j ∧ (∀ q ∈ qs, Sm 17 q) ∧ ρ = [.pot a (k + 5 * j), .dat (loreD ps ws ts), .un]) (by simp) (ei_list (ev_dget (ev_var rfl (ev_str ⟨_, _, _, rfl, rfl, rfl, ?_⟩))))))))
  refine ⟨_, rfl, by rw [DL.rws_len]; omega, ⟨DL.rws_len _, [], rfl, rfl, by simp, rfl⟩, fun j d acc ρ hd hI => ?_, fun acc ρ hl2 hI => ?_⟩
  · obtain ⟨hds, qs, rfl, hq1, hq2, e⟩ := hI
    have hj := (List.getElem?_eq_some_iff.mp hd).1
    rw [e]
    refine eg_name (et_yes ⟨fun _ => ?_, fun h => nomatch h⟩)
    refine ev_callP (Z := fun _ _ => False) Flies.none (fun _ => .nil) (by exact ⟨_, _, rfl⟩) ?_
    repeat walk_at "ar"
    refine ⟨_, _, rfl, rfl, by omega, fun q sq => ?_⟩
    refine ⟨hds, qs ++ [q], by rw [List.map_append]; rfl, by rw [List.length_append, hq1]; rfl, fun x hx => ?_, ?_⟩
    · rcases List.mem_append.mp hx with hx | hx
      · exact hq2 x hx
      · rw [List.mem_singleton.mp hx]
        exact sq
    · rw [show k + 5 * j + 5 = k + 5 * (j + 1) by omega]
      rfl
  · obtain ⟨hds, qs, rfl, hq1, hq2, e⟩ := hI
    rw [e]
    refine ea_nil (rc_tupL ?_)
    exact ⟨_, rfl, hf qs _ (by omega) hq2 (by omega)⟩
end
end K13
open LamX
namespace K13
variable [TabT] [CacT]
/-- costs, bent, and values of any kind -/
def Vb (d : D) : Prop := Gd 27 16 3 d ∨ d = .dic [] ∨ d = .dic [(.inr "a", .int 1)]
theorem Vb.ty3 {d : D} (h : Vb d) : Ty3 d := by
  rcases h with h | rfl | rfl
  · exact h.ty3 (by decide)
  · exact ⟨⟨_, rfl⟩, fun _ e => nomatch e⟩
  · exact ⟨⟨_, rfl⟩, fun _ e => nomatch e⟩
theorem Vb.shows {d : D} (h : Vb d) : ∃ x, Shows d x := by
  rcases h with h | rfl | rfl
  · exact h.shows (by decide) (by decide) (by decide) (by decide)
  · exact (show Vc (.dic []) from .inr (.inl rfl)).shows
  · exact (show Vc (.dic [(.inr "a", .int 1)]) from .inr (.inr rfl)).shows
theorem Vb.frs {qs : List Rat} (h : Vb (.tup (qs.map frq))) : ∀ q ∈ qs, Sm 27 q := by
  rcases h with h | h | h
  · obtain ⟨m, e, l, k⟩ := h.tup_inv
    exact fun q hq => frq_sm (k _ (List.mem_map_of_mem hq))
  · cases h
  · cases h
theorem Vb.of_vc {d : D} (h : Vc d) : Vb d := by
  rcases h with h | h | h
  · exact .inl (h.mono (by decide) (by decide) (by decide))
  · exact .inr (.inl h)
  · exact .inr (.inr h)
theorem odds_vc : ∀ d ∈ odds, Vc d := by
  intro d h
  simp only [odds, List.cons_append, List.nil_append, List.mem_cons, List.not_mem_nil, or_false] at h
  repeat (rcases h with rfl | h; · first | exact .inr (.inl rfl) | exact .inr (.inr rfl) | exact .inl (gdb_ok (by decide +kernel)))
abbrev s_l_right : Stmt := topS 55
abbrev n_l_right : List Str := ["_law_pot_here", "_law_lore_here", "_law_net_here", "_law_costs_here", "_law_at", "_law_values", "_law_odd_here", "_law_value", "_law_caught", "_law_told", "_law_lap"]
abbrev p_l_right : List Str := ["_law_pot_here"]
theorem sc_l_right : FnScope n_l_right p_l_right (defScope s_l_right) := ⟨rfl, rfl, rfl, by decide +kernel, rfl, by decide +kernel, by decide +kernel⟩

section
variable {P : Program} {w : World} {K : PySem.W.Frag} {mg : Str → Option Value} {base : Heap}
def fp_right : FP := fun k ds R _ => ds = [] ∧ k + 10000 < 2 ^ 40 ∧ ∀ k', k' ≤ k + 1000 → R (.bl true) k'
def odd13 : List D := [.tup [.int 2, .int 4], .tup [.int 1, .int 0], .tup [.int 0, .int 2], .tup [.int (-1), .int (-1)], .tup [.int 1], .tup [.int 1, .int 2, .int 3], .int 1, .non, .lst [.int 1, .int 2], .tup [.bl true, .int 1], .tup [.int 1, .bl true], .tup [.int 0, .int 1]]
theorem odd13_gd : ∀ d ∈ odd13, Gd 27 16 2 d := fun d h => gdb_ok (List.all_eq_true.mp (show odd13.all (gdb 27 16 2) = true by decide +kernel) d h)
def base13 (xs : List D) (x0 : D) : List D := [.tup xs, .lst xs, .tup (cutD xs (some 1) none), .tup (xs ++ cutD xs none (some 1)), .tup xs.reverse, .tup [], .non, .int 0, .str "costs", .tup (List.replicate xs.length [D.int 1]).flatten, x0]
theorem rep_flat13 (n : Nat) : (List.replicate n [D.int 1]).flatten = List.replicate n (.int 1) := by
  induction n with
  | zero => rfl
  | succ n ih => rw [List.replicate_succ, List.flatten_cons, ih, List.replicate_succ]; rfl
theorem base13_gd {xs : List D} {x0 : D} (h : ∀ e ∈ xs, Gd 27 16 2 e) (l : xs.length ≤ 14) (h0 : x0 ∈ xs) : ∀ d ∈ base13 xs x0, Gd 27 16 3 d := by
  have l1 : (DL.cutD xs none (some 1)).length ≤ 1 := by
    rw [show (some (1 : Int)) = some ((1 : Nat) : Int) from rfl]
    by_cases h : 1 ≤ xs.length
    · rw [cut_to h, List.length_take]
      omega
    · exact Nat.le_trans (cut_len xs _ _) (by omega)
  have l2 := cut_len xs (some 1) none
  intro d hd
  simp only [base13, List.mem_cons, List.not_mem_nil, or_false] at hd
  rcases hd with rfl | rfl | rfl | rfl | rfl | rfl | rfl | rfl | rfl | rfl | rfl
  · exact .tup (by omega) h
  · exact .lst (by omega) h
  · exact .tup (by omega) fun e he => h e (cut_mem he)
  · refine .tup (by rw [List.length_append]; omega) fun e he => ?_
    rcases List.mem_append.mp he with he | he
    · exact h e he
    · exact h e (cut_mem he)
  · exact .tup (by rw [List.length_reverse]; omega) fun e he => h e (List.mem_reverse.mp he)
  · exact .tup (by simp) fun e he => absurd he (by simp)
  · exact .non
  · exact .int (by decide)
  · exact gdb_ok (by decide +kernel)
  · rw [rep_flat13]
    refine .tup (by rw [List.length_replicate]; omega) fun e he => ?_
    rw [List.eq_of_mem_replicate he]
    exact .int (by decide)
  · exact (h _ h0).mono (by decide) (by decide) (by decide)
theorem ok_right {f CT PM cM g C_BadCosts C_Net : Addr} {oc od dV kV doc pm an ct osl} {ocH odH dVH kVH docH pmH anH cdH ctH oslH} (B : Bt mg) (m_BadCosts : mg "BadCosts" = some (.ref C_BadCosts)) (m_TieError : mg "TieError" = some (.ref CT))
    (m_l_heard : mg "_law_heard" = some (.ref g)) (k_l_heard : PySem.W.keepIn K (.ref g) = true) (l_l_heard : K.lookup g = some ⟨ocH, odH, .func (PySem.W.fnOf "_law_heard" "_law_heard" (defArgs s_l_heard) (defBody s_l_heard) (defScope s_l_heard) dVH kVH docH pmH anH cdH ctH), oslH⟩) (cc_l_heard : PySem.W.codeIn K cdH "_law_heard" = true)
    (b_l_heard : L2.Binds K (PySem.W.fnOf "_law_heard" "_law_heard" (defArgs s_l_heard) (defBody s_l_heard) (defScope s_l_heard) dVH kVH docH pmH anH cdH ctH) ["_law_call"] [])
    (x_BadCosts : ExcC K C_BadCosts) (xf_BadCosts : XfC K C_BadCosts) (v_BadCosts : PySem.W.findIn K (.ref C_BadCosts) "value" = some none) (kk_BadCosts : PySem.W.kitOne K (.ref C_BadCosts) (.ref C_BadCosts) = some true) (em : PySem.W.exmOne K (.ref C_BadCosts) (.ref CT) = some true) (TB : TabB base mg cM PM) (hmT : (PM, ("_law_right.<locals>.<lambda>" : Str)) ∈ TabT.T) (hu_T : ∀ p ∈ TabT.T, p.1 = PM → p.2 = ("_law_right.<locals>.<lambda>" : Str))
    (c_Net : Cls K C_Net) (a_places : NoAttr K C_Net "places") (a_watchers : NoAttr K C_Net "watchers") (a_numbers : NoAttr K C_Net "numbers") (a_walked : NoAttr K C_Net "walked")
    (c_l_take : Cal P w K mg base CX0 1 "_law_take" p_l_take [] (spP K fp_take)) (c_l_of : Cal P w K mg base CX0 2 "_law_of" p_l_of [] (spP K fp_of)) (c_l_odd : Cal P w K mg base CX0 3 "_law_odd" p_l_odd [] (spP K fp_odd)) (c_l_bent : Cal P w K mg base CX0 6 "_law_bent" p_l_bent [] (spP K (fp_bent 26 15 2)))
    (c_l_lore : Cal P w K mg base CX0 4 "_law_lore" p_l_lore [] (spP K fp_lore)) (c_l_net : Cal P w K mg base CX0 6 "_law_net" p_l_net [] (spD K (fs_net C_Net))) (c_l_costs : Cal P w K mg base CX0 4 "_law_costs" p_l_costs [] (spP K fp_lcosts)) (c_l_are_fractions : Cal P w K mg base CX0 3 "_law_are_fractions" p_l_are_fractions [] (spD K fs_laref))
    (c_sums : Cal P w K mg base (L2.CX P w) 5 "sums" p_sums [] (spD K (fs_sums K C_BadCosts C_Net)))
    (lk : K.lookup f = some ⟨oc, od, .func (PySem.W.fnOf "_law_right" "_law_right" (defArgs s_l_right) (defBody s_l_right) (defScope s_l_right) dV kV doc pm an (.ref cM) ct), osl⟩) (hcd : PySem.W.codeIn K (.ref cM) "_law_right" = true) :
    FnG P w K mg base CX0 12 f (PySem.W.fnOf "_law_right" "_law_right" (defArgs s_l_right) (defBody s_l_right) (defScope s_l_right) dV kV doc pm an (.ref cM) ct) p_l_right (spPT K fp_right) := by
  refine fn_g lk hcd sc_l_right (spPT_len fun k ds R Z ⟨e, _⟩ => by rw [e]; rfl) (fun A outer s H vs Q E gd hr ⟨hT, a, ws, G, ds, k, R, Z, ev, hN, le, ga, pa, kd, hf, hq, hz⟩ => ?_)
  have hu : (cxOf CX0 P w K mg base n_l_right "_law_right" (defScope s_l_right) f (.ref cM) A outer s H E).nox.A.units + 64 < cLine := hr.units
  have hu0 : (cxOf CX0 P w K mg base n_l_right "_law_right" (defScope s_l_right) f (.ref cM) A outer s H E).nox.A.units + 1 < cLine := by omega
  obtain ⟨rfl, k1, hf⟩ := hf
  subst ev
  refine ⟨_, PSs.nox ((pss_cons (ps_set (i := 1) sc_l_right.nd rfl (by first | exact Or.inl rfl | exact Or.inr rfl) (pe_cal c_l_lore gd (hr.mono (by first | decide | omega)) pass0 (pa_cons (pv 0) (pa_cons pe_int (pa_cons (pe_cal c_l_of gd (hr.mono (by first | decide | omega)) pass0 (pa_cons (pv 0) (pa_cons (pe_lst (pa_cons pe_int (pa_cons pe_int pa_nil))) pa_nil))) (pa_cons (pe_cal c_l_of gd (hr.mono (by first | decide | omega)) pass0 (pa_cons (pv 0) (pa_cons (pe_lst (pa_cons pe_int (pa_cons pe_int pa_nil))) pa_nil))) pa_nil))))))
      (pss_cons (ps_asg (pe_tup (pa_cons (pe_cal c_l_net gd (hr.mono (by first | decide | omega)) pass0 (pa_cons (pv 1) pa_nil)) (pa_cons (pe_cal c_l_costs gd (hr.mono (by first | decide | omega)) pass0 (pa_cons (pv 0) (pa_cons (pv 1) pa_nil))) pa_nil))) (pg_tup rfl (pgs_cons (pg_name (i := 2) sc_l_right.nd rfl (by first | exact Or.inl rfl | exact Or.inr rfl)) (pgs_cons (pg_name (i := 3) sc_l_right.nd rfl (by first | exact Or.inl rfl | exact Or.inr rfl)) pgs_nil))))
      (pss_cons (ps_set (i := 4) sc_l_right.nd rfl (by first | exact Or.inl rfl | exact Or.inr rfl) (pe_cal c_l_take gd (hr.mono (by first | decide | omega)) pass0 (pa_cons (pv 0) (pa_cons (pe_callB ((CallR.or call_len_seq call_len_str)) rfl B.b_len bt_len (pa_cons (pv 3) pa_nil)) pa_nil))))
      (pss_cons (ps_set (i := 5) sc_l_right.nd rfl (by first | exact Or.inl rfl | exact Or.inr rfl) (pe_lst (pa_cons (pv 3) (pa_cons (pe_callTy (call_list_of) rfl B.b_list bt_list (pa_cons (pv 3) pa_nil)) (pa_cons (pe_slice sl_cut (pv 3) (po_some pe_int) po_none) (pa_cons (pe_op op_plus (pv 3) (pe_slice sl_cut (pv 3) po_none (po_some pe_int))) (pa_cons (pe_revT (pv 3)) (pa_cons (pe_tup pa_nil) (pa_cons pe_non (pa_cons pe_int (pa_cons pe_str (pa_cons (pe_op op_timesA (pe_tup (pa_cons pe_int pa_nil)) (pe_callB ((CallR.or call_len_seq call_len_str)) rfl B.b_len bt_len (pa_cons (pv 3) pa_nil))) (pa_cons (pe_ix ix_seq (pv 3) pe_int (fun _ _ => rfl)) pa_nil)))))))))))))
      (pss_cons (ps_for PassesOwn.never rfl (pi_tup (pe_tup (pa_cons (pe_tup (pa_cons pe_int (pa_cons pe_int pa_nil))) (pa_cons (pe_tup (pa_cons pe_int (pa_cons pe_int pa_nil))) (pa_cons (pe_tup (pa_cons pe_int (pa_cons pe_int pa_nil))) (pa_cons (pe_tup (pa_cons (pe_un un_neg pe_int) (pa_cons (pe_un un_neg pe_int) pa_nil))) (pa_cons (pe_tup (pa_cons pe_int pa_nil)) (pa_cons (pe_tup (pa_cons pe_int (pa_cons pe_int (pa_cons pe_int pa_nil)))) (pa_cons pe_int (pa_cons pe_non (pa_cons (pe_lst (pa_cons pe_int (pa_cons pe_int pa_nil))) (pa_cons (pe_tup (pa_cons pe_bl (pa_cons pe_int pa_nil))) (pa_cons (pe_tup (pa_cons pe_int (pa_cons pe_bl pa_nil))) (pa_cons (pe_tup (pa_cons pe_int (pa_cons pe_int pa_nil))) pa_nil)))))))))))))) (pg_name (i := 6) sc_l_right.nd rfl (by first | exact Or.inl rfl | exact Or.inr rfl))
      (pss_one (ps_expr (pe_bm PySem.F.plainAttrs_list PySem.F.slot_list_append PySem.F.type_list_append mt_append (pv 5) (pa_cons (pe_op op_plus (pe_op op_plus (pe_slice sl_cut (pv 3) po_none (po_some (pv 4))) (pe_tup (pa_cons (pv 6) pa_nil))) (pe_slice sl_cut (pv 3) (po_some (pe_op op_plus (pv 4) pe_int)) po_none)) pa_nil)))))
      (pss_cons (ps_for PassesOwn.never rfl (pi_list (pe_op op_plus (pe_op op_plus (pv 5) (pe_lc (own := [("_law_lap", 10)]) (g := (gName 10)) (tt := tYes) rfl sc_l_right.nd (pi_range1 rfl B.b_range (pa_cons pe_int pa_nil)) (blkOk_by (N := n_l_right) (sc := defScope s_l_right) (by decide +kernel)) (fun _ _ _ _ _ => (pg_name (i := 10) sc_l_right.nd rfl (by first | exact Or.inl rfl | exact Or.inr rfl))) (fun _ _ _ _ _ => pts_nil) (fun _ _ _ _ _ => (pe_cal c_l_bent gd (hr.mono (by first | decide | omega)) pass0 (pa_cons (pv 0) (pa_cons (pv 3) pa_nil)))))) (pe_lst (pa_cons (pe_cal c_l_odd gd (hr.mono (by first | decide | omega)) pass0 (pa_cons (pv 0) pa_nil)) pa_nil)))) (pg_name (i := 7) sc_l_right.nd rfl (by first | exact Or.inl rfl | exact Or.inr rfl))
      (pss_cons (ps_asg (pe_lamG (k := 5) gd rfl m_l_heard k_l_heard l_l_heard cc_l_heard b_l_heard sc_l_heard rfl (.inl rfl) (heard_gives m_TieError) TB rfl hmT hu_T (hr.mono (by first | decide | omega)) (lamS_by (sc := defScope s_l_right) (by decide +kernel)) rfl (fun _ _ _ _ _ => rfl) (fun A outer s H E f c_ gA hr2 => (pe_cal c_sums gA (hr2.mono (by first | decide | omega)) (passes_call (takes_of rfl rfl rfl rfl) (fun _ _ _ _ h => h)) (pa_cons (pv 2) (pa_cons (pv 7) pa_nil))))) (pg_tup rfl (pgs_cons (pg_name (i := 8) sc_l_right.nd rfl (by first | exact Or.inl rfl | exact Or.inr rfl)) (pgs_cons (pg_name (i := 9) sc_l_right.nd rfl (by first | exact Or.inl rfl | exact Or.inr rfl)) pgs_nil))))
      (pss_one (ps_if (pt_val (pe_cal c_l_are_fractions gd (hr.mono (by first | decide | omega)) pass0 (pa_cons (pv 7) (pa_cons (pe_callB ((CallR.or call_len_seq call_len_str)) rfl B.b_len bt_len (pa_cons (pe_dget hu0 (pv 1) pe_str (fun _ _ => rfl)) pa_nil)) pa_nil))))
      (pss_one (ps_if (PW.pt (pw_or (pt_cmpR op_notN (pv 8) pe_non (nomark _)) (pw_or1 (pt_not (pt_val (pe_callB (call_isA) rfl B.b_isinstance bt_isinstance (pa_cons (pv 9) (pa_cons (pe_bltn (v := .ty "tuple") rfl B.b_tuple bt_tuple rfl) pa_nil))))))))
      (pss_one (ps_ret pe_bl))
      pss_nil))
      (pss_one (ps_if (PW.pt (pw_or (pt_not (pt_val (pe_callB (call_isA) rfl B.b_isinstance bt_isinstance (pa_cons (pv 8) (pa_cons (pe_glob (v := .ref C_BadCosts) rfl m_BadCosts rfl) pa_nil))))) (pw_or1 (pt_cmpR (op_neA hu) (pe_callB (call_reprA gd hu) rfl B.b_repr bt_repr (pa_cons (pe_xv (pv 8)) pa_nil)) (pe_callB (call_reprA gd hu) rfl B.b_repr bt_repr (pa_cons (pv 7) pa_nil)) (nomark _)))))
      (pss_one (ps_ret pe_bl))
      pss_nil))))))
      (pss_one (ps_ret pe_bl))))))))), fin_P le ga pa kd hq ?_⟩
  refine xs_mid (fun ρ => ∃ most ps ws ts k', most ≤ 8 ∧ Lore 3 most ps ws ts ∧ k' ≤ k + 210 ∧ ρ = [.pot a k', .dat (loreD ps ws ts), .un, .un, .un, .un, .un, .un, .un, .un, .un]) ?_ fun ρ ⟨most, ps, ws, ts, k', m8, L, hk', e⟩ => ?_
  · refine xs_set (ev_callP (Z := fun _ _ => False) Flies.none (fun _ => .nil) (by exact ⟨_, _, rfl⟩) ?_)
    refine ea_cons (ev_int (ea_cons (ev_callP (Z := fun _ _ => False) Flies.none (fun _ => .nil) (by exact ⟨_, _, rfl⟩) ?_)))
    repeat walk_at "ev"
    refine ⟨_, _, rfl, _, rfl, by simp, by simp, by omega, fun x hx => ?_⟩
    obtain ⟨most, rfl, m3, m8⟩ : ∃ most : Nat, x = .int (most : Int) ∧ 3 ≤ most ∧ most ≤ 8 := by
      simp only [List.mem_cons, List.not_mem_nil, or_false] at hx
      rcases hx with rfl | rfl
      · exact ⟨6, rfl, by decide, by decide⟩
      · exact ⟨8, rfl, by decide, by decide⟩
    refine ea_cons (ev_callP (Z := fun _ _ => False) Flies.none (fun _ => .nil) (by exact ⟨_, _, rfl⟩) ?_)
    repeat walk_at "ev"
    refine ⟨_, _, rfl, _, rfl, by simp, by simp, by omega, fun x hx => ?_⟩
    obtain ⟨tm, rfl, t100⟩ : ∃ tm : Nat, x = .int (tm : Int) ∧ tm ≤ 100 := by
      simp only [List.mem_cons, List.not_mem_nil, or_false] at hx
      rcases hx with rfl | rfl
      · exact ⟨9, rfl, by decide⟩
      · exact ⟨14, rfl, by decide⟩
    repeat walk_at "ar"
    exact ⟨_, _, rfl, 3, most, tm, rfl, by decide, m3, m8, t100, by omega, fun ps ws ts k' L hk => ⟨most, ps, ws, ts, k', m8, L, by omega, rfl⟩⟩
  subst e
  have tl := L.tl
  have t1 : 0 < ts.length := by
    rcases Nat.lt_or_ge 0 ts.length with h | h
    · exact h
    · exact absurd (List.eq_nil_of_length_eq_zero (by omega)) L.t0
  have NO : NetOk K C_Net (loreT ps ws ts) (ps, ws, ts) := L.netok (by decide) m8 c_Net a_places a_watchers a_numbers a_walked
  obtain ⟨net, enet⟩ : ∃ net, net = D.ins C_Net (netFs (loreT ps ws ts) (ps, ws, ts)) := ⟨_, rfl⟩
  refine xs_mid (fun ρ => ∃ (qs : List Rat) (k2 : Nat), qs.length = ts.length ∧ (∀ q ∈ qs, Sm 17 q) ∧ k2 ≤ k + 300 ∧ ρ = [.pot a k2, .dat (loreD ps ws ts), .dat net, .dat (.tup (qs.map frq)), .un, .un, .un, .un, .un, .un, .un]) ?_ fun ρ ⟨qs, k2, hl, hS, hk2, e⟩ => ?_
  · refine xs_asg (is := [2, 3]) (ev_tup (ea_cons (ev_call (Z := fun _ _ => False) Flies.none (fun _ => .nil) (ea_cons (ev_var rfl (ea_nil ?_))))))
    refine ⟨3, most, ps, ws, ts, rfl, L, by decide, m8, ?_⟩
    rw [← enet]
    refine ea_cons (ev_callP (Z := fun _ _ => False) Flies.none (fun _ => .nil) (by exact ⟨_, _, rfl⟩) ?_)
    refine ea_cons (ev_var rfl (ea_nil ⟨_, _, rfl, ps, ws, ts, rfl, tl, by omega, fun qs k2 h1 h2 h3 => ?_⟩))
    refine ea_nil ⟨Nat.le_of_ble_eq_true rfl, ?_⟩
    refine eg_tup rfl (egs_cons (is := [2]) (js := [3]) (eg_name (egs_cons (is := [3]) (js := []) (eg_name (egs_nil ?_)))))
    exact ⟨qs, k2, h1, h2, by omega, rfl⟩
  subst e
  obtain ⟨xs, ex⟩ : ∃ xs, xs = qs.map frq := ⟨_, rfl⟩
  have lx : xs.length = ts.length := by rw [ex, List.length_map]; exact hl
  have hB : Bn 26 15 2 (.tup xs) := by rw [ex]; exact frs_bn (fun q hq => (hS q hq).mono (by decide)) (by decide) (by omega)
  have hE : ∀ e ∈ xs, Gd 27 16 2 e := fun e h => by
    rw [ex] at h
    obtain ⟨q, hq, rfl⟩ := List.mem_map.mp h
    exact (frq_bn (n := 0) (hS q hq) (L := 5) (by decide)).gd.mono (by decide) (by decide) (by decide)
  rw [← ex]
  refine xs_mid (fun ρ => ∃ j : Nat, j < xs.length ∧ ρ = [.pot a (k2 + 1), .dat (loreD ps ws ts), .dat net, .dat (.tup xs), .dat (.int (j : Int)), .un, .un, .un, .un, .un, .un]) ?_ fun ρ ⟨j, hj, e⟩ => ?_
  · refine xs_set (ev_callP (Z := fun _ _ => False) Flies.none (fun _ => .nil) (by exact ⟨_, _, rfl⟩) ?_)
    repeat walk_at "ar"
    refine ⟨_, _, rfl, _, rfl, by omega, by omega, by omega, fun t t0 t1 => ?_⟩
    exact ⟨t.toNat, by omega, by rw [Int.toNat_of_nonneg t0]; rfl⟩
  subst e
  have hx0 : xs[0]? = some (xs.headD .non) := by
    cases xs with
    | nil => simp at hj
    | cons x xs => rfl
  refine xs_mid (fun ρ => ρ = [.pot a (k2 + 1), .dat (loreD ps ws ts), .dat net, .dat (.tup xs), .dat (.int (j : Int)), .own (base13 xs (xs.headD .non)), .un, .un, .un, .un, .un]) ?_ fun ρ e => ?_
  · refine xs_own (en_lst (ea_cons (ev_var rfl (ea_cons (EvN.ev (en_list (ea_cons (ev_var rfl (ea_nil ⟨xs, .inr rfl, ?_⟩)))))))))
    refine ea_cons (ev_cut (ev_var rfl (eo_some (ev_int ⟨_, rfl, eo_none (.inr (.inl ⟨_, rfl, ?_⟩))⟩))))
    refine ea_cons (ev_op (ev_var rfl (ev_cut (ev_var rfl (eo_none (eo_some (ev_int ⟨_, rfl, .inr (.inl ⟨_, rfl, ?_⟩)⟩)))))))
    have l1 := cut_len xs none (some 1)
    refine rd_k (r := rPlus) rfl (plus_tup (by omega) ?_)
    refine ea_cons (ev_revT (ev_var rfl ⟨_, rfl, ?_⟩))
    refine ea_cons (ev_tup (ea_nil ⟨Nat.le_of_ble_eq_true rfl, ?_⟩))
    refine ea_cons (ev_non (ea_cons (ev_int (ea_cons (ev_str (ea_cons (ev_op (ev_tup (ea_cons (ev_int (ea_nil ⟨Nat.le_of_ble_eq_true rfl, ?_⟩)))))))))))
    repeat walk_at "ar"
    refine rd_k (r := rTimesA) rfl (mul_tup (by simp) (by omega) (by simp) ?_)
    refine ea_cons (ev_op (ev_var rfl (ev_int (ix_tupl ⟨0, rfl, hx0⟩ ?_))))
    exact ea_nil ⟨Nat.le_of_ble_eq_true rfl, rfl⟩
  subst e
  have h0 := base13_gd hE (by omega) (List.mem_of_getElem? hx0)
  refine xs_mid (fun ρ => ∃ vs : List D, vs.length = 23 ∧ (∀ v ∈ vs, Gd 27 16 3 v) ∧ ∃ u6, ρ = [.pot a (k2 + 1), .dat (loreD ps ws ts), .dat net, .dat (.tup xs), .dat (.int (j : Int)), .own vs, u6, .un, .un, .un, .un]) ?_ fun ρ ⟨vs, lv, hv, u6, e⟩ => ?_
  · refine xs_for (is := [6]) (fun ds i ρ => ds = odd13 ∧ ∃ vs : List D, vs.length = 11 + i ∧ (∀ v ∈ vs, Gd 27 16 3 v) ∧ ∃ u6, ρ = [.pot a (k2 + 1), .dat (loreD ps ws ts), .dat net, .dat (.tup xs), .dat (.int (j : Int)), .own vs, u6, .un, .un, .un, .un]) (ei_tup ?_)
    repeat (first | walk_at "ar" | (refine ⟨Nat.le_of_ble_eq_true rfl, ?_⟩))
    refine ⟨_, rfl, ⟨rfl, _, rfl, h0, _, rfl⟩, fun i d ρ hd hI => ?_, fun ρ hI => ?_⟩
    · obtain ⟨eo, vs, lv, hv, u6, rfl⟩ := hI
      have hi := (List.getElem?_eq_some_iff.mp hd).1
      have hi : i < 12 := hi
      have hm : d ∈ odd13 := by
        rw [← eo]
        exact List.mem_of_getElem? hd
      refine eg_name ?_
      refine xs_drop (ev_append rfl ⟨_, rfl⟩ (ev_op (ev_op (ev_cut (ev_var rfl (eo_none (eo_some (ev_var rfl ⟨_, rfl, .inr (.inl ⟨_, rfl, ?_⟩)⟩))))))))
      rw [cut_to (by omega)]
      refine ev_tup (ea_cons (ev_var rfl (ea_nil ⟨Nat.le_of_ble_eq_true rfl, ?_⟩)))
      refine rd_k (r := rPlus) rfl (plus_tup (by rw [List.length_take]; simp; omega) ?_)
      refine ev_cut (ev_var rfl (eo_some (ev_op (ev_var rfl (ev_int (rd_k (r := rPlus) rfl (plus_int ⟨_, rfl, eo_none (.inr (.inl ⟨_, rfl, ?_⟩))⟩)))))))
      rw [show ((j : Int) + 1) = ((j + 1 : Nat) : Int) by omega, cut_from (by omega)]
      refine rd_k (r := rPlus) rfl (plus_tup (by simp; omega) ?_)
      refine ⟨vs, rfl, by omega, eo, _, by rw [List.length_append, lv]; rfl, fun v h => ?_, _, rfl⟩
      rcases List.mem_append.mp h with h | h
      · exact hv v h
      rw [List.mem_singleton.mp h]
      refine .tup (by simp; omega) fun e h => ?_
      rcases List.mem_append.mp h with h | h
      · rcases List.mem_append.mp h with h | h
        · exact hE _ (List.mem_of_mem_take h)
        · rw [List.mem_singleton.mp h]
          exact odd13_gd _ hm
      · exact hE _ (List.mem_of_mem_drop h)
    · obtain ⟨eo, vs, lv, hv, u6, rfl⟩ := hI
      refine ⟨vs, by rw [lv]; rfl, hv, u6, rfl⟩
  subst e
  refine xs_seq (xs_freeze (i := 5) rfl ?_)
  refine xs_for (is := [7]) (fun ds i ρ => (∀ v ∈ ds, Vb v) ∧ ∃ k3, k3 ≤ k + 800 ∧ ∃ u6 u7 u8 u9 : DL.Slot, ρ = [.pot a k3, .dat (loreD ps ws ts), .dat net, .dat (.tup xs), .dat (.int (j : Int)), .dat (.lst vs), u6, u7, u8, u9, .un]) (ei_list (ev_op (ev_op (ev_var rfl (EvN.ev (en_lc (is := [10]) (fun ds i acc ρ => ds.length = 12 ∧ acc.length = i ∧ (∀ v ∈ acc, Gd 27 16 3 v) ∧ ∃ k3, k3 ≤ k2 + 1 + 10 * i ∧ ρ = [.pot a k3, .dat (loreD ps ws ts), .dat net, .dat (.tup xs), .dat (.int (j : Int)), .dat (.lst vs), u6, .un, .un, .un, .un]) (by decide) (ei_range1 ?_)))))))
  repeat walk_at "ev"
  refine ⟨by decide, by decide, ?_⟩
  refine ⟨by decide, ⟨rfl, rfl, by simp, _, by omega, rfl⟩, fun i d acc ρ hd hI => ?_, fun acc ρ hl2 hI => ?_⟩
  · obtain ⟨hds, ha, hv2, kk, hk, e⟩ := hI
    have hi := (List.getElem?_eq_some_iff.mp hd).1
    rw [e]
    refine eg_name (et_yes ⟨fun _ => ?_, fun h => nomatch h⟩)
    refine ev_callP (Z := fun _ _ => False) Flies.none (fun _ => .nil) (by exact ⟨_, _, rfl⟩) ?_
    refine ea_cons (ev_var rfl (ea_nil ⟨_, _, rfl, _, rfl, hB, by omega, fun r k4 hr2 hk4 => ?_⟩))
    refine ⟨hds, by rw [List.length_append, ha]; rfl, fun v h => ?_, _, by omega, rfl⟩
    rcases List.mem_append.mp h with h | h
    · exact hv2 v h
    · rw [List.mem_singleton.mp h]
      exact hr2
  obtain ⟨hds, ha, hv2, kk, hk, e⟩ := hI
  rw [hds] at hk ha
  rw [e]
  refine rd_k (r := rPlus) rfl (plus_lst (by omega) ?_)
  refine ev_lst (ea_cons (ev_callP (Z := fun _ _ => False) Flies.none (fun _ => .nil) (by exact ⟨_, _, rfl⟩) ?_))
  refine ea_nil ⟨_, _, rfl, rfl, by omega, fun o ho => ea_nil ⟨Nat.le_of_ble_eq_true rfl, ?_⟩⟩
  refine rd_k (r := rPlus) rfl (plus_lst (by rw [List.length_append]; simp; omega) ?_)
  refine ⟨_, rfl, ⟨fun v h => ?_, kk + 1, by omega, _, _, _, _, rfl⟩, fun i d ρ hd hI => ?_, fun ρ hI => ?_⟩
  · rcases List.mem_append.mp h with h | h
    · rcases List.mem_append.mp h with h | h
      · exact .inl (hv v h)
      · exact .inl (hv2 v h)
    · rw [List.mem_singleton.mp h]
      exact .of_vc (odds_vc _ ho)
  · obtain ⟨hall, k3, hk3, v6, v7, v8, v9, rfl⟩ := hI
    have hd' : Vb d := hall d (List.mem_of_getElem? hd)
    obtain ⟨xd, sd⟩ := hd'.shows
    have td := hd'.ty3
    refine eg_name ?_
    refine xs_mid (fun ρ => ∃ caught told, ρ = [.pot a k3, .dat (loreD ps ws ts), .dat net, .dat (.tup xs), .dat (.int (j : Int)), .dat (.lst vs), v6, .dat d, .dat caught, .dat told, .un] ∧
      (((areF d && lenIs (ts.length : Nat) d) = false ∧ caught = .exc C_BadCosts d) ∨ ((areF d && lenIs (ts.length : Nat) d) = true ∧ caught = .non ∧ ∃ ys, told = .tup ys))) ?_ fun ρ ⟨caught, told, e, hρ⟩ => ?_
    · cases hc : (areF d && lenIs (ts.length : Nat) d) with
      | false =>
        refine xs_asg (is := [8, 9]) (ev_heard (R := fun _ => False) (Z := fun C db => C = C_BadCosts ∧ db = d) hT hN (fun G2 H2 E2 hE => ?_) (fun r hd => hd.elim) (fun Cl db hz => ?_))
        · refine ev_call hE (fun _ => .nil) (ea_cons (ev_var rfl (ea_cons (ev_var rfl (ea_nil ?_)))))
          rw [enet]
          exact ⟨_, _, d, rfl, NO, td, .inl ⟨hc, rfl, rfl⟩⟩
        · obtain ⟨rfl, rfl⟩ := hz
          refine ⟨em, ?_⟩
          refine eg_tup rfl (egs_cons (is := [8]) (js := [9]) (eg_name (egs_cons (is := [9]) (js := []) (eg_name (egs_nil ?_)))))
          exact ⟨_, _, rfl, .inl ⟨rfl, rfl⟩⟩
      | true =>
        have ⟨hc1, hc2⟩ := Bool.and_eq_true_iff.mp hc
        obtain ⟨rs, rfl⟩ := areF_inv hc1
        have hl2 : rs.length = ts.length := by
          have h : (((rs.map frq).length : Int) == (ts.length : Nat)) = true := hc2
          have := eq_of_beq h
          rw [List.length_map] at this
          omega
        refine xs_asg (is := [8, 9]) (ev_heard (R := fun r => ∃ ys, r = .tup ys) (Z := fun _ _ => False) hT hN (fun G2 H2 E2 hE => ?_) (fun r hd => ?_) (fun Cl db hz => hz.elim))
        · refine ev_call hE (fun _ => .nil) (ea_cons (ev_var rfl (ea_cons (ev_var rfl (ea_nil ?_)))))
          rw [enet]
          exact ⟨_, _, _, rfl, NO, td, .inr ⟨rs, rfl, hl2, fun q hq => (hd'.frs q hq).mono (by decide), _, rfl⟩⟩
        · refine eg_tup rfl (egs_cons (is := [8]) (js := [9]) (eg_name (egs_cons (is := [9]) (js := []) (eg_name (egs_nil ?_)))))
          exact ⟨_, _, rfl, .inr ⟨rfl, rfl, hd⟩⟩
    subst e
    refine xs_if (et_B (ev_call (Z := fun _ _ => False) Flies.none (fun _ => .nil) (ea_cons (ev_var rfl (ea_cons (ev_cb (ea_cons (ev_dget (ev_var rfl (ev_str ⟨_, _, _, rfl, rfl, rfl, ea_nil ?_⟩)))))))))) 
    repeat walk_at "ar"
    rw [DL.rws_len]
    refine ⟨d, _, rfl, td, _, rfl, ?_⟩
    rcases hρ with ⟨hc, rfl⟩ | ⟨hc, rfl, ys, rfl⟩
    · rw [hc]
      refine ⟨fun h => (nomatch h), fun _ => ?_⟩
      refine xs_if (et_or (et_not (et_B (ev_cb (ea_cons (ev_var rfl ?_))))))
      repeat walk_at "ar"
      refine rc_isX rfl x_BadCosts (.own _) kk_BadCosts ?_
      refine ⟨true, rfl, fun h => (nomatch h), fun _ => ?_⟩
      repeat walk_at "ar"
      refine ev_xv (ev_var rfl ⟨C_BadCosts, d, rfl, xf_BadCosts, v_BadCosts, ea_nil ?_⟩)
      refine rc_reprA rfl sd ?_
      repeat walk_at "ar"
      refine rc_reprA rfl sd ?_
      refine ne_str rfl ?_
      rw [decide_eq_true rfl]
      exact ⟨_, rfl, (fun h => nomatch h), fun _ => xs_next ⟨hall, k3, hk3, _, _, _, _, rfl⟩⟩
    · rw [hc]
      refine ⟨fun _ => ?_, fun h => (nomatch h)⟩
      refine xs_if (et_or (et_test (ev_op (ev_var rfl (ev_non ?_)))))
      refine rd_notN (b := true) (fun G v h => isN_non h) ⟨_, rfl, (fun h => nomatch h), fun _ => ?_⟩
      refine et_not (et_B (ev_cb (ea_cons (ev_var rfl ?_))))
      repeat walk_at "ar"
      refine isa_tup rfl ⟨_, rfl⟩ ?_
      exact ⟨_, rfl, (fun h => nomatch h), fun _ => xs_next ⟨hall, k3, hk3, _, _, _, _, rfl⟩⟩
  · obtain ⟨hall, k3, hk3, v6, v7, v8, v9, rfl⟩ := hI
    refine xs_ret ?_
    repeat walk_at "ar"
    exact ⟨_, rfl, hf _ (by omega)⟩
end
end K13
open LamX
namespace K13
variable [TabT] [CacT]
abbrev s_law : Stmt := topS 56
abbrev n_law : List Str := ["_law_script", "_law_place", "_law_pot_here", "_law_lap"]
abbrev p_law : List Str := ["_law_script"]
theorem sc_law : FnScope n_law p_law (defScope s_law) := ⟨rfl, rfl, rfl, by decide +kernel, rfl, by decide +kernel, by decide +kernel⟩

section
variable {P : Program} {w : World} {K : PySem.W.Frag} {mg : Str → Option Value} {base : Heap}
def fs_law : FS := fun ds R _ => ∃ ns, ds = [.scr ns] ∧ R (.bl true)
theorem ok_law {f : Addr} {fd : FuncData} (B : Bt mg) (c_l_cells : Cal P w K mg base CX0 1 "_law_cells" p_l_cells [] (spD K fs_cells)) (c_l_pot : Cal P w K mg base CX0 1 "_law_pot" p_l_pot [] (spN K fn_pot)) (c_l_right : Cal P w K mg base CX0 12 "_law_right" p_l_right [] (spPT K fp_right)) (F : Fun K "law" "law" s_law f fd) : FnG P w K mg base CX0 13 f fd p_law (spDT K fs_law) := by
  refine okG F sc_law (spDT_len fun ds R Z ⟨ns, e, _⟩ => by rw [e]; rfl) (fun cdv A outer s H vs Q E gd hr ⟨hT, G, ds, R, Z, hN, le, kd, hf, hq, hz⟩ => ?_)
  obtain ⟨ns, rfl, hf⟩ := hf
  refine ⟨_, PSs.nox ((pss_cons (ps_for PassesOwn.never rfl (pi_list (pe_cal c_l_cells gd (hr.mono (by first | decide | omega)) pass0 (pa_cons (pv 0) (pa_cons pe_int pa_nil)))) (pg_name (i := 1) sc_law.nd rfl (by first | exact Or.inl rfl | exact Or.inr rfl))
      (pss_cons (ps_set (i := 2) sc_law.nd rfl (by first | exact Or.inl rfl | exact Or.inr rfl) (pe_cal c_l_pot gd (hr.mono (by first | decide | omega)) pass0 (pa_cons (pv 0) (pa_cons (pv 1) pa_nil))))
      (pss_one (ps_if (pt_not (pt_val (pe_callB (cr_all rfl) rfl B.b_all bt_all (pa_cons (pe_lc (own := [("_law_lap", 3)]) (g := (gName 3)) (tt := tYes) rfl sc_law.nd (pi_range1 rfl B.b_range (pa_cons pe_int pa_nil)) (blkOk_by (N := n_law) (sc := defScope s_law) (by decide +kernel)) (fun _ _ _ _ _ => (pg_name (i := 3) sc_law.nd rfl (by first | exact Or.inl rfl | exact Or.inr rfl))) (fun _ _ _ _ _ => pts_nil) (fun _ _ _ _ _ => (pe_cal c_l_right gd (hr.mono (by first | decide | omega)) pass0 (pa_cons (pv 2) pa_nil)))) pa_nil))))
      (pss_one (ps_ret pe_bl))
      pss_nil))))
      (pss_one (ps_ret pe_bl)))), fin_D le kd hq ?_⟩
  refine xs_seq ?_
  refine xs_for (is := [1]) (fun _ i ρ => ∃ u1 u2 : DL.Slot, ρ = [.dat (.scr ns), u1, u2, .un]) (ei_list (ev_call (Z := fun _ _ => False) Flies.none (fun _ => .nil) ?_))
  repeat walk_at "ev"
  refine ⟨ns, 5, rfl, by decide, by decide, fun n hn => ?_⟩
  refine ⟨_, rfl, ⟨.un, .un, rfl⟩, fun i d ρ hd hI => ?_, fun ρ hI => ?_⟩
  · obtain ⟨u1, u2, rfl⟩ := hI
    obtain ⟨rfl, hi⟩ := ints_get hd
    refine eg_name ?_
    refine xs_seq (xs_pot (eq_call ?_))
    repeat walk_at "ev"
    refine ⟨⟨ns, _, rfl, by omega, by omega⟩, fun p => ?_⟩
    refine xs_if (et_not (et_B (ev_cb (ea_cons (EvN.ev (en_lc (is := [3]) (fun ds j acc ρ => ds.length = 2 ∧ acc = List.replicate j (.bl true) ∧ ∃ kk, kk ≤ 10000 * j ∧ ρ = [.dat (.scr ns), .dat (.int (0 + (i : Int))), .pot p kk, .un]) (by decide) (ei_range1 ?_)))))))
    repeat walk_at "ev"
    refine ⟨by decide, by decide, ?_⟩
    refine ⟨by decide, ⟨rfl, rfl, 0, by decide, rfl⟩, fun j d acc ρ hd hI => ?_, fun acc ρ hl2 hI => ?_⟩
    · obtain ⟨hds, rfl, kk, hk, e⟩ := hI
      obtain ⟨rfl, hj⟩ := ints_get hd
      have hj3 : j < 2 := hj
      rw [e]
      refine eg_name (et_yes ⟨fun _ => ?_, fun h => nomatch h⟩)
      refine ev_callPT (Z := fun _ _ => False) hT hN Flies.none (fun _ => .nil) (by exact ⟨_, _, rfl⟩) ?_
      repeat walk_at "ar"
      refine ⟨_, _, rfl, rfl, by omega, fun k' hk' => ?_⟩
      exact ⟨hds, by rw [List.replicate_succ'], k', by omega, rfl⟩
    · obtain ⟨hds, rfl, kk, hk, e⟩ := hI
      rw [e]
      refine ea_nil (rc_k (r := rAll) rfl ?_)
      refine (rc_all (bs := [true, true]) ?_ : RC1 _ _ _ _)
      refine ⟨true, rfl, fun h => (nomatch h), fun _ => ?_⟩
      refine xs_next ?_
      exact ⟨_, _, rfl⟩
  · obtain ⟨u1, u2, rfl⟩ := hI
    refine xs_ret ?_
    repeat walk_at "ar"
    exact hf
end
end K13
namespace K13
open PySem PySem.Spec PyProof.Rows L2 DL LamX
variable [TabT]
set_option maxRecDepth 100000 in
theorem all_mk {l : PySem.W.OpenLaw} {w : World} {K : PySem.W.Frag} {h : Heap} {mg : Str → Option Value} {fa PM_l_right : Addr} (X : K.In h) (G : h.Ns mainGlobals mg) (hfa : mg "law" = some (.ref fa))
    (hmT_l_right : (PM_l_right, ("_law_right.<locals>.<lambda>" : Str)) ∈ TabT.T) (hu_T_l_right : ∀ p ∈ TabT.T, p.1 = PM_l_right → p.2 = ("_law_right.<locals>.<lambda>" : Str))
    {f_l_heard : Addr} {od_l_heard an_l_heard : Option Addr} {sl_l_heard : Array (Option Value)} {oc_l_heard kV_l_heard dc_l_heard pm_l_heard cd_l_heard ct_l_heard : Value}
    {f_l_pot : Addr} {od_l_pot an_l_pot : Option Addr} {sl_l_pot : Array (Option Value)} {oc_l_pot kV_l_pot dc_l_pot pm_l_pot cd_l_pot ct_l_pot : Value}
    {f_l_take : Addr} {od_l_take an_l_take : Option Addr} {sl_l_take : Array (Option Value)} {oc_l_take kV_l_take dc_l_take pm_l_take cd_l_take ct_l_take : Value}
    {f_l_some : Addr} {od_l_some an_l_some : Option Addr} {sl_l_some : Array (Option Value)} {oc_l_some kV_l_some dc_l_some pm_l_some cd_l_some ct_l_some : Value}
    {f_l_names : Addr} {od_l_names an_l_names : Option Addr} {sl_l_names : Array (Option Value)} {oc_l_names kV_l_names dc_l_names pm_l_names cd_l_names ct_l_names : Value}
    {f_l_pairs : Addr} {od_l_pairs an_l_pairs : Option Addr} {sl_l_pairs : Array (Option Value)} {oc_l_pairs kV_l_pairs dc_l_pairs pm_l_pairs cd_l_pairs ct_l_pairs : Value}
    {f_l_cells : Addr} {od_l_cells an_l_cells : Option Addr} {sl_l_cells : Array (Option Value)} {oc_l_cells kV_l_cells dc_l_cells pm_l_cells cd_l_cells ct_l_cells : Value}
    {f_l_of : Addr} {od_l_of an_l_of : Option Addr} {sl_l_of : Array (Option Value)} {oc_l_of kV_l_of dc_l_of pm_l_of cd_l_of ct_l_of : Value}
    {f_in_sequence : Addr} {od_in_sequence an_in_sequence : Option Addr} {sl_in_sequence : Array (Option Value)} {oc_in_sequence kV_in_sequence dc_in_sequence pm_in_sequence cd_in_sequence ct_in_sequence : Value}
    {f__numbers : Addr} {od__numbers an__numbers : Option Addr} {sl__numbers : Array (Option Value)} {oc__numbers kV__numbers dc__numbers pm__numbers cd__numbers ct__numbers : Value}
    {f__is_name : Addr} {od__is_name an__is_name : Option Addr} {sl__is_name : Array (Option Value)} {oc__is_name kV__is_name dc__is_name pm__is_name cd__is_name ct__is_name : Value}
    {f__read_places : Addr} {od__read_places an__read_places : Option Addr} {sl__read_places : Array (Option Value)} {oc__read_places kV__read_places dc__read_places pm__read_places cd__read_places ct__read_places : Value}
    {f__read_watchers : Addr} {od__read_watchers an__read_watchers : Option Addr} {sl__read_watchers : Array (Option Value)} {oc__read_watchers kV__read_watchers dc__read_watchers pm__read_watchers cd__read_watchers ct__read_watchers : Value}
    {f__read_ties : Addr} {od__read_ties an__read_ties : Option Addr} {sl__read_ties : Array (Option Value)} {oc__read_ties kV__read_ties dc__read_ties pm__read_ties cd__read_ties ct__read_ties : Value}
    {f_is_integer : Addr} {od_is_integer an_is_integer : Option Addr} {sl_is_integer : Array (Option Value)} {oc_is_integer kV_is_integer dc_is_integer pm_is_integer cd_is_integer ct_is_integer : Value}
    {f_is_fraction : Addr} {od_is_fraction an_is_fraction : Option Addr} {sl_is_fraction : Array (Option Value)} {oc_is_fraction kV_is_fraction dc_is_fraction pm_is_fraction cd_is_fraction ct_is_fraction : Value}
    {f_are_fractions : Addr} {od_are_fractions an_are_fractions : Option Addr} {sl_are_fractions : Array (Option Value)} {oc_are_fractions kV_are_fractions dc_are_fractions pm_are_fractions cd_are_fractions ct_are_fractions : Value}
    {f_cut : Addr} {od_cut an_cut : Option Addr} {sl_cut : Array (Option Value)} {oc_cut kV_cut dc_cut pm_cut cd_cut ct_cut : Value}
    {f_in_integers : Addr} {od_in_integers an_in_integers : Option Addr} {sl_in_integers : Array (Option Value)} {oc_in_integers kV_in_integers dc_in_integers pm_in_integers cd_in_integers ct_in_integers : Value}
    {f_sum_along : Addr} {od_sum_along an_sum_along : Option Addr} {sl_sum_along : Array (Option Value)} {oc_sum_along kV_sum_along dc_sum_along pm_sum_along cd_sum_along ct_sum_along : Value}
    {f_walked : Addr} {od_walked an_walked : Option Addr} {sl_walked : Array (Option Value)} {oc_walked kV_walked dc_walked pm_walked cd_walked ct_walked : Value}
    {f_are_costs : Addr} {od_are_costs an_are_costs : Option Addr} {sl_are_costs : Array (Option Value)} {oc_are_costs kV_are_costs dc_are_costs pm_are_costs cd_are_costs ct_are_costs : Value}
    {f_sums : Addr} {od_sums an_sums : Option Addr} {sl_sums : Array (Option Value)} {oc_sums kV_sums dc_sums pm_sums cd_sums ct_sums : Value}
    {f_l_made : Addr} {od_l_made an_l_made : Option Addr} {sl_l_made : Array (Option Value)} {oc_l_made kV_l_made dc_l_made pm_l_made cd_l_made ct_l_made : Value}
    {f_l_text : Addr} {od_l_text an_l_text : Option Addr} {sl_l_text : Array (Option Value)} {oc_l_text kV_l_text dc_l_text pm_l_text cd_l_text ct_l_text : Value}
    {f_l_lore : Addr} {od_l_lore an_l_lore : Option Addr} {sl_l_lore : Array (Option Value)} {oc_l_lore kV_l_lore dc_l_lore pm_l_lore cd_l_lore ct_l_lore : Value}
    {f_l_net : Addr} {od_l_net an_l_net : Option Addr} {sl_l_net : Array (Option Value)} {oc_l_net kV_l_net dc_l_net pm_l_net cd_l_net ct_l_net : Value}
    {f_l_gcd : Addr} {od_l_gcd an_l_gcd : Option Addr} {sl_l_gcd : Array (Option Value)} {oc_l_gcd kV_l_gcd dc_l_gcd pm_l_gcd cd_l_gcd ct_l_gcd : Value}
    {f_l_fraction : Addr} {od_l_fraction an_l_fraction : Option Addr} {sl_l_fraction : Array (Option Value)} {oc_l_fraction kV_l_fraction dc_l_fraction pm_l_fraction cd_l_fraction ct_l_fraction : Value}
    {f_l_drawn_fraction : Addr} {od_l_drawn_fraction an_l_drawn_fraction : Option Addr} {sl_l_drawn_fraction : Array (Option Value)} {oc_l_drawn_fraction kV_l_drawn_fraction dc_l_drawn_fraction pm_l_drawn_fraction cd_l_drawn_fraction ct_l_drawn_fraction : Value}
    {f_l_costs : Addr} {od_l_costs an_l_costs : Option Addr} {sl_l_costs : Array (Option Value)} {oc_l_costs kV_l_costs dc_l_costs pm_l_costs cd_l_costs ct_l_costs : Value}
    {f_l_odd : Addr} {od_l_odd an_l_odd : Option Addr} {sl_l_odd : Array (Option Value)} {oc_l_odd kV_l_odd dc_l_odd pm_l_odd cd_l_odd ct_l_odd : Value}
    {f_l_bent : Addr} {od_l_bent an_l_bent : Option Addr} {sl_l_bent : Array (Option Value)} {oc_l_bent kV_l_bent dc_l_bent pm_l_bent cd_l_bent ct_l_bent : Value}
    {f_l_is_fraction : Addr} {od_l_is_fraction an_l_is_fraction : Option Addr} {sl_l_is_fraction : Array (Option Value)} {oc_l_is_fraction kV_l_is_fraction dc_l_is_fraction pm_l_is_fraction cd_l_is_fraction ct_l_is_fraction : Value}
    {f_l_are_fractions : Addr} {od_l_are_fractions an_l_are_fractions : Option Addr} {sl_l_are_fractions : Array (Option Value)} {oc_l_are_fractions kV_l_are_fractions dc_l_are_fractions pm_l_are_fractions cd_l_are_fractions ct_l_are_fractions : Value}
    {f_l_right : Addr} {od_l_right an_l_right : Option Addr} {sl_l_right : Array (Option Value)} {oc_l_right kV_l_right dc_l_right pm_l_right ct_l_right : Value} {cM_l_right : Addr}
    {f_law : Addr} {od_law an_law : Option Addr} {sl_law : Array (Option Value)} {oc_law kV_law dc_law pm_law cd_law ct_law : Value}
    {C_TieError : Addr}
    {C_BadNet : Addr}
    {C_BadCosts : Addr}
    {f_init : Addr} {od_init an_init : Option Addr} {sl_init : Array (Option Value)} {oc_init kV_init dc_init pm_init cd_init ct_init : Value}
    {tk_LETTERS : Tok}
    {tk_LONGEST_NAME : Tok}
    {tk_FEWEST_PLACES : Tok}
    {tk_MOST_PLACES : Tok}
    {tk_FEWEST_WATCHERS : Tok}
    {tk_MOST_TIES : Tok}
    {tk_FIRST_TIE_LINE : Tok}
    {C_Net : Addr}
    {f_Net_init : Addr} {od_Net_init an_Net_init : Option Addr} {sl_Net_init : Array (Option Value)} {oc_Net_init kV_Net_init dc_Net_init pm_Net_init cd_Net_init ct_Net_init : Value}
    {f_Net_len : Addr} {od_Net_len an_Net_len : Option Addr} {sl_Net_len : Array (Option Value)} {oc_Net_len kV_Net_len dc_Net_len pm_Net_len cd_Net_len ct_Net_len : Value}
    {C_Walk : Addr}
    {f_Walk_init : Addr} {od_Walk_init an_Walk_init : Option Addr} {sl_Walk_init : Array (Option Value)} {oc_Walk_init kV_Walk_init dc_Walk_init pm_Walk_init cd_Walk_init ct_Walk_init : Value}
    {f_Walk_step : Addr} {od_Walk_step an_Walk_step : Option Addr} {sl_Walk_step : Array (Option Value)} {oc_Walk_step kV_Walk_step dc_Walk_step pm_Walk_step cd_Walk_step ct_Walk_step : Value}
    (z_len : PySem.W.nsIn K mainGlobals "len" = some none)
    (z_abs : PySem.W.nsIn K mainGlobals "abs" = some none)
    (z_max : PySem.W.nsIn K mainGlobals "max" = some none)
    (z_min : PySem.W.nsIn K mainGlobals "min" = some none)
    (z_all : PySem.W.nsIn K mainGlobals "all" = some none)
    (z_any : PySem.W.nsIn K mainGlobals "any" = some none)
    (z_isinstance : PySem.W.nsIn K mainGlobals "isinstance" = some none)
    (z_repr : PySem.W.nsIn K mainGlobals "repr" = some none)
    (z_int : PySem.W.nsIn K mainGlobals "int" = some none)
    (z_bool : PySem.W.nsIn K mainGlobals "bool" = some none)
    (z_str : PySem.W.nsIn K mainGlobals "str" = some none)
    (z_tuple : PySem.W.nsIn K mainGlobals "tuple" = some none)
    (z_list : PySem.W.nsIn K mainGlobals "list" = some none)
    (z_dict : PySem.W.nsIn K mainGlobals "dict" = some none)
    (z_range : PySem.W.nsIn K mainGlobals "range" = some none)
    (z_zip : PySem.W.nsIn K mainGlobals "zip" = some none)
    (z_enumerate : PySem.W.nsIn K mainGlobals "enumerate" = some none)
    (z_set : PySem.W.nsIn K mainGlobals "set" = some none)
    (z_sorted : PySem.W.nsIn K mainGlobals "sorted" = some none)
    (z_sum : PySem.W.nsIn K mainGlobals "sum" = some none)
    (g_gcd : PySem.W.nsIn K mainGlobals "gcd" = some (some (.builtin "math.gcd")))
    (g_lcm : PySem.W.nsIn K mainGlobals "lcm" = some (some (.builtin "math.lcm")))
    (a_l_heard : PySem.W.nsIn K mainGlobals "_law_heard" = some (some (.ref f_l_heard)))
    (l_l_heard : K.lookup f_l_heard = some ⟨oc_l_heard, od_l_heard, .func (PySem.W.fnOf "_law_heard" "_law_heard" (defArgs s_l_heard) (defBody s_l_heard) (defScope s_l_heard) .none kV_l_heard dc_l_heard pm_l_heard an_l_heard cd_l_heard ct_l_heard), sl_l_heard⟩)
    (c_l_heard : PySem.W.codeIn K cd_l_heard "_law_heard" = true)
    (k_l_heard : PySem.W.keepIn K (.ref f_l_heard) = true)
    (a_l_pot : PySem.W.nsIn K mainGlobals "_law_pot" = some (some (.ref f_l_pot)))
    (l_l_pot : K.lookup f_l_pot = some ⟨oc_l_pot, od_l_pot, .func (PySem.W.fnOf "_law_pot" "_law_pot" (defArgs s_l_pot) (defBody s_l_pot) (defScope s_l_pot) .none kV_l_pot dc_l_pot pm_l_pot an_l_pot cd_l_pot ct_l_pot), sl_l_pot⟩)
    (c_l_pot : PySem.W.codeIn K cd_l_pot "_law_pot" = true)
    (k_l_pot : PySem.W.keepIn K (.ref f_l_pot) = true)
    (a_l_take : PySem.W.nsIn K mainGlobals "_law_take" = some (some (.ref f_l_take)))
    (l_l_take : K.lookup f_l_take = some ⟨oc_l_take, od_l_take, .func (PySem.W.fnOf "_law_take" "_law_take" (defArgs s_l_take) (defBody s_l_take) (defScope s_l_take) .none kV_l_take dc_l_take pm_l_take an_l_take cd_l_take ct_l_take), sl_l_take⟩)
    (c_l_take : PySem.W.codeIn K cd_l_take "_law_take" = true)
    (k_l_take : PySem.W.keepIn K (.ref f_l_take) = true)
    (a_l_some : PySem.W.nsIn K mainGlobals "_law_some" = some (some (.ref f_l_some)))
    (l_l_some : K.lookup f_l_some = some ⟨oc_l_some, od_l_some, .func (PySem.W.fnOf "_law_some" "_law_some" (defArgs s_l_some) (defBody s_l_some) (defScope s_l_some) .none kV_l_some dc_l_some pm_l_some an_l_some cd_l_some ct_l_some), sl_l_some⟩)
    (c_l_some : PySem.W.codeIn K cd_l_some "_law_some" = true)
    (k_l_some : PySem.W.keepIn K (.ref f_l_some) = true)
    (a_l_names : PySem.W.nsIn K mainGlobals "_law_names" = some (some (.ref f_l_names)))
    (l_l_names : K.lookup f_l_names = some ⟨oc_l_names, od_l_names, .func (PySem.W.fnOf "_law_names" "_law_names" (defArgs s_l_names) (defBody s_l_names) (defScope s_l_names) .none kV_l_names dc_l_names pm_l_names an_l_names cd_l_names ct_l_names), sl_l_names⟩)
    (c_l_names : PySem.W.codeIn K cd_l_names "_law_names" = true)
    (k_l_names : PySem.W.keepIn K (.ref f_l_names) = true)
    (a_l_pairs : PySem.W.nsIn K mainGlobals "_law_pairs" = some (some (.ref f_l_pairs)))
    (l_l_pairs : K.lookup f_l_pairs = some ⟨oc_l_pairs, od_l_pairs, .func (PySem.W.fnOf "_law_pairs" "_law_pairs" (defArgs s_l_pairs) (defBody s_l_pairs) (defScope s_l_pairs) .none kV_l_pairs dc_l_pairs pm_l_pairs an_l_pairs cd_l_pairs ct_l_pairs), sl_l_pairs⟩)
    (c_l_pairs : PySem.W.codeIn K cd_l_pairs "_law_pairs" = true)
    (k_l_pairs : PySem.W.keepIn K (.ref f_l_pairs) = true)
    (a_l_cells : PySem.W.nsIn K mainGlobals "_law_cells" = some (some (.ref f_l_cells)))
    (l_l_cells : K.lookup f_l_cells = some ⟨oc_l_cells, od_l_cells, .func (PySem.W.fnOf "_law_cells" "_law_cells" (defArgs s_l_cells) (defBody s_l_cells) (defScope s_l_cells) .none kV_l_cells dc_l_cells pm_l_cells an_l_cells cd_l_cells ct_l_cells), sl_l_cells⟩)
    (c_l_cells : PySem.W.codeIn K cd_l_cells "_law_cells" = true)
    (k_l_cells : PySem.W.keepIn K (.ref f_l_cells) = true)
    (a_l_of : PySem.W.nsIn K mainGlobals "_law_of" = some (some (.ref f_l_of)))
    (l_l_of : K.lookup f_l_of = some ⟨oc_l_of, od_l_of, .func (PySem.W.fnOf "_law_of" "_law_of" (defArgs s_l_of) (defBody s_l_of) (defScope s_l_of) .none kV_l_of dc_l_of pm_l_of an_l_of cd_l_of ct_l_of), sl_l_of⟩)
    (c_l_of : PySem.W.codeIn K cd_l_of "_law_of" = true)
    (k_l_of : PySem.W.keepIn K (.ref f_l_of) = true)
    (a_in_sequence : PySem.W.nsIn K mainGlobals "in_sequence" = some (some (.ref f_in_sequence)))
    (l_in_sequence : K.lookup f_in_sequence = some ⟨oc_in_sequence, od_in_sequence, .func (PySem.W.fnOf "in_sequence" "in_sequence" (defArgs s_in_sequence) (defBody s_in_sequence) (defScope s_in_sequence) .none kV_in_sequence dc_in_sequence pm_in_sequence an_in_sequence cd_in_sequence ct_in_sequence), sl_in_sequence⟩)
    (c_in_sequence : PySem.W.codeIn K cd_in_sequence "in_sequence" = true)
    (k_in_sequence : PySem.W.keepIn K (.ref f_in_sequence) = true)
    (a__numbers : PySem.W.nsIn K mainGlobals "_numbers" = some (some (.ref f__numbers)))
    (l__numbers : K.lookup f__numbers = some ⟨oc__numbers, od__numbers, .func (PySem.W.fnOf "_numbers" "_numbers" (defArgs s__numbers) (defBody s__numbers) (defScope s__numbers) .none kV__numbers dc__numbers pm__numbers an__numbers cd__numbers ct__numbers), sl__numbers⟩)
    (c__numbers : PySem.W.codeIn K cd__numbers "_numbers" = true)
    (k__numbers : PySem.W.keepIn K (.ref f__numbers) = true)
    (a__is_name : PySem.W.nsIn K mainGlobals "_is_name" = some (some (.ref f__is_name)))
    (l__is_name : K.lookup f__is_name = some ⟨oc__is_name, od__is_name, .func (PySem.W.fnOf "_is_name" "_is_name" (defArgs s__is_name) (defBody s__is_name) (defScope s__is_name) .none kV__is_name dc__is_name pm__is_name an__is_name cd__is_name ct__is_name), sl__is_name⟩)
    (c__is_name : PySem.W.codeIn K cd__is_name "_is_name" = true)
    (k__is_name : PySem.W.keepIn K (.ref f__is_name) = true)
    (a__read_places : PySem.W.nsIn K mainGlobals "_read_places" = some (some (.ref f__read_places)))
    (l__read_places : K.lookup f__read_places = some ⟨oc__read_places, od__read_places, .func (PySem.W.fnOf "_read_places" "_read_places" (defArgs s__read_places) (defBody s__read_places) (defScope s__read_places) .none kV__read_places dc__read_places pm__read_places an__read_places cd__read_places ct__read_places), sl__read_places⟩)
    (c__read_places : PySem.W.codeIn K cd__read_places "_read_places" = true)
    (k__read_places : PySem.W.keepIn K (.ref f__read_places) = true)
    (a__read_watchers : PySem.W.nsIn K mainGlobals "_read_watchers" = some (some (.ref f__read_watchers)))
    (l__read_watchers : K.lookup f__read_watchers = some ⟨oc__read_watchers, od__read_watchers, .func (PySem.W.fnOf "_read_watchers" "_read_watchers" (defArgs s__read_watchers) (defBody s__read_watchers) (defScope s__read_watchers) .none kV__read_watchers dc__read_watchers pm__read_watchers an__read_watchers cd__read_watchers ct__read_watchers), sl__read_watchers⟩)
    (c__read_watchers : PySem.W.codeIn K cd__read_watchers "_read_watchers" = true)
    (k__read_watchers : PySem.W.keepIn K (.ref f__read_watchers) = true)
    (a__read_ties : PySem.W.nsIn K mainGlobals "_read_ties" = some (some (.ref f__read_ties)))
    (l__read_ties : K.lookup f__read_ties = some ⟨oc__read_ties, od__read_ties, .func (PySem.W.fnOf "_read_ties" "_read_ties" (defArgs s__read_ties) (defBody s__read_ties) (defScope s__read_ties) .none kV__read_ties dc__read_ties pm__read_ties an__read_ties cd__read_ties ct__read_ties), sl__read_ties⟩)
    (c__read_ties : PySem.W.codeIn K cd__read_ties "_read_ties" = true)
    (k__read_ties : PySem.W.keepIn K (.ref f__read_ties) = true)
    (a_is_integer : PySem.W.nsIn K mainGlobals "is_integer" = some (some (.ref f_is_integer)))
    (l_is_integer : K.lookup f_is_integer = some ⟨oc_is_integer, od_is_integer, .func (PySem.W.fnOf "is_integer" "is_integer" (defArgs s_is_integer) (defBody s_is_integer) (defScope s_is_integer) .none kV_is_integer dc_is_integer pm_is_integer an_is_integer cd_is_integer ct_is_integer), sl_is_integer⟩)
    (c_is_integer : PySem.W.codeIn K cd_is_integer "is_integer" = true)
    (k_is_integer : PySem.W.keepIn K (.ref f_is_integer) = true)
    (a_is_fraction : PySem.W.nsIn K mainGlobals "is_fraction" = some (some (.ref f_is_fraction)))
    (l_is_fraction : K.lookup f_is_fraction = some ⟨oc_is_fraction, od_is_fraction, .func (PySem.W.fnOf "is_fraction" "is_fraction" (defArgs s_is_fraction) (defBody s_is_fraction) (defScope s_is_fraction) .none kV_is_fraction dc_is_fraction pm_is_fraction an_is_fraction cd_is_fraction ct_is_fraction), sl_is_fraction⟩)
    (c_is_fraction : PySem.W.codeIn K cd_is_fraction "is_fraction" = true)
    (k_is_fraction : PySem.W.keepIn K (.ref f_is_fraction) = true)
    (a_are_fractions : PySem.W.nsIn K mainGlobals "are_fractions" = some (some (.ref f_are_fractions)))
    (l_are_fractions : K.lookup f_are_fractions = some ⟨oc_are_fractions, od_are_fractions, .func (PySem.W.fnOf "are_fractions" "are_fractions" (defArgs s_are_fractions) (defBody s_are_fractions) (defScope s_are_fractions) .none kV_are_fractions dc_are_fractions pm_are_fractions an_are_fractions cd_are_fractions ct_are_fractions), sl_are_fractions⟩)
    (c_are_fractions : PySem.W.codeIn K cd_are_fractions "are_fractions" = true)
    (k_are_fractions : PySem.W.keepIn K (.ref f_are_fractions) = true)
    (a_cut : PySem.W.nsIn K mainGlobals "cut" = some (some (.ref f_cut)))
    (l_cut : K.lookup f_cut = some ⟨oc_cut, od_cut, .func (PySem.W.fnOf "cut" "cut" (defArgs s_cut) (defBody s_cut) (defScope s_cut) .none kV_cut dc_cut pm_cut an_cut cd_cut ct_cut), sl_cut⟩)
    (c_cut : PySem.W.codeIn K cd_cut "cut" = true)
    (k_cut : PySem.W.keepIn K (.ref f_cut) = true)
    (a_in_integers : PySem.W.nsIn K mainGlobals "in_integers" = some (some (.ref f_in_integers)))
    (l_in_integers : K.lookup f_in_integers = some ⟨oc_in_integers, od_in_integers, .func (PySem.W.fnOf "in_integers" "in_integers" (defArgs s_in_integers) (defBody s_in_integers) (defScope s_in_integers) .none kV_in_integers dc_in_integers pm_in_integers an_in_integers cd_in_integers ct_in_integers), sl_in_integers⟩)
    (c_in_integers : PySem.W.codeIn K cd_in_integers "in_integers" = true)
    (k_in_integers : PySem.W.keepIn K (.ref f_in_integers) = true)
    (a_sum_along : PySem.W.nsIn K mainGlobals "sum_along" = some (some (.ref f_sum_along)))
    (l_sum_along : K.lookup f_sum_along = some ⟨oc_sum_along, od_sum_along, .func (PySem.W.fnOf "sum_along" "sum_along" (defArgs s_sum_along) (defBody s_sum_along) (defScope s_sum_along) .none kV_sum_along dc_sum_along pm_sum_along an_sum_along cd_sum_along ct_sum_along), sl_sum_along⟩)
    (c_sum_along : PySem.W.codeIn K cd_sum_along "sum_along" = true)
    (k_sum_along : PySem.W.keepIn K (.ref f_sum_along) = true)
    (a_walked : PySem.W.nsIn K mainGlobals "walked" = some (some (.ref f_walked)))
    (l_walked : K.lookup f_walked = some ⟨oc_walked, od_walked, .func (PySem.W.fnOf "walked" "walked" (defArgs s_walked) (defBody s_walked) (defScope s_walked) .none kV_walked dc_walked pm_walked an_walked cd_walked ct_walked), sl_walked⟩)
    (c_walked : PySem.W.codeIn K cd_walked "walked" = true)
    (k_walked : PySem.W.keepIn K (.ref f_walked) = true)
    (a_are_costs : PySem.W.nsIn K mainGlobals "are_costs" = some (some (.ref f_are_costs)))
    (l_are_costs : K.lookup f_are_costs = some ⟨oc_are_costs, od_are_costs, .func (PySem.W.fnOf "are_costs" "are_costs" (defArgs s_are_costs) (defBody s_are_costs) (defScope s_are_costs) .none kV_are_costs dc_are_costs pm_are_costs an_are_costs cd_are_costs ct_are_costs), sl_are_costs⟩)
    (c_are_costs : PySem.W.codeIn K cd_are_costs "are_costs" = true)
    (k_are_costs : PySem.W.keepIn K (.ref f_are_costs) = true)
    (a_sums : PySem.W.nsIn K mainGlobals "sums" = some (some (.ref f_sums)))
    (l_sums : K.lookup f_sums = some ⟨oc_sums, od_sums, .func (PySem.W.fnOf "sums" "sums" (defArgs s_sums) (defBody s_sums) (defScope s_sums) .none kV_sums dc_sums pm_sums an_sums cd_sums ct_sums), sl_sums⟩)
    (c_sums : PySem.W.codeIn K cd_sums "sums" = true)
    (k_sums : PySem.W.keepIn K (.ref f_sums) = true)
    (a_l_made : PySem.W.nsIn K mainGlobals "_law_made" = some (some (.ref f_l_made)))
    (l_l_made : K.lookup f_l_made = some ⟨oc_l_made, od_l_made, .func (PySem.W.fnOf "_law_made" "_law_made" (defArgs s_l_made) (defBody s_l_made) (defScope s_l_made) .none kV_l_made dc_l_made pm_l_made an_l_made cd_l_made ct_l_made), sl_l_made⟩)
    (c_l_made : PySem.W.codeIn K cd_l_made "_law_made" = true)
    (k_l_made : PySem.W.keepIn K (.ref f_l_made) = true)
    (a_l_text : PySem.W.nsIn K mainGlobals "_law_text" = some (some (.ref f_l_text)))
    (l_l_text : K.lookup f_l_text = some ⟨oc_l_text, od_l_text, .func (PySem.W.fnOf "_law_text" "_law_text" (defArgs s_l_text) (defBody s_l_text) (defScope s_l_text) .none kV_l_text dc_l_text pm_l_text an_l_text cd_l_text ct_l_text), sl_l_text⟩)
    (c_l_text : PySem.W.codeIn K cd_l_text "_law_text" = true)
    (k_l_text : PySem.W.keepIn K (.ref f_l_text) = true)
    (a_l_lore : PySem.W.nsIn K mainGlobals "_law_lore" = some (some (.ref f_l_lore)))
    (l_l_lore : K.lookup f_l_lore = some ⟨oc_l_lore, od_l_lore, .func (PySem.W.fnOf "_law_lore" "_law_lore" (defArgs s_l_lore) (defBody s_l_lore) (defScope s_l_lore) .none kV_l_lore dc_l_lore pm_l_lore an_l_lore cd_l_lore ct_l_lore), sl_l_lore⟩)
    (c_l_lore : PySem.W.codeIn K cd_l_lore "_law_lore" = true)
    (k_l_lore : PySem.W.keepIn K (.ref f_l_lore) = true)
    (a_l_net : PySem.W.nsIn K mainGlobals "_law_net" = some (some (.ref f_l_net)))
    (l_l_net : K.lookup f_l_net = some ⟨oc_l_net, od_l_net, .func (PySem.W.fnOf "_law_net" "_law_net" (defArgs s_l_net) (defBody s_l_net) (defScope s_l_net) .none kV_l_net dc_l_net pm_l_net an_l_net cd_l_net ct_l_net), sl_l_net⟩)
    (c_l_net : PySem.W.codeIn K cd_l_net "_law_net" = true)
    (k_l_net : PySem.W.keepIn K (.ref f_l_net) = true)
    (a_l_gcd : PySem.W.nsIn K mainGlobals "_law_gcd" = some (some (.ref f_l_gcd)))
    (l_l_gcd : K.lookup f_l_gcd = some ⟨oc_l_gcd, od_l_gcd, .func (PySem.W.fnOf "_law_gcd" "_law_gcd" (defArgs s_l_gcd) (defBody s_l_gcd) (defScope s_l_gcd) .none kV_l_gcd dc_l_gcd pm_l_gcd an_l_gcd cd_l_gcd ct_l_gcd), sl_l_gcd⟩)
    (c_l_gcd : PySem.W.codeIn K cd_l_gcd "_law_gcd" = true)
    (k_l_gcd : PySem.W.keepIn K (.ref f_l_gcd) = true)
    (a_l_fraction : PySem.W.nsIn K mainGlobals "_law_fraction" = some (some (.ref f_l_fraction)))
    (l_l_fraction : K.lookup f_l_fraction = some ⟨oc_l_fraction, od_l_fraction, .func (PySem.W.fnOf "_law_fraction" "_law_fraction" (defArgs s_l_fraction) (defBody s_l_fraction) (defScope s_l_fraction) .none kV_l_fraction dc_l_fraction pm_l_fraction an_l_fraction cd_l_fraction ct_l_fraction), sl_l_fraction⟩)
    (c_l_fraction : PySem.W.codeIn K cd_l_fraction "_law_fraction" = true)
    (k_l_fraction : PySem.W.keepIn K (.ref f_l_fraction) = true)
    (a_l_drawn_fraction : PySem.W.nsIn K mainGlobals "_law_drawn_fraction" = some (some (.ref f_l_drawn_fraction)))
    (l_l_drawn_fraction : K.lookup f_l_drawn_fraction = some ⟨oc_l_drawn_fraction, od_l_drawn_fraction, .func (PySem.W.fnOf "_law_drawn_fraction" "_law_drawn_fraction" (defArgs s_l_drawn_fraction) (defBody s_l_drawn_fraction) (defScope s_l_drawn_fraction) .none kV_l_drawn_fraction dc_l_drawn_fraction pm_l_drawn_fraction an_l_drawn_fraction cd_l_drawn_fraction ct_l_drawn_fraction), sl_l_drawn_fraction⟩)
    (c_l_drawn_fraction : PySem.W.codeIn K cd_l_drawn_fraction "_law_drawn_fraction" = true)
    (k_l_drawn_fraction : PySem.W.keepIn K (.ref f_l_drawn_fraction) = true)
    (a_l_costs : PySem.W.nsIn K mainGlobals "_law_costs" = some (some (.ref f_l_costs)))
    (l_l_costs : K.lookup f_l_costs = some ⟨oc_l_costs, od_l_costs, .func (PySem.W.fnOf "_law_costs" "_law_costs" (defArgs s_l_costs) (defBody s_l_costs) (defScope s_l_costs) .none kV_l_costs dc_l_costs pm_l_costs an_l_costs cd_l_costs ct_l_costs), sl_l_costs⟩)
    (c_l_costs : PySem.W.codeIn K cd_l_costs "_law_costs" = true)
    (k_l_costs : PySem.W.keepIn K (.ref f_l_costs) = true)
    (a_l_odd : PySem.W.nsIn K mainGlobals "_law_odd" = some (some (.ref f_l_odd)))
    (l_l_odd : K.lookup f_l_odd = some ⟨oc_l_odd, od_l_odd, .func (PySem.W.fnOf "_law_odd" "_law_odd" (defArgs s_l_odd) (defBody s_l_odd) (defScope s_l_odd) .none kV_l_odd dc_l_odd pm_l_odd an_l_odd cd_l_odd ct_l_odd), sl_l_odd⟩)
    (c_l_odd : PySem.W.codeIn K cd_l_odd "_law_odd" = true)
    (k_l_odd : PySem.W.keepIn K (.ref f_l_odd) = true)
    (a_l_bent : PySem.W.nsIn K mainGlobals "_law_bent" = some (some (.ref f_l_bent)))
    (l_l_bent : K.lookup f_l_bent = some ⟨oc_l_bent, od_l_bent, .func (PySem.W.fnOf "_law_bent" "_law_bent" (defArgs s_l_bent) (defBody s_l_bent) (defScope s_l_bent) .none kV_l_bent dc_l_bent pm_l_bent an_l_bent cd_l_bent ct_l_bent), sl_l_bent⟩)
    (c_l_bent : PySem.W.codeIn K cd_l_bent "_law_bent" = true)
    (k_l_bent : PySem.W.keepIn K (.ref f_l_bent) = true)
    (a_l_is_fraction : PySem.W.nsIn K mainGlobals "_law_is_fraction" = some (some (.ref f_l_is_fraction)))
    (l_l_is_fraction : K.lookup f_l_is_fraction = some ⟨oc_l_is_fraction, od_l_is_fraction, .func (PySem.W.fnOf "_law_is_fraction" "_law_is_fraction" (defArgs s_l_is_fraction) (defBody s_l_is_fraction) (defScope s_l_is_fraction) .none kV_l_is_fraction dc_l_is_fraction pm_l_is_fraction an_l_is_fraction cd_l_is_fraction ct_l_is_fraction), sl_l_is_fraction⟩)
    (c_l_is_fraction : PySem.W.codeIn K cd_l_is_fraction "_law_is_fraction" = true)
    (k_l_is_fraction : PySem.W.keepIn K (.ref f_l_is_fraction) = true)
    (a_l_are_fractions : PySem.W.nsIn K mainGlobals "_law_are_fractions" = some (some (.ref f_l_are_fractions)))
    (l_l_are_fractions : K.lookup f_l_are_fractions = some ⟨oc_l_are_fractions, od_l_are_fractions, .func (PySem.W.fnOf "_law_are_fractions" "_law_are_fractions" (defArgs s_l_are_fractions) (defBody s_l_are_fractions) (defScope s_l_are_fractions) .none kV_l_are_fractions dc_l_are_fractions pm_l_are_fractions an_l_are_fractions cd_l_are_fractions ct_l_are_fractions), sl_l_are_fractions⟩)
    (c_l_are_fractions : PySem.W.codeIn K cd_l_are_fractions "_law_are_fractions" = true)
    (k_l_are_fractions : PySem.W.keepIn K (.ref f_l_are_fractions) = true)
    (a_l_right : PySem.W.nsIn K mainGlobals "_law_right" = some (some (.ref f_l_right)))
    (l_l_right : K.lookup f_l_right = some ⟨oc_l_right, od_l_right, .func (PySem.W.fnOf "_law_right" "_law_right" (defArgs s_l_right) (defBody s_l_right) (defScope s_l_right) .none kV_l_right dc_l_right pm_l_right an_l_right (.ref cM_l_right) ct_l_right), sl_l_right⟩)
    (c_l_right : PySem.W.codeIn K (.ref cM_l_right) "_law_right" = true)
    (k_l_right : PySem.W.keepIn K (.ref f_l_right) = true)
    (a_law : PySem.W.nsIn K mainGlobals "law" = some (some (.ref f_law)))
    (l_law : K.lookup f_law = some ⟨oc_law, od_law, .func (PySem.W.fnOf "law" "law" (defArgs s_law) (defBody s_law) (defScope s_law) .none kV_law dc_law pm_law an_law cd_law ct_law), sl_law⟩)
    (c_law : PySem.W.codeIn K cd_law "law" = true)
    (k_law : PySem.W.keepIn K (.ref f_law) = true)
    (g_TieError : PySem.W.nsIn K mainGlobals "TieError" = some (some (.ref C_TieError)))
    (sb_TieError : PySem.W.subIn K (.ref C_TieError) (.type "BaseException") = some true)
    (hd_TieError : PySem.W.hasDictIn K C_TieError = true)
    (ty_TieError : PySem.W.typeIn K (.ref C_TieError) = some (.type "type"))
    (g_BadNet : PySem.W.nsIn K mainGlobals "BadNet" = some (some (.ref C_BadNet)))
    (sb_BadNet : PySem.W.subIn K (.ref C_BadNet) (.type "BaseException") = some true)
    (hd_BadNet : PySem.W.hasDictIn K C_BadNet = true)
    (ty_BadNet : PySem.W.typeIn K (.ref C_BadNet) = some (.type "type"))
    (g_BadCosts : PySem.W.nsIn K mainGlobals "BadCosts" = some (some (.ref C_BadCosts)))
    (sb_BadCosts : PySem.W.subIn K (.ref C_BadCosts) (.type "BaseException") = some true)
    (hd_BadCosts : PySem.W.hasDictIn K C_BadCosts = true)
    (ty_BadCosts : PySem.W.typeIn K (.ref C_BadCosts) = some (.type "type"))
    (oc_BadNet : ∃ nm q N bs bm sn sub ab col dd k0 k1 k2 k3 k5, K.lookup C_BadNet = some (excClassObj nm q C_BadNet N bs bm true sn sub ab col dd k0 k1 k2 k3 k5 "ValueError.__new__") ∧ PySem.HandSPX.refsVE bm = true)
    (sa_BadNet : PySem.W.findIn K (.ref C_BadNet) "__setattr__" = some (some (.builtin "object.__setattr__")))
    (ga_BadNet : PySem.W.findIn K (.ref C_BadNet) "__getattribute__" = some (some (.builtin "BaseException.__getattribute__")))
    (gg_BadNet : PySem.W.findIn K (.ref C_BadNet) "__getattr__" = some none)
    (ha_BadNet : PySem.W.findIn K (.ref C_BadNet) "__class__" = some (some (.builtin "object.__class__")))
    (v_BadNet : PySem.W.findIn K (.ref C_BadNet) "value" = some none)
    (i_BadNet : PySem.W.findIn K (.ref C_BadNet) "__init__" = some (some (.ref f_init)))
    (hm_BadNet : PySem.W.mroIn K C_BadNet (.type "object") = some true)
    (kp_BadNet : PySem.W.keepIn K (.ref C_BadNet) = true)
    (te_BadNet : PySem.W.subIn K (.ref C_BadNet) (.ref C_TieError) = some true)
    (oc_BadCosts : ∃ nm q N bs bm sn sub ab col dd k0 k1 k2 k3 k5, K.lookup C_BadCosts = some (excClassObj nm q C_BadCosts N bs bm true sn sub ab col dd k0 k1 k2 k3 k5 "ValueError.__new__") ∧ PySem.HandSPX.refsVE bm = true)
    (sa_BadCosts : PySem.W.findIn K (.ref C_BadCosts) "__setattr__" = some (some (.builtin "object.__setattr__")))
    (ga_BadCosts : PySem.W.findIn K (.ref C_BadCosts) "__getattribute__" = some (some (.builtin "BaseException.__getattribute__")))
    (gg_BadCosts : PySem.W.findIn K (.ref C_BadCosts) "__getattr__" = some none)
    (ha_BadCosts : PySem.W.findIn K (.ref C_BadCosts) "__class__" = some (some (.builtin "object.__class__")))
    (v_BadCosts : PySem.W.findIn K (.ref C_BadCosts) "value" = some none)
    (i_BadCosts : PySem.W.findIn K (.ref C_BadCosts) "__init__" = some (some (.ref f_init)))
    (hm_BadCosts : PySem.W.mroIn K C_BadCosts (.type "object") = some true)
    (kp_BadCosts : PySem.W.keepIn K (.ref C_BadCosts) = true)
    (te_BadCosts : PySem.W.subIn K (.ref C_BadCosts) (.ref C_TieError) = some true)
    (hn_cls : PySem.W.specialIn K (.builtin "object.__class__") "__get__" = some (some (.builtin "getset_descriptor.__get__")))
    (ht_cls : PySem.W.takesIn K (.builtin "object.__class__") = some true)
    (z_VE : PySem.W.nsIn K mainGlobals "ValueError" = some none)
    (vV : PySem.W.findCls K (.type "ValueError") (.type "type") "__init__" = some (.val (.builtin "ValueError.__init__")))
    (l_init : K.lookup f_init = some ⟨oc_init, od_init, .func (PySem.W.fnOf "__init__" "TieError.__init__" (defArgs s_init) (defBody s_init) (defScope s_init) .none kV_init dc_init pm_init an_init cd_init ct_init), sl_init⟩)
    (c_init : PySem.W.codeIn K cd_init "TieError.__init__" = true)
    (k_init : PySem.W.keepIn K (.ref f_init) = true)
    (ti_init : PySem.W.typeIn K (.ref f_init) = some (.type "function"))
    (g_LETTERS : PySem.W.nsIn K mainGlobals "LETTERS" = some (some (Value.str "abcdefghijklmnopqrstuvwxyz" tk_LETTERS)))
    (g_LONGEST_NAME : PySem.W.nsIn K mainGlobals "LONGEST_NAME" = some (some (Value.int 8 tk_LONGEST_NAME)))
    (g_FEWEST_PLACES : PySem.W.nsIn K mainGlobals "FEWEST_PLACES" = some (some (Value.int 3 tk_FEWEST_PLACES)))
    (g_MOST_PLACES : PySem.W.nsIn K mainGlobals "MOST_PLACES" = some (some (Value.int 8 tk_MOST_PLACES)))
    (g_FEWEST_WATCHERS : PySem.W.nsIn K mainGlobals "FEWEST_WATCHERS" = some (some (Value.int 2 tk_FEWEST_WATCHERS)))
    (g_MOST_TIES : PySem.W.nsIn K mainGlobals "MOST_TIES" = some (some (Value.int 14 tk_MOST_TIES)))
    (g_FIRST_TIE_LINE : PySem.W.nsIn K mainGlobals "FIRST_TIE_LINE" = some (some (Value.int 3 tk_FIRST_TIE_LINE)))
    (g_Net : PySem.W.nsIn K mainGlobals "Net" = some (some (.ref C_Net)))
    (pg_Net : PySem.W.plainGet K C_Net Str.empty = true)
    (hd_Net : PySem.W.hasDictIn K C_Net = true)
    (po_Net : PySem.W.plainOver K C_Net = true)
    (sa_Net : PySem.W.findIn K (.ref C_Net) "__setattr__" = some (some (.builtin "object.__setattr__")))
    (a_text : PySem.W.findIn K (.ref C_Net) "text" = some none)
    (a_places : PySem.W.findIn K (.ref C_Net) "places" = some none)
    (a_watchers : PySem.W.findIn K (.ref C_Net) "watchers" = some none)
    (a_ties : PySem.W.findIn K (.ref C_Net) "ties" = some none)
    (a_numbers : PySem.W.findIn K (.ref C_Net) "numbers" = some none)
    (fa_walked : PySem.W.findIn K (.ref C_Net) "walked" = some none)
    (a_sight : PySem.W.findIn K (.ref C_Net) "sight" = some none)
    (mk_Net : PySem.W.makesIn K C_Net = true)
    (kp_Net : PySem.W.keepIn K (.ref C_Net) = true)
    (at_Net_init : PySem.W.findIn K (.ref C_Net) "__init__" = some (some (.ref f_Net_init)))
    (fn_Net_init : PySem.W.isFn K (.ref f_Net_init) = true)
    (l_Net_init : K.lookup f_Net_init = some ⟨oc_Net_init, od_Net_init, .func (PySem.W.fnOf "__init__" "Net.__init__" (defArgs s_Net_init) (defBody s_Net_init) (defScope s_Net_init) .none kV_Net_init dc_Net_init pm_Net_init an_Net_init cd_Net_init ct_Net_init), sl_Net_init⟩)
    (c_Net_init : PySem.W.codeIn K cd_Net_init "Net.__init__" = true)
    (k_Net_init : PySem.W.keepIn K (.ref f_Net_init) = true)
    (at_Net_len : PySem.W.findIn K (.ref C_Net) "__len__" = some (some (.ref f_Net_len)))
    (fn_Net_len : PySem.W.isFn K (.ref f_Net_len) = true)
    (l_Net_len : K.lookup f_Net_len = some ⟨oc_Net_len, od_Net_len, .func (PySem.W.fnOf "__len__" "Net.__len__" (defArgs s_Net_len) (defBody s_Net_len) (defScope s_Net_len) .none kV_Net_len dc_Net_len pm_Net_len an_Net_len cd_Net_len ct_Net_len), sl_Net_len⟩)
    (c_Net_len : PySem.W.codeIn K cd_Net_len "Net.__len__" = true)
    (k_Net_len : PySem.W.keepIn K (.ref f_Net_len) = true)
    (g_Walk : PySem.W.nsIn K mainGlobals "Walk" = some (some (.ref C_Walk)))
    (pg_Walk : PySem.W.plainGet K C_Walk Str.empty = true)
    (hd_Walk : PySem.W.hasDictIn K C_Walk = true)
    (po_Walk : PySem.W.plainOver K C_Walk = true)
    (sa_Walk : PySem.W.findIn K (.ref C_Walk) "__setattr__" = some (some (.builtin "object.__setattr__")))
    (a_onward : PySem.W.findIn K (.ref C_Walk) "onward" = some none)
    (a_ends : PySem.W.findIn K (.ref C_Walk) "ends" = some none)
    (a_paths : PySem.W.findIn K (.ref C_Walk) "paths" = some none)
    (mk_Walk : PySem.W.makesIn K C_Walk = true)
    (kp_Walk : PySem.W.keepIn K (.ref C_Walk) = true)
    (at_Walk_init : PySem.W.findIn K (.ref C_Walk) "__init__" = some (some (.ref f_Walk_init)))
    (fn_Walk_init : PySem.W.isFn K (.ref f_Walk_init) = true)
    (l_Walk_init : K.lookup f_Walk_init = some ⟨oc_Walk_init, od_Walk_init, .func (PySem.W.fnOf "__init__" "Walk.__init__" (defArgs s_Walk_init) (defBody s_Walk_init) (defScope s_Walk_init) .none kV_Walk_init dc_Walk_init pm_Walk_init an_Walk_init cd_Walk_init ct_Walk_init), sl_Walk_init⟩)
    (c_Walk_init : PySem.W.codeIn K cd_Walk_init "Walk.__init__" = true)
    (k_Walk_init : PySem.W.keepIn K (.ref f_Walk_init) = true)
    (at_Walk_step : PySem.W.findIn K (.ref C_Walk) "step" = some (some (.ref f_Walk_step)))
    (fn_Walk_step : PySem.W.isFn K (.ref f_Walk_step) = true)
    (l_Walk_step : K.lookup f_Walk_step = some ⟨oc_Walk_step, od_Walk_step, .func (PySem.W.fnOf "step" "Walk.step" (defArgs s_Walk_step) (defBody s_Walk_step) (defScope s_Walk_step) .none kV_Walk_step dc_Walk_step pm_Walk_step an_Walk_step cd_Walk_step ct_Walk_step), sl_Walk_step⟩)
    (c_Walk_step : PySem.W.codeIn K cd_Walk_step "Walk.step" = true)
    (k_Walk_step : PySem.W.keepIn K (.ref f_Walk_step) = true) :
    ∃ (fd : FuncData) (sp : Sp), (∀ (s : Shared) (v : Value), BindsTo s fd ⟨[v], []⟩ [("_law_script", v)]) ∧ (∀ (H : Hp) (a : Addr) (ns : List Int), Tabs TabT.T H → SqL K H a (ns.map V.int) → sp [.ref a] H (fun v _ => v = .bl true) fun _ _ _ => False) ∧ ∀ base : Heap, K.In base → base.Ns mainGlobals mg → TabB base mg cM_l_right PM_l_right → FnG l.prog w K mg base CX0 13 fa fd ["_law_script"] sp := by
  letI : CacT := cacOf K C_Net kdW
  have e := hfa.symm.trans (PySem.W.mg_of X G a_law)
  cases e
  refine ⟨PySem.W.fnOf "law" "law" (defArgs s_law) (defBody s_law) (defScope s_law) .none kV_law dc_law pm_law an_law cd_law ct_law, spDT K fs_law, fun s v => .of_eq rfl, fun H a ns hT hS => spDT_start hT hS ⟨ns, rfl, rfl⟩, fun base _ _ TB_l_right => ?_⟩
  have B : Bt mg := ⟨PySem.W.mg_none_of X G z_len, PySem.W.mg_none_of X G z_abs, PySem.W.mg_none_of X G z_max, PySem.W.mg_none_of X G z_min, PySem.W.mg_none_of X G z_all, PySem.W.mg_none_of X G z_any, PySem.W.mg_none_of X G z_isinstance, PySem.W.mg_none_of X G z_repr, PySem.W.mg_none_of X G z_int, PySem.W.mg_none_of X G z_bool, PySem.W.mg_none_of X G z_str, PySem.W.mg_none_of X G z_tuple, PySem.W.mg_none_of X G z_list, PySem.W.mg_none_of X G z_dict, PySem.W.mg_none_of X G z_range, PySem.W.mg_none_of X G z_zip, PySem.W.mg_none_of X G z_enumerate, PySem.W.mg_none_of X G z_set, PySem.W.mg_none_of X G z_sorted, PySem.W.mg_none_of X G z_sum⟩
  have m_LETTERS := PySem.W.mg_of X G g_LETTERS
  have m_LONGEST_NAME := PySem.W.mg_of X G g_LONGEST_NAME
  have m_FEWEST_PLACES := PySem.W.mg_of X G g_FEWEST_PLACES
  have m_MOST_PLACES := PySem.W.mg_of X G g_MOST_PLACES
  have m_FEWEST_WATCHERS := PySem.W.mg_of X G g_FEWEST_WATCHERS
  have m_MOST_TIES := PySem.W.mg_of X G g_MOST_TIES
  have m_FIRST_TIE_LINE := PySem.W.mg_of X G g_FIRST_TIE_LINE
  have m_Net := PySem.W.mg_of X G g_Net
  have c_Net : Cls K C_Net := ⟨pg_Net, hd_Net, po_Net, sa_Net⟩
  have m_gcd : mg "gcd" = some (.builtin "math.gcd") := PySem.W.mg_of X G g_gcd
  have m_lcm : mg "lcm" = some (.builtin "math.lcm") := PySem.W.mg_of X G g_lcm
  have m_Walk := PySem.W.mg_of X G g_Walk
  have c_Walk : Cls K C_Walk := ⟨pg_Walk, hd_Walk, po_Walk, sa_Walk⟩
  have m_TieError := PySem.W.mg_of X G g_TieError
  have m_BadNet := PySem.W.mg_of X G g_BadNet
  have m_BadCosts := PySem.W.mg_of X G g_BadCosts
  have T_BadNet : OexC K C_BadNet := ⟨oc_BadNet, sa_BadNet, sb_BadNet, ty_BadNet, kp_BadNet⟩
  have xf_BadNet : XfC K C_BadNet := ⟨ga_BadNet, gg_BadNet, sb_BadNet, hd_BadNet⟩
  have x_BadNet : ExcC K C_BadNet := ⟨ga_BadNet, gg_BadNet, sb_BadNet, hd_BadNet, ha_BadNet, hn_cls, ht_cls, hm_BadNet⟩
  have kk_BadNet : PySem.W.kitOne K (.ref C_BadNet) (.ref C_BadNet) = some true := by simp [PySem.W.kitOne]
  have em_BadNet : PySem.W.exmOne K (.ref C_BadNet) (.ref C_TieError) = some true := PySem.W.exm_ref sb_TieError hd_TieError ty_TieError te_BadNet
  have T_BadCosts : OexC K C_BadCosts := ⟨oc_BadCosts, sa_BadCosts, sb_BadCosts, ty_BadCosts, kp_BadCosts⟩
  have xf_BadCosts : XfC K C_BadCosts := ⟨ga_BadCosts, gg_BadCosts, sb_BadCosts, hd_BadCosts⟩
  have x_BadCosts : ExcC K C_BadCosts := ⟨ga_BadCosts, gg_BadCosts, sb_BadCosts, hd_BadCosts, ha_BadCosts, hn_cls, ht_cls, hm_BadCosts⟩
  have kk_BadCosts : PySem.W.kitOne K (.ref C_BadCosts) (.ref C_BadCosts) = some true := by simp [PySem.W.kitOne]
  have em_BadCosts : PySem.W.exmOne K (.ref C_BadCosts) (.ref C_TieError) = some true := PySem.W.exm_ref sb_TieError hd_TieError ty_TieError te_BadCosts
  have F0_init := fun_mk (st := s_init) l_init c_init k_init
  have F_init : FnG l.prog w K mg base CX0 1 f_init _ ["self", "value"] (spInit K) := ok_init (PySem.W.mg_none_of X G z_VE) vV F0_init
  have b_init := F0_init.binds (ps := ["self", "value"]) (fun _ _ _ _ _ _ us hl => match us, hl with | [_, _], _ => rfl)
  have F_l_heard := fun_mk (st := s_l_heard) l_l_heard c_l_heard k_l_heard
  have F_l_pot := fun_mk (st := s_l_pot) l_l_pot c_l_pot k_l_pot
  have G_l_pot : FnG l.prog w K mg base CX0 1 f_l_pot _ p_l_pot (spN K fn_pot) := ok_pot B F_l_pot
  have cl_pot_ : Cal l.prog w K mg base CX0 1 "_law_pot" p_l_pot [] (spN K fn_pot) := ⟨_, _, _, G_l_pot, PySem.W.mg_of X G a_l_pot, F_l_pot.kp, F_l_pot.binds (ps := p_l_pot) (fun _ _ _ _ _ _ us hl => match us, hl with | [_, _], _ => rfl), .nil⟩
  have F_l_take := fun_mk (st := s_l_take) l_l_take c_l_take k_l_take
  have G_l_take : FnG l.prog w K mg base CX0 1 f_l_take _ p_l_take (spP K fp_take) := ok_take B F_l_take
  have cl_take_ : Cal l.prog w K mg base CX0 1 "_law_take" p_l_take [] (spP K fp_take) := ⟨_, _, _, G_l_take, PySem.W.mg_of X G a_l_take, F_l_take.kp, F_l_take.binds (ps := p_l_take) (fun _ _ _ _ _ _ us hl => match us, hl with | [_, _], _ => rfl), .nil⟩
  have F_l_some := fun_mk (st := s_l_some) l_l_some c_l_some k_l_some
  have G_l_some : FnG l.prog w K mg base CX0 2 f_l_some _ p_l_some (spP K fp_some) := ok_some B cl_take_ F_l_some
  have cl_some_ : Cal l.prog w K mg base CX0 2 "_law_some" p_l_some [] (spP K fp_some) := ⟨_, _, _, G_l_some, PySem.W.mg_of X G a_l_some, F_l_some.kp, F_l_some.binds (ps := p_l_some) (fun _ _ _ _ _ _ us hl => match us, hl with | [_, _, _], _ => rfl), .nil⟩
  have F_l_names := fun_mk (st := s_l_names) l_l_names c_l_names k_l_names
  have G_l_names : FnG l.prog w K mg base CX0 3 f_l_names _ p_l_names (spP K fp_names) := ok_names B cl_some_ F_l_names
  have cl_names_ : Cal l.prog w K mg base CX0 3 "_law_names" p_l_names [] (spP K fp_names) := ⟨_, _, _, G_l_names, PySem.W.mg_of X G a_l_names, F_l_names.kp, F_l_names.binds (ps := p_l_names) (fun _ _ _ _ _ _ us hl => match us, hl with | [_, _], _ => rfl), .nil⟩
  have F_l_pairs := fun_mk (st := s_l_pairs) l_l_pairs c_l_pairs k_l_pairs
  have G_l_pairs : FnG l.prog w K mg base CX0 1 f_l_pairs _ p_l_pairs (spD K fs_pairs) := ok_pairs B F_l_pairs
  have cl_pairs_ : Cal l.prog w K mg base CX0 1 "_law_pairs" p_l_pairs [] (spD K fs_pairs) := ⟨_, _, _, G_l_pairs, PySem.W.mg_of X G a_l_pairs, F_l_pairs.kp, F_l_pairs.binds (ps := p_l_pairs) (fun _ _ _ _ _ _ us hl => match us, hl with | [_], _ => rfl), .nil⟩
  have F_l_cells := fun_mk (st := s_l_cells) l_l_cells c_l_cells k_l_cells
  have G_l_cells : FnG l.prog w K mg base CX0 1 f_l_cells _ p_l_cells (spD K fs_cells) := ok_cells B F_l_cells
  have cl_cells_ : Cal l.prog w K mg base CX0 1 "_law_cells" p_l_cells [] (spD K fs_cells) := ⟨_, _, _, G_l_cells, PySem.W.mg_of X G a_l_cells, F_l_cells.kp, F_l_cells.binds (ps := p_l_cells) (fun _ _ _ _ _ _ us hl => match us, hl with | [_, _], _ => rfl), .nil⟩
  have F_l_of := fun_mk (st := s_l_of) l_l_of c_l_of k_l_of
  have G_l_of : FnG l.prog w K mg base CX0 2 f_l_of _ p_l_of (spP K fp_of) := ok_of B cl_take_ F_l_of
  have cl_of_ : Cal l.prog w K mg base CX0 2 "_law_of" p_l_of [] (spP K fp_of) := ⟨_, _, _, G_l_of, PySem.W.mg_of X G a_l_of, F_l_of.kp, F_l_of.binds (ps := p_l_of) (fun _ _ _ _ _ _ us hl => match us, hl with | [_, _], _ => rfl), .nil⟩
  have F_in_sequence := fun_mk (st := s_in_sequence) l_in_sequence c_in_sequence k_in_sequence
  have G_in_sequence : FnG l.prog w K mg base CX0 1 f_in_sequence _ p_in_sequence (spD K fs_inseq) := ok_inseq B F_in_sequence
  have cin_sequence_ : Cal l.prog w K mg base CX0 1 "in_sequence" p_in_sequence [] (spD K fs_inseq) := ⟨_, _, _, G_in_sequence, PySem.W.mg_of X G a_in_sequence, F_in_sequence.kp, F_in_sequence.binds (ps := p_in_sequence) (fun _ _ _ _ _ _ us hl => match us, hl with | [_, _], _ => rfl), .nil⟩
  have F__numbers := fun_mk (st := s__numbers) l__numbers c__numbers k__numbers
  have G__numbers : FnG l.prog w K mg base CX0 1 f__numbers _ p__numbers (spD K fs_numbers) := ok_numbers B F__numbers
  have c_numbers_ : Cal l.prog w K mg base CX0 1 "_numbers" p__numbers [] (spD K fs_numbers) := ⟨_, _, _, G__numbers, PySem.W.mg_of X G a__numbers, F__numbers.kp, F__numbers.binds (ps := p__numbers) (fun _ _ _ _ _ _ us hl => match us, hl with | [_], _ => rfl), .nil⟩
  have F__is_name := fun_mk (st := s__is_name) l__is_name c__is_name k__is_name
  have G__is_name : FnG l.prog w K mg base CX0 1 f__is_name _ p__is_name (spD K fs_isname) := ok_isname B m_LETTERS ⟨_, rfl⟩ m_LONGEST_NAME ⟨_, rfl⟩ F__is_name
  have c_is_name_ : Cal l.prog w K mg base CX0 1 "_is_name" p__is_name [] (spD K fs_isname) := ⟨_, _, _, G__is_name, PySem.W.mg_of X G a__is_name, F__is_name.kp, F__is_name.binds (ps := p__is_name) (fun _ _ _ _ _ _ us hl => match us, hl with | [_], _ => rfl), .nil⟩
  have F__read_places := fun_mk (st := s__read_places) l__read_places c__read_places k__read_places
  have G__read_places : FnG l.prog w K mg base (L2.CX l.prog w) 3 f__read_places _ p__read_places (spD K (fs_rp C_BadNet)) := ok_rp B m_FEWEST_PLACES ⟨_, rfl⟩ m_MOST_PLACES ⟨_, rfl⟩ m_BadNet T_BadNet v_BadNet i_BadNet ti_init F_init b_init c_is_name_ F__read_places
  have c_read_places_ : Cal l.prog w K mg base (L2.CX l.prog w) 3 "_read_places" p__read_places [] (spD K (fs_rp C_BadNet)) := ⟨_, _, _, G__read_places, PySem.W.mg_of X G a__read_places, F__read_places.kp, F__read_places.binds (ps := p__read_places) (fun _ _ _ _ _ _ us hl => match us, hl with | [_], _ => rfl), .nil⟩
  have F__read_watchers := fun_mk (st := s__read_watchers) l__read_watchers c__read_watchers k__read_watchers
  have G__read_watchers : FnG l.prog w K mg base (L2.CX l.prog w) 3 f__read_watchers _ p__read_watchers (spD K (fs_rw C_BadNet)) := ok_rw B m_FEWEST_WATCHERS ⟨_, rfl⟩ m_BadNet T_BadNet v_BadNet i_BadNet ti_init F_init b_init cin_sequence_ F__read_watchers
  have c_read_watchers_ : Cal l.prog w K mg base (L2.CX l.prog w) 3 "_read_watchers" p__read_watchers [] (spD K (fs_rw C_BadNet)) := ⟨_, _, _, G__read_watchers, PySem.W.mg_of X G a__read_watchers, F__read_watchers.kp, F__read_watchers.binds (ps := p__read_watchers) (fun _ _ _ _ _ _ us hl => match us, hl with | [_, _], _ => rfl), .nil⟩
  have F__read_ties := fun_mk (st := s__read_ties) l__read_ties c__read_ties k__read_ties
  have G__read_ties : FnG l.prog w K mg base (L2.CX l.prog w) 3 f__read_ties _ p__read_ties (spD K (fs_rt C_BadNet)) := ok_rt B m_FIRST_TIE_LINE ⟨_, rfl⟩ m_MOST_TIES ⟨_, rfl⟩ m_BadNet T_BadNet v_BadNet i_BadNet ti_init F_init b_init cin_sequence_ F__read_ties
  have c_read_ties_ : Cal l.prog w K mg base (L2.CX l.prog w) 3 "_read_ties" p__read_ties [] (spD K (fs_rt C_BadNet)) := ⟨_, _, _, G__read_ties, PySem.W.mg_of X G a__read_ties, F__read_ties.kp, F__read_ties.binds (ps := p__read_ties) (fun _ _ _ _ _ _ us hl => match us, hl with | [_, _], _ => rfl), .nil⟩
  have F0_Net_init := fun_mk (st := s_Net_init) l_Net_init c_Net_init k_Net_init
  have F_Net_init : FnG l.prog w K mg base (L2.CX l.prog w) 4 f_Net_init _ p_Net_init (spI K C_Net (fi_net C_BadNet)) := ok_netinit B m_FIRST_TIE_LINE ⟨_, rfl⟩ m_BadNet T_BadNet v_BadNet i_BadNet ti_init F_init b_init c_Net a_text a_places a_watchers a_ties a_numbers fa_walked a_sight c_numbers_ c_read_places_ c_read_watchers_ c_read_ties_ F0_Net_init
  have b_Net_init := F0_Net_init.binds (ps := p_Net_init) (fun _ _ _ _ _ _ us hl => match us, hl with | [_, _], _ => rfl)
  have M_Net : Mk K C_Net f_Net_init := ⟨mk_Net, at_Net_init, fn_Net_init, kp_Net⟩
  have F0_Net_len := fun_mk (st := s_Net_len) l_Net_len c_Net_len k_Net_len
  have S_Net_len : Spc K C_Net "__len__" f_Net_len := ⟨at_Net_len, fn_Net_len⟩
  have F_Net_len : FnG l.prog w K mg base CX0 1 f_Net_len _ p_Net_len (spD K (fs_nlen C_Net)) := ok_nlen B c_Net a_ties F0_Net_len
  have b_Net_len := F0_Net_len.binds (ps := p_Net_len) (fun _ _ _ _ _ _ us hl => match us, hl with | [_], _ => rfl)
  have F_is_integer := fun_mk (st := s_is_integer) l_is_integer c_is_integer k_is_integer
  have G_is_integer : FnG l.prog w K mg base CX0 1 f_is_integer _ p_is_integer (spD K fs_isint) := ok_isint B F_is_integer
  have cis_integer_ : Cal l.prog w K mg base CX0 1 "is_integer" p_is_integer [] (spD K fs_isint) := ⟨_, _, _, G_is_integer, PySem.W.mg_of X G a_is_integer, F_is_integer.kp, F_is_integer.binds (ps := p_is_integer) (fun _ _ _ _ _ _ us hl => match us, hl with | [_], _ => rfl), .nil⟩
  have F_is_fraction := fun_mk (st := s_is_fraction) l_is_fraction c_is_fraction k_is_fraction
  have G_is_fraction : FnG l.prog w K mg base CX0 2 f_is_fraction _ p_is_fraction (spD K fs_isfr) := ok_isfr B m_gcd cis_integer_ F_is_fraction
  have cis_fraction_ : Cal l.prog w K mg base CX0 2 "is_fraction" p_is_fraction [] (spD K fs_isfr) := ⟨_, _, _, G_is_fraction, PySem.W.mg_of X G a_is_fraction, F_is_fraction.kp, F_is_fraction.binds (ps := p_is_fraction) (fun _ _ _ _ _ _ us hl => match us, hl with | [_], _ => rfl), .nil⟩
  have F_are_fractions := fun_mk (st := s_are_fractions) l_are_fractions c_are_fractions k_are_fractions
  have G_are_fractions : FnG l.prog w K mg base CX0 3 f_are_fractions _ p_are_fractions (spD K fs_aref) := ok_aref B cis_fraction_ F_are_fractions
  have care_fractions_ : Cal l.prog w K mg base CX0 3 "are_fractions" p_are_fractions [] (spD K fs_aref) := ⟨_, _, _, G_are_fractions, PySem.W.mg_of X G a_are_fractions, F_are_fractions.kp, F_are_fractions.binds (ps := p_are_fractions) (fun _ _ _ _ _ _ us hl => match us, hl with | [_], _ => rfl), .nil⟩
  have F_cut := fun_mk (st := s_cut) l_cut c_cut k_cut
  have G_cut : FnG l.prog w K mg base CX0 1 f_cut _ p_cut (spD K fs_cut) := ok_cut B m_gcd F_cut
  have ccut_ : Cal l.prog w K mg base CX0 1 "cut" p_cut [] (spD K fs_cut) := ⟨_, _, _, G_cut, PySem.W.mg_of X G a_cut, F_cut.kp, F_cut.binds (ps := p_cut) (fun _ _ _ _ _ _ us hl => match us, hl with | [_, _], _ => rfl), .nil⟩
  have F_in_integers := fun_mk (st := s_in_integers) l_in_integers c_in_integers k_in_integers
  have G_in_integers : FnG l.prog w K mg base CX0 1 f_in_integers _ p_in_integers (spD K fs_inint) := ok_inint B m_lcm F_in_integers
  have cin_integers_ : Cal l.prog w K mg base CX0 1 "in_integers" p_in_integers [] (spD K fs_inint) := ⟨_, _, _, G_in_integers, PySem.W.mg_of X G a_in_integers, F_in_integers.kp, F_in_integers.binds (ps := p_in_integers) (fun _ _ _ _ _ _ us hl => match us, hl with | [_], _ => rfl), .nil⟩
  have F_sum_along := fun_mk (st := s_sum_along) l_sum_along c_sum_along k_sum_along
  have G_sum_along : FnG l.prog w K mg base CX0 1 f_sum_along _ p_sum_along (spD K fs_sumal) := ok_sumal B F_sum_along
  have csum_along_ : Cal l.prog w K mg base CX0 1 "sum_along" p_sum_along [] (spD K fs_sumal) := ⟨_, _, _, G_sum_along, PySem.W.mg_of X G a_sum_along, F_sum_along.kp, F_sum_along.binds (ps := p_sum_along) (fun _ _ _ _ _ _ us hl => match us, hl with | [_, _], _ => rfl), .nil⟩
  have F0_Walk_init := fun_mk (st := s_Walk_init) l_Walk_init c_Walk_init k_Walk_init
  have F_Walk_init : FnG l.prog w K mg base CX0 1 f_Walk_init _ p_Walk_init (spM K (fm_winit K C_Walk)) := ok_walkinit B c_Walk a_onward a_ends a_paths F0_Walk_init
  have b_Walk_init := F0_Walk_init.binds (ps := p_Walk_init) (fun _ _ _ _ _ _ us hl => match us, hl with | [_, _], _ => rfl)
  have F0_Walk_step := fun_mk (st := s_Walk_step) l_Walk_step c_Walk_step k_Walk_step
  have mt_Walk_step : Meth K C_Walk "step" f_Walk_step := ⟨at_Walk_step, fn_Walk_step, k_Walk_step⟩
  have F_Walk_step : FnG l.prog w K mg base CX0 1 f_Walk_step _ p_Walk_step (spM K (fm_step C_Walk)) := ok_walkstep B c_Walk a_onward a_ends a_paths F0_Walk_step
  have b_Walk_step := F0_Walk_step.binds (ps := p_Walk_step) (fun _ _ _ _ _ _ us hl => match us, hl with | [_], _ => rfl)
  have M_Walk : Mk K C_Walk f_Walk_init := ⟨mk_Walk, at_Walk_init, fn_Walk_init, kp_Walk⟩
  have F_walked := fun_mk (st := s_walked) l_walked c_walked k_walked
  have G_walked : FnG l.prog w K mg base CX0 3 f_walked _ p_walked (spD K (fs_walked K kdW C_Net)) := ok_walked (C_Net := C_Net) rfl (fun _ _ _ h => h) (fun _ _ _ h => h) B c_Walk m_Walk M_Walk F_Walk_init b_Walk_init mt_Walk_step F_Walk_step b_Walk_step F_walked
  have cwalked_ : Cal l.prog w K mg base CX0 3 "walked" p_walked [] (spD K (fs_walked K kdW C_Net)) := ⟨_, _, _, G_walked, PySem.W.mg_of X G a_walked, F_walked.kp, F_walked.binds (ps := p_walked) (fun _ _ _ _ _ _ us hl => match us, hl with | [_], _ => rfl), .nil⟩
  have F_are_costs := fun_mk (st := s_are_costs) l_are_costs c_are_costs k_are_costs
  have G_are_costs : FnG l.prog w K mg base CX0 4 f_are_costs _ p_are_costs (spD K (fs_arecosts C_Net)) := ok_arecosts B S_Net_len F_Net_len b_Net_len care_fractions_ F_are_costs
  have care_costs_ : Cal l.prog w K mg base CX0 4 "are_costs" p_are_costs [] (spD K (fs_arecosts C_Net)) := ⟨_, _, _, G_are_costs, PySem.W.mg_of X G a_are_costs, F_are_costs.kp, F_are_costs.binds (ps := p_are_costs) (fun _ _ _ _ _ _ us hl => match us, hl with | [_, _], _ => rfl), .nil⟩
  have F_sums := fun_mk (st := s_sums) l_sums c_sums k_sums
  have G_sums : FnG l.prog w K mg base (L2.CX l.prog w) 5 f_sums _ p_sums (spD K (fs_sums K C_BadCosts C_Net)) := ok_sums B m_BadCosts T_BadCosts v_BadCosts i_BadCosts ti_init F_init b_init care_costs_ cin_integers_ csum_along_ cwalked_ ccut_ F_sums
  have csums_ : Cal l.prog w K mg base (L2.CX l.prog w) 5 "sums" p_sums [] (spD K (fs_sums K C_BadCosts C_Net)) := ⟨_, _, _, G_sums, PySem.W.mg_of X G a_sums, F_sums.kp, F_sums.binds (ps := p_sums) (fun _ _ _ _ _ _ us hl => match us, hl with | [_, _], _ => rfl), .nil⟩
  have F_l_made := fun_mk (st := s_l_made) l_l_made c_l_made k_l_made
  have G_l_made : FnG l.prog w K mg base CX0 1 f_l_made _ p_l_made (spD K fs_made) := ok_made B F_l_made
  have cl_made_ : Cal l.prog w K mg base CX0 1 "_law_made" p_l_made [] (spD K fs_made) := ⟨_, _, _, G_l_made, PySem.W.mg_of X G a_l_made, F_l_made.kp, F_l_made.binds (ps := p_l_made) (fun _ _ _ _ _ _ us hl => match us, hl with | [_, _, _], _ => rfl), .nil⟩
  have F_l_text := fun_mk (st := s_l_text) l_l_text c_l_text k_l_text
  have G_l_text : FnG l.prog w K mg base CX0 1 f_l_text _ p_l_text (spD K fs_text) := ok_text B F_l_text
  have cl_text_ : Cal l.prog w K mg base CX0 1 "_law_text" p_l_text [] (spD K fs_text) := ⟨_, _, _, G_l_text, PySem.W.mg_of X G a_l_text, F_l_text.kp, F_l_text.binds (ps := p_l_text) (fun _ _ _ _ _ _ us hl => match us, hl with | [_], _ => rfl), .nil⟩
  have F_l_lore := fun_mk (st := s_l_lore) l_l_lore c_l_lore k_l_lore
  have G_l_lore : FnG l.prog w K mg base CX0 4 f_l_lore _ p_l_lore (spP K fp_lore) := ok_lore B cl_take_ cl_of_ cl_some_ cl_names_ cl_pairs_ cl_made_ F_l_lore
  have cl_lore_ : Cal l.prog w K mg base CX0 4 "_law_lore" p_l_lore [] (spP K fp_lore) := ⟨_, _, _, G_l_lore, PySem.W.mg_of X G a_l_lore, F_l_lore.kp, F_l_lore.binds (ps := p_l_lore) (fun _ _ _ _ _ _ us hl => match us, hl with | [_, _, _, _], _ => rfl), .nil⟩
  have F_l_net := fun_mk (st := s_l_net) l_l_net c_l_net k_l_net
  have G_l_net : FnG l.prog w K mg base CX0 6 f_l_net _ p_l_net (spD K (fs_net C_Net)) := ok_net B m_Net M_Net F_Net_init b_Net_init cl_text_ F_l_net
  have cl_net_ : Cal l.prog w K mg base CX0 6 "_law_net" p_l_net [] (spD K (fs_net C_Net)) := ⟨_, _, _, G_l_net, PySem.W.mg_of X G a_l_net, F_l_net.kp, F_l_net.binds (ps := p_l_net) (fun _ _ _ _ _ _ us hl => match us, hl with | [_], _ => rfl), .nil⟩
  have F_l_gcd := fun_mk (st := s_l_gcd) l_l_gcd c_l_gcd k_l_gcd
  have G_l_gcd : FnG l.prog w K mg base CX0 1 f_l_gcd _ p_l_gcd (spD K fs_gcd) := ok_gcd B F_l_gcd
  have cl_gcd_ : Cal l.prog w K mg base CX0 1 "_law_gcd" p_l_gcd [] (spD K fs_gcd) := ⟨_, _, _, G_l_gcd, PySem.W.mg_of X G a_l_gcd, F_l_gcd.kp, F_l_gcd.binds (ps := p_l_gcd) (fun _ _ _ _ _ _ us hl => match us, hl with | [_], _ => rfl), .nil⟩
  have G_l_gcdT : FnG l.prog w K mg base CX0 1 f_l_gcd _ p_l_gcd (spD K fs_gcdT) := ok_gcdT B F_l_gcd
  have cl_gcdT_ : Cal l.prog w K mg base CX0 1 "_law_gcd" p_l_gcd [] (spD K fs_gcdT) := ⟨_, _, _, G_l_gcdT, PySem.W.mg_of X G a_l_gcd, F_l_gcd.kp, F_l_gcd.binds (ps := p_l_gcd) (fun _ _ _ _ _ _ us hl => match us, hl with | [_], _ => rfl), .nil⟩
  have F_l_fraction := fun_mk (st := s_l_fraction) l_l_fraction c_l_fraction k_l_fraction
  have G_l_fraction : FnG l.prog w K mg base CX0 2 f_l_fraction _ p_l_fraction (spD K fs_lfraction) := ok_lfraction B cl_gcd_ F_l_fraction
  have cl_fraction_ : Cal l.prog w K mg base CX0 2 "_law_fraction" p_l_fraction [] (spD K fs_lfraction) := ⟨_, _, _, G_l_fraction, PySem.W.mg_of X G a_l_fraction, F_l_fraction.kp, F_l_fraction.binds (ps := p_l_fraction) (fun _ _ _ _ _ _ us hl => match us, hl with | [_, _], _ => rfl), .nil⟩
  have F_l_drawn_fraction := fun_mk (st := s_l_drawn_fraction) l_l_drawn_fraction c_l_drawn_fraction k_l_drawn_fraction
  have G_l_drawn_fraction : FnG l.prog w K mg base CX0 3 f_l_drawn_fraction _ p_l_drawn_fraction (spP K fp_drawn) := ok_drawn B cl_take_ cl_of_ cl_fraction_ F_l_drawn_fraction
  have cl_drawn_fraction_ : Cal l.prog w K mg base CX0 3 "_law_drawn_fraction" p_l_drawn_fraction [] (spP K fp_drawn) := ⟨_, _, _, G_l_drawn_fraction, PySem.W.mg_of X G a_l_drawn_fraction, F_l_drawn_fraction.kp, F_l_drawn_fraction.binds (ps := p_l_drawn_fraction) (fun _ _ _ _ _ _ us hl => match us, hl with | [_], _ => rfl), .nil⟩
  have F_l_costs := fun_mk (st := s_l_costs) l_l_costs c_l_costs k_l_costs
  have G_l_costs : FnG l.prog w K mg base CX0 4 f_l_costs _ p_l_costs (spP K fp_lcosts) := ok_lcosts B cl_drawn_fraction_ F_l_costs
  have cl_costs_ : Cal l.prog w K mg base CX0 4 "_law_costs" p_l_costs [] (spP K fp_lcosts) := ⟨_, _, _, G_l_costs, PySem.W.mg_of X G a_l_costs, F_l_costs.kp, F_l_costs.binds (ps := p_l_costs) (fun _ _ _ _ _ _ us hl => match us, hl with | [_, _], _ => rfl), .nil⟩
  have F_l_odd := fun_mk (st := s_l_odd) l_l_odd c_l_odd k_l_odd
  have G_l_odd : FnG l.prog w K mg base CX0 3 f_l_odd _ p_l_odd (spP K fp_odd) := ok_odd B cl_of_ F_l_odd
  have cl_odd_ : Cal l.prog w K mg base CX0 3 "_law_odd" p_l_odd [] (spP K fp_odd) := ⟨_, _, _, G_l_odd, PySem.W.mg_of X G a_l_odd, F_l_odd.kp, F_l_odd.binds (ps := p_l_odd) (fun _ _ _ _ _ _ us hl => match us, hl with | [_], _ => rfl), .nil⟩
  have F_l_bent := fun_mk (st := s_l_bent) l_l_bent c_l_bent k_l_bent
  have cl_bent_ : Cal l.prog w K mg base CX0 6 "_law_bent" p_l_bent [] (spP K (fp_bent 26 15 2)) := all_bent (by decide) (by decide) (by decide) B cl_take_ cl_of_ cl_odd_ F_l_bent (PySem.W.mg_of X G a_l_bent) F_l_bent.kp (F_l_bent.binds (ps := p_l_bent) (fun _ _ _ _ _ _ us hl => match us, hl with | [_, _], _ => rfl)) 3 (by decide)
  have F_l_is_fraction := fun_mk (st := s_l_is_fraction) l_l_is_fraction c_l_is_fraction k_l_is_fraction
  have G_l_is_fraction : FnG l.prog w K mg base CX0 2 f_l_is_fraction _ p_l_is_fraction (spD K fs_lisfr) := ok_lisfr B cl_gcdT_ F_l_is_fraction
  have cl_is_fraction_ : Cal l.prog w K mg base CX0 2 "_law_is_fraction" p_l_is_fraction [] (spD K fs_lisfr) := ⟨_, _, _, G_l_is_fraction, PySem.W.mg_of X G a_l_is_fraction, F_l_is_fraction.kp, F_l_is_fraction.binds (ps := p_l_is_fraction) (fun _ _ _ _ _ _ us hl => match us, hl with | [_], _ => rfl), .nil⟩
  have F_l_are_fractions := fun_mk (st := s_l_are_fractions) l_l_are_fractions c_l_are_fractions k_l_are_fractions
  have G_l_are_fractions : FnG l.prog w K mg base CX0 3 f_l_are_fractions _ p_l_are_fractions (spD K fs_laref) := ok_laref B cl_is_fraction_ F_l_are_fractions
  have cl_are_fractions_ : Cal l.prog w K mg base CX0 3 "_law_are_fractions" p_l_are_fractions [] (spD K fs_laref) := ⟨_, _, _, G_l_are_fractions, PySem.W.mg_of X G a_l_are_fractions, F_l_are_fractions.kp, F_l_are_fractions.binds (ps := p_l_are_fractions) (fun _ _ _ _ _ _ us hl => match us, hl with | [_, _], _ => rfl), .nil⟩
  have m_l_heard := PySem.W.mg_of X G a_l_heard
  have G_l_right := ok_right (P := l.prog) (w := w) (base := base) B m_BadCosts m_TieError m_l_heard k_l_heard l_l_heard c_l_heard (F_l_heard.binds (ps := ["_law_call"]) (fun _ _ _ _ _ _ us hl => match us, hl with | [_], _ => rfl)) x_BadCosts xf_BadCosts v_BadCosts kk_BadCosts em_BadCosts TB_l_right hmT_l_right hu_T_l_right c_Net a_places a_watchers a_numbers fa_walked cl_take_ cl_of_ cl_odd_ cl_bent_ cl_lore_ cl_net_ cl_costs_ cl_are_fractions_ csums_ l_l_right c_l_right
  have F_l_right := fun_mk (st := s_l_right) l_l_right c_l_right k_l_right
  have cl_right_ : Cal l.prog w K mg base CX0 12 "_law_right" p_l_right [] (spPT K fp_right) := ⟨_, _, _, G_l_right, PySem.W.mg_of X G a_l_right, F_l_right.kp, F_l_right.binds (ps := p_l_right) (fun _ _ _ _ _ _ us hl => match us, hl with | [_], _ => rfl), .nil⟩
  have F_law := fun_mk (st := s_law) l_law c_law k_law
  have G_law : FnG l.prog w K mg base CX0 13 fa _ p_law (spDT K fs_law) := ok_law B cl_cells_ cl_pot_ cl_right_ F_law
  exact G_law
end K13
open PySem PySem.W PyProof.Rows
set_option maxHeartbeats 0 in
theorem PySem.Challenge.cw_tiesums_k13_costs_refused_holds : PySem.Challenge.rw_tiesums_k13_costs_refused.Holds := by
  w_on; o_law; k_head; (case hw => w_witness2)
  k_fill
  letI : DL.TabT := ⟨[(429, "_law_right.<locals>.<lambda>")]⟩
  letI : DL.CacT := ⟨fun _ => False, fun _ _ _ _ => False, fun _ h => h.elim, fun h => h.elim⟩
  refine DL.walk_gT (l := PySem.Challenge.rw_tiesums_k13_costs_refused) (n := 63) (k := 13) (x := "_law_script") (CX := fun _ => L2.CX0) rfl (by decide) rfl ⟨rfl, by decide, by decide⟩ (fun w h Y => PySem.W.km_in_of Y) ?F (fun _ _ _ _ _ h => h)
  case F =>
    intro w mg fa h Y KX G hmg
    obtain ⟨fd, sp, hb, hS0, hF⟩ := K13.all_mk (l := PySem.Challenge.rw_tiesums_k13_costs_refused) (w := w) (PM_l_right := 429) KX G hmg (by show _ ∈ ([(429, "_law_right.<locals>.<lambda>")] : List (Addr × Str)); simp) (fun p hp e => by have hp : p ∈ ([(429, "_law_right.<locals>.<lambda>")] : List (Addr × Str)) := hp; simp only [List.mem_cons, List.not_mem_nil, or_false] at hp; rcases hp with rfl <;> first | rfl | exact absurd e (by decide)) (by first | k_is | decide +kernel | kernel_rfl | exact ⟨_, _, _, _, _, _, _, _, _, _, _, _, _, _, _, by k_is, by rfl⟩) (by first | k_is | decide +kernel | kernel_rfl | exact ⟨_, _, _, _, _, _, _, _, _, _, _, _, _, _, _, by k_is, by rfl⟩) (by first | k_is | decide +kernel | kernel_rfl | exact ⟨_, _, _, _, _, _, _, _, _, _, _, _, _, _, _, by k_is, by rfl⟩) (by first | k_is | decide +kernel | kernel_rfl | exact ⟨_, _, _, _, _, _, _, _, _, _, _, _, _, _, _, by k_is, by rfl⟩) (by first | k_is | decide +kernel | kernel_rfl | exact ⟨_, _, _, _, _, _, _, _, _, _, _, _, _, _, _, by k_is, by rfl⟩) (by first | k_is | decide +kernel | kernel_rfl | exact ⟨_, _, _, _, _, _, _, _, _, _, _, _, _, _, _, by k_is, by rfl⟩) (by first | k_is | decide +kernel | kernel_rfl | exact ⟨_, _, _, _, _, _, _, _, _, _, _, _, _, _, _, by k_is, by rfl⟩) (by first | k_is | decide +kernel | kernel_rfl | exact ⟨_, _, _, _, _, _, _, _, _, _, _, _, _, _, _, by k_is, by rfl⟩) (by first | k_is | decide +kernel | kernel_rfl | exact ⟨_, _, _, _, _, _, _, _, _, _, _, _, _, _, _, by k_is, by rfl⟩) (by first | k_is | decide +kernel | kernel_rfl | exact ⟨_, _, _, _, _, _, _, _, _, _, _, _, _, _, _, by k_is, by rfl⟩) (by first | k_is | decide +kernel | kernel_rfl | exact ⟨_, _, _, _, _, _, _, _, _, _, _, _, _, _, _, by k_is, by rfl⟩) (by first | k_is | decide +kernel | kernel_rfl | exact ⟨_, _, _, _, _, _, _, _, _, _, _, _, _, _, _, by k_is, by rfl⟩) (by first | k_is | decide +kernel | kernel_rfl | exact ⟨_, _, _, _, _, _, _, _, _, _, _, _, _, _, _, by k_is, by rfl⟩) (by first | k_is | decide +kernel | kernel_rfl | exact ⟨_, _, _, _, _, _, _, _, _, _, _, _, _, _, _, by k_is, by rfl⟩) (by first | k_is | decide +kernel | kernel_rfl | exact ⟨_, _, _, _, _, _, _, _, _, _, _, _, _, _, _, by k_is, by rfl⟩) (by first | k_is | decide +kernel | kernel_rfl | exact ⟨_, _, _, _, _, _, _, _, _, _, _, _, _, _, _, by k_is, by rfl⟩) (by first | k_is | decide +kernel | kernel_rfl | exact ⟨_, _, _, _, _, _, _, _, _, _, _, _, _, _, _, by k_is, by rfl⟩) (by first | k_is | decide +kernel | kernel_rfl | exact ⟨_, _, _, _, _, _, _, _, _, _, _, _, _, _, _, by k_is, by rfl⟩) (by first | k_is | decide +kernel | kernel_rfl | exact ⟨_, _, _, _, _, _, _, _, _, _, _, _, _, _, _, by k_is, by rfl⟩) (by first | k_is | decide +kernel | kernel_rfl | exact ⟨_, _, _, _, _, _, _, _, _, _, _, _, _, _, _, by k_is, by rfl⟩) (by first | k_is | decide +kernel | kernel_rfl | exact ⟨_, _, _, _, _, _, _, _, _, _, _, _, _, _, _, by k_is, by rfl⟩) (by first | k_is | decide +kernel | kernel_rfl | exact ⟨_, _, _, _, _, _, _, _, _, _, _, _, _, _, _, by k_is, by rfl⟩) (by first | k_is | decide +kernel | kernel_rfl | exact ⟨_, _, _, _, _, _, _, _, _, _, _, _, _, _, _, by k_is, by rfl⟩) (by first | k_is | decide +kernel | kernel_rfl | exact ⟨_, _, _, _, _, _, _, _, _, _, _, _, _, _, _, by k_is, by rfl⟩) (by first | k_is | decide +kernel | kernel_rfl | exact ⟨_, _, _, _, _, _, _, _, _, _, _, _, _, _, _, by k_is, by rfl⟩) (by first | k_is | decide +kernel | kernel_rfl | exact ⟨_, _, _, _, _, _, _, _, _, _, _, _, _, _, _, by k_is, by rfl⟩) (by first | k_is | decide +kernel | kernel_rfl | exact ⟨_, _, _, _, _, _, _, _, _, _, _, _, _, _, _, by k_is, by rfl⟩) (by first | k_is | decide +kernel | kernel_rfl | exact ⟨_, _, _, _, _, _, _, _, _, _, _, _, _, _, _, by k_is, by rfl⟩) (by first | k_is | decide +kernel | kernel_rfl | exact ⟨_, _, _, _, _, _, _, _, _, _, _, _, _, _, _, by k_is, by rfl⟩) (by first | k_is | decide +kernel | kernel_rfl | exact ⟨_, _, _, _, _, _, _, _, _, _, _, _, _, _, _, by k_is, by rfl⟩) (by first | k_is | decide +kernel | kernel_rfl | exact ⟨_, _, _, _, _, _, _, _, _, _, _, _, _, _, _, by k_is, by rfl⟩) (by first | k_is | decide +kernel | kernel_rfl | exact ⟨_, _, _, _, _, _, _, _, _, _, _, _, _, _, _, by k_is, by rfl⟩) (by first | k_is | decide +kernel | kernel_rfl | exact ⟨_, _, _, _, _, _, _, _, _, _, _, _, _, _, _, by k_is, by rfl⟩) (by first | k_is | decide +kernel | kernel_rfl | exact ⟨_, _, _, _, _, _, _, _, _, _, _, _, _, _, _, by k_is, by rfl⟩) (by first | k_is | decide +kernel | kernel_rfl | exact ⟨_, _, _, _, _, _, _, _, _, _, _, _, _, _, _, by k_is, by rfl⟩) (by first | k_is | decide +kernel | kernel_rfl | exact ⟨_, _, _, _, _, _, _, _, _, _, _, _, _, _, _, by k_is, by rfl⟩) (by first | k_is | decide +kernel | kernel_rfl | exact ⟨_, _, _, _, _, _, _, _, _, _, _, _, _, _, _, by k_is, by rfl⟩) (by first | k_is | decide +kernel | kernel_rfl | exact ⟨_, _, _, _, _, _, _, _, _, _, _, _, _, _, _, by k_is, by rfl⟩) (by first | k_is | decide +kernel | kernel_rfl | exact ⟨_, _, _, _, _, _, _, _, _, _, _, _, _, _, _, by k_is, by rfl⟩) (by first | k_is | decide +kernel | kernel_rfl | exact ⟨_, _, _, _, _, _, _, _, _, _, _, _, _, _, _, by k_is, by rfl⟩) (by first | k_is | decide +kernel | kernel_rfl | exact ⟨_, _, _, _, _, _, _, _, _, _, _, _, _, _, _, by k_is, by rfl⟩) (by first | k_is | decide +kernel | kernel_rfl | exact ⟨_, _, _, _, _, _, _, _, _, _, _, _, _, _, _, by k_is, by rfl⟩) (by first | k_is | decide +kernel | kernel_rfl | exact ⟨_, _, _, _, _, _, _, _, _, _, _, _, _, _, _, by k_is, by rfl⟩) (by first | k_is | decide +kernel | kernel_rfl | exact ⟨_, _, _, _, _, _, _, _, _, _, _, _, _, _, _, by k_is, by rfl⟩) (by first | k_is | decide +kernel | kernel_rfl | exact ⟨_, _, _, _, _, _, _, _, _, _, _, _, _, _, _, by k_is, by rfl⟩) (by first | k_is | decide +kernel | kernel_rfl | exact ⟨_, _, _, _, _, _, _, _, _, _, _, _, _, _, _, by k_is, by rfl⟩) (by first | k_is | decide +kernel | kernel_rfl | exact ⟨_, _, _, _, _, _, _, _, _, _, _, _, _, _, _, by k_is, by rfl⟩) (by first | k_is | decide +kernel | kernel_rfl | exact ⟨_, _, _, _, _, _, _, _, _, _, _, _, _, _, _, by k_is, by rfl⟩) (by first | k_is | decide +kernel | kernel_rfl | exact ⟨_, _, _, _, _, _, _, _, _, _, _, _, _, _, _, by k_is, by rfl⟩) (by first | k_is | decide +kernel | kernel_rfl | exact ⟨_, _, _, _, _, _, _, _, _, _, _, _, _, _, _, by k_is, by rfl⟩) (by first | k_is | decide +kernel | kernel_rfl | exact ⟨_, _, _, _, _, _, _, _, _, _, _, _, _, _, _, by k_is, by rfl⟩) (by first | k_is | decide +kernel | kernel_rfl | exact ⟨_, _, _, _, _, _, _, _, _, _, _, _, _, _, _, by k_is, by rfl⟩) (by first | k_is | decide +kernel | kernel_rfl | exact ⟨_, _, _, _, _, _, _, _, _, _, _, _, _, _, _, by k_is, by rfl⟩) (by first | k_is | decide +kernel | kernel_rfl | exact ⟨_, _, _, _, _, _, _, _, _, _, _, _, _, _, _, by k_is, by rfl⟩) (by first | k_is | decide +kernel | kernel_rfl | exact ⟨_, _, _, _, _, _, _, _, _, _, _, _, _, _, _, by k_is, by rfl⟩) (by first | k_is | decide +kernel | kernel_rfl | exact ⟨_, _, _, _, _, _, _, _, _, _, _, _, _, _, _, by k_is, by rfl⟩) (by first | k_is | decide +kernel | kernel_rfl | exact ⟨_, _, _, _, _, _, _, _, _, _, _, _, _, _, _, by k_is, by rfl⟩) (by first | k_is | decide +kernel | kernel_rfl | exact ⟨_, _, _, _, _, _, _, _, _, _, _, _, _, _, _, by k_is, by rfl⟩) (by first | k_is | decide +kernel | kernel_rfl | exact ⟨_, _, _, _, _, _, _, _, _, _, _, _, _, _, _, by k_is, by rfl⟩) (by first | k_is | decide +kernel | kernel_rfl | exact ⟨_, _, _, _, _, _, _, _, _, _, _, _, _, _, _, by k_is, by rfl⟩) (by first | k_is | decide +kernel | kernel_rfl | exact ⟨_, _, _, _, _, _, _, _, _, _, _, _, _, _, _, by k_is, by rfl⟩) (by first | k_is | decide +kernel | kernel_rfl | exact ⟨_, _, _, _, _, _, _, _, _, _, _, _, _, _, _, by k_is, by rfl⟩) (by first | k_is | decide +kernel | kernel_rfl | exact ⟨_, _, _, _, _, _, _, _, _, _, _, _, _, _, _, by k_is, by rfl⟩) (by first | k_is | decide +kernel | kernel_rfl | exact ⟨_, _, _, _, _, _, _, _, _, _, _, _, _, _, _, by k_is, by rfl⟩) (by first | k_is | decide +kernel | kernel_rfl | exact ⟨_, _, _, _, _, _, _, _, _, _, _, _, _, _, _, by k_is, by rfl⟩) (by first | k_is | decide +kernel | kernel_rfl | exact ⟨_, _, _, _, _, _, _, _, _, _, _, _, _, _, _, by k_is, by rfl⟩) (by first | k_is | decide +kernel | kernel_rfl | exact ⟨_, _, _, _, _, _, _, _, _, _, _, _, _, _, _, by k_is, by rfl⟩) (by first | k_is | decide +kernel | kernel_rfl | exact ⟨_, _, _, _, _, _, _, _, _, _, _, _, _, _, _, by k_is, by rfl⟩) (by first | k_is | decide +kernel | kernel_rfl | exact ⟨_, _, _, _, _, _, _, _, _, _, _, _, _, _, _, by k_is, by rfl⟩) (by first | k_is | decide +kernel | kernel_rfl | exact ⟨_, _, _, _, _, _, _, _, _, _, _, _, _, _, _, by k_is, by rfl⟩) (by first | k_is | decide +kernel | kernel_rfl | exact ⟨_, _, _, _, _, _, _, _, _, _, _, _, _, _, _, by k_is, by rfl⟩) (by first | k_is | decide +kernel | kernel_rfl | exact ⟨_, _, _, _, _, _, _, _, _, _, _, _, _, _, _, by k_is, by rfl⟩) (by first | k_is | decide +kernel | kernel_rfl | exact ⟨_, _, _, _, _, _, _, _, _, _, _, _, _, _, _, by k_is, by rfl⟩) (by first | k_is | decide +kernel | kernel_rfl | exact ⟨_, _, _, _, _, _, _, _, _, _, _, _, _, _, _, by k_is, by rfl⟩) (by first | k_is | decide +kernel | kernel_rfl | exact ⟨_, _, _, _, _, _, _, _, _, _, _, _, _, _, _, by k_is, by rfl⟩) (by first | k_is | decide +kernel | kernel_rfl | exact ⟨_, _, _, _, _, _, _, _, _, _, _, _, _, _, _, by k_is, by rfl⟩) (by first | k_is | decide +kernel | kernel_rfl | exact ⟨_, _, _, _, _, _, _, _, _, _, _, _, _, _, _, by k_is, by rfl⟩) (by first | k_is | decide +kernel | kernel_rfl | exact ⟨_, _, _, _, _, _, _, _, _, _, _, _, _, _, _, by k_is, by rfl⟩) (by first | k_is | decide +kernel | kernel_rfl | exact ⟨_, _, _, _, _, _, _, _, _, _, _, _, _, _, _, by k_is, by rfl⟩) (by first | k_is | decide +kernel | kernel_rfl | exact ⟨_, _, _, _, _, _, _, _, _, _, _, _, _, _, _, by k_is, by rfl⟩) (by first | k_is | decide +kernel | kernel_rfl | exact ⟨_, _, _, _, _, _, _, _, _, _, _, _, _, _, _, by k_is, by rfl⟩) (by first | k_is | decide +kernel | kernel_rfl | exact ⟨_, _, _, _, _, _, _, _, _, _, _, _, _, _, _, by k_is, by rfl⟩) (by first | k_is | decide +kernel | kernel_rfl | exact ⟨_, _, _, _, _, _, _, _, _, _, _, _, _, _, _, by k_is, by rfl⟩) (by first | k_is | decide +kernel | kernel_rfl | exact ⟨_, _, _, _, _, _, _, _, _, _, _, _, _, _, _, by k_is, by rfl⟩) (by first | k_is | decide +kernel | kernel_rfl | exact ⟨_, _, _, _, _, _, _, _, _, _, _, _, _, _, _, by k_is, by rfl⟩) (by first | k_is | decide +kernel | kernel_rfl | exact ⟨_, _, _, _, _, _, _, _, _, _, _, _, _, _, _, by k_is, by rfl⟩) (by first | k_is | decide +kernel | kernel_rfl | exact ⟨_, _, _, _, _, _, _, _, _, _, _, _, _, _, _, by k_is, by rfl⟩) (by first | k_is | decide +kernel | kernel_rfl | exact ⟨_, _, _, _, _, _, _, _, _, _, _, _, _, _, _, by k_is, by rfl⟩) (by first | k_is | decide +kernel | kernel_rfl | exact ⟨_, _, _, _, _, _, _, _, _, _, _, _, _, _, _, by k_is, by rfl⟩) (by first | k_is | decide +kernel | kernel_rfl | exact ⟨_, _, _, _, _, _, _, _, _, _, _, _, _, _, _, by k_is, by rfl⟩) (by first | k_is | decide +kernel | kernel_rfl | exact ⟨_, _, _, _, _, _, _, _, _, _, _, _, _, _, _, by k_is, by rfl⟩) (by first | k_is | decide +kernel | kernel_rfl | exact ⟨_, _, _, _, _, _, _, _, _, _, _, _, _, _, _, by k_is, by rfl⟩) (by first | k_is | decide +kernel | kernel_rfl | exact ⟨_, _, _, _, _, _, _, _, _, _, _, _, _, _, _, by k_is, by rfl⟩) (by first | k_is | decide +kernel | kernel_rfl | exact ⟨_, _, _, _, _, _, _, _, _, _, _, _, _, _, _, by k_is, by rfl⟩) (by first | k_is | decide +kernel | kernel_rfl | exact ⟨_, _, _, _, _, _, _, _, _, _, _, _, _, _, _, by k_is, by rfl⟩) (by first | k_is | decide +kernel | kernel_rfl | exact ⟨_, _, _, _, _, _, _, _, _, _, _, _, _, _, _, by k_is, by rfl⟩) (by first | k_is | decide +kernel | kernel_rfl | exact ⟨_, _, _, _, _, _, _, _, _, _, _, _, _, _, _, by k_is, by rfl⟩) (by first | k_is | decide +kernel | kernel_rfl | exact ⟨_, _, _, _, _, _, _, _, _, _, _, _, _, _, _, by k_is, by rfl⟩) (by first | k_is | decide +kernel | kernel_rfl | exact ⟨_, _, _, _, _, _, _, _, _, _, _, _, _, _, _, by k_is, by rfl⟩) (by first | k_is | decide +kernel | kernel_rfl | exact ⟨_, _, _, _, _, _, _, _, _, _, _, _, _, _, _, by k_is, by rfl⟩) (by first | k_is | decide +kernel | kernel_rfl | exact ⟨_, _, _, _, _, _, _, _, _, _, _, _, _, _, _, by k_is, by rfl⟩) (by first | k_is | decide +kernel | kernel_rfl | exact ⟨_, _, _, _, _, _, _, _, _, _, _, _, _, _, _, by k_is, by rfl⟩) (by first | k_is | decide +kernel | kernel_rfl | exact ⟨_, _, _, _, _, _, _, _, _, _, _, _, _, _, _, by k_is, by rfl⟩) (by first | k_is | decide +kernel | kernel_rfl | exact ⟨_, _, _, _, _, _, _, _, _, _, _, _, _, _, _, by k_is, by rfl⟩) (by first | k_is | decide +kernel | kernel_rfl | exact ⟨_, _, _, _, _, _, _, _, _, _, _, _, _, _, _, by k_is, by rfl⟩) (by first | k_is | decide +kernel | kernel_rfl | exact ⟨_, _, _, _, _, _, _, _, _, _, _, _, _, _, _, by k_is, by rfl⟩) (by first | k_is | decide +kernel | kernel_rfl | exact ⟨_, _, _, _, _, _, _, _, _, _, _, _, _, _, _, by k_is, by rfl⟩) (by first | k_is | decide +kernel | kernel_rfl | exact ⟨_, _, _, _, _, _, _, _, _, _, _, _, _, _, _, by k_is, by rfl⟩) (by first | k_is | decide +kernel | kernel_rfl | exact ⟨_, _, _, _, _, _, _, _, _, _, _, _, _, _, _, by k_is, by rfl⟩) (by first | k_is | decide +kernel | kernel_rfl | exact ⟨_, _, _, _, _, _, _, _, _, _, _, _, _, _, _, by k_is, by rfl⟩) (by first | k_is | decide +kernel | kernel_rfl | exact ⟨_, _, _, _, _, _, _, _, _, _, _, _, _, _, _, by k_is, by rfl⟩) (by first | k_is | decide +kernel | kernel_rfl | exact ⟨_, _, _, _, _, _, _, _, _, _, _, _, _, _, _, by k_is, by rfl⟩) (by first | k_is | decide +kernel | kernel_rfl | exact ⟨_, _, _, _, _, _, _, _, _, _, _, _, _, _, _, by k_is, by rfl⟩) (by first | k_is | decide +kernel | kernel_rfl | exact ⟨_, _, _, _, _, _, _, _, _, _, _, _, _, _, _, by k_is, by rfl⟩) (by first | k_is | decide +kernel | kernel_rfl | exact ⟨_, _, _, _, _, _, _, _, _, _, _, _, _, _, _, by k_is, by rfl⟩) (by first | k_is | decide +kernel | kernel_rfl | exact ⟨_, _, _, _, _, _, _, _, _, _, _, _, _, _, _, by k_is, by rfl⟩) (by first | k_is | decide +kernel | kernel_rfl | exact ⟨_, _, _, _, _, _, _, _, _, _, _, _, _, _, _, by k_is, by rfl⟩) (by first | k_is | decide +kernel | kernel_rfl | exact ⟨_, _, _, _, _, _, _, _, _, _, _, _, _, _, _, by k_is, by rfl⟩) (by first | k_is | decide +kernel | kernel_rfl | exact ⟨_, _, _, _, _, _, _, _, _, _, _, _, _, _, _, by k_is, by rfl⟩) (by first | k_is | decide +kernel | kernel_rfl | exact ⟨_, _, _, _, _, _, _, _, _, _, _, _, _, _, _, by k_is, by rfl⟩) (by first | k_is | decide +kernel | kernel_rfl | exact ⟨_, _, _, _, _, _, _, _, _, _, _, _, _, _, _, by k_is, by rfl⟩) (by first | k_is | decide +kernel | kernel_rfl | exact ⟨_, _, _, _, _, _, _, _, _, _, _, _, _, _, _, by k_is, by rfl⟩) (by first | k_is | decide +kernel | kernel_rfl | exact ⟨_, _, _, _, _, _, _, _, _, _, _, _, _, _, _, by k_is, by rfl⟩) (by first | k_is | decide +kernel | kernel_rfl | exact ⟨_, _, _, _, _, _, _, _, _, _, _, _, _, _, _, by k_is, by rfl⟩) (by first | k_is | decide +kernel | kernel_rfl | exact ⟨_, _, _, _, _, _, _, _, _, _, _, _, _, _, _, by k_is, by rfl⟩) (by first | k_is | decide +kernel | kernel_rfl | exact ⟨_, _, _, _, _, _, _, _, _, _, _, _, _, _, _, by k_is, by rfl⟩) (by first | k_is | decide +kernel | kernel_rfl | exact ⟨_, _, _, _, _, _, _, _, _, _, _, _, _, _, _, by k_is, by rfl⟩) (by first | k_is | decide +kernel | kernel_rfl | exact ⟨_, _, _, _, _, _, _, _, _, _, _, _, _, _, _, by k_is, by rfl⟩) (by first | k_is | decide +kernel | kernel_rfl | exact ⟨_, _, _, _, _, _, _, _, _, _, _, _, _, _, _, by k_is, by rfl⟩) (by first | k_is | decide +kernel | kernel_rfl | exact ⟨_, _, _, _, _, _, _, _, _, _, _, _, _, _, _, by k_is, by rfl⟩) (by first | k_is | decide +kernel | kernel_rfl | exact ⟨_, _, _, _, _, _, _, _, _, _, _, _, _, _, _, by k_is, by rfl⟩) (by first | k_is | decide +kernel | kernel_rfl | exact ⟨_, _, _, _, _, _, _, _, _, _, _, _, _, _, _, by k_is, by rfl⟩) (by first | k_is | decide +kernel | kernel_rfl | exact ⟨_, _, _, _, _, _, _, _, _, _, _, _, _, _, _, by k_is, by rfl⟩) (by first | k_is | decide +kernel | kernel_rfl | exact ⟨_, _, _, _, _, _, _, _, _, _, _, _, _, _, _, by k_is, by rfl⟩) (by first | k_is | decide +kernel | kernel_rfl | exact ⟨_, _, _, _, _, _, _, _, _, _, _, _, _, _, _, by k_is, by rfl⟩) (by first | k_is | decide +kernel | kernel_rfl | exact ⟨_, _, _, _, _, _, _, _, _, _, _, _, _, _, _, by k_is, by rfl⟩) (by first | k_is | decide +kernel | kernel_rfl | exact ⟨_, _, _, _, _, _, _, _, _, _, _, _, _, _, _, by k_is, by rfl⟩) (by first | k_is | decide +kernel | kernel_rfl | exact ⟨_, _, _, _, _, _, _, _, _, _, _, _, _, _, _, by k_is, by rfl⟩) (by first | k_is | decide +kernel | kernel_rfl | exact ⟨_, _, _, _, _, _, _, _, _, _, _, _, _, _, _, by k_is, by rfl⟩) (by first | k_is | decide +kernel | kernel_rfl | exact ⟨_, _, _, _, _, _, _, _, _, _, _, _, _, _, _, by k_is, by rfl⟩) (by first | k_is | decide +kernel | kernel_rfl | exact ⟨_, _, _, _, _, _, _, _, _, _, _, _, _, _, _, by k_is, by rfl⟩) (by first | k_is | decide +kernel | kernel_rfl | exact ⟨_, _, _, _, _, _, _, _, _, _, _, _, _, _, _, by k_is, by rfl⟩) (by first | k_is | decide +kernel | kernel_rfl | exact ⟨_, _, _, _, _, _, _, _, _, _, _, _, _, _, _, by k_is, by rfl⟩) (by first | k_is | decide +kernel | kernel_rfl | exact ⟨_, _, _, _, _, _, _, _, _, _, _, _, _, _, _, by k_is, by rfl⟩) (by first | k_is | decide +kernel | kernel_rfl | exact ⟨_, _, _, _, _, _, _, _, _, _, _, _, _, _, _, by k_is, by rfl⟩) (by first | k_is | decide +kernel | kernel_rfl | exact ⟨_, _, _, _, _, _, _, _, _, _, _, _, _, _, _, by k_is, by rfl⟩) (by first | k_is | decide +kernel | kernel_rfl | exact ⟨_, _, _, _, _, _, _, _, _, _, _, _, _, _, _, by k_is, by rfl⟩) (by first | k_is | decide +kernel | kernel_rfl | exact ⟨_, _, _, _, _, _, _, _, _, _, _, _, _, _, _, by k_is, by rfl⟩) (by first | k_is | decide +kernel | kernel_rfl | exact ⟨_, _, _, _, _, _, _, _, _, _, _, _, _, _, _, by k_is, by rfl⟩) (by first | k_is | decide +kernel | kernel_rfl | exact ⟨_, _, _, _, _, _, _, _, _, _, _, _, _, _, _, by k_is, by rfl⟩) (by first | k_is | decide +kernel | kernel_rfl | exact ⟨_, _, _, _, _, _, _, _, _, _, _, _, _, _, _, by k_is, by rfl⟩) (by first | k_is | decide +kernel | kernel_rfl | exact ⟨_, _, _, _, _, _, _, _, _, _, _, _, _, _, _, by k_is, by rfl⟩) (by first | k_is | decide +kernel | kernel_rfl | exact ⟨_, _, _, _, _, _, _, _, _, _, _, _, _, _, _, by k_is, by rfl⟩) (by first | k_is | decide +kernel | kernel_rfl | exact ⟨_, _, _, _, _, _, _, _, _, _, _, _, _, _, _, by k_is, by rfl⟩) (by first | k_is | decide +kernel | kernel_rfl | exact ⟨_, _, _, _, _, _, _, _, _, _, _, _, _, _, _, by k_is, by rfl⟩) (by first | k_is | decide +kernel | kernel_rfl | exact ⟨_, _, _, _, _, _, _, _, _, _, _, _, _, _, _, by k_is, by rfl⟩) (by first | k_is | decide +kernel | kernel_rfl | exact ⟨_, _, _, _, _, _, _, _, _, _, _, _, _, _, _, by k_is, by rfl⟩) (by first | k_is | decide +kernel | kernel_rfl | exact ⟨_, _, _, _, _, _, _, _, _, _, _, _, _, _, _, by k_is, by rfl⟩) (by first | k_is | decide +kernel | kernel_rfl | exact ⟨_, _, _, _, _, _, _, _, _, _, _, _, _, _, _, by k_is, by rfl⟩) (by first | k_is | decide +kernel | kernel_rfl | exact ⟨_, _, _, _, _, _, _, _, _, _, _, _, _, _, _, by k_is, by rfl⟩) (by first | k_is | decide +kernel | kernel_rfl | exact ⟨_, _, _, _, _, _, _, _, _, _, _, _, _, _, _, by k_is, by rfl⟩) (by first | k_is | decide +kernel | kernel_rfl | exact ⟨_, _, _, _, _, _, _, _, _, _, _, _, _, _, _, by k_is, by rfl⟩) (by first | k_is | decide +kernel | kernel_rfl | exact ⟨_, _, _, _, _, _, _, _, _, _, _, _, _, _, _, by k_is, by rfl⟩) (by first | k_is | decide +kernel | kernel_rfl | exact ⟨_, _, _, _, _, _, _, _, _, _, _, _, _, _, _, by k_is, by rfl⟩) (by first | k_is | decide +kernel | kernel_rfl | exact ⟨_, _, _, _, _, _, _, _, _, _, _, _, _, _, _, by k_is, by rfl⟩) (by first | k_is | decide +kernel | kernel_rfl | exact ⟨_, _, _, _, _, _, _, _, _, _, _, _, _, _, _, by k_is, by rfl⟩) (by first | k_is | decide +kernel | kernel_rfl | exact ⟨_, _, _, _, _, _, _, _, _, _, _, _, _, _, _, by k_is, by rfl⟩) (by first | k_is | decide +kernel | kernel_rfl | exact ⟨_, _, _, _, _, _, _, _, _, _, _, _, _, _, _, by k_is, by rfl⟩) (by first | k_is | decide +kernel | kernel_rfl | exact ⟨_, _, _, _, _, _, _, _, _, _, _, _, _, _, _, by k_is, by rfl⟩) (by first | k_is | decide +kernel | kernel_rfl | exact ⟨_, _, _, _, _, _, _, _, _, _, _, _, _, _, _, by k_is, by rfl⟩) (by first | k_is | decide +kernel | kernel_rfl | exact ⟨_, _, _, _, _, _, _, _, _, _, _, _, _, _, _, by k_is, by rfl⟩) (by first | k_is | decide +kernel | kernel_rfl | exact ⟨_, _, _, _, _, _, _, _, _, _, _, _, _, _, _, by k_is, by rfl⟩) (by first | k_is | decide +kernel | kernel_rfl | exact ⟨_, _, _, _, _, _, _, _, _, _, _, _, _, _, _, by k_is, by rfl⟩) (by first | k_is | decide +kernel | kernel_rfl | exact ⟨_, _, _, _, _, _, _, _, _, _, _, _, _, _, _, by k_is, by rfl⟩) (by first | k_is | decide +kernel | kernel_rfl | exact ⟨_, _, _, _, _, _, _, _, _, _, _, _, _, _, _, by k_is, by rfl⟩) (by first | k_is | decide +kernel | kernel_rfl | exact ⟨_, _, _, _, _, _, _, _, _, _, _, _, _, _, _, by k_is, by rfl⟩) (by first | k_is | decide +kernel | kernel_rfl | exact ⟨_, _, _, _, _, _, _, _, _, _, _, _, _, _, _, by k_is, by rfl⟩) (by first | k_is | decide +kernel | kernel_rfl | exact ⟨_, _, _, _, _, _, _, _, _, _, _, _, _, _, _, by k_is, by rfl⟩) (by first | k_is | decide +kernel | kernel_rfl | exact ⟨_, _, _, _, _, _, _, _, _, _, _, _, _, _, _, by k_is, by rfl⟩) (by first | k_is | decide +kernel | kernel_rfl | exact ⟨_, _, _, _, _, _, _, _, _, _, _, _, _, _, _, by k_is, by rfl⟩) (by first | k_is | decide +kernel | kernel_rfl | exact ⟨_, _, _, _, _, _, _, _, _, _, _, _, _, _, _, by k_is, by rfl⟩) (by first | k_is | decide +kernel | kernel_rfl | exact ⟨_, _, _, _, _, _, _, _, _, _, _, _, _, _, _, by k_is, by rfl⟩) (by first | k_is | decide +kernel | kernel_rfl | exact ⟨_, _, _, _, _, _, _, _, _, _, _, _, _, _, _, by k_is, by rfl⟩) (by first | k_is | decide +kernel | kernel_rfl | exact ⟨_, _, _, _, _, _, _, _, _, _, _, _, _, _, _, by k_is, by rfl⟩) (by first | k_is | decide +kernel | kernel_rfl | exact ⟨_, _, _, _, _, _, _, _, _, _, _, _, _, _, _, by k_is, by rfl⟩) (by first | k_is | decide +kernel | kernel_rfl | exact ⟨_, _, _, _, _, _, _, _, _, _, _, _, _, _, _, by k_is, by rfl⟩) (by first | k_is | decide +kernel | kernel_rfl | exact ⟨_, _, _, _, _, _, _, _, _, _, _, _, _, _, _, by k_is, by rfl⟩) (by first | k_is | decide +kernel | kernel_rfl | exact ⟨_, _, _, _, _, _, _, _, _, _, _, _, _, _, _, by k_is, by rfl⟩) (by first | k_is | decide +kernel | kernel_rfl | exact ⟨_, _, _, _, _, _, _, _, _, _, _, _, _, _, _, by k_is, by rfl⟩) (by first | k_is | decide +kernel | kernel_rfl | exact ⟨_, _, _, _, _, _, _, _, _, _, _, _, _, _, _, by k_is, by rfl⟩) (by first | k_is | decide +kernel | kernel_rfl | exact ⟨_, _, _, _, _, _, _, _, _, _, _, _, _, _, _, by k_is, by rfl⟩) (by first | k_is | decide +kernel | kernel_rfl | exact ⟨_, _, _, _, _, _, _, _, _, _, _, _, _, _, _, by k_is, by rfl⟩) (by first | k_is | decide +kernel | kernel_rfl | exact ⟨_, _, _, _, _, _, _, _, _, _, _, _, _, _, _, by k_is, by rfl⟩) (by first | k_is | decide +kernel | kernel_rfl | exact ⟨_, _, _, _, _, _, _, _, _, _, _, _, _, _, _, by k_is, by rfl⟩) (by first | k_is | decide +kernel | kernel_rfl | exact ⟨_, _, _, _, _, _, _, _, _, _, _, _, _, _, _, by k_is, by rfl⟩) (by first | k_is | decide +kernel | kernel_rfl | exact ⟨_, _, _, _, _, _, _, _, _, _, _, _, _, _, _, by k_is, by rfl⟩) (by first | k_is | decide +kernel | kernel_rfl | exact ⟨_, _, _, _, _, _, _, _, _, _, _, _, _, _, _, by k_is, by rfl⟩) (by first | k_is | decide +kernel | kernel_rfl | exact ⟨_, _, _, _, _, _, _, _, _, _, _, _, _, _, _, by k_is, by rfl⟩) (by first | k_is | decide +kernel | kernel_rfl | exact ⟨_, _, _, _, _, _, _, _, _, _, _, _, _, _, _, by k_is, by rfl⟩) (by first | k_is | decide +kernel | kernel_rfl | exact ⟨_, _, _, _, _, _, _, _, _, _, _, _, _, _, _, by k_is, by rfl⟩) (by first | k_is | decide +kernel | kernel_rfl | exact ⟨_, _, _, _, _, _, _, _, _, _, _, _, _, _, _, by k_is, by rfl⟩) (by first | k_is | decide +kernel | kernel_rfl | exact ⟨_, _, _, _, _, _, _, _, _, _, _, _, _, _, _, by k_is, by rfl⟩) (by first | k_is | decide +kernel | kernel_rfl | exact ⟨_, _, _, _, _, _, _, _, _, _, _, _, _, _, _, by k_is, by rfl⟩) (by first | k_is | decide +kernel | kernel_rfl | exact ⟨_, _, _, _, _, _, _, _, _, _, _, _, _, _, _, by k_is, by rfl⟩) (by first | k_is | decide +kernel | kernel_rfl | exact ⟨_, _, _, _, _, _, _, _, _, _, _, _, _, _, _, by k_is, by rfl⟩) (by first | k_is | decide +kernel | kernel_rfl | exact ⟨_, _, _, _, _, _, _, _, _, _, _, _, _, _, _, by k_is, by rfl⟩) (by first | k_is | decide +kernel | kernel_rfl | exact ⟨_, _, _, _, _, _, _, _, _, _, _, _, _, _, _, by k_is, by rfl⟩) (by first | k_is | decide +kernel | kernel_rfl | exact ⟨_, _, _, _, _, _, _, _, _, _, _, _, _, _, _, by k_is, by rfl⟩) (by first | k_is | decide +kernel | kernel_rfl | exact ⟨_, _, _, _, _, _, _, _, _, _, _, _, _, _, _, by k_is, by rfl⟩) (by first | k_is | decide +kernel | kernel_rfl | exact ⟨_, _, _, _, _, _, _, _, _, _, _, _, _, _, _, by k_is, by rfl⟩) (by first | k_is | decide +kernel | kernel_rfl | exact ⟨_, _, _, _, _, _, _, _, _, _, _, _, _, _, _, by k_is, by rfl⟩) (by first | k_is | decide +kernel | kernel_rfl | exact ⟨_, _, _, _, _, _, _, _, _, _, _, _, _, _, _, by k_is, by rfl⟩) (by first | k_is | decide +kernel | kernel_rfl | exact ⟨_, _, _, _, _, _, _, _, _, _, _, _, _, _, _, by k_is, by rfl⟩) (by first | k_is | decide +kernel | kernel_rfl | exact ⟨_, _, _, _, _, _, _, _, _, _, _, _, _, _, _, by k_is, by rfl⟩) (by first | k_is | decide +kernel | kernel_rfl | exact ⟨_, _, _, _, _, _, _, _, _, _, _, _, _, _, _, by k_is, by rfl⟩) (by first | k_is | decide +kernel | kernel_rfl | exact ⟨_, _, _, _, _, _, _, _, _, _, _, _, _, _, _, by k_is, by rfl⟩) (by first | k_is | decide +kernel | kernel_rfl | exact ⟨_, _, _, _, _, _, _, _, _, _, _, _, _, _, _, by k_is, by rfl⟩) (by first | k_is | decide +kernel | kernel_rfl | exact ⟨_, _, _, _, _, _, _, _, _, _, _, _, _, _, _, by k_is, by rfl⟩) (by first | k_is | decide +kernel | kernel_rfl | exact ⟨_, _, _, _, _, _, _, _, _, _, _, _, _, _, _, by k_is, by rfl⟩) (by first | k_is | decide +kernel | kernel_rfl | exact ⟨_, _, _, _, _, _, _, _, _, _, _, _, _, _, _, by k_is, by rfl⟩) (by first | k_is | decide +kernel | kernel_rfl | exact ⟨_, _, _, _, _, _, _, _, _, _, _, _, _, _, _, by k_is, by rfl⟩) (by first | k_is | decide +kernel | kernel_rfl | exact ⟨_, _, _, _, _, _, _, _, _, _, _, _, _, _, _, by k_is, by rfl⟩) (by first | k_is | decide +kernel | kernel_rfl | exact ⟨_, _, _, _, _, _, _, _, _, _, _, _, _, _, _, by k_is, by rfl⟩) (by first | k_is | decide +kernel | kernel_rfl | exact ⟨_, _, _, _, _, _, _, _, _, _, _, _, _, _, _, by k_is, by rfl⟩) (by first | k_is | decide +kernel | kernel_rfl | exact ⟨_, _, _, _, _, _, _, _, _, _, _, _, _, _, _, by k_is, by rfl⟩) (by first | k_is | decide +kernel | kernel_rfl | exact ⟨_, _, _, _, _, _, _, _, _, _, _, _, _, _, _, by k_is, by rfl⟩) (by first | k_is | decide +kernel | kernel_rfl | exact ⟨_, _, _, _, _, _, _, _, _, _, _, _, _, _, _, by k_is, by rfl⟩) (by first | k_is | decide +kernel | kernel_rfl | exact ⟨_, _, _, _, _, _, _, _, _, _, _, _, _, _, _, by k_is, by rfl⟩) (by first | k_is | decide +kernel | kernel_rfl | exact ⟨_, _, _, _, _, _, _, _, _, _, _, _, _, _, _, by k_is, by rfl⟩) (by first | k_is | decide +kernel | kernel_rfl | exact ⟨_, _, _, _, _, _, _, _, _, _, _, _, _, _, _, by k_is, by rfl⟩) (by first | k_is | decide +kernel | kernel_rfl | exact ⟨_, _, _, _, _, _, _, _, _, _, _, _, _, _, _, by k_is, by rfl⟩) (by first | k_is | decide +kernel | kernel_rfl | exact ⟨_, _, _, _, _, _, _, _, _, _, _, _, _, _, _, by k_is, by rfl⟩) (by first | k_is | decide +kernel | kernel_rfl | exact ⟨_, _, _, _, _, _, _, _, _, _, _, _, _, _, _, by k_is, by rfl⟩) (by first | k_is | decide +kernel | kernel_rfl | exact ⟨_, _, _, _, _, _, _, _, _, _, _, _, _, _, _, by k_is, by rfl⟩) (by first | k_is | decide +kernel | kernel_rfl | exact ⟨_, _, _, _, _, _, _, _, _, _, _, _, _, _, _, by k_is, by rfl⟩) (by first | k_is | decide +kernel | kernel_rfl | exact ⟨_, _, _, _, _, _, _, _, _, _, _, _, _, _, _, by k_is, by rfl⟩) (by first | k_is | decide +kernel | kernel_rfl | exact ⟨_, _, _, _, _, _, _, _, _, _, _, _, _, _, _, by k_is, by rfl⟩) (by first | k_is | decide +kernel | kernel_rfl | exact ⟨_, _, _, _, _, _, _, _, _, _, _, _, _, _, _, by k_is, by rfl⟩) (by first | k_is | decide +kernel | kernel_rfl | exact ⟨_, _, _, _, _, _, _, _, _, _, _, _, _, _, _, by k_is, by rfl⟩) (by first | k_is | decide +kernel | kernel_rfl | exact ⟨_, _, _, _, _, _, _, _, _, _, _, _, _, _, _, by k_is, by rfl⟩) (by first | k_is | decide +kernel | kernel_rfl | exact ⟨_, _, _, _, _, _, _, _, _, _, _, _, _, _, _, by k_is, by rfl⟩) (by first | k_is | decide +kernel | kernel_rfl | exact ⟨_, _, _, _, _, _, _, _, _, _, _, _, _, _, _, by k_is, by rfl⟩) (by first | k_is | decide +kernel | kernel_rfl | exact ⟨_, _, _, _, _, _, _, _, _, _, _, _, _, _, _, by k_is, by rfl⟩) (by first | k_is | decide +kernel | kernel_rfl | exact ⟨_, _, _, _, _, _, _, _, _, _, _, _, _, _, _, by k_is, by rfl⟩) (by first | k_is | decide +kernel | kernel_rfl | exact ⟨_, _, _, _, _, _, _, _, _, _, _, _, _, _, _, by k_is, by rfl⟩) (by first | k_is | decide +kernel | kernel_rfl | exact ⟨_, _, _, _, _, _, _, _, _, _, _, _, _, _, _, by k_is, by rfl⟩) (by first | k_is | decide +kernel | kernel_rfl | exact ⟨_, _, _, _, _, _, _, _, _, _, _, _, _, _, _, by k_is, by rfl⟩) (by first | k_is | decide +kernel | kernel_rfl | exact ⟨_, _, _, _, _, _, _, _, _, _, _, _, _, _, _, by k_is, by rfl⟩) (by first | k_is | decide +kernel | kernel_rfl | exact ⟨_, _, _, _, _, _, _, _, _, _, _, _, _, _, _, by k_is, by rfl⟩) (by first | k_is | decide +kernel | kernel_rfl | exact ⟨_, _, _, _, _, _, _, _, _, _, _, _, _, _, _, by k_is, by rfl⟩) (by first | k_is | decide +kernel | kernel_rfl | exact ⟨_, _, _, _, _, _, _, _, _, _, _, _, _, _, _, by k_is, by rfl⟩) (by first | k_is | decide +kernel | kernel_rfl | exact ⟨_, _, _, _, _, _, _, _, _, _, _, _, _, _, _, by k_is, by rfl⟩) (by first | k_is | decide +kernel | kernel_rfl | exact ⟨_, _, _, _, _, _, _, _, _, _, _, _, _, _, _, by k_is, by rfl⟩) (by first | k_is | decide +kernel | kernel_rfl | exact ⟨_, _, _, _, _, _, _, _, _, _, _, _, _, _, _, by k_is, by rfl⟩) (by first | k_is | decide +kernel | kernel_rfl | exact ⟨_, _, _, _, _, _, _, _, _, _, _, _, _, _, _, by k_is, by rfl⟩) (by first | k_is | decide +kernel | kernel_rfl | exact ⟨_, _, _, _, _, _, _, _, _, _, _, _, _, _, _, by k_is, by rfl⟩) (by first | k_is | decide +kernel | kernel_rfl | exact ⟨_, _, _, _, _, _, _, _, _, _, _, _, _, _, _, by k_is, by rfl⟩) (by first | k_is | decide +kernel | kernel_rfl | exact ⟨_, _, _, _, _, _, _, _, _, _, _, _, _, _, _, by k_is, by rfl⟩) (by first | k_is | decide +kernel | kernel_rfl | exact ⟨_, _, _, _, _, _, _, _, _, _, _, _, _, _, _, by k_is, by rfl⟩) (by first | k_is | decide +kernel | kernel_rfl | exact ⟨_, _, _, _, _, _, _, _, _, _, _, _, _, _, _, by k_is, by rfl⟩) (by first | k_is | decide +kernel | kernel_rfl | exact ⟨_, _, _, _, _, _, _, _, _, _, _, _, _, _, _, by k_is, by rfl⟩)
    refine ⟨fd, [(_, 429)], sp, fun p hp => ?_, fun p hp => ?_, fun p hp => ?_, hb, fun H a ns hl hT hS => ?_, fun base k1 k2 TB => hF base k1 k2 (TB _ List.mem_cons_self)⟩
    · simp only [List.mem_cons, List.not_mem_nil, or_false] at hp
      rcases hp with rfl <;> exact PySem.W.km_tabs_of Y _ (by decide)
    · simp only [List.mem_cons, List.not_mem_nil, or_false] at hp
      rcases hp with rfl <;> rfl
    · simp only [List.mem_cons, List.not_mem_nil, or_false] at hp
      rcases hp with rfl <;> exact PySem.W.codeHd_of_K KX (by rfl)
    · refine hS0 H a ns (fun p hp => ?_) hS
      have hp : p ∈ ([(429, "_law_right.<locals>.<lambda>")] : List (Addr × Str)) := hp
      simp only [List.mem_cons, List.not_mem_nil, or_false] at hp
      rcases hp with rfl
      · exact LamX.TabS.nil (hT _ List.mem_cons_self)

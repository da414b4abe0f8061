import PyProof.Rows.All
import Wide.All
import OpenK.AllK
import Wide.FinOn
import HandS.ForMost
import HandS.ForExc
import HandS.ExcInit
import HandS.ExcField
import HandS.TryMany
import HandS.CallSlots
import HandS.Defaults
import HandS.Wide
import HandS.HeadHook4
import HandS.Lambda
import HandS.NestedK
import KE.DataMinKey
import HandS.SortKw
import HandS.TupAny
import HandS.IsInst
import HandS.Small
import HandS.WordsDict
import HandS.EndBits
import HandS.Head0
import HandS.Head1
import HandS.Head2
import HandS.HeadEnd
import PyProof.ListStr
import KE.KRevSl
import HandS.SortInts
import HandS.FStr
import HandS.ClsMeth
import HandS.HeadNt
import KE.KCallOwn
import PyProof.AssignAttr
import PyProof.ReprRoads
import HandS.Dict
import HandS.More
import HandS.Iter
import HandS.Finally
import HandS.DictComp
import PyProof.Rows.StrMeet
import KE.KEqNest
import PyProof.NeKinds
import HandS.Text
import HandS.SetKeys
import HandS.Style
import KE.GoesZip
import KE.GoesMore
import HandS.Star
import PyProof.P3In
import KE.KDictZip
import HandS.EndTab
import HandS.Flow
import HandS.ExcIs
import KE.KExcIs
import HandS.ExcValue
import HandS.Exc
import PySem.Challenge.RW_evenmarket_k48_errors_of_all_modules
import KE.IntTextLaws
import HandS.Conv
import HandS.SortRule
import KE.DataMinMax
import KE.GoesEnum
import PyProof.StrBlock2
import KE.GoesEnumKw
import PyProof.ReprLen
set_option Elab.async false
set_option linter.all false
set_option maxRecDepth 100001
set_option maxHeartbeats 0
namespace DL
open PySem L2

/-- data: what a value stands for, without addresses -/
inductive D where
  | non
  | bl (b : Bool)
  | int (i : Int)
  | str (x : Str)
  | ty (n : String)
  | fun_ (a : Addr)
  | tup (ds : List D)
  | lst (ds : List D)
  | rol (ds : List D)
  | dic (kvs : List (Key × D))
  | dit (kvs : List (List Key × D))
  | obj (c : Str) (fs : List (Str × D))
  | exc (a dd : Addr) (c : Str) (fs : List (Str × D))
  | tupx (ds : List D)
  | exv (c : Str) (fs : List (Str × D))
  | exb (c : Str)

/-- what may still be changed: a tree of objects that nobody else holds -/
inductive M where
  | sh (d : D)
  | lst (ms : List M)
  | dic (kvs : List (Key × M))
  | dit (kvs : List (List Key × M))
  | obj (c : Str) (fs : List (Str × M))
  | tup (ms : List M)
  | ex (n : Nat)

abbrev clsAt (K : PySem.W.Frag) (x : Str) : Addr := He.ga K x

mutual
inductive Rep (K : PySem.W.Frag) (S : Hp) : V → D → Prop
  | non : Rep K S .non .non
  | bl (b : Bool) : Rep K S (.bl b) (.bl b)
  | int (i : Int) : Rep K S (.int i) (.int i)
  | str (x : Str) : Rep K S (.str x) (.str x)
  | ty (n : String) : Rep K S (.ty n) (.ty n)
  | fun_ (a : Addr) : Rep K S (.ref a) (.fun_ a)
  | tup {a : Addr} {xs : List V} {ds : List D} : SqT K S a xs → RepL K S xs ds → Rep K S (.ref a) (.tup ds)
  | lst {a : Addr} {xs : List V} {ds : List D} : Rd S a (.lst xs) → RepL K S xs ds → Rep K S (.ref a) (.lst ds)
  | rol {a : Addr} {xs : List V} {ds : List D} : SqL K S a xs → RepL K S xs ds → Rep K S (.ref a) (.rol ds)
  | dic {a : Addr} {xs : List (Key × V)} {ds : List (Key × D)} : Rd S a (.dK xs) → RepK K S xs ds → Rep K S (.ref a) (.dic ds)
  | dit {a : Addr} {xs : List (List Key × V)} {ds : List (List Key × D)} : Rd S a (.dT xs) → RepT K S xs ds → Rep K S (.ref a) (.dit ds)
  | obj {a dx : Addr} {c : Str} {xs : List (Str × V)} {ds : List (Str × D)} : S a = some (.ins (clsAt K c) dx xs) → RepF K S xs ds → Rep K S (.ref a) (.obj c ds)
  | exc {a dd : Addr} {c : Str} {xs : List (Str × V)} {ds : List (Str × D)} : S dd = some (.xd xs) → RepF K S xs ds → Rep K S (.ref a) (.exc a dd c ds)
  | tupx {a : Addr} {o : Obj} {xs : List V} {ds : List D} : S a = some (.frz o (.tup xs)) → o.dict = none → RepL K S xs ds → Rep K S (.ref a) (.tupx ds)
  | exv {a d : Addr} {c : Str} {xs : List (Str × V)} {ds : List (Str × D)} : S a = some (exo a (clsAt K c) (some d)) → S d = some (exd d xs) → RepF K S xs ds → Rep K S (.ref a) (.exv c ds)
  | exb {a : Addr} {c : Str} : S a = some (exo a (clsAt K c) none) → Rep K S (.ref a) (.exb c)
inductive RepL (K : PySem.W.Frag) (S : Hp) : List V → List D → Prop
  | nil : RepL K S [] []
  | cons {v : V} {vs : List V} {d : D} {ds : List D} : Rep K S v d → RepL K S vs ds → RepL K S (v :: vs) (d :: ds)
inductive RepK (K : PySem.W.Frag) (S : Hp) : List (Key × V) → List (Key × D) → Prop
  | nil : RepK K S [] []
  | cons {k : Key} {v : V} {vs : List (Key × V)} {d : D} {ds : List (Key × D)} : Rep K S v d → RepK K S vs ds → RepK K S ((k, v) :: vs) ((k, d) :: ds)
inductive RepT (K : PySem.W.Frag) (S : Hp) : List (List Key × V) → List (List Key × D) → Prop
  | nil : RepT K S [] []
  | cons {k : List Key} {v : V} {vs : List (List Key × V)} {d : D} {ds : List (List Key × D)} : Rep K S v d → RepT K S vs ds → RepT K S ((k, v) :: vs) ((k, d) :: ds)
inductive RepF (K : PySem.W.Frag) (S : Hp) : List (Str × V) → List (Str × D) → Prop
  | nil : RepF K S [] []
  | cons {k : Str} {v : V} {vs : List (Str × V)} {d : D} {ds : List (Str × D)} : Rep K S v d → RepF K S vs ds → RepF K S ((k, v) :: vs) ((k, d) :: ds)
end
/-- more objects -/
def Ex (H G : Hp) : Prop := ∀ (b : Addr) (u : HO), H b = some u → G b = some u
theorem Ex.refl (H : Hp) : Ex H H := fun _ _ same => same
theorem Ex.trans {H I J : Hp} (first : Ex H I) (next : Ex I J) : Ex H J := fun b u h => next b u (first b u h)
theorem Ex.rd {H H' : Hp} {a : Addr} {u : HO} (e : Ex H H') (h : Rd H a u) : Rd H' a u := by
  rcases h with h | ⟨o, h⟩
  · exact .inl (e a _ h)
  · exact .inr ⟨o, e a _ h⟩
theorem Ex.sl {K : PySem.W.Frag} {H H' : Hp} {a : Addr} {xs : List V} (e : Ex H H') (h : SqL K H a xs) : SqL K H' a xs := h.imp e.rd id
theorem Ex.st {K : PySem.W.Frag} {H H' : Hp} {a : Addr} {xs : List V} (e : Ex H H') (h : SqT K H a xs) : SqT K H' a xs := h.imp e.rd id

section
variable {K : PySem.W.Frag} {S S' : Hp}
mutual
theorem Rep.mono (e : Ex S S') : ∀ {v : V} {d : D}, Rep K S v d → Rep K S' v d
  | _, _, .non => .non
  | _, _, .bl b => .bl b
  | _, _, .int i => .int i
  | _, _, .str x => .str x
  | _, _, .ty n => .ty n
  | _, _, .fun_ a => .fun_ a
  | _, _, .tup h r => .tup (e.st h) (RepL.mono e r)
  | _, _, .lst h r => .lst (e.rd h) (RepL.mono e r)
  | _, _, .rol h r => .rol (e.sl h) (RepL.mono e r)
  | _, _, .dic h r => .dic (e.rd h) (RepK.mono e r)
  | _, _, .dit h r => .dit (e.rd h) (RepT.mono e r)
  | _, _, .obj h r => .obj (e _ _ h) (RepF.mono e r)
  | _, _, .exc h r => .exc (e _ _ h) (RepF.mono e r)
  | _, _, .tupx h n r => .tupx (e _ _ h) n (RepL.mono e r)
  | _, _, .exv h g r => .exv (e _ _ h) (e _ _ g) (RepF.mono e r)
  | _, _, .exb h => .exb (e _ _ h)
theorem RepL.mono (e : Ex S S') : ∀ {v : List V} {d : List D}, RepL K S v d → RepL K S' v d
  | _, _, .nil => .nil
  | _, _, .cons h r => .cons (Rep.mono e h) (RepL.mono e r)
theorem RepK.mono (e : Ex S S') : ∀ {v : List (Key × V)} {d : List (Key × D)}, RepK K S v d → RepK K S' v d
  | _, _, .nil => .nil
  | _, _, .cons h r => .cons (Rep.mono e h) (RepK.mono e r)
theorem RepT.mono (e : Ex S S') : ∀ {v : List (List Key × V)} {d : List (List Key × D)}, RepT K S v d → RepT K S' v d
  | _, _, .nil => .nil
  | _, _, .cons h r => .cons (Rep.mono e h) (RepT.mono e r)
theorem RepF.mono (e : Ex S S') : ∀ {v : List (Str × V)} {d : List (Str × D)}, RepF K S v d → RepF K S' v d
  | _, _, .nil => .nil
  | _, _, .cons h r => .cons (Rep.mono e h) (RepF.mono e r)
end
end
end DL

namespace DL
open PySem L2

/-- a draw state of the law, k draws old at most -/
def exP (k : Nat) (m : M) : Prop := ∃ (bs cs : List Int) (n : Int), m = .lst [.lst (bs.map fun i => .sh (.int i)), .sh (.lst (cs.map .int)), .sh (.int n)] ∧
  0 ≤ n ∧ n ≤ k ∧ cs ≠ [] ∧ cs.length ≤ 64 ∧ bs.length ≤ 63 ∧ (∀ b ∈ bs, 0 ≤ b) ∧ (∀ b ∈ bs, Builtin.Int.intBits b ≤ 1048576) ∧ ∀ c ∈ cs, Builtin.Int.intBits c ≤ 1048576

/-! ### tables of code objects: they grow as lambdas are made -/
/-- all but a table -/
def Hard : HO → Prop
  | .tbl _ => False
  | _ => True
/-- what was o is o still; a table may have grown -/
def Keeps (o : HO) (v : Option HO) : Prop := v = some o ∨ ∃ p q, o = .tbl p ∧ v = some (.tbl q)
theorem Keeps.eq {o : HO} {v : Option HO} (k : Keeps o v) (h : Hard o) : v = some o := by
  rcases k with z | ⟨p, q, rfl, _⟩
  · exact z
  · exact h.elim
theorem Keeps.ex {o : HO} {v : Option HO} (k : Keeps o v) : v ≠ none := by
  rcases k with rfl | ⟨p, q, _, rfl⟩ <;> exact Option.some_ne_none _
theorem Keeps.next {o : HO} {v w : Option HO} (k : Keeps o v) (h : ∀ u, v = some u → Keeps u w) : Keeps o w := by
  rcases k with rfl | ⟨p, q, rfl, rfl⟩
  · exact h _ rfl
  · rcases h _ rfl with rfl | ⟨p', q', e, rfl⟩
    · exact .inr ⟨p, q, rfl, rfl⟩
    · exact .inr ⟨p, q', rfl, rfl⟩
/-- how S calls a table that may grow, its lambdas' name q -/
def TabM (q : Str) : HO := .frz { cls := .none, data := .fields #[.str q 0] } (.ext fun _ => False)
/-- each code object that the table tells is known, and bears the name q -/
def Good (S : Hp) (ps : Array Value) (q : Str) : Prop := TriplesOk ps.toList ∧ ∀ pos cv, codeAmong pos ps.toList = some cv → ∃ c, cv = .ref c ∧ S c = some (LamX.CodeO c q)
theorem Good.mono {S S' : Hp} {ps : Array Value} {q : Str} (g : Good S ps q) (e : Ex S S') : Good S' ps q := ⟨g.1, fun pos cv h => by
  obtain ⟨c, e1, e2⟩ := g.2 pos cv h
  exact ⟨c, e1, e _ _ e2⟩⟩
/-- the tables that K tells of but does not hold -/
def TbK (K : PySem.W.Frag) (S : Hp) : Prop := ∀ c P x, PySem.W.codeHdIn K c P = true → K.lookup P = none → PySem.W.codeIn K (.ref c) x = true → S P = some (TabM ((x ++ ".<locals>.") ++ "<lambda>"))
theorem TbK.mono {K : PySem.W.Frag} {S S' : Hp} (t : TbK K S) (e : Ex S S') : TbK K S' := fun c P x a b d => e _ _ (t c P x a b d)

mutual
inductive OwnR (K : PySem.W.Frag) (S H : Hp) : V → M → List Addr → Prop
  | sh {v : V} {d : D} : Rep K S v d → OwnR K S H v (.sh d) []
  | lst {a : Addr} {vs : List V} {ms : List M} {fp : List Addr} : S a = none → H a = some (.lst vs) → OwnL K S H vs ms fp → OwnR K S H (.ref a) (.lst ms) (a :: fp)
  | dic {a : Addr} {vs : List (Key × V)} {ms : List (Key × M)} {fp : List Addr} : S a = none → H a = some (.dK vs) → OwnK K S H vs ms fp → OwnR K S H (.ref a) (.dic ms) (a :: fp)
  | dit {a : Addr} {vs : List (List Key × V)} {ms : List (List Key × M)} {fp : List Addr} : S a = none → H a = some (.dT vs) → OwnT K S H vs ms fp → OwnR K S H (.ref a) (.dit ms) (a :: fp)
  | obj {a dx : Addr} {c : Str} {vs : List (Str × V)} {ms : List (Str × M)} {fp : List Addr} : S a = none → H a = some (.ins (clsAt K c) dx vs) → OwnF K S H vs ms fp → OwnR K S H (.ref a) (.obj c ms) (a :: fp)
  | tup {a : Addr} {vs : List V} {ms : List M} {fp : List Addr} : SqT K S a vs → OwnL K S H vs ms fp → OwnR K S H (.ref a) (.tup ms) fp
  | ex {v : V} {k : Nat} {m : M} {fp : List Addr} : exP k m → OwnR K S H v m fp → OwnR K S H v (.ex k) fp
inductive OwnL (K : PySem.W.Frag) (S H : Hp) : List V → List M → List Addr → Prop
  | nil : OwnL K S H [] [] []
  | cons {v : V} {vs : List V} {m : M} {ms : List M} {f g : List Addr} : OwnR K S H v m f → OwnL K S H vs ms g → OwnL K S H (v :: vs) (m :: ms) (f ++ g)
inductive OwnK (K : PySem.W.Frag) (S H : Hp) : List (Key × V) → List (Key × M) → List Addr → Prop
  | nil : OwnK K S H [] [] []
  | cons {k : Key} {v : V} {vs : List (Key × V)} {m : M} {ms : List (Key × M)} {f g : List Addr} : OwnR K S H v m f → OwnK K S H vs ms g → OwnK K S H ((k, v) :: vs) ((k, m) :: ms) (f ++ g)
inductive OwnT (K : PySem.W.Frag) (S H : Hp) : List (List Key × V) → List (List Key × M) → List Addr → Prop
  | nil : OwnT K S H [] [] []
  | cons {k : List Key} {v : V} {vs : List (List Key × V)} {m : M} {ms : List (List Key × M)} {f g : List Addr} : OwnR K S H v m f → OwnT K S H vs ms g → OwnT K S H ((k, v) :: vs) ((k, m) :: ms) (f ++ g)
inductive OwnF (K : PySem.W.Frag) (S H : Hp) : List (Str × V) → List (Str × M) → List Addr → Prop
  | nil : OwnF K S H [] [] []
  | cons {k : Str} {v : V} {vs : List (Str × V)} {m : M} {ms : List (Str × M)} {f g : List Addr} : OwnR K S H v m f → OwnF K S H vs ms g → OwnF K S H ((k, v) :: vs) ((k, m) :: ms) (f ++ g)
end
section
variable {K : PySem.W.Frag} {S S' H H' : Hp}
mutual
/-- what is owned stays if its own objects stay -/
theorem OwnR.keep (e : Ex S S') : ∀ {v : V} {m : M} {fp : List Addr}, OwnR K S H v m fp → (∀ x ∈ fp, S' x = none) → (∀ x ∈ fp, ∀ o, H x = some o → Keeps o (H' x)) → OwnR K S' H' v m fp
  | _, _, _, .sh r, _, _ => .sh (r.mono e)
  | _, _, _, .lst h1 h2 r, a, b => .lst (a _ List.mem_cons_self) ((b _ List.mem_cons_self _ h2).eq trivial) (OwnL.keep e r (fun x h => a x (List.mem_cons_of_mem _ h)) fun x h => b x (List.mem_cons_of_mem _ h))
  | _, _, _, .dic h1 h2 r, a, b => .dic (a _ List.mem_cons_self) ((b _ List.mem_cons_self _ h2).eq trivial) (OwnK.keep e r (fun x h => a x (List.mem_cons_of_mem _ h)) fun x h => b x (List.mem_cons_of_mem _ h))
  | _, _, _, .dit h1 h2 r, a, b => .dit (a _ List.mem_cons_self) ((b _ List.mem_cons_self _ h2).eq trivial) (OwnT.keep e r (fun x h => a x (List.mem_cons_of_mem _ h)) fun x h => b x (List.mem_cons_of_mem _ h))
  | _, _, _, .obj h1 h2 r, a, b => .obj (a _ List.mem_cons_self) ((b _ List.mem_cons_self _ h2).eq trivial) (OwnF.keep e r (fun x h => a x (List.mem_cons_of_mem _ h)) fun x h => b x (List.mem_cons_of_mem _ h))
  | _, _, _, .tup h r, a, b => .tup (e.st h) (OwnL.keep e r a b)
  | _, _, _, .ex p r, a, b => .ex p (OwnR.keep e r a b)
theorem OwnL.keep (e : Ex S S') : ∀ {v : List V} {m : List M} {fp : List Addr}, OwnL K S H v m fp → (∀ x ∈ fp, S' x = none) → (∀ x ∈ fp, ∀ o, H x = some o → Keeps o (H' x)) → OwnL K S' H' v m fp
  | _, _, _, .nil, _, _ => .nil
  | _, _, _, .cons h r, a, b => .cons (OwnR.keep e h (fun x q => a x (List.mem_append_left _ q)) fun x q => b x (List.mem_append_left _ q)) (OwnL.keep e r (fun x q => a x (List.mem_append_right _ q)) fun x q => b x (List.mem_append_right _ q))
theorem OwnK.keep (e : Ex S S') : ∀ {v : List (Key × V)} {m : List (Key × M)} {fp : List Addr}, OwnK K S H v m fp → (∀ x ∈ fp, S' x = none) → (∀ x ∈ fp, ∀ o, H x = some o → Keeps o (H' x)) → OwnK K S' H' v m fp
  | _, _, _, .nil, _, _ => .nil
  | _, _, _, .cons h r, a, b => .cons (OwnR.keep e h (fun x q => a x (List.mem_append_left _ q)) fun x q => b x (List.mem_append_left _ q)) (OwnK.keep e r (fun x q => a x (List.mem_append_right _ q)) fun x q => b x (List.mem_append_right _ q))
theorem OwnT.keep (e : Ex S S') : ∀ {v : List (List Key × V)} {m : List (List Key × M)} {fp : List Addr}, OwnT K S H v m fp → (∀ x ∈ fp, S' x = none) → (∀ x ∈ fp, ∀ o, H x = some o → Keeps o (H' x)) → OwnT K S' H' v m fp
  | _, _, _, .nil, _, _ => .nil
  | _, _, _, .cons h r, a, b => .cons (OwnR.keep e h (fun x q => a x (List.mem_append_left _ q)) fun x q => b x (List.mem_append_left _ q)) (OwnT.keep e r (fun x q => a x (List.mem_append_right _ q)) fun x q => b x (List.mem_append_right _ q))
theorem OwnF.keep (e : Ex S S') : ∀ {v : List (Str × V)} {m : List (Str × M)} {fp : List Addr}, OwnF K S H v m fp → (∀ x ∈ fp, S' x = none) → (∀ x ∈ fp, ∀ o, H x = some o → Keeps o (H' x)) → OwnF K S' H' v m fp
  | _, _, _, .nil, _, _ => .nil
  | _, _, _, .cons h r, a, b => .cons (OwnR.keep e h (fun x q => a x (List.mem_append_left _ q)) fun x q => b x (List.mem_append_left _ q)) (OwnF.keep e r (fun x q => a x (List.mem_append_right _ q)) fun x q => b x (List.mem_append_right _ q))
end
mutual
theorem OwnR.noext : ∀ {v : V} {m : M} {fp : List Addr}, OwnR K S H v m fp → ∀ x ∈ fp, ∀ φ, H x ≠ some (.ext φ)
  | _, _, _, .sh _, _, q, _ => nomatch q
  | _, _, _, .lst h1 h2 r, x, q, φ => by
    rcases List.mem_cons.mp q with rfl | q
    · rw [h2]; exact fun z => by cases z
    · exact OwnL.noext r x q φ
  | _, _, _, .dic h1 h2 r, x, q, φ => by
    rcases List.mem_cons.mp q with rfl | q
    · rw [h2]; exact fun z => by cases z
    · exact OwnK.noext r x q φ
  | _, _, _, .dit h1 h2 r, x, q, φ => by
    rcases List.mem_cons.mp q with rfl | q
    · rw [h2]; exact fun z => by cases z
    · exact OwnT.noext r x q φ
  | _, _, _, .obj h1 h2 r, x, q, φ => by
    rcases List.mem_cons.mp q with rfl | q
    · rw [h2]; exact fun z => by cases z
    · exact OwnF.noext r x q φ
  | _, _, _, .tup _ r, x, q, φ => OwnL.noext r x q φ
  | _, _, _, .ex _ r, x, q, φ => OwnR.noext r x q φ
theorem OwnL.noext : ∀ {v : List V} {m : List M} {fp : List Addr}, OwnL K S H v m fp → ∀ x ∈ fp, ∀ φ, H x ≠ some (.ext φ)
  | _, _, _, .nil, _, q, _ => nomatch q
  | _, _, _, .cons h r, x, q, φ => (List.mem_append.mp q).elim (fun z => OwnR.noext h x z φ) fun z => OwnL.noext r x z φ
theorem OwnK.noext : ∀ {v : List (Key × V)} {m : List (Key × M)} {fp : List Addr}, OwnK K S H v m fp → ∀ x ∈ fp, ∀ φ, H x ≠ some (.ext φ)
  | _, _, _, .nil, _, q, _ => nomatch q
  | _, _, _, .cons h r, x, q, φ => (List.mem_append.mp q).elim (fun z => OwnR.noext h x z φ) fun z => OwnK.noext r x z φ
theorem OwnT.noext : ∀ {v : List (List Key × V)} {m : List (List Key × M)} {fp : List Addr}, OwnT K S H v m fp → ∀ x ∈ fp, ∀ φ, H x ≠ some (.ext φ)
  | _, _, _, .nil, _, q, _ => nomatch q
  | _, _, _, .cons h r, x, q, φ => (List.mem_append.mp q).elim (fun z => OwnR.noext h x z φ) fun z => OwnT.noext r x z φ
theorem OwnF.noext : ∀ {v : List (Str × V)} {m : List (Str × M)} {fp : List Addr}, OwnF K S H v m fp → ∀ x ∈ fp, ∀ φ, H x ≠ some (.ext φ)
  | _, _, _, .nil, _, q, _ => nomatch q
  | _, _, _, .cons h r, x, q, φ => (List.mem_append.mp q).elim (fun z => OwnR.noext h x z φ) fun z => OwnF.noext r x z φ
end
mutual
theorem OwnR.at_ : ∀ {v : V} {m : M} {fp : List Addr}, OwnR K S H v m fp → ∀ x ∈ fp, S x = none ∧ H x ≠ none
  | _, _, _, .sh _, _, q => nomatch q
  | _, _, _, .lst h1 h2 r, x, q => by
    rcases List.mem_cons.mp q with rfl | q
    · exact ⟨h1, by rw [h2]; exact Option.some_ne_none _⟩
    · exact OwnL.at_ r x q
  | _, _, _, .dic h1 h2 r, x, q => by
    rcases List.mem_cons.mp q with rfl | q
    · exact ⟨h1, by rw [h2]; exact Option.some_ne_none _⟩
    · exact OwnK.at_ r x q
  | _, _, _, .dit h1 h2 r, x, q => by
    rcases List.mem_cons.mp q with rfl | q
    · exact ⟨h1, by rw [h2]; exact Option.some_ne_none _⟩
    · exact OwnT.at_ r x q
  | _, _, _, .obj h1 h2 r, x, q => by
    rcases List.mem_cons.mp q with rfl | q
    · exact ⟨h1, by rw [h2]; exact Option.some_ne_none _⟩
    · exact OwnF.at_ r x q
  | _, _, _, .tup _ r, x, q => OwnL.at_ r x q
  | _, _, _, .ex _ r, x, q => OwnR.at_ r x q
theorem OwnL.at_ : ∀ {v : List V} {m : List M} {fp : List Addr}, OwnL K S H v m fp → ∀ x ∈ fp, S x = none ∧ H x ≠ none
  | _, _, _, .nil, _, q => nomatch q
  | _, _, _, .cons h r, x, q => (List.mem_append.mp q).elim (OwnR.at_ h x) (OwnL.at_ r x)
theorem OwnK.at_ : ∀ {v : List (Key × V)} {m : List (Key × M)} {fp : List Addr}, OwnK K S H v m fp → ∀ x ∈ fp, S x = none ∧ H x ≠ none
  | _, _, _, .nil, _, q => nomatch q
  | _, _, _, .cons h r, x, q => (List.mem_append.mp q).elim (OwnR.at_ h x) (OwnK.at_ r x)
theorem OwnT.at_ : ∀ {v : List (List Key × V)} {m : List (List Key × M)} {fp : List Addr}, OwnT K S H v m fp → ∀ x ∈ fp, S x = none ∧ H x ≠ none
  | _, _, _, .nil, _, q => nomatch q
  | _, _, _, .cons h r, x, q => (List.mem_append.mp q).elim (OwnR.at_ h x) (OwnT.at_ r x)
theorem OwnF.at_ : ∀ {v : List (Str × V)} {m : List (Str × M)} {fp : List Addr}, OwnF K S H v m fp → ∀ x ∈ fp, S x = none ∧ H x ≠ none
  | _, _, _, .nil, _, q => nomatch q
  | _, _, _, .cons h r, x, q => (List.mem_append.mp q).elim (OwnR.at_ h x) (OwnF.at_ r x)
end
end

/-! ### worlds -/
/-- S: what stays as it is; H: all that is tracked; F: what is owned -/
structure Wd where
  S : Hp
  H : Hp
  F : List Addr
def Dct (o : HO) : Prop := (∃ kvs, o = .dK kvs) ∨ ∃ kvs, o = .dT kvs
/-- S stands in H; a dict perhaps locked -/
def SubAt (S : Hp) (v : Option HO) (o : HO) : Prop := v = some o ∨ (Dct o ∧ ∃ ob, v = some (.frz ob o)) ∨ ∃ q ps, o = TabM q ∧ v = some (.tbl ps) ∧ Good S ps q
theorem SubAt.mono {S S' : Hp} {v : Option HO} {o : HO} (h : SubAt S v o) (e : Ex S S') : SubAt S' v o := h.imp id fun z => z.imp id fun ⟨q, ps, a, b, c⟩ => ⟨q, ps, a, b, c.mono e⟩
/-- the usual cases -/
theorem SubAt.two {S : Hp} {v : Option HO} {o : HO} (h : SubAt S v o) (n : ∀ q, o ≠ TabM q) : v = some o ∨ (Dct o ∧ ∃ ob, v = some (.frz ob o)) := by
  rcases h with z | z | ⟨q, _, z, _⟩
  · exact .inl z
  · exact .inr z
  · exact absurd z (n q)
theorem SubAt.imp {S : Hp} {v v' : Option HO} {o : HO} (h : SubAt S v o) (f : ∀ u, v = some u → v' = some u) : SubAt S v' o := by
  rcases h with z | ⟨d, ob, z⟩ | ⟨q, ps, z1, z2, z3⟩
  · exact .inl (f _ z)
  · exact .inr (.inl ⟨d, ob, f _ z⟩)
  · exact .inr (.inr ⟨q, ps, z1, f _ z2, z3⟩)
theorem SubAt.ex {S : Hp} {v : Option HO} {o : HO} (h : SubAt S v o) : v ≠ none := by
  rcases h with z | ⟨_, _, z⟩ | ⟨_, _, _, z, _⟩ <;> (rw [z]; exact Option.some_ne_none _)
def Sub (S H : Hp) : Prop := ∀ a o, S a = some o → SubAt S (H a) o
/-- a later world -/
structure Le (w w' : Wd) : Prop where
  s : Ex w.S w'.S
  h : ∀ x o, w.H x = some o → x ∉ w.F → Keeps o (w'.H x)
  n : ∀ x, w.H x ≠ none → x ∉ w.F → w.S x = none → w'.S x = none
  f : ∀ x ∈ w'.F, x ∈ w.F ∨ w.H x = none
theorem Le.ex {w w' : Wd} (l : Le w w') {x : Addr} (h : w.H x ≠ none) (n : x ∉ w.F) : w'.H x ≠ none := by
  cases q : w.H x with
  | none => exact absurd q h
  | some o => exact (l.h x o q n).ex
theorem Le.refl (w : Wd) : Le w w := ⟨Ex.refl _, fun _ _ h _ => .inl h, fun _ _ _ h => h, fun _ h => .inl h⟩
theorem Le.trans {w w1 w2 : Wd} (a : Le w w1) (b : Le w1 w2) : Le w w2 := by
  have nf : ∀ x, w.H x ≠ none → x ∉ w.F → x ∉ w1.F := fun x h1 h2 h3 => (a.f x h3).elim h2 h1
  refine ⟨a.s.trans b.s, fun x o h1 h2 => (a.h x o h1 h2).next fun u hu => b.h x u hu (nf x (by rw [h1]; exact Option.some_ne_none _) h2), fun x h1 h2 h3 => ?_, fun x hx => ?_⟩
  · exact b.n x (a.ex h1 h2) (nf x h1 h2) (a.n x h1 h2 h3)
  · rcases b.f x hx with q | q
    · exact a.f x q
    · by_cases hf : x ∈ w.F
      · exact .inl hf
      · refine .inr ?_
        cases e : w.H x with
        | none => rfl
        | some o => exact absurd q (a.h x o e hf).ex
/-- a later world in which nothing that is owned has changed -/
structure LeP (w w' : Wd) : Prop where
  s : Ex w.S w'.S
  h : ∀ x o, w.H x = some o → Keeps o (w'.H x)
  n : ∀ x, w.H x ≠ none → w.S x = none → w'.S x = none
  f : w'.F = w.F
theorem LeP.refl (w : Wd) : LeP w w := ⟨Ex.refl _, fun _ _ h => .inl h, fun _ _ h => h, rfl⟩
theorem LeP.trans {w w1 w2 : Wd} (a : LeP w w1) (b : LeP w1 w2) : LeP w w2 := by
  refine ⟨a.s.trans b.s, fun x o h => (a.h x o h).next fun u hu => b.h x u hu, fun x h q => b.n x ?_ (a.n x h q), b.f.trans a.f⟩
  cases e : w.H x with
  | none => exact absurd e h
  | some o => exact (a.h x o e).ex
theorem Ex.keeps {H H' : Hp} (e : Ex H H') : ∀ x o, H x = some o → Keeps o (H' x) := fun x o h => .inl (e x o h)

section
variable {K : PySem.W.Frag} {S H : Hp} {a : Addr}
theorem TabM.frz {q : Str} {o : Obj} {u : HO} (e : HO.frz o u = TabM q) : u = .ext fun _ => False := by
  unfold TabM at e
  injection e
theorem Sub.rd {u : HO} (e : Sub S H) (h : Rd S a u) (hu : ∀ o v, u ≠ .frz o v) (hx : ∀ φ, u ≠ .ext φ := by intro φ z; cases z) : Rd H a u := by
  rcases h with h | ⟨o, h⟩
  · rcases (e _ _ h).two fun q => hu _ _ with q | ⟨_, ob, q⟩
    · exact .inl q
    · exact .inr ⟨ob, q⟩
  · rcases (e _ _ h).two fun q z => hx _ (TabM.frz z) with q | ⟨d, _⟩
    · exact .inr ⟨o, q⟩
    · rcases d with ⟨_, z⟩ | ⟨_, z⟩ <;> cases z
/-- what is neither a dict nor a table stands in H as it is -/
theorem Sub.is {o : HO} (e : Sub S H) (h : S a = some o) (hd : ¬ Dct o) (ht : ∀ q, o ≠ TabM q) : H a = some o := by
  rcases (e _ _ h).two ht with q | ⟨d, _⟩
  · exact q
  · exact absurd d hd
theorem Sub.sl {xs : List V} (e : Sub S H) (h : SqL K S a xs) : SqL K H a xs := h.imp (fun q => e.rd q (fun _ _ z => by cases z) (fun _ z => by cases z)) id
theorem Sub.st {xs : List V} (e : Sub S H) (h : SqT K S a xs) : SqT K H a xs := h.imp (fun q => e.rd q (fun _ _ z => by cases z) (fun _ z => by cases z)) id
theorem Sub.dk {xs : List (Key × V)} (e : Sub S H) (h : Rd S a (.dK xs)) : Rd H a (.dK xs) := e.rd h (fun _ _ z => by cases z) (fun _ z => by cases z)
theorem Sub.dt {xs : List (List Key × V)} (e : Sub S H) (h : Rd S a (.dT xs)) : Rd H a (.dT xs) := e.rd h (fun _ _ z => by cases z) (fun _ z => by cases z)
theorem Sub.ins {C dx : Addr} {fs : List (Str × V)} (e : Sub S H) (h : S a = some (.ins C dx fs)) : H a = some (.ins C dx fs) := e.is h (fun d => by rcases d with ⟨_, z⟩ | ⟨_, z⟩ <;> cases z) fun q z => by unfold TabM at z; cases z
theorem Sub.xd {fs : List (Str × V)} (e : Sub S H) (h : S a = some (.xd fs)) : H a = some (.xd fs) := e.is h (fun d => by rcases d with ⟨_, z⟩ | ⟨_, z⟩ <;> cases z) fun q z => by unfold TabM at z; cases z
theorem Sub.free (e : Sub S H) (h : H a = none) : S a = none := by
  cases q : S a with
  | none => rfl
  | some o =>
    exact absurd h (e _ _ q).ex
end

/-! ### environments -/
abbrev Env := List (Option M)
inductive EnvR (K : PySem.W.Frag) (S H : Hp) : St → Env → List (List Addr) → Prop
  | nil : TbK K S → EnvR K S H [] [] []
  | no {x : Option V} {σ : St} {ρ : Env} {fps : List (List Addr)} : EnvR K S H σ ρ fps → EnvR K S H (x :: σ) (none :: ρ) ([] :: fps)
  | ow {v : V} {m : M} {fp : List Addr} {σ : St} {ρ : Env} {fps : List (List Addr)} : OwnR K S H v m fp → EnvR K S H σ ρ fps → EnvR K S H (some v :: σ) (some m :: ρ) (fp :: fps)

/-- where a judgement stands: slots that keep their objects, what is wished of an exception, and by the data what may be raised -/
structure Gx where
  K : PySem.W.Frag
  px : List Nat
  pv : Nat → V
  Wx : WX
  er : Str → List (Str × D) → Env → Prop

/-- fx: owned beside the names -/
structure OkE (G : Gx) (w : Wd) (σ : St) (ρ : Env) (fx : List Addr) : Prop where
  sub : Sub w.S w.H
  env : ∃ fps, EnvR G.K w.S w.H σ ρ fps ∧ w.F = fps.flatten ++ fx
  nd : w.F.Nodup
  px : ∀ i ∈ G.px, σ[i]? = some (some (G.pv i))
abbrev Ok (G : Gx) (w : Wd) (σ : St) (ρ : Env) : Prop := OkE G w σ ρ []

theorem EnvR.keep {K : PySem.W.Frag} {S S' H H' : Hp} (e : Ex S S') : ∀ {σ : St} {ρ : Env} {fps : List (List Addr)}, EnvR K S H σ ρ fps → (∀ x ∈ fps.flatten, S' x = none) → (∀ x ∈ fps.flatten, ∀ o, H x = some o → Keeps o (H' x)) → EnvR K S' H' σ ρ fps
  | _, _, _, .nil t, _, _ => .nil (t.mono e)
  | _, _, _, .no r, a, b => .no (EnvR.keep e r (fun x q => a x (by simpa using q)) fun x q => b x (by simpa using q))
  | _, _, _, .ow h r, a, b => .ow (h.keep e (fun x q => a x (by rw [List.flatten_cons]; exact List.mem_append_left _ q)) fun x q => b x (by rw [List.flatten_cons]; exact List.mem_append_left _ q))
      (EnvR.keep e r (fun x q => a x (by rw [List.flatten_cons]; exact List.mem_append_right _ q)) fun x q => b x (by rw [List.flatten_cons]; exact List.mem_append_right _ q))
theorem EnvR.tb {K : PySem.W.Frag} {S H : Hp} : ∀ {σ : St} {ρ : Env} {fps : List (List Addr)}, EnvR K S H σ ρ fps → TbK K S
  | _, _, _, .nil t => t
  | _, _, _, .no r => EnvR.tb r
  | _, _, _, .ow _ r => EnvR.tb r
theorem EnvR.at_ {K : PySem.W.Frag} {S H : Hp} : ∀ {σ : St} {ρ : Env} {fps : List (List Addr)}, EnvR K S H σ ρ fps → ∀ x ∈ fps.flatten, S x = none ∧ H x ≠ none
  | _, _, _, .nil _, _, q => by simp at q
  | _, _, _, .no r, x, q => EnvR.at_ r x (by simpa using q)
  | _, _, _, .ow h r, x, q => by
    rw [List.flatten_cons] at q
    exact (List.mem_append.mp q).elim (h.at_ x) (EnvR.at_ r x)
theorem EnvR.len {K : PySem.W.Frag} {S H : Hp} : ∀ {σ : St} {ρ : Env} {fps : List (List Addr)}, EnvR K S H σ ρ fps → σ.length = ρ.length
  | _, _, _, .nil _ => rfl
  | _, _, _, .no r => by rw [List.length_cons, List.length_cons, EnvR.len r]
  | _, _, _, .ow _ r => by rw [List.length_cons, List.length_cons, EnvR.len r]
/-! ### growing -/
section
variable {G : Gx} {w w' : Wd} {σ : St} {ρ : Env} {fx : List Addr}
theorem OkE.at_ (o : Ok G w σ ρ) : ∀ x ∈ w.F, w.S x = none ∧ w.H x ≠ none := by
  obtain ⟨fps, h, e⟩ := o.env
  rw [e, List.append_nil]
  exact h.at_
theorem OkE.tb (o : OkE G w σ ρ fx) : TbK G.K w.S := by
  obtain ⟨fps, h, _⟩ := o.env
  exact h.tb
theorem Ex.new {H : Hp} {p : Addr} {ob : HO} (h : H p = none) : Ex H (upd H p ob) := fun a u e => by
  rw [upd_ne (ne_of_none e h)]
  exact e
end
end DL

namespace DC
open PySem PySem.Spec PyProof.Rows LamX L2
section
variable {cells : List (Str × Addr)} {names : List (Str × NameKind)} {x : Str} {c : Addr}
end
section
variable {X : Cx} {pins : List (Addr × Obj)} {σ : L2.St} {T : Hp} {st : Shared}
end
end DC

namespace DC
open PySem.Spec PySem PyProof.Rows L2 LamX
section
variable {pins : List (Addr × Obj)} {σ : L2.St} {H : Hp} {s : Shared} {X : Cx}
end
end DC

namespace DC
open PySem.Spec PySem PyProof.Rows L2 LamX
section
variable {pins : List (Addr × Obj)} {σ : L2.St} {H : Hp} {s : Shared} {X : Cx}
end
end DC

namespace DC
open PySem PySem.Spec PyProof.Rows LamX L2
/-! ### a lambda is made -/
/-- its table may have grown by one place -/
inductive Grown (T : Hp) (P : Addr) (q : Str) : Hp → Prop
  | same : Grown T P q T
  | more {ps new : Array Value} {cd : Addr} : T P = some (.tbl ps) → T cd = none → TriplesOk (ps ++ new).toList → (∀ pos cv, codeAmong pos (ps ++ new).toList = some cv → codeAmong pos ps.toList = some cv ∨ cv = .ref cd) → Grown T P q (upd (upd T P (.tbl (ps ++ new))) cd (CodeO cd q))
section
variable {X : Cx} {pins : List (Addr × Obj)} {σ : L2.St} {T : Hp} {st : Shared}
end
end DC
namespace DL
open PySem L2
end DL

namespace DC
open PySem PySem.Spec PyProof.Rows LamX L2
theorem Grown.keep {T T2 : Hp} {P : Addr} {q : Str} (g : Grown T P q T2) {b : Addr} {o : HO} (h : T b = some o) (n : ∀ ps, o ≠ .tbl ps) : T2 b = some o := by
  cases g with
  | same => exact h
  | @more ps new cd h1 h2 _ _ =>
    rw [upd_ne (ne_of_none h h2), upd_ne (fun z => by rw [z, h1] at h; cases h; exact n _ rfl)]
    exact h
section
variable {X : Cx}
end
end DC

namespace DL
open PySem L2

def ExcAt (K : PySem.W.Frag) (S : Hp) (c : Str) (fs : List (Str × D)) (d : Option Addr) : Prop := (fs = [] ∧ d = none) ∨ ∃ dd xs, d = some dd ∧ S dd = some (.xd xs) ∧ RepF K S xs fs
/-- what is wished of an exception is met from w on -/
def Esc (G : Gx) (w : Wd) : Prop := ∀ w' σ ρ' c fs d, G.er c fs ρ' → Le w w' → Ok G w' σ ρ' → ExcAt G.K w'.S c fs d → G.Wx (.ref (clsAt G.K c)) d σ w'.H
theorem Esc.later {G : Gx} {w w' : Wd} (e : Esc G w) (l : Le w w') : Esc G w' := fun w2 σ ρ' c fs d h l2 => e w2 σ ρ' c fs d h (l.trans l2)

/-- an expression gives data -/
def W (G : Gx) (te : TE) (ρ : Env) (P : D → Env → Prop) : Prop := ∀ w σ (Q : VK), Ok G w σ ρ → Esc G w → (∀ v w' d ρ', P d ρ' → Le w w' → Ok G w' σ ρ' → Rep G.K w'.S v d → Q v w'.H) → te σ w.H Q
def WT (G : Gx) (tt : TT) (ρ : Env) (P : Bool → Env → Prop) : Prop := ∀ w σ (Q : Bool → Hp → Prop), Ok G w σ ρ → Esc G w → (∀ b w' ρ', P b ρ' → Le w w' → Ok G w' σ ρ' → Q b w'.H) → tt σ w.H Q
/-- what follows, by the data -/
structure Post where
  nx : Env → Prop
  rt : M → Env → Prop
  bk : Env → Prop := fun _ => False
  ct : Env → Prop := fun _ => False
structure Meets (G : Gx) (w : Wd) (D : Ends) (P : Post) : Prop where
  nx : ∀ w' σ' ρ', P.nx ρ' → Le w w' → Ok G w' σ' ρ' → D.nx σ' w'.H
  rt : ∀ v w' σ' m ρ' fp, P.rt m ρ' → Le w w' → OkE G w' σ' ρ' fp → OwnR G.K w'.S w'.H v m fp → D.rt v w'.H
  bk : ∀ w' σ' ρ', P.bk ρ' → Le w w' → Ok G w' σ' ρ' → D.bk σ' w'.H
  ct : ∀ w' σ' ρ', P.ct ρ' → Le w w' → Ok G w' σ' ρ' → D.ct σ' w'.H
theorem Meets.later {G : Gx} {w w' : Wd} {D : Ends} {P : Post} (m : Meets G w D P) (l : Le w w') : Meets G w' D P :=
  ⟨fun w2 σ ρ h l2 => m.nx w2 σ ρ h (l.trans l2), fun v w2 σ a ρ fp h l2 => m.rt v w2 σ a ρ fp h (l.trans l2), fun w2 σ ρ h l2 => m.bk w2 σ ρ h (l.trans l2), fun w2 σ ρ h l2 => m.ct w2 σ ρ h (l.trans l2)⟩

section
variable {G : Gx} {te ta tb tc : TE} {t u c : TT} {ρ : Env} {P : D → Env → Prop} {i : Nat} {d x y z : D}

theorem W.imp {P' : D → Env → Prop} (h : W G te ρ P) (f : ∀ d ρ', P d ρ' → P' d ρ') : W G te ρ P' := fun w σ Q o e q => h w σ Q o e fun v w' d ρ' p => q v w' d ρ' (f d ρ' p)

/-! ### operations on values -/
/-- r on values that stand for x and y gives what stands for a z of k -/
def RD (K : PySem.W.Frag) (r : R2) (x y : D) (k : D → Prop) : Prop := ∀ w v u (Q : VK), Sub w.S w.H → Rep K w.S v x → Rep K w.S u y →
  (∀ z w' vz, k z → LeP w w' → Sub w'.S w'.H → Rep K w'.S vz z → Q vz w'.H) → r v u w.H Q
/-! ### tests -/
theorem Rep.bl_inv {K : PySem.W.Frag} {S : Hp} {v : V} {b : Bool} (r : Rep K S v (.bl b)) : v = .bl b := by cases r; rfl
theorem Rep.int_inv {K : PySem.W.Frag} {S : Hp} {v : V} {b : Int} (r : Rep K S v (.int b)) : v = .int b := by cases r; rfl
theorem Rep.str_inv {K : PySem.W.Frag} {S : Hp} {v : V} {b : Str} (r : Rep K S v (.str b)) : v = .str b := by cases r; rfl
theorem Rep.non_inv {K : PySem.W.Frag} {S : Hp} {v : V} (r : Rep K S v .non) : v = .non := by cases r; rfl
variable {PT : Bool → Env → Prop}
theorem WT.imp {PT' : Bool → Env → Prop} (h : WT G t ρ PT) (f : ∀ b ρ', PT b ρ' → PT' b ρ') : WT G t ρ PT' := fun w σ Q o e q => h w σ Q o e fun b w' ρ' p => q b w' ρ' (f b ρ' p)
/-! ### arguments, displays -/
variable {PA : List D → Env → Prop} {tr t1 : TA}
theorem RepL.len {K : PySem.W.Frag} {S : Hp} : ∀ {vs : List V} {ds : List D}, RepL K S vs ds → vs.length = ds.length
  | _, _, .nil => rfl
  | _, _, .cons _ r => by rw [List.length_cons, List.length_cons, RepL.len r]
theorem sz_of {n : Nat} (few : n ≤ 100000) : n ≤ sizeLine := Nat.le_trans few (by decide)
variable {PO : M → Env → Prop}
end
end DL

namespace DL
open PySem L2

section
variable {G : Gx} {ρ ρ' : Env} {w : Wd} {σ σ' : St}
theorem OkE.len (o : Ok G w σ ρ) : σ.length = ρ.length := by
  obtain ⟨fps, e, _⟩ := o.env
  exact e.len
end

/-! ### statements -/
section
variable {G : Gx} {te ta tb tc : TE} {t u : TS} {c : TT} {ρ ρ' : Env} {P : Post} {i j : Nat}
variable {d : D} {sl : List Nat} {PE_ : Env → Prop}
/-! ### what is walked -/
/-- J walks things that stand for ds, from w0 on -/
def Items (K : PySem.W.Frag) (J : It) (w0 : Wd) (ds : List D) : Prop := ∀ w, Le w0 w → Sub w.S w.H →
  (∀ i d, ds[i]? = some d → J.go i w.H ∧ ∀ x H', J.yld i w.H x H' → ∃ w', w'.H = H' ∧ LeP w w' ∧ Sub w'.S w'.H ∧ Rep K w'.S x d) ∧ J.stop ds.length w.H
theorem Items.later {K : PySem.W.Frag} {J : It} {w0 w1 : Wd} {ds : List D} (h : Items K J w0 ds) (l : Le w0 w1) : Items K J w1 ds := fun w l2 s => h w (l.trans l2) s
variable {PI_ : List D → Env → Prop}
end
end DL

namespace DL
open PySem L2

/-! ### what is owned is let be -/
mutual
inductive Frz : M → D → Prop
  | sh (d : D) : Frz (.sh d) d
  | lst {ms : List M} {ds : List D} : FrzL ms ds → Frz (.lst ms) (.lst ds)
  | dic {ms : List (Key × M)} {ds : List (Key × D)} : FrzK ms ds → Frz (.dic ms) (.dic ds)
  | dit {ms : List (List Key × M)} {ds : List (List Key × D)} : FrzT ms ds → Frz (.dit ms) (.dit ds)
  | obj {c : Str} {ms : List (Str × M)} {ds : List (Str × D)} : FrzF ms ds → Frz (.obj c ms) (.obj c ds)
  | tup {ms : List M} {ds : List D} : FrzL ms ds → Frz (.tup ms) (.tup ds)
inductive FrzL : List M → List D → Prop
  | nil : FrzL [] []
  | cons {m : M} {d : D} {ms : List M} {ds : List D} : Frz m d → FrzL ms ds → FrzL (m :: ms) (d :: ds)
inductive FrzK : List (Key × M) → List (Key × D) → Prop
  | nil : FrzK [] []
  | cons {k : Key} {m : M} {d : D} {ms : List (Key × M)} {ds : List (Key × D)} : Frz m d → FrzK ms ds → FrzK ((k, m) :: ms) ((k, d) :: ds)
inductive FrzT : List (List Key × M) → List (List Key × D) → Prop
  | nil : FrzT [] []
  | cons {k : List Key} {m : M} {d : D} {ms : List (List Key × M)} {ds : List (List Key × D)} : Frz m d → FrzT ms ds → FrzT ((k, m) :: ms) ((k, d) :: ds)
inductive FrzF : List (Str × M) → List (Str × D) → Prop
  | nil : FrzF [] []
  | cons {k : Str} {m : M} {d : D} {ms : List (Str × M)} {ds : List (Str × D)} : Frz m d → FrzF ms ds → FrzF ((k, m) :: ms) ((k, d) :: ds)
end
section
variable {K : PySem.W.Frag} {S S' H : Hp}
mutual
theorem OwnR.frz (e : Ex S S') : ∀ {v : V} {m : M} {fp : List Addr} {d : D}, OwnR K S H v m fp → (∀ x ∈ fp, S' x = H x) → Frz m d → Rep K S' v d
  | _, _, _, _, .sh r, _, .sh _ => r.mono e
  | _, _, _, _, .lst h1 h2 r, a, .lst f => .lst (.inl ((a _ List.mem_cons_self).trans h2)) (OwnL.frz e r (fun x h => a x (List.mem_cons_of_mem _ h)) f)
  | _, _, _, _, .dic h1 h2 r, a, .dic f => .dic (.inl ((a _ List.mem_cons_self).trans h2)) (OwnK.frz e r (fun x h => a x (List.mem_cons_of_mem _ h)) f)
  | _, _, _, _, .dit h1 h2 r, a, .dit f => .dit (.inl ((a _ List.mem_cons_self).trans h2)) (OwnT.frz e r (fun x h => a x (List.mem_cons_of_mem _ h)) f)
  | _, _, _, _, .obj h1 h2 r, a, .obj f => .obj ((a _ List.mem_cons_self).trans h2) (OwnF.frz e r (fun x h => a x (List.mem_cons_of_mem _ h)) f)
  | _, _, _, _, .tup h r, a, .tup f => .tup (e.st h) (OwnL.frz e r a f)
theorem OwnL.frz (e : Ex S S') : ∀ {v : List V} {m : List M} {fp : List Addr} {d : List D}, OwnL K S H v m fp → (∀ x ∈ fp, S' x = H x) → FrzL m d → RepL K S' v d
  | _, _, _, _, .nil, _, .nil => .nil
  | _, _, _, _, .cons h r, a, .cons f g => .cons (OwnR.frz e h (fun x q => a x (List.mem_append_left _ q)) f) (OwnL.frz e r (fun x q => a x (List.mem_append_right _ q)) g)
theorem OwnK.frz (e : Ex S S') : ∀ {v : List (Key × V)} {m : List (Key × M)} {fp : List Addr} {d : List (Key × D)}, OwnK K S H v m fp → (∀ x ∈ fp, S' x = H x) → FrzK m d → RepK K S' v d
  | _, _, _, _, .nil, _, .nil => .nil
  | _, _, _, _, .cons h r, a, .cons f g => .cons (OwnR.frz e h (fun x q => a x (List.mem_append_left _ q)) f) (OwnK.frz e r (fun x q => a x (List.mem_append_right _ q)) g)
theorem OwnT.frz (e : Ex S S') : ∀ {v : List (List Key × V)} {m : List (List Key × M)} {fp : List Addr} {d : List (List Key × D)}, OwnT K S H v m fp → (∀ x ∈ fp, S' x = H x) → FrzT m d → RepT K S' v d
  | _, _, _, _, .nil, _, .nil => .nil
  | _, _, _, _, .cons h r, a, .cons f g => .cons (OwnR.frz e h (fun x q => a x (List.mem_append_left _ q)) f) (OwnT.frz e r (fun x q => a x (List.mem_append_right _ q)) g)
theorem OwnF.frz (e : Ex S S') : ∀ {v : List (Str × V)} {m : List (Str × M)} {fp : List Addr} {d : List (Str × D)}, OwnF K S H v m fp → (∀ x ∈ fp, S' x = H x) → FrzF m d → RepF K S' v d
  | _, _, _, _, .nil, _, .nil => .nil
  | _, _, _, _, .cons h r, a, .cons f g => .cons (OwnR.frz e h (fun x q => a x (List.mem_append_left _ q)) f) (OwnF.frz e r (fun x q => a x (List.mem_append_right _ q)) g)
end
end
section
variable {G : Gx} {te : TE} {ρ : Env} {P : D → Env → Prop} {w : Wd} {σ : St}
end

/-! ### a comprehension's own names -/
def keepSh : Option M → Option M
  | some (.sh d) => some (.sh d)
  | _ => none
section
variable {G : Gx} {ρ ρ0 ρ5 : Env} {w w0 : Wd} {σ σ2 : St} {vs : List Nat} {fx : List Addr}
end
theorem RepL.app {K : PySem.W.Frag} {S : Hp} : ∀ {vs ws : List V} {ds es : List D}, RepL K S vs ds → RepL K S ws es → RepL K S (vs ++ ws) (ds ++ es)
  | _, _, _, _, .nil, r => r
  | _, _, _, _, .cons h r, q => .cons h (RepL.app r q)
section
variable {G : Gx} {te : TE} {tt : TT} {wi : TI} {g : TG} {ρ : Env} {vs sl : List Nat} {PO : M → Env → Prop}
end
end DL

namespace DL
open PySem L2

/-! ### what a value is, as data of the library -/
mutual
def D.py : D → Option PyData
  | .non => some .none
  | .bl b => some (.bool b)
  | .int i => some (.int i)
  | .str x => some (.str x)
  | .tup ds => (D.pys ds).map .tuple
  | .lst ds => (D.pys ds).map .list
  | .rol ds => (D.pys ds).map .list
  | _ => none
def D.pys : List D → Option (List PyData)
  | [] => some []
  | d :: ds => match D.py d with
    | some p => (D.pys ds).map (p :: ·)
    | none => none
end
mutual
theorem Rep.dp {K : PySem.W.Frag} {S H : Hp} (s : Sub S H) : ∀ {d : D} {v : V} {p : PyData}, Rep K S v d → d.py = some p → Dp K H v p
  | .non, _, _, r, e => by
    cases r
    cases (Option.some.inj e)
    exact .non
  | .bl b, _, _, r, e => by
    cases r
    cases (Option.some.inj e)
    exact .bl b
  | .int i, _, _, r, e => by
    cases r
    cases (Option.some.inj e)
    exact .int i
  | .str x, _, _, r, e => by
    cases r
    cases (Option.some.inj e)
    exact .str x
  | .tup ds, _, _, r, e => by
    cases r with
    | tup h1 r1 =>
      obtain ⟨ps, e1, e2⟩ := Option.map_eq_some_iff.mp e
      subst e2
      exact .tup (s.st h1) (RepL.dp s r1 e1)
  | .lst ds, _, _, r, e => by
    cases r with
    | lst h1 r1 =>
      obtain ⟨ps, e1, e2⟩ := Option.map_eq_some_iff.mp e
      subst e2
      exact .lst (s.sl (.inl h1)) (RepL.dp s r1 e1)
  | .rol ds, _, _, r, e => by
    cases r with
    | rol h1 r1 =>
      obtain ⟨ps, e1, e2⟩ := Option.map_eq_some_iff.mp e
      subst e2
      exact .lst (s.sl h1) (RepL.dp s r1 e1)
  | .ty _, _, _, _, e => by cases e
  | .fun_ _, _, _, _, e => by cases e
  | .dic _, _, _, _, e => by cases e
  | .dit _, _, _, _, e => by cases e
  | .obj _ _, _, _, _, e => by cases e
  | .exc _ _ _ _, _, _, _, e => by cases e
theorem RepL.dp {K : PySem.W.Frag} {S H : Hp} (s : Sub S H) : ∀ {ds : List D} {vs : List V} {ps : List PyData}, RepL K S vs ds → D.pys ds = some ps → DpAll K H vs ps
  | [], _, _, r, e => by
    cases r
    cases (Option.some.inj e)
    exact .nil
  | d :: ds, _, _, r, e => by
    cases r with
    | cons r1 r2 =>
      unfold D.pys at e
      cases q : D.py d with
      | none =>
        rw [q] at e
        cases e
      | some p =>
        rw [q] at e
        obtain ⟨ps, e1, e2⟩ := Option.map_eq_some_iff.mp e
        subst e2
        exact .cons (Rep.dp s r1 q) (RepL.dp s r2 e1)
end
/-! ### operators: all kinds of values at once -/
section
variable {X : Cx}
end

/-! ### the same at the data -/
section
variable {K : PySem.W.Frag} {k : D → Prop} {i j : Int} {a b : Str} {xs ys : List D} {x y : D}
theorem RD.l {r r' : R2} (h : RD K r x y k) : RD K (fun x y H Q => r x y H Q ∨ r' x y H Q) x y k := fun w v u Q s rx ry q => .inl (h w v u Q s rx ry q)
theorem RD.r {r r' : R2} (h : RD K r' x y k) : RD K (fun x y H Q => r x y H Q ∨ r' x y H Q) x y k := fun w v u Q s rx ry q => .inr (h w v u Q s rx ry q)
theorem Rep.tup_inv {S : Hp} {v : V} (r : Rep K S v (.tup xs)) : ∃ p vs, v = .ref p ∧ SqT K S p vs ∧ RepL K S vs xs := by
  cases r with
  | tup h r => exact ⟨_, _, rfl, h, r⟩
/-- a list as data, be it of the script -/
inductive IsL : D → List D → Prop
  | lst (ds : List D) : IsL (.lst ds) ds
  | rol (ds : List D) : IsL (.rol ds) ds
end
end DL

namespace DL
open PySem L2

/-! ### calls of builtins, fields, slices -/
section
variable {G : Gx} {ρ : Env} {P : D → Env → Prop} {ta te : TE} {t : TA} {tl th : TO}
variable {PP : Option Int → Env → Prop}
end
section
variable {X : Cx}
end
section
variable {K : PySem.W.Frag} {k : D → Prop} {xs : List D} {x : D} {lo hi : Option Int} {a : Str}
end

/-! ### builtins at the data -/
section
variable {K : PySem.W.Frag} {k : D → Prop} {i j : Int} {a b : Str} {xs ys : List D} {x y : D}
theorem RepL.one {S : Hp} {vs : List V} (r : RepL K S vs [x]) : ∃ v, vs = [v] ∧ Rep K S v x := by
  cases r with
  | cons r1 r2 =>
    cases r2
    exact ⟨_, rfl, r1⟩
theorem RepL.two {S : Hp} {vs : List V} (r : RepL K S vs [x, y]) : ∃ v u, vs = [v, u] ∧ Rep K S v x ∧ Rep K S u y := by
  cases r with
  | cons r1 r2 =>
    obtain ⟨u, rfl, r3⟩ := r2.one
    exact ⟨_, u, rfl, r1, r3⟩
/-- built-in types -/
inductive TyB : D → String → Prop
  | non : TyB .non "NoneType"
  | bl (b : Bool) : TyB (.bl b) "bool"
  | int (i : Int) : TyB (.int i) "int"
  | str (x : Str) : TyB (.str x) "str"
  | tup (ds : List D) : TyB (.tup ds) "tuple"
  | lst (ds : List D) : TyB (.lst ds) "list"
  | dic (ds : List (Key × D)) : TyB (.dic ds) "dict"
theorem TyB.ty {S H : Hp} {v : V} {n : String} (s : Sub S H) (t : TyB x n) (r : Rep K S v x) : TyX K H v (.type n) := by
  cases t with
  | non => obtain rfl := r.non_inv; exact .base .non
  | bl b => obtain rfl := r.bl_inv; exact .base (.bl b)
  | int i => obtain rfl := r.int_inv; exact .base (.int i)
  | str x => obtain rfl := r.str_inv; exact .base (.str x)
  | tup ds =>
    obtain ⟨p, vs, rfl, h1, _⟩ := r.tup_inv
    rcases s.st h1 with h | ⟨o, its, n, hk, hc, _⟩
    · rcases h with h | ⟨o, h⟩
      · exact .base (.tup h)
      · exact .fTuple h
    · exact .kTuple hk hc
  | lst ds =>
    cases r with
    | lst h r =>
      rcases s.rd h (fun _ _ z => by cases z) with h | ⟨o, h⟩
      · exact .base (.lst h)
      · exact .base (.frz h)
  | dic ds =>
    cases r with
    | dic h r =>
      rcases s.dk h with h | ⟨o, h⟩
      · exact .base (.dK h)
      · exact .fDict h
end
end DL

namespace DC
open PySem L2 PySem.Spec PyProof.Rows
abbrev St := L2.St

/-! ### defs while nothing is being shown -/
/-- as the kit's promise of a def, where no repr is under way -/
structure FnG (prg : Program) (wd : World) (K : PySem.W.Frag) (mg : Str → Option Value) (bs : Heap) (CX : CXT) (lv : Nat) (f : Addr) (fd : FuncData) (names : List Str) (sp : Sp) : Prop where
  ln : ∀ xs H Q E, sp xs H Q E → xs.length = names.length
  go : ∀ (A : Around) (fr : List Env) (s : Shared) (H : Hp) (given : Args) (us : List Value) (xs : List V) (Q : VK) (E : XK), A.guards = some [] → Room lv A → Env0 prg wd K mg bs A fr s H → BindsTo s fd given (names.zip us) → Vals xs us → sp xs H Q E →
    codeAny (model prg wd) A (.call (.ref f) given) (CR CX fr prg wd H s Q E) s
theorem FnG.up {prg : Program} {wd : World} {K : PySem.W.Frag} {mg : Str → Option Value} {bs : Heap} {CX : CXT} {lv lw : Nat} {f : Addr} {fd : FuncData} {names : List Str} {sp : Sp} (F : FnG prg wd K mg bs CX lv f fd names sp) (h : lv ≤ lw) : FnG prg wd K mg bs CX lw f fd names sp :=
  ⟨F.ln, fun A fr s H given us xs Q E hg hr => F.go A fr s H given us xs Q E hg (hr.mono h)⟩
section
variable {X : Cx} {CX : CXT} {lv : Nat} {f : Addr} {fd : FuncData} {names : List Str} {sp : Sp} {dvs : List V} {dus : List Value} {E : St → XK}
variable {x m : Str} {p pos apos : Pos} {e o : Expr} {es : List Expr} {ta : TE} {t : TA}
variable {C : Addr}
end
section
variable {prg : Program} {wd : World} {K : PySem.W.Frag} {mg : Str → Option Value} {bs : Heap}
end
end DC

namespace DL
open PySem L2

/-! ### contracts -/
inductive Out where
  | ret (m : M)
  | err (c : Str) (fs : List (Str × D))
/-- what a def wishes of its arguments, so that k holds of its end and the arguments then -/
structure Con where
  c : List M → (Out → List M → Prop) → Prop
  mono : ∀ ms k k', (∀ o m, k o m → k' o m) → c ms k → c ms k'
theorem OwnL.len {K : PySem.W.Frag} {S H : Hp} : ∀ {vs : List V} {ms : List M} {fp : List Addr}, OwnL K S H vs ms fp → vs.length = ms.length
  | _, _, _, .nil => rfl
  | _, _, _, .cons _ r => by rw [List.length_cons, List.length_cons, OwnL.len r]
theorem RepF.none {K : PySem.W.Frag} {S : Hp} {f : Str} : ∀ {vs : List (Str × V)} {ds : List (Str × D)}, RepF K S vs ds → ds.lookup f = none → vs.lookup f = none
  | _, _, .nil, _ => rfl
  | (g, v) :: vs, (_, e) :: ds, .cons r1 r2, h => by
    rw [List.lookup_cons] at h ⊢
    cases q : f == g with
    | true =>
      rw [q] at h
      cases h
    | false =>
      rw [q] at h
      exact RepF.none r2 h
section
variable {G : Gx} {ρ : Env} {t : TA} {PO : M → Env → Prop} {C : Con} {n : Nat} {dvs : List V} {dds : List D}
theorem ownL_inv {K : PySem.W.Frag} {S H : Hp} : ∀ {vs : List V} {ds : List D} {fp : List Addr}, OwnL K S H vs (ds.map .sh) fp → RepL K S vs ds ∧ fp = []
  | _, [], _, .nil => ⟨.nil, rfl⟩
  | _, _ :: _, _, .cons (.sh r) q => by
    obtain ⟨h1, h2⟩ := ownL_inv q
    subst h2
    exact ⟨.cons r h1, rfl⟩
end
end DL

namespace DL
open PySem L2

section
variable {G : Gx} {ρ : Env} {t : TA} {PO : M → Env → Prop} {P : D → Env → Prop} {n i : Nat} {dvs : List V} {dds : List D} {ta : TE} {CA : Addr} {m : Str}
/-- C(..) -/
theorem OkE.ins {w : Wd} {σ : St} {x dx : Addr} {o1 o2 : HO} (k : Ok G w σ ρ) (hx : w.H x = none) (hdx : w.H dx = none) : Le w ⟨w.S, upd (upd w.H dx o1) x o2, w.F ++ [x]⟩ ∧ OkE G ⟨w.S, upd (upd w.H dx o1) x o2, w.F ++ [x]⟩ σ ρ [x] := by
  have keep : ∀ y u, w.H y = some u → upd (upd w.H dx o1) x o2 y = some u := fun y u h => by
    rw [upd_ne (ne_of_none h hx), upd_ne (ne_of_none h hdx)]
    exact h
  have at_ := k.at_
  obtain ⟨fps, e, f⟩ := k.env
  have f2 : w.F = fps.flatten := by rw [f, List.append_nil]
  refine ⟨⟨Ex.refl _, fun y u h _ => .inl (keep y u h), fun _ _ _ h => h, fun y hy => ?_⟩, ⟨fun y u h => ?_, ⟨fps, e.keep (Ex.refl _) (fun y hy => (at_ y (f2 ▸ hy)).1) (fun y _ u hu => .inl (keep y u hu)), by show w.F ++ [x] = _; rw [f2]⟩, ?_, k.px⟩⟩
  · rcases List.mem_append.mp hy with z | z
    · exact .inl z
    · obtain rfl : y = x := by simpa using z
      exact .inr hx
  · rcases k.sub y u h with z | ⟨d, ob, z⟩ | ⟨q, ps, z1, z2, z3⟩
    · exact .inl (keep y _ z)
    · exact .inr (.inl ⟨d, ob, keep y _ z⟩)
    · exact .inr (.inr ⟨q, ps, z1, keep y _ z2, z3⟩)
  · show (w.F ++ [x]).Nodup
    refine List.nodup_append.mpr ⟨k.nd, by simp, fun y hy z hz q => ?_⟩
    obtain rfl : z = x := by simpa using hz
    subst q
    exact (at_ y hy).2 hx
theorem OwnF.len {K : PySem.W.Frag} {S H : Hp} : ∀ {vs : List (Str × V)} {ms : List (Str × M)} {fp : List Addr}, OwnF K S H vs ms fp → vs.length = ms.length
  | _, _, _, .nil => rfl
  | _, _, _, .cons _ r => by rw [List.length_cons, List.length_cons, OwnF.len r]
end
section
variable {prg : Program} {wd : World} {K : PySem.W.Frag} {mg : Str → Option Value} {bs : Heap} {x qual : Str} {params : Arguments} {body : List Stmt} {scp : Scope} {dfl : List V} {kwd : List (Str × V)} {f : Addr} {fd : FuncData} {N names : List Str} {lv n : Nat}
end
end DL

namespace DC
open PySem L2 PySem.Spec PyProof.Rows
/-! several except clauses, some of them with a name -/
abbrev Suite := Addr → Obj → Value → Option Addr → List (Addr × Obj) → TS
abbrev Clause := Value × Option Nat × Suite
inductive ClausesOk (X : Cx) : List ExceptHandler → List Clause → Prop
  | nil : ClausesOk X [] []
  | plain {x : Str} {c : Value} {ts : Suite} {st : Stmt} {sts : List Stmt} {p1 p2 : Pos} {hs : List ExceptHandler} {l : List Clause} (nm : Names X x c)
      (su : ∀ (a : Addr) (ob : Obj) (cls : Value) (d : Option Addr) (pn : List (Addr × Obj)), Zc cls d ob → (∃ vs, ob.data = .fields vs) → PSs (X.suite a ((a, ob) :: pn)) (st :: sts) (ts a ob cls d pn)) (more : ClausesOk X hs l) :
      ClausesOk X (.ExceptHandler (some (.Name x p1)) none (st :: sts) p2 :: hs) ((c, none, ts) :: l)
  | named {x n : Str} {i : Nat} {c : Value} {ts : Suite} {st : Stmt} {sts : List Stmt} {p1 p2 : Pos} {hs : List ExceptHandler} {l : List Clause} (nm : Names X x c) (nd : X.N.Nodup) (pl : X.N[i]? = some n) (lo : X.env.kindOf n = some .local)
      (su : ∀ (a : Addr) (ob : Obj) (cls : Value) (d : Option Addr) (pn : List (Addr × Obj)), Zc cls d ob → (∃ vs, ob.data = .fields vs) → PSs (X.suite a ((a, ob) :: pn)) (st :: sts) (ts a ob cls d pn)) (more : ClausesOk X hs l) :
      ClausesOk X (.ExceptHandler (some (.Name x p1)) (some n) (st :: sts) p2 :: hs) ((c, some i, ts) :: l)
section
variable {X : Cx} {body : List Stmt} {h₀ : ExceptHandler} {hs : List ExceptHandler} {l : List Clause} {pos : Pos} {tb : WX → List (Addr × Obj) → (Value → Shared → Prop) → TS} {out : WX}
end
end DC
namespace DC
open PySem L2 PySem.Spec PyProof.Rows
section
variable {X : Cx}
end
end DC
namespace DC
open PySem L2 PySem.Spec PyProof.Rows
section
variable {X : Cx}
end
end DC

namespace DL
open PySem L2

section
variable {G : Gx} {ρ : Env} {P : Post} {ta : TA} {CA : Addr} {c : Str} {f g : Str} {k : D → Prop}
end
end DL

namespace DC
open PySem L2 PySem.Spec PyProof.Rows
end DC
namespace DL
open PySem L2 PySem.Spec PyProof.Rows
end DL

namespace DL
open PySem L2
/-! ### facts of exception classes, of a module's tuple, by a Bool each -/
def oexB (K : PySem.W.Frag) (C : Addr) : Bool := (match K.lookup C with
    | some ⟨.type "type", _, .cls cd, slots⟩ => (match cd.mro, slots.toList with
      | .ref D :: up, [_, _, _, _, some (.builtin n), _] => D == C && (n == "ValueError.__new__" && (!cd.hasDel && (cd.hasDict && PySem.HandSPX.refsVE up)))
      | _, _ => false)
    | _ => false) && (decide (PySem.W.findIn K (.ref C) "__setattr__" = some (some (.builtin "object.__setattr__"))) && (decide (PySem.W.subIn K (.ref C) (.type "BaseException") = some true) && (decide (PySem.W.typeIn K (.ref C) = some (.type "type")) && PySem.W.keepIn K (.ref C))))
/-- an exception class's own __init__ -/
def iniB (K : PySem.W.Frag) (C : Addr) : Bool := decide (PySem.W.findIn K (.ref C) "__init__" = some (some (.ref (He.ma K C "__init__")))) && decide (PySem.W.typeIn K (.ref (He.ma K C "__init__")) = some (.type "function"))
end DL

namespace DL
open PySem L2
section
variable {G : Gx} {ρ : Env} {t : TA} {P : D → Env → Prop} {PO : M → Env → Prop} {n i : Nat} {dvs : List V} {dds : List D} {ta te : TE} {CA : Addr} {m : Str} {PS_ : Post}
end
section
variable {K : PySem.W.Frag} {k : D → Prop} {x y : D} {ys : List D}
end
section
variable {X : Cx}
end
end DL

namespace DL
open PySem L2
section
variable {K : PySem.W.Frag} {k : D → Prop} {i j : Int} {x y : D} {a b : Str}
end
section
variable {K : PySem.W.Frag} {k : D → Prop} {x : D}
end
section
variable {G : Gx} {P : Post} {c : Str} {fs : List (Str × D)} {ρ : Env} {cv : Value} {n : Option Nat} {i : Nat} {ts : DC.Suite} {more : List DC.Clause}
end
end DL

namespace DL
open PySem L2
/-! ### the same rules with K named (within a comprehension) -/
section
variable {X : Cx} {K : PySem.W.Frag}
end
/-- a younger state counts as an older one -/
theorem exP.up {n k : Nat} {m : M} (h : exP n m) (l : n ≤ k) : exP k m := by
  obtain ⟨bs, cs, i, e, h1, h2, r⟩ := h
  exact ⟨bs, cs, i, e, h1, by omega, r⟩
end DL

namespace DC
open PySem L2 PySem.Spec PyProof.Rows
end DC
namespace DL
open PySem L2
end DL

namespace DL
open PySem L2
/-! ### the draw state of the laws: a list of the digits that are left, the cells, a count -/
def StM (bl cs : List Int) (k : Int) : M := .lst [.lst (bl.map fun i => .sh (.int i)), .sh (.lst (cs.map .int)), .sh (.int k)]
section
variable {K : PySem.W.Frag} {S H : Hp}
end
theorem exP.st {n : Nat} {m : M} (h : exP n m) : ∃ bl cs k, m = StM bl cs k ∧ 0 ≤ k ∧ k ≤ n ∧ cs ≠ [] ∧ cs.length ≤ 64 ∧ bl.length ≤ 63 ∧ (∀ b ∈ bl, 0 ≤ b) ∧ (∀ b ∈ bl, Builtin.Int.intBits b ≤ 1048576) ∧ ∀ c ∈ cs, Builtin.Int.intBits c ≤ 1048576 := h
section
variable {G : Gx} {ρ : Env} {P : D → Env → Prop} {PS_ : Post} {i : Nat} {bl cs : List Int} {k j : Int} {te : TE}
end
end DL

namespace DC
open PySem L2 PySem.Spec PyProof.Rows
variable {X : Cx}
end DC

namespace DC
open PySem L2 PySem.Spec PyProof.Rows
section
variable {X : Cx} {lv : Nat} {f C : Addr} {fd : FuncData} {names : List Str} {sp : Sp}
end
end DC

namespace DL
open PySem L2
section
variable {G : Gx} {ρ : Env} {P : D → Env → Prop} {K : PySem.W.Frag} {k : D → Prop} {c : Str} {fs : List (Str × D)} {x y : D} {te tb : TE} {f : Addr} {xs : List D} {i : Nat}
end
end DL

namespace DL
open PySem L2
section
variable {G : Gx} {ρ : Env}
end
end DL

namespace DC
open PySem L2 PySem.Spec PyProof.Rows
section
variable {X : Cx} {lv : Nat} {f C : Addr} {fd : FuncData} {names : List Str} {sp : Sp}
end

/-! ### a classmethod, read off its class; a class in a local name -/
section
variable {X : Cx} {CX : CXT} {lv : Nat} {f C p g : Addr} {fd : FuncData} {names : List Str} {sp : Sp} {dvs : List V} {dus : List Value} {E : L2.St → XK} {x m : Str} {np pos apos : Pos} {e o : Expr} {es : List Expr} {ta tf : TE} {t : TA}
end
end DC

namespace DL
open PySem L2
section
variable {G : Gx} {ρ : Env} {P : D → Env → Prop} {PO : M → Env → Prop} {K : PySem.W.Frag} {k : D → Prop} {c : Str} {fs : List (Str × D)} {te ta tb tf : TE} {t : TA} {CA : Addr} {xs : List D} {i n : Nat} {dvs : List V} {dds : List D} {PS_ : Post}
def WJ (G : Gx) : List TE → Str → Env → (Str → Env → Prop) → Prop
  | [], acc, ρ, P => P acc ρ
  | t :: ts, acc, ρ, P => W G t ρ fun x ρ1 => ∃ y : Str, x = .str y ∧ (acc ++ y).length ≤ 100000 ∧ WJ G ts (acc ++ y) ρ1 P
theorem WJ.run {ts : List TE} {σ : St} {Q : Str → Hp → Prop} {PJ : Str → Env → Prop} : ∀ {acc : Str} {ρ : Env} {w : Wd}, WJ G ts acc ρ PJ → Ok G w σ ρ → Esc G w → (∀ y w' ρ', PJ y ρ' → Le w w' → Ok G w' σ ρ' → Q y w'.H) → tJs ts acc σ w.H Q := by
  induction ts with
  | nil => exact fun h o e q => q _ _ _ h (Le.refl _) o
  | cons t ts ih =>
    intro acc ρ w h o e q
    refine h w σ _ o e fun v w1 d ρ1 hh l1 o1 r1 => ?_
    obtain ⟨y, ed, hz, p⟩ := hh
    subst ed
    obtain rfl := r1.str_inv
    exact ⟨y, rfl, sz_of hz, ih p o1 (e.later l1) fun z w2 ρ2 p2 l2 => q z w2 ρ2 p2 (l1.trans l2)⟩
end
end DL

namespace DL
open PySem L2 PySem.Spec PyProof.Rows
/-! ### data with dicts, as the library's data -/
def keyPy : Key → PyData
  | .inl i => .int i
  | .inr x => .str x
mutual
def D.pyR : D → Option PyData
  | .non => some .none
  | .bl b => some (.bool b)
  | .int i => some (.int i)
  | .str x => some (.str x)
  | .tup ds => (D.pysR ds).map .tuple
  | .lst ds => (D.pysR ds).map .list
  | .rol ds => (D.pysR ds).map .list
  | .dic kvs => (D.pykR kvs).map .dict
  | .dit kvs => (D.pytR kvs).map .dict
  | _ => none
def D.pysR : List D → Option (List PyData)
  | [] => some []
  | d :: ds => match D.pyR d with
    | some p => (D.pysR ds).map (p :: ·)
    | none => none
def D.pykR : List (Key × D) → Option (List (PyData × PyData))
  | [] => some []
  | (k, d) :: r => match D.pyR d with
    | some p => (D.pykR r).map ((keyPy k, p) :: ·)
    | none => none
def D.pytR : List (List Key × D) → Option (List (PyData × PyData))
  | [] => some []
  | (k, d) :: r => match D.pyR d with
    | some p => (D.pytR r).map ((.tuple (k.map keyPy), p) :: ·)
    | none => none
end
/-- the table of the modules is a dict -/
def SmK (K : PySem.W.Frag) : Prop := ∃ o, K.lookup sysModules = some o ∧ o.cls = .type "dict"
def smB (K : PySem.W.Frag) : Bool := match K.lookup sysModules with
  | some ⟨.type c, _, _, _⟩ => decide (c = "dict")
  | _ => false
section
variable {X : Cx} {pins : List (Addr × Obj)} {σ : L2.St} {H : Hp} {s : Shared} {S : Hp}
theorem off_sm (I : Inv X pins σ H s) (m : SmK X.K) {a : Addr} {o : Obj} {T : String} (h : s.heap.get? a = some o) (hc : o.cls = .type T) (ne : T ≠ "dict") : a ≠ sysModules := fun e => by
  obtain ⟨u, hu, cu⟩ := m
  have z := I.kIn _ _ hu
  rw [e, z] at h
  cases h
  rw [cu] at hc
  injection hc with hc
  exact ne hc.symm
theorem keyRd (h : Heap) : ∀ {k : Key} {u : Value}, RelV (kV k) u → Reads h u (keyPy k) []
  | .inl i, _, r => by
    obtain ⟨t, rfl⟩ := r
    exact .int i t
  | .inr x, _, r => by
    obtain ⟨t, rfl⟩ := r
    exact .str x t
theorem keysRd (h : Heap) : ∀ {ks : List Key} {us : List Value}, Vals (ks.map kV) us → ReadsAll h us (ks.map keyPy) []
  | [], _, r => by
    cases r
    exact .nil
  | k :: ks, _, r => by
    cases r with
    | cons r1 r2 => exact ReadsAll.cons (as := []) (bs := []) (keyRd h r1) (keysRd h r2)
theorem keyRel {k : Key} {v : Value} (same : keyIs k v = true) : RelV (kV k) v := by
  rcases keyIs_shape same with ⟨i, t, rfl, rfl⟩ | ⟨x, t, rfl, rfl⟩
  · exact ⟨t, rfl⟩
  · exact ⟨t, rfl⟩
mutual
theorem Rep.rdR (I : Inv X pins σ H s) (m : SmK X.K) (b : Sub S H) : ∀ {d : D} {v : V} {u : Value} {p : PyData}, Rep X.K S v d → d.pyR = some p → RelV v u → ∃ as, Reads s.heap u p as ∧ sysModules ∉ as
  | .non, _, _, _, r, e, ru => by
    cases r
    cases ru
    cases (Option.some.inj e)
    exact ⟨_, .none, List.not_mem_nil⟩
  | .bl c, _, _, _, r, e, ru => by
    cases r
    cases ru
    cases (Option.some.inj e)
    exact ⟨_, .bool c, List.not_mem_nil⟩
  | .int i, _, _, _, r, e, ru => by
    cases r
    obtain ⟨t, rfl⟩ := ru
    cases (Option.some.inj e)
    exact ⟨_, .int i t, List.not_mem_nil⟩
  | .str x, _, _, _, r, e, ru => by
    cases r
    obtain ⟨t, rfl⟩ := ru
    cases (Option.some.inj e)
    exact ⟨_, .str x t, List.not_mem_nil⟩
  | .tup ds, _, _, _, r, e, ru => by
    cases r with
    | tup h1 r1 =>
      cases ru
      obtain ⟨ps, e1, e2⟩ := Option.map_eq_some_iff.mp e
      subst e2
      obtain ⟨its, rv, ⟨o, ho, hc, n, hd⟩, _⟩ := I.tuple (b.st h1)
      obtain ⟨as, hr, na⟩ := RepL.rdR I m b r1 e1 rv
      exact ⟨_, .tuple ho hc hd hr, na⟩
  | .lst ds, _, _, _, r, e, ru => by
    cases r with
    | lst h1 r1 =>
      cases ru
      obtain ⟨ps, e1, e2⟩ := Option.map_eq_some_iff.mp e
      subst e2
      obtain ⟨its, rv, ⟨o, n, ho, hc, _, hd⟩, _⟩ := I.list (b.sl (.inl h1))
      obtain ⟨as, hr, na⟩ := RepL.rdR I m b r1 e1 rv
      exact ⟨_, .list ho hc hd hr, fun q => (List.mem_cons.mp q).elim (fun z => off_sm I m ho hc (by decide) z.symm) na⟩
  | .rol ds, _, _, _, r, e, ru => by
    cases r with
    | rol h1 r1 =>
      cases ru
      obtain ⟨ps, e1, e2⟩ := Option.map_eq_some_iff.mp e
      subst e2
      obtain ⟨its, rv, ⟨o, n, ho, hc, _, hd⟩, _⟩ := I.list (b.sl h1)
      obtain ⟨as, hr, na⟩ := RepL.rdR I m b r1 e1 rv
      exact ⟨_, .list ho hc hd hr, fun q => (List.mem_cons.mp q).elim (fun z => off_sm I m ho hc (by decide) z.symm) na⟩
  | .dic kvs, _, _, _, r, e, ru => by
    cases r with
    | dic h1 r1 =>
      cases ru
      obtain ⟨ps, e1, e2⟩ := Option.map_eq_some_iff.mp e
      subst e2
      obtain ⟨hz, hS, vs, kv, o, es, ep, ho, xd, hd, _, pr, _⟩ := dk_rd I.hok (b.dk h1)
      obtain ⟨bs, hr, na⟩ := RepK.rdR I m b r1 e1 kv pr
      refine ⟨_, .dict (as := []) ho xd.1 hd hr.1 hr.2, fun q => ?_⟩
      rcases List.mem_cons.mp (show sysModules ∈ _ :: bs from q) with q | q
      · rw [q] at hS
        simp at hS
      · exact na q
  | .dit kvs, _, _, _, r, e, ru => by
    cases r with
    | dit h1 r1 =>
      cases ru
      obtain ⟨ps, e1, e2⟩ := Option.map_eq_some_iff.mp e
      subst e2
      obtain ⟨hz, hS, xs, pd, o, es, ep, ho, xd, hd, el, _⟩ := dt_rd I.hok (b.dt h1)
      obtain ⟨bs, hr, na⟩ := RepT.rdR I m b r1 e1 pd
      refine ⟨_, .dict (as := []) ho xd.1 hd (by rw [el]; exact hr.1) (by rw [el]; exact hr.2), fun q => ?_⟩
      rcases List.mem_cons.mp (show sysModules ∈ _ :: bs from q) with q | q
      · rw [q] at hS
        simp at hS
      · exact na q
  | .ty _, _, _, _, _, e, _ => by cases e
  | .fun_ _, _, _, _, _, e, _ => by cases e
  | .obj _ _, _, _, _, _, e, _ => by cases e
  | .exc _ _ _ _, _, _, _, _, e, _ => by cases e
theorem RepL.rdR (I : Inv X pins σ H s) (m : SmK X.K) (b : Sub S H) : ∀ {ds : List D} {vs : List V} {us : List Value} {ps : List PyData}, RepL X.K S vs ds → D.pysR ds = some ps → Vals vs us → ∃ as, ReadsAll s.heap us ps as ∧ sysModules ∉ as
  | [], _, _, _, r, e, ru => by
    cases r
    cases ru
    cases (Option.some.inj e)
    exact ⟨_, .nil, List.not_mem_nil⟩
  | d :: ds, _, _, _, r, e, ru => by
    cases r with
    | cons r1 r2 =>
      cases ru with
      | cons u1 u2 =>
        unfold D.pysR at e
        cases q : D.pyR d with
        | none =>
          rw [q] at e
          cases e
        | some p =>
          rw [q] at e
          obtain ⟨ps, e1, e2⟩ := Option.map_eq_some_iff.mp e
          subst e2
          obtain ⟨as, h1, n1⟩ := Rep.rdR I m b r1 q u1
          obtain ⟨bs, h2, n2⟩ := RepL.rdR I m b r2 e1 u2
          exact ⟨_, .cons h1 h2, fun z => (List.mem_append.mp z).elim n1 n2⟩
theorem RepK.rdR (I : Inv X pins σ H s) (m : SmK X.K) (b : Sub S H) : ∀ {ds : List (Key × D)} {xs : List (Key × V)} {vs : List (Key × Value)} {es : List DictEntry} {ps : List (PyData × PyData)}, RepK X.K S xs ds → D.pykR ds = some ps → KV xs vs → PySem.Pairs (mixKind X.prog X.w) es vs →
    ∃ as, (ReadsAll s.heap (es.map (·.key)) (ps.map (·.1)) [] ∧ ReadsAll s.heap (es.map (·.val)) (ps.map (·.2)) as) ∧ sysModules ∉ as
  | [], _, _, _, _, r, e, kv, pr => by
    cases r
    cases kv
    cases pr
    cases (Option.some.inj e)
    exact ⟨_, ⟨.nil, .nil⟩, List.not_mem_nil⟩
  | (k, d) :: ds, _, _, _, _, r, e, kv, pr => by
    cases r with
    | cons r1 r2 =>
      cases kv with
      | cons u1 u2 =>
        cases pr with
        | cons w1 w2 w3 =>
          unfold D.pykR at e
          cases q : D.pyR d with
          | none =>
            rw [q] at e
            cases e
          | some p =>
            rw [q] at e
            obtain ⟨ps, e1, e2⟩ := Option.map_eq_some_iff.mp e
            subst e2
            obtain ⟨e3, u1⟩ := u1
            obtain ⟨as, h1, n1⟩ := Rep.rdR I m b r1 q u1
            obtain ⟨bs, ⟨h2, h3⟩, n2⟩ := RepK.rdR I m b r2 e1 u2 w3
            refine ⟨_, ⟨ReadsAll.cons (as := []) (bs := []) (keyRd _ (keyRel (by rw [show k = _ from e3]; exact w1))) h2, ReadsAll.cons (by show Reads s.heap (DictEntry.val _) _ _; rw [w2]; exact h1) h3⟩, fun z => (List.mem_append.mp z).elim n1 n2⟩
theorem RepT.rdR (I : Inv X pins σ H s) (m : SmK X.K) (b : Sub S H) : ∀ {ds : List (List Key × D)} {xs : List (List Key × V)} {vs : List (List Key × Addr × Value)} {ps : List (PyData × PyData)}, RepT X.K S xs ds → D.pytR ds = some ps → Paired (fun (p : List Key × V) (q : List Key × Addr × Value) => p.1 = q.1 ∧ H q.2.1 = some (.tup (p.1.map kV)) ∧ RelV p.2 q.2.2) xs vs →
    ∃ as, (ReadsAll s.heap ((vs.map (PySem.entryOfKey (tupleKind (mixKind X.prog X.w)))).map (·.key)) (ps.map (·.1)) [] ∧ ReadsAll s.heap ((vs.map (PySem.entryOfKey (tupleKind (mixKind X.prog X.w)))).map (·.val)) (ps.map (·.2)) as) ∧ sysModules ∉ as
  | [], _, _, _, r, e, kv => by
    cases r
    cases kv
    cases (Option.some.inj e)
    exact ⟨_, ⟨.nil, .nil⟩, List.not_mem_nil⟩
  | (k, d) :: ds, _, _, _, r, e, kv => by
    cases r with
    | cons r1 r2 =>
      cases kv with
      | cons u1 u2 =>
        unfold D.pytR at e
        cases q : D.pyR d with
        | none =>
          rw [q] at e
          cases e
        | some p =>
          rw [q] at e
          obtain ⟨ps, e1, e2⟩ := Option.map_eq_some_iff.mp e
          subst e2
          obtain ⟨e3, u0, u1⟩ := u1
          obtain ⟨as, h1, n1⟩ := Rep.rdR I m b r1 q u1
          obtain ⟨bs, ⟨h2, h3⟩, n2⟩ := RepT.rdR I m b r2 e1 u2
          obtain ⟨its, rv, ⟨o, ho, hc, n, hd⟩, _⟩ := I.tuple (SqT.of u0)
          refine ⟨_, ⟨ReadsAll.cons (as := []) (bs := []) (Reads.tuple ho hc hd (keysRd _ rv)) h2, ReadsAll.cons h1 h3⟩, fun z => (List.mem_append.mp z).elim n1 n2⟩
end
end
abbrev AlS : Type := He.AlD × Bool
structure SaysS (fa : List He.Fa) (fn : List He5.DefA) (ex : PySem.W.Frag → Bool) (K : PySem.W.Frag) : Prop where
  d : He5.SaysA fa fn K
  more : ex K = true
end DL
namespace DL
open PySem L2
end DL

namespace DL
open PySem L2
def lookD (kvs : List (Key × D)) (k : Key) : Option D := (kvs.find? fun kv => decide (kv.1 = k)).map (·.2)
def putD (kvs : List (Key × D)) (k : Key) (d : D) : List (Key × D) := if (kvs.any fun kv => decide (kv.1 = k)) = true then kvs.map (fun kv => if kv.1 = k then (kv.1, d) else kv) else kvs ++ [(k, d)]
section
variable {K : PySem.W.Frag} {S H : Hp}
theorem RepK.look {k : Key} : ∀ {xs : List (Key × V)} {ds : List (Key × D)}, RepK K S xs ds → (∀ d, lookD ds k = some d → ∃ v, valV xs k = some v ∧ Rep K S v d) ∧ (lookD ds k = none → valV xs k = none)
  | _, _, .nil => ⟨(fun d h => by simp [lookD] at h), fun _ => rfl⟩
  | (j, v) :: xs, (_, e) :: ds, .cons r q => by
    obtain ⟨h1, h2⟩ := RepK.look (k := k) q
    by_cases z : j = k
    · have a : lookD ((j, e) :: ds) k = some e := by simp [lookD, List.find?_cons, z]
      have b : valV ((j, v) :: xs) k = some v := valV_pos z
      exact ⟨fun d hd => by rw [a] at hd; cases hd; exact ⟨v, b, r⟩, fun hn => by rw [a] at hn; cases hn⟩
    · have a : lookD ((j, e) :: ds) k = lookD ds k := by simp [lookD, List.find?_cons, z]
      have b : valV ((j, v) :: xs) k = valV xs k := valV_neg z
      rw [a, b]
      exact ⟨h1, h2⟩
theorem RepK.len : ∀ {xs : List (Key × V)} {ds : List (Key × D)}, RepK K S xs ds → xs.length = ds.length
  | _, _, .nil => rfl
  | _, _, .cons _ q => by rw [List.length_cons, List.length_cons, RepK.len q]
theorem RepK.anyK {k : Key} : ∀ {xs : List (Key × V)} {ds : List (Key × D)}, RepK K S xs ds → (xs.any fun kv => decide (kv.1 = k)) = (ds.any fun kv => decide (kv.1 = k))
  | _, _, .nil => rfl
  | _, _, .cons _ q => by
    rw [List.any_cons, List.any_cons, RepK.anyK q]
theorem RepK.app : ∀ {xs ys : List (Key × V)} {ds es : List (Key × D)}, RepK K S xs ds → RepK K S ys es → RepK K S (xs ++ ys) (ds ++ es)
  | _, _, _, _, .nil, r => r
  | _, _, _, _, .cons h q, r => .cons h (RepK.app q r)
theorem RepK.repl {k : Key} {v : V} {d : D} (r : Rep K S v d) : ∀ {xs : List (Key × V)} {ds : List (Key × D)}, RepK K S xs ds → RepK K S (xs.map fun kv => if kv.1 = k then (kv.1, v) else kv) (ds.map fun kv => if kv.1 = k then (kv.1, d) else kv)
  | _, _, .nil => .nil
  | (j, u) :: xs, (_, e) :: ds, .cons h q => by
    (rw [List.map_cons, List.map_cons])
    by_cases z : j = k
    · rw [if_pos z, if_pos z]
      exact .cons r (RepK.repl r q)
    · rw [if_neg z, if_neg z]
      exact .cons h (RepK.repl r q)
theorem RepK.put {k : Key} {v : V} {d : D} (r : Rep K S v d) {xs : List (Key × V)} {ds : List (Key × D)} (q : RepK K S xs ds) : RepK K S (putK xs k v) (putD ds k d) := by
  unfold putK putD
  rw [q.anyK]
  split
  · exact q.repl r
  · exact q.app (.cons r .nil)
end
section
variable {G : Gx} {ρ : Env} {P : D → Env → Prop} {PO : M → Env → Prop} {PT : Bool → Env → Prop} {K : PySem.W.Frag} {kk : D → Prop} {td ty tv tx : TE} {i : Nat} {PS_ : Post}
end
end DL

namespace DL
open PySem L2
mutual
/-- neither a list nor a dict nor an instance within -/
def D.still : D → Bool
  | .non => true
  | .bl _ => true
  | .int _ => true
  | .str _ => true
  | .ty _ => true
  | .fun_ _ => true
  | .tup ds => D.stills ds
  | _ => false
def D.stills : List D → Bool
  | [] => true
  | d :: ds => D.still d && D.stills ds
end
section
variable {K : PySem.W.Frag} {S S' : Hp} (hs : ∀ a xs, SqT K S a xs → SqT K S' a xs)
include hs
mutual
theorem Rep.stillAny : ∀ {v : V} {d : D}, Rep K S v d → d.still = true → Rep K S' v d
  | _, _, .non, _ => .non
  | _, _, .bl b, _ => .bl b
  | _, _, .int i, _ => .int i
  | _, _, .str x, _ => .str x
  | _, _, .ty n, _ => .ty n
  | _, _, .fun_ a, _ => .fun_ a
  | _, _, .tup h r, f => .tup (hs _ _ h) (RepL.stillAny r f)
  | _, _, .lst _ _, f => by cases f
  | _, _, .rol _ _, f => by cases f
  | _, _, .dic _ _, f => by cases f
  | _, _, .dit _ _, f => by cases f
  | _, _, .obj _ _, f => by cases f
  | _, _, .exc _ _, f => by cases f
  | _, _, .tupx _ _ _, f => by cases f
  | _, _, .exv _ _ _, f => by cases f
  | _, _, .exb _, f => by cases f
theorem RepL.stillAny : ∀ {vs : List V} {ds : List D}, RepL K S vs ds → D.stills ds = true → RepL K S' vs ds
  | _, _, .nil, _ => .nil
  | _, _, .cons h r, f => by
    obtain ⟨f1, f2⟩ := Bool.and_eq_true_iff.mp f
    exact .cons (h.stillAny f1) (RepL.stillAny r f2)
end
end
/-- no tuple, and nothing locked -/
def NoTup (o : HO) : Prop := (∀ xs, o ≠ .tup xs) ∧ ∀ ob u, o ≠ .frz ob u
section
variable {K : PySem.W.Frag} {S H : Hp}
mutual
theorem OwnR.kind : ∀ {v : V} {m : M} {fp : List Addr}, OwnR K S H v m fp → ∀ x ∈ fp, ∃ o, H x = some o ∧ NoTup o
  | _, _, _, .sh _, _, q => nomatch q
  | _, _, _, .lst h1 h2 r, x, q => by
    rcases List.mem_cons.mp q with rfl | q
    · exact ⟨_, h2, fun _ z => (nomatch z), fun _ _ z => (nomatch z)⟩
    · exact OwnL.kind r x q
  | _, _, _, .dic h1 h2 r, x, q => by
    rcases List.mem_cons.mp q with rfl | q
    · exact ⟨_, h2, fun _ z => (nomatch z), fun _ _ z => (nomatch z)⟩
    · exact OwnK.kind r x q
  | _, _, _, .dit h1 h2 r, x, q => by
    rcases List.mem_cons.mp q with rfl | q
    · exact ⟨_, h2, fun _ z => (nomatch z), fun _ _ z => (nomatch z)⟩
    · exact OwnT.kind r x q
  | _, _, _, .obj h1 h2 r, x, q => by
    rcases List.mem_cons.mp q with rfl | q
    · exact ⟨_, h2, fun _ z => (nomatch z), fun _ _ z => (nomatch z)⟩
    · exact OwnF.kind r x q
  | _, _, _, .tup _ r, x, q => OwnL.kind r x q
  | _, _, _, .ex _ r, x, q => OwnR.kind r x q
theorem OwnL.kind : ∀ {v : List V} {m : List M} {fp : List Addr}, OwnL K S H v m fp → ∀ x ∈ fp, ∃ o, H x = some o ∧ NoTup o
  | _, _, _, .nil, _, q => nomatch q
  | _, _, _, .cons h r, x, q => (List.mem_append.mp q).elim (OwnR.kind h x) (OwnL.kind r x)
theorem OwnK.kind : ∀ {v : List (Key × V)} {m : List (Key × M)} {fp : List Addr}, OwnK K S H v m fp → ∀ x ∈ fp, ∃ o, H x = some o ∧ NoTup o
  | _, _, _, .nil, _, q => nomatch q
  | _, _, _, .cons h r, x, q => (List.mem_append.mp q).elim (OwnR.kind h x) (OwnK.kind r x)
theorem OwnT.kind : ∀ {v : List (List Key × V)} {m : List (List Key × M)} {fp : List Addr}, OwnT K S H v m fp → ∀ x ∈ fp, ∃ o, H x = some o ∧ NoTup o
  | _, _, _, .nil, _, q => nomatch q
  | _, _, _, .cons h r, x, q => (List.mem_append.mp q).elim (OwnR.kind h x) (OwnT.kind r x)
theorem OwnF.kind : ∀ {v : List (Str × V)} {m : List (Str × M)} {fp : List Addr}, OwnF K S H v m fp → ∀ x ∈ fp, ∃ o, H x = some o ∧ NoTup o
  | _, _, _, .nil, _, q => nomatch q
  | _, _, _, .cons h r, x, q => (List.mem_append.mp q).elim (OwnR.kind h x) (OwnF.kind r x)
end
end
theorem EnvR.view {K : PySem.W.Frag} {S S' H : Hp} (e : Ex S S') : ∀ {σ : St} {ρ : Env} {fps : List (List Addr)}, EnvR K S H σ ρ fps → ∃ gps, EnvR K S' H σ (ρ.map keepSh) gps ∧ gps.flatten = []
  | _, _, _, .nil t => ⟨[], .nil (t.mono e), rfl⟩
  | _, _, _, .no r => by
    obtain ⟨gps, h, z⟩ := EnvR.view e r
    exact ⟨[] :: gps, .no h, by rw [List.flatten_cons, z]; rfl⟩
  | _, _, _, .ow (m := m) q r => by
    obtain ⟨gps, h, z⟩ := EnvR.view e r
    refine ⟨[] :: gps, ?_, by rw [List.flatten_cons, z]; rfl⟩
    rw [List.map_cons]
    cases q with
    | sh rp => exact .ow (.sh (rp.mono e)) h
    | lst _ _ _ => exact .no h
    | dic _ _ _ => exact .no h
    | dit _ _ _ => exact .no h
    | obj _ _ _ => exact .no h
    | tup _ _ => exact .no h
    | ex _ _ => exact .no h
section
variable {G : Gx} {ρ : Env} {P : D → Env → Prop} {PO : M → Env → Prop} {te : TE} {i : Nat} {m : M} {d : D}
end
end DL

namespace DC
open PySem L2 PySem.Spec PyProof.Rows
end DC
namespace DL
open PySem L2
section
variable {G : Gx} {ρ : Env} {i : Nat} {kvs : List (Key × D)}
section
variable {g : TG} {tt : TT} {te : TE} {vs sl : List Nat} {PO : M → Env → Prop}
end
end
end DL

namespace DL
open PySem L2
section
variable {G : Gx} {ρ : Env} {P : D → Env → Prop} {PO : M → Env → Prop} {PM : List M → Env → Prop} {ta te tb : TE} {tr t1 : TA} {i : Nat} {m : M} {PS_ : Post}
end
end DL

namespace DL
open PySem L2
section
variable {G : Gx} {tk tv : TE} {tt : TT} {wi : TI} {g : TG} {ρ : Env} {vs sl : List Nat} {PO : M → Env → Prop}
end
end DL

namespace DL
open PySem L2
/-! ### texts in order -/
/-- strictly before -/
def ltS (a b : Str) : Prop := a.cps.toList < b.cps.toList
instance (a b : Str) : Decidable (ltS a b) := inferInstanceAs (Decidable (a.cps.toList < b.cps.toList))
section
variable {K : PySem.W.Frag} {k : D → Prop} {x : D} {kvs : List (Key × D)}
end
section
variable {G : Gx} {ρ : Env} {ta te : TE} {t : TA} {PO : M → Env → Prop} {PS_ : Post} {i : Nat} {P : D → Env → Prop}
end
end DL

namespace PySem.SeqAt
open MeetsSeq3 MeetsSeq SeqRoads2 MeetsSeq2
open AutoSeq1 renaming wpAny_loadPart' → loadPt
section
variable {w : World} {prog : Program}
variable {A : Around} {s : Shared} {E Q : Value → Shared → Prop} {p q : Addr} {xs ys : Array Value} {e : Nat → Bool}
end
end PySem.SeqAt

namespace PySem.W
open PySem.Calls PySem PyProof.Rows PySem.Spec
section
variable {prog : Program} {w : World} {K : Type} [DecidableEq K] {knd : KeyKind prog w K} {A : Around} {E Q : Value → Shared → Prop} {s : Shared} {p q : Addr} {ks ls : List (K × Value)} {r : Bool}
end
end PySem.W
namespace DL
open PySem L2
theorem RepK.isSome {K : PySem.W.Frag} {S : Hp} {xs : List (Key × V)} {ds : List (Key × D)} (r : RepK K S xs ds) (k : Key) : (valV xs k).isSome = (lookD ds k).isSome := by
  obtain ⟨h1, h2⟩ := RepK.look (k := k) r
  cases e : lookD ds k with
  | none => rw [h2 e]; rfl
  | some d =>
    obtain ⟨v', e1, e2⟩ := h1 d e
    rw [e1]
    rfl
section
variable {X : Cx} {pins : List (Addr × Obj)} {σ : L2.St} {H S : Hp} {s : Shared}
end
section
variable {K : PySem.W.Frag} {k : D → Prop} {x y : D} {b : Bool} {n : Nat}
end
end DL

namespace DC
open PySem L2 PySem.Spec PyProof.Rows
theorem Paired.app {α β : Type} {R : α → β → Prop} : ∀ {xs us : List α} {ys vs : List β}, Paired R xs ys → Paired R us vs → Paired R (xs ++ us) (ys ++ vs)
  | _, _, _, _, .nil, r => r
  | _, _, _, _, .cons h r, q => .cons h (Paired.app r q)
section
variable {X : Cx} {CX : CXT} {lv n : Nat} {f : Addr} {fd : FuncData} {names ks : List Str} {sp : Sp} {E : St → XK} {x : Str} {p pos : Pos} {e : Expr} {es : List Expr} {kws : List Keyword} {t tk : TA} {g : List Value → List Value → List Value} {gV : List V → List V → List V}
end
end DC
namespace DL
open PySem L2
section
variable {G : Gx} {ρ : Env} {t tk : TA} {PO : M → Env → Prop} {P : D → Env → Prop} {n m N : Nat} {ix : List Nat}
end
end DL

namespace DC
open PySem L2 PySem.Spec PyProof.Rows
end DC
namespace DL
open PySem L2
section
variable {X : Cx} {K : PySem.W.Frag}
end
section
variable {K : PySem.W.Frag} {k : D → Prop} {x : D}
end
end DL

namespace DL
open PySem L2
section
variable {G : Gx} {ρ : Env} {P : D → Env → Prop} {PS_ : Post} {i : Nat} {bl cs : List Int} {k : Int} {te : TE}
end
end DL

namespace DL
open PySem L2
section
variable {G : Gx} {ρ : Env} {kvs : List (Key × D)} {i : Nat} {te0 : TE}
variable {g : TG} {tt : TT} {te : TE} {vs sl : List Nat} {PO : M → Env → Prop}
end
end DL
namespace DL
open PySem L2
section
variable {X : Cx} {K : PySem.W.Frag}
end
end DL

namespace DL
open PySem L2 PySem.Spec PyProof.Rows
end DL

namespace DL
open PySem L2
section
variable {G : Gx} {ρ : Env} {v : Nat} {tt : TT} {te tk tv te0 : TE} {wi : TI} {PO : M → Env → Prop} {P : D → Env → Prop} {F : D → Option D} {kvs : List (Key × D)}
end
end DL

namespace DC
open PySem L2 PySem.Spec PyProof.Rows
end DC
namespace DL
open PySem L2
section
variable {G : Gx} {ρ : Env} {te to tl : TE} {P : D → Env → Prop} {PO : M → Env → Prop} {PI_ : List D → Env → Prop} {PS_ : Post} {i v : Nat} {g : TG} {t : TS} {K : PySem.W.Frag} {k : D → Prop} {x : D} {xs : List D}
end
end DL

namespace DL
open PySem.Spec PySem PyProof.Rows L2
section
variable {G : Gx} {ρ : Env} {v : Nat} {tt : TT} {te te0 : TE} {P : D → Env → Prop} {kvs : List (Key × D)} {Fk : Key → D → Option D}
end
end DL

namespace DL
open PySem L2
end DL

namespace DL
open PySem L2 PySem.Spec PyProof.Rows
/-! ### what is shown of lists and dicts, by its depth -/
/-- it can be shown: so deep at most, in so many signs at most -/
def Shw (v : D) (d n : Nat) : Prop := ∃ p, v.pyR = some p ∧ p.showable = true ∧ p.depth ≤ d ∧ p.shown.length ≤ n
theorem Shw.up {v : D} {d n d' n' : Nat} (h : Shw v d n) (a : d ≤ d') (b : n ≤ n') : Shw v d' n' := by
  obtain ⟨p, h1, h2, h3, h4⟩ := h
  exact ⟨p, h1, h2, Nat.le_trans h3 a, Nat.le_trans h4 b⟩
end DL

namespace DL
open PySem L2 PySem.Spec PyProof.Rows
/-- one item more at a key -/
def appD : List (Key × List D) → Key → D → List (Key × List D)
  | [], k, d => [(k, [d])]
  | p :: r, k, d => if p.1 = k then (p.1, p.2 ++ [d]) :: r else p :: appD r k d
section
variable {K : PySem.W.Frag} {S S' H H' : Hp}
/-- the lists at their places -/
inductive OL (K : PySem.W.Frag) (S H : Hp) : List (Key × V) → List (Key × List D) → List Addr → Prop
  | nil : OL K S H [] [] []
  | cons {k : Key} {l : Addr} {ys : List V} {zs : List D} {xs : List (Key × V)} {ds : List (Key × List D)} {fp : List Addr} : S l = none → H l = some (.lst ys) → RepL K S ys zs → OL K S H xs ds fp → OL K S H ((k, .ref l) :: xs) ((k, zs) :: ds) (l :: fp)
theorem OL.of : ∀ {xs : List (Key × V)} {ds : List (Key × List D)} {fp : List Addr}, OwnK K S H xs (ds.map fun p => (p.1, .lst (p.2.map .sh))) fp → OL K S H xs ds fp
  | _, [], _, .nil => .nil
  | _, p :: ds, _, .cons (.lst a b c) q => by
    obtain ⟨r, e⟩ := ownL_inv c
    subst e
    exact .cons a b r (OL.of q)
theorem OL.keep (e : Ex S S') {xs : List (Key × V)} {ds : List (Key × List D)} {fp : List Addr} (h : OL K S H xs ds fp) (h1 : ∀ x ∈ fp, S' x = none) (h2 : ∀ x ∈ fp, ∀ o, H x = some o → Keeps o (H' x)) : OL K S' H' xs ds fp := by
  induction h with
  | nil => exact .nil
  | cons a b r q ih => exact .cons (h1 _ List.mem_cons_self) ((h2 _ List.mem_cons_self _ b).eq True.intro) (r.mono e) (ih (fun x hx => h1 x (List.mem_cons_of_mem _ hx)) fun x hx => h2 x (List.mem_cons_of_mem _ hx))
theorem OL.at_ {xs : List (Key × V)} {ds : List (Key × List D)} {fp : List Addr} (h : OL K S H xs ds fp) : ∀ x ∈ fp, S x = none ∧ H x ≠ none := by
  induction h with
  | nil => exact fun x hx => by cases hx
  | cons a b r q ih =>
    intro x hx
    rcases (List.mem_cons.mp hx) with rfl | hx
    · exact ⟨a, by rw [b]; exact Option.some_ne_none _⟩
    · exact ih x hx
theorem OL.len {xs : List (Key × V)} {ds : List (Key × List D)} {fp : List Addr} (h : OL K S H xs ds fp) : xs.length = ds.length := by
  induction h with
  | nil => rfl
  | cons a b r q ih => rw [List.length_cons, List.length_cons, ih]
theorem OL.look {k : Key} {v : V} {xs : List (Key × V)} {ds : List (Key × List D)} {fp : List Addr} (h : OL K S H xs ds fp) (hv : valV xs k = some v) : ∃ l ys zs, v = .ref l ∧ l ∈ fp ∧ H l = some (.lst ys) ∧ ys.length = zs.length ∧ (k, zs) ∈ ds := by
  induction h with
  | nil => cases hv
  | @cons k0 l ys zs xs ds fp a b r q ih =>
    by_cases e : k0 = k
    · rw [valV_pos (p := (k0, V.ref l)) e] at hv
      subst e
      exact ⟨l, ys, zs, (Option.some.inj hv).symm, List.mem_cons_self, b, r.len, List.mem_cons_self⟩
    · rw [valV_neg (p := (k0, V.ref l)) e] at hv
      obtain ⟨l', ys', zs', h1, h2, h3, h4, h5⟩ := ih hv
      exact ⟨l', ys', zs', h1, List.mem_cons_of_mem _ h2, h3, h4, List.mem_cons_of_mem _ h5⟩
theorem OL.no {k : Key} {xs : List (Key × V)} {ds : List (Key × List D)} {fp : List Addr} (h : OL K S H xs ds fp) (hv : valV xs k = none) : ∀ p ∈ ds, p.1 ≠ k := by
  induction h with
  | nil => exact fun p hp => by cases hp
  | @cons k0 l ys zs xs ds fp a b r q ih =>
    by_cases e : k0 = k
    · rw [valV_pos (p := (k0, V.ref l)) e] at hv
      cases hv
    · rw [valV_neg (p := (k0, V.ref l)) e] at hv
      intro p hp
      rcases (List.mem_cons.mp hp) with rfl | hp
      · exact e
      · exact ih hv p hp
theorem OL.app {k : Key} {l : Addr} {u : V} {d : D} {ys : List V} {xs : List (Key × V)} {ds : List (Key × List D)} {fp : List Addr} (h : OL K S H xs ds fp) (nd : fp.Nodup) (hv : valV xs k = some (.ref l)) (hl : H l = some (.lst ys)) (ru : Rep K S u d) :
    OL K S (upd H l (.lst (ys ++ [u]))) xs (appD ds k d) fp := by
  induction h with
  | nil => cases hv
  | @cons k0 l0 ys0 zs xs ds fp a b r q ih =>
    obtain ⟨n1, n2⟩ := (List.nodup_cons.mp nd)
    by_cases e : k0 = k
    · rw [valV_pos (p := (k0, V.ref l0)) e] at hv
      have el : l0 = l := V.ref.inj (Option.some.inj hv)
      subst el
      rw [b] at hl
      cases hl
      show OL K S _ _ (if k0 = k then (k0, zs ++ [d]) :: ds else _) _
      rw [if_pos e]
      exact .cons a upd_same (r.app (.cons ru .nil)) (q.keep (Ex.refl _) (fun x hx => (q.at_ x hx).1) fun x hx o ho => by
        rw [upd_ne (fun z : x = l0 => n1 (by rw [← z]; exact hx))]
        exact .inl ho)
    · rw [valV_neg (p := (k0, V.ref l0)) e] at hv
      show OL K S _ _ (if k0 = k then _ else (k0, zs) :: appD ds k d) _
      rw [if_neg e]
      obtain ⟨l', _, _, e1, e2, _⟩ := q.look hv
      have e1 : l = l' := V.ref.inj e1
      subst e1
      exact .cons a (by rw [upd_ne (fun z : l0 = l => n1 (by rw [z]; exact e2))]; exact b) r (ih n2 hv)
theorem OL.new {k : Key} {p : Addr} {xs : List (Key × V)} {ds : List (Key × List D)} {fp : List Addr} (h : OL K S H xs ds fp) (hs : S p = none) (hp : H p = some (.lst [])) : OL K S H (xs ++ [(k, .ref p)]) (ds ++ [(k, [])]) (fp ++ [p]) := by
  induction h with
  | nil => exact .cons hs hp .nil .nil
  | cons a b r q ih => exact .cons a b r ih
end
section
variable {G : Gx} {ρ : Env} {i : Nat} {ty te : TE} {PS_ : Post}
end
end DL

namespace DL
open PySem L2 PySem.Spec PyProof.Rows
/-- things held aside -/
def Held (w : Wd) (fp : List Addr) : Prop := ∀ x ∈ fp, x ∉ w.F ∧ w.S x = none ∧ w.H x ≠ none
theorem Held.later {w w' : Wd} {fp : List Addr} (h : Held w fp) (l : Le w w') : Held w' fp := fun x hx => by
  obtain ⟨a, b, c⟩ := h x hx
  cases q : w.H x with
  | none => exact absurd q c
  | some u =>
    exact ⟨fun z => (l.f x z).elim a fun z => c z, l.n x c a b, (l.h x u q a).ex⟩
section
variable {G : Gx} {tk tv : TE} {tt : TT} {wi : TI} {g : TG} {ρ : Env} {vs sl : List Nat} {PO : M → Env → Prop}
end
end DL

namespace DC
open PySem L2 PySem.Spec PyProof.Rows
end DC
namespace DL
open PySem L2 PySem.Spec PyProof.Rows
section
variable {G : Gx} {w w1 w2 : Wd} {σ : L2.St} {ρ : Env} {a : Addr} {ob : HO}
end
section
variable {G : Gx} {te te0 : TE} {tt tt1 : TT} {ρ : Env} {i v v1 : Nat} {vs vs1 : List Nat} {PO : M → Env → Prop} {kvs : List (Key × D)} {F : Key → Key → D}
end
/-! ### xs.extend([..]), xs a name's own list -/
section
variable {G : Gx} {ρ : Env} {i : Nat} {ta : TA} {PS_ : Post}
end
end DL

namespace DL
open PySem L2 PySem.Spec PyProof.Rows
theorem OwnK.filter {K : PySem.W.Frag} {S H : Hp} (p : Key → Bool) : ∀ {xs : List (Key × V)} {ms : List (Key × M)} {fp : List Addr}, OwnK K S H xs ms fp → ∃ fp', fp'.Sublist fp ∧ OwnK K S H (xs.filter fun q => p q.1) (ms.filter fun q => p q.1) fp'
  | _, _, _, .nil => ⟨[], List.Sublist.refl _, .nil⟩
  | _, _, _, @OwnK.cons _ _ _ k v xs m ms f g a b => by
    obtain ⟨g', h1, h2⟩ := OwnK.filter p b
    cases e : p k with
    | true =>
      refine ⟨f ++ g', List.Sublist.append (List.Sublist.refl f) h1, ?_⟩
      rw [List.filter_cons_of_pos (p := fun q : Key × V => p q.1) e, List.filter_cons_of_pos (p := fun q : Key × M => p q.1) e]
      exact .cons a h2
    | false =>
      refine ⟨g', h1.trans (List.sublist_append_right f g), ?_⟩
      rw [List.filter_cons_of_neg (p := fun q : Key × V => p q.1) (by rw [e]; decide), List.filter_cons_of_neg (p := fun q : Key × M => p q.1) (by rw [e]; decide)]
      exact h2
section
variable {G : Gx} {ρ : Env} {i v : Nat} {tt : TT} {PO : M → Env → Prop} {ms : List (Key × M)} {ds : List (Key × D)}
end
section
variable {G : Gx} {ρ : Env} {i : Nat} {ty : TE} {PS_ : Post}
end
end DL

namespace DL
open PySem L2 PySem.Spec PyProof.Rows
section
variable {G : Gx} {ρ : Env} {t : TA} {PO : M → Env → Prop}
end
end DL

namespace DL
open PySem L2 PySem.Spec PyProof.Rows
/-! ### zip of a list or tuple with a list or tuple -/
/-- true: a tuple stands at a, false: a list -/
def Sq2 (K : PySem.W.Frag) (H : Hp) : Bool → Addr → List V → Prop
  | true, a, xs => SqT K H a xs
  | false, a, xs => SqL K H a xs
def It2 (h : Heap) : Bool → Addr → Addr → Nat → Prop
  | true, it, a, i => h.IsTupleIter it a i
  | false, it, a, i => h.IsListIter it a i
theorem It2.of {h h' : Heap} {t : Bool} {it a : Addr} {i : Nat} (x : It2 h t it a i) (k : ∀ o, h.get? it = some o → h'.get? it = some o) : It2 h' t it a i := by
  cases t
  · exact Heap.IsListIter.at x k
  · exact Heap.IsTupleIter.at x k
theorem It2.obj {h : Heap} {t : Bool} {it a : Addr} {i : Nat} (x : It2 h t it a i) : ∃ o, h.get? it = some o ∧ ∀ v, o.data ≠ .cell v := by
  cases t
  · obtain ⟨o, e, _, d⟩ := x
    exact (⟨o, e, fun v z => by rw [d] at z; cases z⟩)
  · obtain ⟨o, e, _, d⟩ := x
    exact (⟨o, e, fun v z => by rw [d] at z; cases z⟩)
section
variable {G : Gx} {ρ : Env} {t : TA} {PI_ : List D → Env → Prop}
theorem Sq2.up {K : PySem.W.Frag} {w w2 : Wd} {t : Bool} {a : Addr} {us : List V} (h : Sq2 K w.S t a us) (l : Ex w.S w2.S) (s : Sub w2.S w2.H) : Sq2 K w2.H t a us := by
  cases t
  · exact s.sl (l.sl h)
  · exact s.st (l.st h)
end
end DL

namespace DL
open PySem L2 PySem.Spec PyProof.Rows
section
variable {K : PySem.W.Frag} {k : D → Prop}
end
end DL

namespace DL
open PySem L2 PySem.Spec PyProof.Rows
section
variable {G : Gx} {ρ : Env} {te : TE} {t : TA} {P : List D → Env → Prop}
end
end DL

namespace DL
open PySem L2 PySem.Spec PyProof.Rows
end DL

namespace L2
open PySem.Spec PySem PyProof.Rows
section
variable {X : Cx}
end
end L2

namespace DL
open PySem L2
section
variable {G : Gx} {ρ : Env} {te te2 : TE} {t : TA} {PO : M → Env → Prop} {P : D → Env → Prop}
end
end DL
namespace DL
end DL
namespace DL
open PySem L2
end DL

namespace DL
open PySem L2
theorem TabM.inj {q r : Str} (h : TabM q = TabM r) : q = r := by
  unfold TabM at h
  injection h with h1 _
  injection h1 with _ _ h3 _
  injection h3 with h4
  have h5 := congrArg (fun a : Array Value => a[0]?) h4
  simpa using h5
end DL

namespace DC
open PySem PySem.Spec PyProof.Rows LamX L2
/-- an empty table -/
abbrev tab0 : Obj := { cls := .none, data := .fields #[] }
end DC

namespace DL
open PySem L2 PySem.Spec PyProof.Rows LamX
end DL

namespace DC
open PySem L2 PySem.Spec PyProof.Rows
/-! ### a def whose body wants to know its code object -/
section
variable {prg : Program} {wd : World} {K : PySem.W.Frag} {mg : Str → Option Value} {bs : Heap}
end
end DC
namespace DL
open PySem L2 PySem.Spec PyProof.Rows
section
variable {prg : Program} {wd : World} {K : PySem.W.Frag} {mg : Str → Option Value} {bs : Heap} {x qual : Str} {params : Arguments} {body : List Stmt} {scp : Scope} {dfl : List V} {kwd : List (Str × V)} {f : Addr} {fd : FuncData} {N names : List Str} {lv n : Nat}
end
end DL

namespace DL
open PySem L2 PySem.Spec PyProof.Rows
/-! ### a head that leaves the empty tables of code objects out of K -/
/-- the code objects of K with the table that each tells of -/
def csOf (K : PySem.W.Frag) : List (Addr × Addr) := (K.map fun p => (p.1, He.tabOf K p.1)).filter fun p => PySem.W.codeHdIn K p.1 p.2
/-- the name that a code object of K has -/
def nameC (K : PySem.W.Frag) (c : Addr) : Str := match K.lookup c with
  | some ⟨_, _, .fields vs, _⟩ => (match vs.toList with
    | _ :: .str n _ :: _ => n
    | _ => "")
  | _ => ""
/-- the lambda's name that belongs to a table -/
def nmOf (K : PySem.W.Frag) (P : Addr) : Str := match (csOf K).find? fun p => p.2 == P with
  | some p => (nameC K p.1 ++ ".<locals>.") ++ "<lambda>"
  | none => ""
theorem nameC_of {K : PySem.W.Frag} {c : Addr} {y : Str} (h : PySem.W.codeIn K (.ref c) y = true) : nameC K c = y := by
  have h : (match K.lookup c with | some ⟨_, _, .fields vs, _⟩ => (match vs.toList with | _ :: .str n _ :: _ => n == y | _ => false) | _ => false) = true := h
  unfold nameC
  split at h
  · rename_i vs _ e
    split at h
    · rename_i a n t r hv
      exact beq_iff_eq.mp h
    · cases h
  · cases h
theorem tabOf_of {K : PySem.W.Frag} {c P : Addr} (h : PySem.W.codeHdIn K c P = true) : He.tabOf K c = P := by
  unfold PySem.W.codeHdIn at h
  unfold He.tabOf
  split at h
  · rename_i vs _ e
    rw [e]
    dsimp only
    simp only [Bool.and_eq_true] at h -- all parts
    obtain ⟨⟨⟨⟨⟨h1, _⟩, _⟩, _⟩, _⟩, _⟩ := h
    split at h1
    · rename_i P' q
      rw [Array.getD_eq_getD_getElem?, q]
      exact beq_iff_eq.mp h1
    · cases h1
  · cases h
theorem csOf_mem {K : PySem.W.Frag} {c P : Addr} (h : PySem.W.codeHdIn K c P = true) : (c, P) ∈ csOf K := by
  refine List.mem_filter.mpr ⟨List.mem_map.mpr ?_, h⟩
  have h2 := h
  unfold PySem.W.codeHdIn at h2
  split at h2
  · rename_i vs _ e
    exact ⟨_, He.lookup_mem e, by rw [tabOf_of h]⟩
  · cases h2
structure SaysT (fa : List He.Fa) (fn : List He5.DefA) (ex : PySem.W.Frag → Bool) (h : Heap) (K : PySem.W.Frag) : Prop where
  s : SaysS fa fn ex K
  one : ∀ c P y, PySem.W.codeHdIn K c P = true → PySem.W.codeIn K (.ref c) y = true → nmOf K P = (y ++ ".<locals>.") ++ "<lambda>"
  hd : ∀ p ∈ csOf K, PySem.W.codeHdIn K p.1 p.2 = true
  out : ∀ p ∈ csOf K, K.lookup p.2 = none
  empty : ∀ p ∈ csOf K, h.get? p.2 = some DC.tab0
end DL

namespace DL
open PySem L2 PySem.Spec PyProof.Rows
/-! ### the head's run looked at in pieces, each in a theorem of its own; the addresses are written out -/
section
variable {S A B : Type} {E : Option S} {f : S → A} {g : S → B} {a : A} {b : B}
theorem map_both (h1 : E.map f = some a) (h2 : E.map g = some b) : E.map (fun s => (f s, g s)) = some (a, b) := by
  cases E with
  | none => cases h1
  | some s =>
    have e1 : f s = a := Option.some.inj h1
    have e2 : g s = b := Option.some.inj h2
    show some (f s, g s) = _
    rw [e1, e2]
theorem map_fn {C : Type} {h : S → C} {c : C} (h1 : E.map f = some a) (k : ∀ s, f s = a → h s = c) : E.map h = some c := by
  cases E with
  | none => cases h1
  | some s => exact congrArg some (k s (Option.some.inj h1))
end
/-- code objects with their tables and names, each off its own entry -/
def csQ (K : PySem.W.Frag) : List ((Addr × Addr) × Str) := K.filterMap fun q => match PySem.W.codeHdIn [q] q.1 (He.tabOf [q] q.1) with
  | true => some ((q.1, He.tabOf [q] q.1), nameC [q] q.1)
  | false => none
def oneQ (K : PySem.W.Frag) : Bool := (csQ K).all fun a => (csQ K).all fun b => match Nat.beq a.1.2 b.1.2 with
  | true => a.2 == b.2
  | false => true
def emptQ (g : Addr → Option Obj) (K : PySem.W.Frag) : Bool := (csQ K).all fun a => match g a.1.2 with
  | some o => He.emptyTab o
  | none => false
theorem lookup1 {c : Addr} {o : Obj} : ([(c, o)] : PySem.W.Frag).lookup c = some o := by
  rw [List.lookup_cons_self]
theorem csQ_mem {K : PySem.W.Frag} {c P : Addr} (h : PySem.W.codeHdIn K c P = true) : ((c, P), nameC K c) ∈ csQ K := by
  obtain ⟨o, e⟩ : ∃ o, K.lookup c = some o := by
    have h2 := h
    unfold PySem.W.codeHdIn at h2
    split at h2
    · rename_i e
      exact ⟨_, e⟩
    · cases h2
  have e1 : PySem.W.codeHdIn [(c, o)] c P = true := by
    rw [← h]
    unfold PySem.W.codeHdIn
    rw [lookup1, e]
  have e3 : nameC [(c, o)] c = nameC K c := by
    unfold nameC
    rw [lookup1, e]
  refine List.mem_filterMap.mpr ⟨_, He.lookup_mem e, ?_⟩
  dsimp only
  rw [tabOf_of e1, e1, e3]
theorem csQ_of {K : PySem.W.Frag} {p : Addr × Addr} (h : p ∈ csOf K) : (p, nameC K p.1) ∈ csQ K := csQ_mem (List.mem_filter.mp h).2
/-- the fragment at written addresses -/
def kAt (as : List Addr) (s : PySem.W.SharedT) : PySem.W.Frag := He.frT (HandSHeadRun.getT s) as
def exOf (l : List (PySem.W.Frag → Bool)) (K : PySem.W.Frag) : Bool := l.all fun e => e K
def obsU (as : List Addr) (fa : List He.Fa) (fn : List He5.DefA) (ex : PySem.W.Frag → Bool) (g : Addr → Option Obj) : AlS := (He5.obsA fa fn (He.frT g as), ex (He.frT g as) && (oneQ (He.frT g as) && emptQ g (He.frT g as)))
theorem saysU_of {as : List Addr} {fa : List He.Fa} {fn : List He5.DefA} {ex : PySem.W.Frag → Bool} {h : Heap} (e : obsU as fa fn ex h.get? = (He5.valA fn, true)) : SaysT fa fn ex h (He.frT h.get? as) := by
  have e1 := congrArg (fun z : AlS => z.1) e
  have e2 := congrArg (fun z : AlS => z.2) e
  obtain ⟨a1, a2⟩ := Bool.and_eq_true_iff.mp e2
  obtain ⟨a3, a4⟩ := Bool.and_eq_true_iff.mp a2
  have key : ∀ p ∈ csOf (He.frT h.get? as), ∃ o, h.get? p.2 = some o ∧ He.emptyTab o = true := fun p hp => by
    have q := List.all_eq_true.mp a4 _ (csQ_of hp)
    dsimp only at q
    cases z : h.get? p.2 with
    | none => rw [z] at q; cases q
    | some o => rw [z] at q; exact ⟨o, rfl, q⟩
  refine ⟨⟨e1, a1⟩, fun c P y k1 k2 => ?_, fun p hp => (List.mem_filter.mp hp).2, fun p hp => ?_, fun p hp => ?_⟩
  · unfold nmOf
    cases q : (csOf (He.frT h.get? as)).find? fun p => p.2 == P with
    | none =>
      have := List.find?_eq_none.mp q _ (csOf_mem k1)
      simp at this
    | some p =>
      have pm := List.mem_of_find?_eq_some q
      have pe : p.2 = P := by simpa using List.find?_some q
      have z := List.all_eq_true.mp (List.all_eq_true.mp a3 _ (csQ_of pm)) _ (csQ_mem k1)
      dsimp only at z ⊢
      rw [pe, show Nat.beq P P = true from Nat.beq_refl P] at z
      rw [beq_iff_eq.mp z, nameC_of k2]
  · obtain ⟨o, z, y⟩ := key p hp
    exact He.frT_none z y
  · obtain ⟨o, z, y⟩ := key p hp
    rw [z, He.emptyTab_eq y]
def hookU (as : List Addr) (fa : List He.Fa) (fn : List He5.DefA) (ex : PySem.W.Frag → Bool) : PySem.W.Hook where
  α := AlS
  obs := fun s => obsU as fa fn ex s.heap.get?
  val := fun _ => (He5.valA fn, true)
  says := fun _ h => ∃ K : PySem.W.Frag, K.In h ∧ SaysT fa fn ex h K
  of := fun _ _ e => ⟨_, He.frT_in, saysU_of e⟩
  keeps := fun _ _ _ ⟨K, inK, c⟩ old => ⟨K, PySem.W.Frag.In.keeps inK old, ⟨c.s, c.one, c.hd, c.out, fun p hp => old _ _ (c.empty p hp)⟩⟩
/-- the top's end -/
noncomputable def endE (R : PySem.W.OpenRow) (M : Nat) (w : World) (os : OsState) : Option PySem.W.SharedT := HandSHeadRun.endF (HandSHeadRun.stepQ (HandSHeadRun.denQ HandSHeadRun.tabQ) R.prog w) M R.prog w os
/-- a piece: some facts, some defs, some further looks -/
def obP (as : List Addr) (fa : List He.Fa) (fn : List He5.DefA) (l : List (PySem.W.Frag → Bool)) (s : PySem.W.SharedT) : AlS := (He5.obsA fa fn (kAt as s), exOf l (kAt as s))
def obT (as : List Addr) (s : PySem.W.SharedT) : Bool := oneQ (kAt as s) && emptQ (HandSHeadRun.getT s) (kAt as s)
theorem piece_app {R : PySem.W.OpenRow} {M : Nat} {as : List Addr} {w : World} {os : OsState} {fa1 fa2 : List He.Fa} {fn1 fn2 : List He5.DefA} {l1 l2 : List (PySem.W.Frag → Bool)} (h1 : (endE R M w os).map (obP as fa1 fn1 l1) = some (He5.valA fn1, true)) (h2 : (endE R M w os).map (obP as fa2 fn2 l2) = some (He5.valA fn2, true)) :
    (endE R M w os).map (obP as (fa1 ++ fa2) (fn1 ++ fn2) (l1 ++ l2)) = some (He5.valA (fn1 ++ fn2), true) := by
  refine map_fn (map_both h1 h2) fun s e => ?_
  obtain ⟨e1, e2⟩ := (Prod.mk.inj e)
  have a1 := congrArg (fun z : AlS => z.1.1) e1
  have a2 := congrArg (fun z : AlS => z.1.2) e1
  have a3 := congrArg (fun z : AlS => z.2) e1
  have b1 := congrArg (fun z : AlS => z.1.1) e2
  have b2 := congrArg (fun z : AlS => z.1.2) e2
  have b3 := congrArg (fun z : AlS => z.2) e2
  unfold obP He5.obsA He5.valA exOf at *
  dsimp only at a1 a2 a3 b1 b2 b3
  obtain ⟨c1, c2⟩ := Bool.and_eq_true_iff.mp a1
  obtain ⟨d1, d2⟩ := Bool.and_eq_true_iff.mp b1
  rw [List.all_append, List.all_append, List.all_append, c1, c2, d1, d2, a3, b3, List.map_append, List.map_append, a2, b2]
  rfl
theorem run_of {R : PySem.W.OpenRow} {q : Program} {M : Nat} {as : List Addr} {w : World} {fa : List He.Fa} {fn : List He5.DefA} {l : List (PySem.W.Frag → Bool)} {loose : List Str}
    (h0 : ∀ os, (endE R M w os).map (fun s => (HandSHeadRun.looksF R.prog (PySem.W.boot_heap w.params) s.abs, HandSHeadRun.seenQ q loose (importedModules R.prog.main.body) (fun s => PySem.W.xlAt q [] s && PySem.W.recOk R.toRowW.records s) s.abs)) = some (true, PySem.W.openGood q loose))
    (h1 : ∀ os, (endE R M w os).map (obT as) = some true) (h2 : ∀ os, (endE R M w os).map (obP as fa fn l) = some (He5.valA fn, true)) :
    HandSHeadRun.RunEq R q (hookU as fa fn (exOf l)) (fun s => obsU as fa fn (exOf l) (HandSHeadRun.getT s)) M loose w := fun os => by
  refine map_fn (map_both (h0 os) (map_both (h1 os) (h2 os))) fun s e => ?_
  obtain ⟨e0, e1⟩ := Prod.mk.inj e
  obtain ⟨e2, e3⟩ := Prod.mk.inj e1
  obtain ⟨c1, c2⟩ := Prod.mk.inj e0
  obtain ⟨d1, d2⟩ := Prod.mk.inj e3
  have z : obsU as fa fn (exOf l) (HandSHeadRun.getT s) = (He5.valA fn, true) := by
    have y : obsU as fa fn (exOf l) (HandSHeadRun.getT s) = (He5.obsA fa fn (kAt as s), exOf l (kAt as s) && obT as s) := rfl
    rw [y, e2, d1, d2]
    rfl
  exact Prod.ext c1 (Prod.ext c2 z)
end DL

namespace DC
open PySem L2 PySem.Spec PyProof.Rows
section
variable {X : Cx} {CX : CXT} {lv n : Nat} {f C : Addr} {fd : FuncData} {names ks : List Str} {sp : Sp} {E : St → XK} {x m : Str} {p pos apos : Pos} {o e : Expr} {es : List Expr} {kws : List Keyword} {ta : TE} {t tk : TA} {ix : List Nat}
end
end DC
namespace DL
open PySem L2
section
variable {G : Gx} {ρ : Env} {t tk : TA} {PO : M → Env → Prop} {P : D → Env → Prop} {n m N k : Nat} {ix : List Nat} {CA : Addr} {ta : TE} {mn : Str}
end
end DL

namespace DL
open PySem L2
/-! ### parts of what is owned, written in their places -/
section
variable {K : PySem.W.Frag} {S H : Hp}
end
section
variable {G : Gx} {ρ : Env} {i : Nat} {te tb : TE} {sub m : M} {put : M → M} {PS_ : Post} {P : D → Env → Prop} {PO : M → Env → Prop}
end
end DL

namespace DC
open PySem L2 PySem.Spec PyProof.Rows
end DC
namespace DL
open PySem L2 PySem.Spec PyProof.Rows
section
variable {G : Gx} {ρ : Env} {P : D → Env → Prop} {c : Str} {f : Addr} {ta tb : TE}
end
end DL
namespace DC
open PySem L2 PySem.Spec PyProof.Rows
end DC
namespace DL
open PySem L2 PySem.Spec PyProof.Rows
/-- what is asked of an own exception class for it -/
def isXB (K : PySem.W.Frag) (C : Addr) : Bool := decide (PySem.W.findIn K (.ref C) "__getattribute__" = some (some (.builtin "BaseException.__getattribute__"))) && decide (PySem.W.findIn K (.ref C) "__getattr__" = some none) && decide (PySem.W.subIn K (.ref C) (.type "BaseException") = some true) && decide (PySem.W.hasDictIn K C = true) && decide (PySem.W.findIn K (.ref C) "__class__" = some (some (.builtin "object.__class__"))) && decide (PySem.W.specialIn K (.builtin "object.__class__") "__get__" = some (some (.builtin "getset_descriptor.__get__"))) && decide (PySem.W.takesIn K (.builtin "object.__class__") = some true) && decide (PySem.W.mroIn K C (.type "object") = some true)
end DL

namespace DL
open PySem L2
/-! ### a name's own thing looked at as data, the other names as they are -/
mutual
/-- what is owned, down to still data -/
def M.stil : M → Bool
  | .sh d => d.still
  | .lst ms => M.stilL ms
  | .dic ms => M.stilK ms
  | .dit ms => M.stilT ms
  | .obj _ ms => M.stilF ms
  | .tup ms => M.stilL ms
  | .ex _ => false
def M.stilL : List M → Bool
  | [] => true
  | m :: r => M.stil m && M.stilL r
def M.stilK : List (Key × M) → Bool
  | [] => true
  | (_, m) :: r => M.stil m && M.stilK r
def M.stilT : List (List Key × M) → Bool
  | [] => true
  | (_, m) :: r => M.stil m && M.stilT r
def M.stilF : List (Str × M) → Bool
  | [] => true
  | (_, m) :: r => M.stil m && M.stilF r
end
section
variable {K : PySem.W.Frag} {S S' H : Hp} (hs : ∀ a xs, SqT K S a xs → SqT K S' a xs) (n : ∀ a, S a = none → S' a = none)
include hs n
mutual
theorem OwnR.stillM : ∀ {v : V} {m : M} {fp : List Addr}, OwnR K S H v m fp → m.stil = true → OwnR K S' H v m fp
  | _, _, _, .sh r, h => .sh (r.stillAny hs h)
  | _, _, _, .lst h1 h2 r, h => .lst (n _ h1) h2 (OwnL.stillM r h)
  | _, _, _, .dic h1 h2 r, h => .dic (n _ h1) h2 (OwnK.stillM r h)
  | _, _, _, .dit h1 h2 r, h => .dit (n _ h1) h2 (OwnT.stillM r h)
  | _, _, _, .obj h1 h2 r, h => .obj (n _ h1) h2 (OwnF.stillM r h)
  | _, _, _, .tup h1 r, h => .tup (hs _ _ h1) (OwnL.stillM r h)
  | _, _, _, .ex _ _, h => by cases h
theorem OwnL.stillM : ∀ {v : List V} {m : List M} {fp : List Addr}, OwnL K S H v m fp → M.stilL m = true → OwnL K S' H v m fp
  | _, _, _, .nil, _ => .nil
  | _, _, _, .cons r q, h => by
    obtain ⟨a, b⟩ := (Bool.and_eq_true_iff.mp h)
    exact .cons (OwnR.stillM r a) (OwnL.stillM q b)
theorem OwnK.stillM : ∀ {v : List (Key × V)} {m : List (Key × M)} {fp : List Addr}, OwnK K S H v m fp → M.stilK m = true → OwnK K S' H v m fp
  | _, _, _, .nil, _ => .nil
  | _, _, _, .cons r q, h => by
    obtain ⟨a, b⟩ := (Bool.and_eq_true_iff.mp h)
    exact .cons (OwnR.stillM r a) (OwnK.stillM q b)
theorem OwnT.stillM : ∀ {v : List (List Key × V)} {m : List (List Key × M)} {fp : List Addr}, OwnT K S H v m fp → M.stilT m = true → OwnT K S' H v m fp
  | _, _, _, .nil, _ => .nil
  | _, _, _, .cons r q, h => by
    obtain ⟨a, b⟩ := (Bool.and_eq_true_iff.mp h)
    exact .cons (OwnR.stillM r a) (OwnT.stillM q b)
theorem OwnF.stillM : ∀ {v : List (Str × V)} {m : List (Str × M)} {fp : List Addr}, OwnF K S H v m fp → M.stilF m = true → OwnF K S' H v m fp
  | _, _, _, .nil, _ => .nil
  | _, _, _, .cons r q, h => by
    obtain ⟨a, b⟩ := (Bool.and_eq_true_iff.mp h)
    exact .cons (OwnR.stillM r a) (OwnF.stillM q b)
end
end
/-- nothing of the later names leans on what the earlier did not -/
inductive KeptE : Env → Env → Prop
  | nil {ρ : Env} : KeptE ρ []
  | no {a : Option M} {r s : Env} : KeptE r s → KeptE (a :: r) (none :: s)
  | sm {d : D} {r s : Env} : KeptE r s → KeptE (some (.sh d) :: r) (some (.sh d) :: s)
  | st {a : Option M} {m : M} {r s : Env} : m.stil = true → KeptE r s → KeptE (a :: r) (some m :: s)
section
variable {G : Gx} {ρ : Env} {P : D → Env → Prop} {PO : M → Env → Prop} {te : TE} {i : Nat} {m : M} {d : D}
end
end DL

namespace DC
open PySem L2 PySem.Spec PyProof.Rows SeqAt PySem.MeetsSeq
section
variable {X : Cx} {lv : Nat} {f C : Addr} {fd : FuncData} {names : List Str} {sp : Sp}
end
end DC
namespace DL
open PySem L2 PySem.Spec PyProof.Rows
section
variable {G : Gx} {ρ : Env} {P : D → Env → Prop} {c : Str} {ta tb : TE}
end
end DL

namespace DL
open PySem L2
section
variable {G : Gx} {ρ : Env}
end
end DL

namespace DC
open PySem L2 PySem.Spec PyProof.Rows
end DC
namespace DL
open PySem L2
section
variable {G : Gx} {ρ : Env} {P : D → Env → Prop} {ta : TA} {te : TE} {CA : Addr} {c f g : Str}
end
end DL

/-! products of ints of up to a hundred million bits together -/
namespace DC
open PySem L2 PySem.Spec PyProof.Rows
end DC
namespace DL
open PySem L2
end DL

/-! own exceptions made with their arguments by name -/
namespace DC
open PySem PySem.Spec PySem.HandSPX
section
variable {w : World} {A : Around} {R : Result → Shared → Prop} {h : Heap} {g : Array GenState} {d : Drawn} {t : Nat} {os : OsState} {prog : Program}
  {nm q : Str} {C N fI : Addr} {bs bm bmB : List Value} {hd : Bool} {sn : List Str} {sub : List Value} {ab : Bool} {col : Option Bool} {dd : Option Addr} {k0 k1 k2 k3 k5 : Option Value} {B nw ini : String} {kw : List (Str × Value)}
end
end DC
namespace DC
open PySem L2 PySem.Spec PyProof.Rows
end DC
namespace DL
open PySem L2
section
variable {G : Gx} {ρ : Env} {P : D → Env → Prop} {tk : TA} {CA : Addr} {c f g : Str} {m : Nat} {ix : List Nat}
end
section
variable {K : PySem.W.Frag}
/-- the classes stand over MarketError alone, each at a place of its own -/
def isMroB (K : PySem.W.Frag) (cs : List Str) : Bool := (cs.all fun c => isXB K (He.ga K c) && ((match PySem.W.clsIn K (He.ga K c) with
    | some cd => cd.mro == [.ref (He.ga K c), .ref (He.ga K "MarketError"), .type "ValueError", .type "Exception", .type "BaseException", .type "object"]
    | none => false) && PySem.W.typeIn K (.ref (He.ga K c)) == some (.type "type"))) &&
  (((PySem.W.clsIn K (He.ga K "MarketError")).isSome && PySem.W.typeIn K (.ref (He.ga K "MarketError")) == some (.type "type")) && (decide ((("MarketError" : Str) :: cs).map (He.ga K)).Nodup && PySem.W.kitMeta "ValueError"))
end
end DL

namespace DL
open PySem PySem.W PySem.Calls PySem.Spec PyProof.Rows HandSHeadRun
/-! ### a head's run, each step asked once -/
section
variable (n0 : Nat) (ann : Option Value) (st : SharedT → Thread → Option (SharedT × Thread))
/-- a step that is asked whether it may be -/
def stepA (s : SharedT) (t : Thread) : Option (SharedT × Thread) := match stepOk n0 ann t with
  | false => none
  | true => st s t
/-- a step, asked only where the answer is not plain from its kind -/
def stepC (s : SharedT) : Thread → Option (SharedT × Thread)
  | ⟨.call c h g l k, code, pos, stack⟩ => st s ⟨.call c h g l k, code, pos, stack⟩
  | ⟨.load a q k, code, pos, stack⟩ => st s ⟨.load a q k, code, pos, stack⟩
  | ⟨.alloc o k, code, pos, stack⟩ => st s ⟨.alloc o k, code, pos, stack⟩
  | ⟨.rule _ k, code, pos, stack⟩ => some (s, ⟨k (), code, pos, stack⟩)
  | ⟨.at q k, code, _, stack⟩ => some (s, ⟨k (), code, q, stack⟩)
  | ⟨.point _ k, code, pos, stack⟩ => some (s, ⟨k (), code, pos, stack⟩)
  | ⟨.ask k, code, pos, stack⟩ => st s ⟨.ask k, code, pos, stack⟩
  | ⟨.pure (.done f), code, pos, .ret k h g l c p kept :: rest⟩ => st s ⟨.pure (.done f), code, pos, .ret k h g l c p kept :: rest⟩
  | t => stepA n0 ann st s t
noncomputable def goC : Nat → SharedT → Thread → Option SharedT
  | 0, _, _ => none
  | k + 1, s, t => match through t with
    | true => some s
    | false => match stepC n0 ann st s t with
      | none => none
      | some r => frS r.1 fun z => goC k z r.2
end
section
variable {tb : String → Option Builtin} {p : Program} {w : World} {n0 : Nat} {ann : Option Value}
theorem stepC_eq (s : SharedT) (t : Thread) : stepC n0 ann (PySem.W.stepT (denote tb) p w) s t = stepA n0 ann (PySem.W.stepT (denote tb) p w) s t := by
  rcases t with ⟨cur, code, pos, stack⟩
  cases cur with
  | pure f =>
    cases f with
    | again c => rfl
    | done f =>
      cases stack with
      | nil => rfl
      | cons fr rest => cases fr <;> rfl
  | _ => rfl
theorem goC_eq : ∀ (m : Nat) (s : SharedT) (t : Thread), goC n0 ann (PySem.W.stepT (denote tb) p w) m s t = goF (PySem.W.stepT (denote tb) p w) n0 ann m s t
  | 0, _, _ => rfl
  | k + 1, s, t => by
    unfold goC goF
    rw [stepC_eq]
    unfold stepA
    cases through t with
    | true => rfl
    | false =>
      cases stepOk n0 ann t with
      | false => rfl
      | true =>
        dsimp only
        cases PySem.W.stepT (denote tb) p w s t with
        | none => rfl
        | some r =>
          dsimp only
          rw [frS_eq, frS_eq]
          exact goC_eq k r.1 r.2
end
/-- the top's end, the shorter way -/
noncomputable def endC (R : PySem.W.OpenRow) (M : Nat) (w : World) (os : OsState) : Option PySem.W.SharedT := match putAll (boot_heap w.params).objs.toList .nil 0 with
  | some (t, n) => frNat n fun n0 => goC n0 (bootAnn w) (stepQ (denQ tabQ) R.prog w) M (bootT w os (t, n0)) (topStub R.prog)
  | none => none
theorem endC_eq (R : PySem.W.OpenRow) (M : Nat) (w : World) (os : OsState) : endC R M w os = endE R M w os := by
  unfold endC endE endF
  rw [← stepQ_eq, ← denQ_eq, ← tabQ_eq]
  cases putAll (boot_heap w.params).objs.toList .nil 0 with
  | none => rfl
  | some r =>
    obtain ⟨t, n⟩ := r
    dsimp only
    rw [frNat_eq, frNat_eq]
    exact goC_eq _ _ _
theorem by_endC {R : PySem.W.OpenRow} {M : Nat} {w : World} {os : OsState} {B : Type} {f : PySem.W.SharedT → B} {b : B} (h : (endC R M w os).map f = some b) : (endE R M w os).map f = some b := endC_eq R M w os ▸ h
end DL

namespace K48
open PySem PySem.Spec PyProof.Rows L2 DL
def top (i : Nat) : Stmt := PySem.Challenge.pw_evenmarket_k48_errors_of_all_modules.main.body.getD i (.Pass ⟨0, 0, 0, 0⟩)
abbrev s_BadDay_init : Stmt := inClass (top 2) 0
abbrev s_BadCause_init : Stmt := inClass (top 3) 0
abbrev s_BadPostings_init : Stmt := inClass (top 4) 0
abbrev s_BadAccount_init : Stmt := inClass (top 5) 0
abbrev s_BadAmount_init : Stmt := inClass (top 6) 0
abbrev s_BadUnit_init : Stmt := inClass (top 7) 0
abbrev s_BadOwner_init : Stmt := inClass (top 8) 0
abbrev s_BadName_init : Stmt := inClass (top 9) 0
abbrev s_BadPrice_init : Stmt := inClass (top 10) 0
abbrev s_BadRow_init : Stmt := inClass (top 11) 0
abbrev s_BadStatement_init : Stmt := inClass (top 12) 0
abbrev s_NotCarried_init : Stmt := inClass (top 13) 0
abbrev s_NotWhole_init : Stmt := inClass (top 14) 0
abbrev s_Unbalanced_init : Stmt := inClass (top 15) 0
abbrev s_BadLine_init : Stmt := inClass (top 17) 0
abbrev s_BadNumber_init : Stmt := inClass (top 21) 0
abbrev s_BadLegs_init : Stmt := inClass (top 22) 0
abbrev s_BadDues_init : Stmt := inClass (top 23) 0
abbrev s_BadHoldings_init : Stmt := inClass (top 24) 0
abbrev s_BadQueues_init : Stmt := inClass (top 25) 0
abbrev s_BadOwners_init : Stmt := inClass (top 26) 0
abbrev s_NoDue_init : Stmt := inClass (top 27) 0
abbrev s_Duplicate_init : Stmt := inClass (top 28) 0
abbrev s_NotTogether_init : Stmt := inClass (top 29) 0
abbrev s_Settles_init : Stmt := inClass (top 30) 0
abbrev s_TooMany_init : Stmt := inClass (top 31) 0
abbrev s_BadOrder_init : Stmt := inClass (top 33) 0
abbrev s_BadSide_init : Stmt := inClass (top 34) 0
abbrev s_NameTaken_init : Stmt := inClass (top 35) 0
abbrev s_UnknownOrder_init : Stmt := inClass (top 36) 0
abbrev s_Crossing_init : Stmt := inClass (top 37) 0
abbrev s_BadBid_init : Stmt := inClass (top 39) 0
abbrev s_TooManyBids_init : Stmt := inClass (top 40) 0
abbrev s_BidTaken_init : Stmt := inClass (top 41) 0
abbrev s_BothSides_init : Stmt := inClass (top 42) 0
abbrev s_BadWidth_init : Stmt := inClass (top 45) 0
abbrev s_UnknownBid_init : Stmt := inClass (top 46) 0
abbrev s_BadPosition_init : Stmt := inClass (top 49) 0
abbrev s_BadPrices_init : Stmt := inClass (top 50) 0
abbrev s_UnknownUnit_init : Stmt := inClass (top 51) 0
abbrev s_BadMove_init : Stmt := inClass (top 53) 0
abbrev s_BadCount_init : Stmt := inClass (top 54) 0
abbrev s_BadStanding_init : Stmt := inClass (top 55) 0
abbrev s_BadClosing_init : Stmt := inClass (top 57) 0
abbrev s_BadRules_init : Stmt := inClass (top 59) 0
abbrev s_BadFact_init : Stmt := inClass (top 60) 0
abbrev s_BadFacts_init : Stmt := inClass (top 61) 0
abbrev s_NoSlip_init : Stmt := inClass (top 62) 0
abbrev s_Filled_init : Stmt := inClass (top 63) 0
abbrev s_NoDeed_init : Stmt := inClass (top 64) 0
abbrev s_DayClosed_init : Stmt := inClass (top 65) 0
abbrev s_NoTrade_init : Stmt := inClass (top 66) 0
abbrev s_NotKnown_init : Stmt := inClass (top 67) 0
abbrev s_BadQuestion_init : Stmt := inClass (top 68) 0
abbrev s_ManySlips_init : Stmt := inClass (top 69) 0
abbrev s_BadLots_init : Stmt := inClass (top 71) 0
abbrev s_BadCost_init : Stmt := inClass (top 72) 0
abbrev s_BadWay_init : Stmt := inClass (top 73) 0
abbrev s_NotThere_init : Stmt := inClass (top 74) 0
abbrev s_BadEvent_init : Stmt := inClass (top 75) 0
abbrev s_BadIndex_init : Stmt := inClass (top 76) 0
abbrev s_BadPool_init : Stmt := inClass (top 78) 0
abbrev s_UnlikeUnits_init : Stmt := inClass (top 79) 0
abbrev s_BadDebt_init : Stmt := inClass (top 83) 0
abbrev s_NoDebtor_init : Stmt := inClass (top 84) 0
abbrev s_BadViewer_init : Stmt := inClass (top 86) 0
abbrev s_Hidden_init : Stmt := inClass (top 87) 0
abbrev s_Llaw_source : Stmt := top 89
abbrev s_Llaw_draw : Stmt := top 90
abbrev s_Llaw_thing : Stmt := top 91
abbrev s_Llaw_by_place : Stmt := top 92
abbrev s_Llaw_by_name : Stmt := top 93
abbrev s_Llaw_others : Stmt := top 94
abbrev s_Llaw_others_by_name : Stmt := top 95
abbrev s_Llaw_shared : Stmt := top 96
abbrev s_Llaw_first_kinds : Stmt := top 97
abbrev s_Llaw_last_kinds : Stmt := top 98
abbrev s_Llaw_is : Stmt := top 99
abbrev s_Flaw : Stmt := top 100
def dd_BadDay_init : He5.DefA := ⟨fun K => He.fAd K ("BadDay", some "__init__"), "__init__", "BadDay.__init__", defArgs s_BadDay_init, defBody s_BadDay_init, defScope s_BadDay_init, [], []⟩
def dd_BadCause_init : He5.DefA := ⟨fun K => He.fAd K ("BadCause", some "__init__"), "__init__", "BadCause.__init__", defArgs s_BadCause_init, defBody s_BadCause_init, defScope s_BadCause_init, [], []⟩
def dd_BadPostings_init : He5.DefA := ⟨fun K => He.fAd K ("BadPostings", some "__init__"), "__init__", "BadPostings.__init__", defArgs s_BadPostings_init, defBody s_BadPostings_init, defScope s_BadPostings_init, [], []⟩
def dd_BadAccount_init : He5.DefA := ⟨fun K => He.fAd K ("BadAccount", some "__init__"), "__init__", "BadAccount.__init__", defArgs s_BadAccount_init, defBody s_BadAccount_init, defScope s_BadAccount_init, [], []⟩
def dd_BadAmount_init : He5.DefA := ⟨fun K => He.fAd K ("BadAmount", some "__init__"), "__init__", "BadAmount.__init__", defArgs s_BadAmount_init, defBody s_BadAmount_init, defScope s_BadAmount_init, [], []⟩
def dd_BadUnit_init : He5.DefA := ⟨fun K => He.fAd K ("BadUnit", some "__init__"), "__init__", "BadUnit.__init__", defArgs s_BadUnit_init, defBody s_BadUnit_init, defScope s_BadUnit_init, [], []⟩
def dd_BadOwner_init : He5.DefA := ⟨fun K => He.fAd K ("BadOwner", some "__init__"), "__init__", "BadOwner.__init__", defArgs s_BadOwner_init, defBody s_BadOwner_init, defScope s_BadOwner_init, [], []⟩
def dd_BadName_init : He5.DefA := ⟨fun K => He.fAd K ("BadName", some "__init__"), "__init__", "BadName.__init__", defArgs s_BadName_init, defBody s_BadName_init, defScope s_BadName_init, [], []⟩
def dd_BadPrice_init : He5.DefA := ⟨fun K => He.fAd K ("BadPrice", some "__init__"), "__init__", "BadPrice.__init__", defArgs s_BadPrice_init, defBody s_BadPrice_init, defScope s_BadPrice_init, [], []⟩
def dd_BadRow_init : He5.DefA := ⟨fun K => He.fAd K ("BadRow", some "__init__"), "__init__", "BadRow.__init__", defArgs s_BadRow_init, defBody s_BadRow_init, defScope s_BadRow_init, [], []⟩
def dd_BadStatement_init : He5.DefA := ⟨fun K => He.fAd K ("BadStatement", some "__init__"), "__init__", "BadStatement.__init__", defArgs s_BadStatement_init, defBody s_BadStatement_init, defScope s_BadStatement_init, [], []⟩
def dd_NotCarried_init : He5.DefA := ⟨fun K => He.fAd K ("NotCarried", some "__init__"), "__init__", "NotCarried.__init__", defArgs s_NotCarried_init, defBody s_NotCarried_init, defScope s_NotCarried_init, [], []⟩
def dd_NotWhole_init : He5.DefA := ⟨fun K => He.fAd K ("NotWhole", some "__init__"), "__init__", "NotWhole.__init__", defArgs s_NotWhole_init, defBody s_NotWhole_init, defScope s_NotWhole_init, [], []⟩
def dd_Unbalanced_init : He5.DefA := ⟨fun K => He.fAd K ("Unbalanced", some "__init__"), "__init__", "Unbalanced.__init__", defArgs s_Unbalanced_init, defBody s_Unbalanced_init, defScope s_Unbalanced_init, [], []⟩
def dd_BadLine_init : He5.DefA := ⟨fun K => He.fAd K ("BadLine", some "__init__"), "__init__", "BadLine.__init__", defArgs s_BadLine_init, defBody s_BadLine_init, defScope s_BadLine_init, [], []⟩
def dd_BadNumber_init : He5.DefA := ⟨fun K => He.fAd K ("BadNumber", some "__init__"), "__init__", "BadNumber.__init__", defArgs s_BadNumber_init, defBody s_BadNumber_init, defScope s_BadNumber_init, [], []⟩
def dd_BadLegs_init : He5.DefA := ⟨fun K => He.fAd K ("BadLegs", some "__init__"), "__init__", "BadLegs.__init__", defArgs s_BadLegs_init, defBody s_BadLegs_init, defScope s_BadLegs_init, [], []⟩
def dd_BadDues_init : He5.DefA := ⟨fun K => He.fAd K ("BadDues", some "__init__"), "__init__", "BadDues.__init__", defArgs s_BadDues_init, defBody s_BadDues_init, defScope s_BadDues_init, [], []⟩
def dd_BadHoldings_init : He5.DefA := ⟨fun K => He.fAd K ("BadHoldings", some "__init__"), "__init__", "BadHoldings.__init__", defArgs s_BadHoldings_init, defBody s_BadHoldings_init, defScope s_BadHoldings_init, [], []⟩
def dd_BadQueues_init : He5.DefA := ⟨fun K => He.fAd K ("BadQueues", some "__init__"), "__init__", "BadQueues.__init__", defArgs s_BadQueues_init, defBody s_BadQueues_init, defScope s_BadQueues_init, [], []⟩
def dd_BadOwners_init : He5.DefA := ⟨fun K => He.fAd K ("BadOwners", some "__init__"), "__init__", "BadOwners.__init__", defArgs s_BadOwners_init, defBody s_BadOwners_init, defScope s_BadOwners_init, [], []⟩
def dd_NoDue_init : He5.DefA := ⟨fun K => He.fAd K ("NoDue", some "__init__"), "__init__", "NoDue.__init__", defArgs s_NoDue_init, defBody s_NoDue_init, defScope s_NoDue_init, [], []⟩
def dd_Duplicate_init : He5.DefA := ⟨fun K => He.fAd K ("Duplicate", some "__init__"), "__init__", "Duplicate.__init__", defArgs s_Duplicate_init, defBody s_Duplicate_init, defScope s_Duplicate_init, [], []⟩
def dd_NotTogether_init : He5.DefA := ⟨fun K => He.fAd K ("NotTogether", some "__init__"), "__init__", "NotTogether.__init__", defArgs s_NotTogether_init, defBody s_NotTogether_init, defScope s_NotTogether_init, [], []⟩
def dd_Settles_init : He5.DefA := ⟨fun K => He.fAd K ("Settles", some "__init__"), "__init__", "Settles.__init__", defArgs s_Settles_init, defBody s_Settles_init, defScope s_Settles_init, [], []⟩
def dd_TooMany_init : He5.DefA := ⟨fun K => He.fAd K ("TooMany", some "__init__"), "__init__", "TooMany.__init__", defArgs s_TooMany_init, defBody s_TooMany_init, defScope s_TooMany_init, [], []⟩
def dd_BadOrder_init : He5.DefA := ⟨fun K => He.fAd K ("BadOrder", some "__init__"), "__init__", "BadOrder.__init__", defArgs s_BadOrder_init, defBody s_BadOrder_init, defScope s_BadOrder_init, [], []⟩
def dd_BadSide_init : He5.DefA := ⟨fun K => He.fAd K ("BadSide", some "__init__"), "__init__", "BadSide.__init__", defArgs s_BadSide_init, defBody s_BadSide_init, defScope s_BadSide_init, [], []⟩
def dd_NameTaken_init : He5.DefA := ⟨fun K => He.fAd K ("NameTaken", some "__init__"), "__init__", "NameTaken.__init__", defArgs s_NameTaken_init, defBody s_NameTaken_init, defScope s_NameTaken_init, [], []⟩
def dd_UnknownOrder_init : He5.DefA := ⟨fun K => He.fAd K ("UnknownOrder", some "__init__"), "__init__", "UnknownOrder.__init__", defArgs s_UnknownOrder_init, defBody s_UnknownOrder_init, defScope s_UnknownOrder_init, [], []⟩
def dd_Crossing_init : He5.DefA := ⟨fun K => He.fAd K ("Crossing", some "__init__"), "__init__", "Crossing.__init__", defArgs s_Crossing_init, defBody s_Crossing_init, defScope s_Crossing_init, [], []⟩
def dd_BadBid_init : He5.DefA := ⟨fun K => He.fAd K ("BadBid", some "__init__"), "__init__", "BadBid.__init__", defArgs s_BadBid_init, defBody s_BadBid_init, defScope s_BadBid_init, [], []⟩
def dd_TooManyBids_init : He5.DefA := ⟨fun K => He.fAd K ("TooManyBids", some "__init__"), "__init__", "TooManyBids.__init__", defArgs s_TooManyBids_init, defBody s_TooManyBids_init, defScope s_TooManyBids_init, [], []⟩
def dd_BidTaken_init : He5.DefA := ⟨fun K => He.fAd K ("BidTaken", some "__init__"), "__init__", "BidTaken.__init__", defArgs s_BidTaken_init, defBody s_BidTaken_init, defScope s_BidTaken_init, [], []⟩
def dd_BothSides_init : He5.DefA := ⟨fun K => He.fAd K ("BothSides", some "__init__"), "__init__", "BothSides.__init__", defArgs s_BothSides_init, defBody s_BothSides_init, defScope s_BothSides_init, [], []⟩
def dd_BadWidth_init : He5.DefA := ⟨fun K => He.fAd K ("BadWidth", some "__init__"), "__init__", "BadWidth.__init__", defArgs s_BadWidth_init, defBody s_BadWidth_init, defScope s_BadWidth_init, [], []⟩
def dd_UnknownBid_init : He5.DefA := ⟨fun K => He.fAd K ("UnknownBid", some "__init__"), "__init__", "UnknownBid.__init__", defArgs s_UnknownBid_init, defBody s_UnknownBid_init, defScope s_UnknownBid_init, [], []⟩
def dd_BadPosition_init : He5.DefA := ⟨fun K => He.fAd K ("BadPosition", some "__init__"), "__init__", "BadPosition.__init__", defArgs s_BadPosition_init, defBody s_BadPosition_init, defScope s_BadPosition_init, [], []⟩
def dd_BadPrices_init : He5.DefA := ⟨fun K => He.fAd K ("BadPrices", some "__init__"), "__init__", "BadPrices.__init__", defArgs s_BadPrices_init, defBody s_BadPrices_init, defScope s_BadPrices_init, [], []⟩
def dd_UnknownUnit_init : He5.DefA := ⟨fun K => He.fAd K ("UnknownUnit", some "__init__"), "__init__", "UnknownUnit.__init__", defArgs s_UnknownUnit_init, defBody s_UnknownUnit_init, defScope s_UnknownUnit_init, [], []⟩
def dd_BadMove_init : He5.DefA := ⟨fun K => He.fAd K ("BadMove", some "__init__"), "__init__", "BadMove.__init__", defArgs s_BadMove_init, defBody s_BadMove_init, defScope s_BadMove_init, [], []⟩
def dd_BadCount_init : He5.DefA := ⟨fun K => He.fAd K ("BadCount", some "__init__"), "__init__", "BadCount.__init__", defArgs s_BadCount_init, defBody s_BadCount_init, defScope s_BadCount_init, [], []⟩
def dd_BadStanding_init : He5.DefA := ⟨fun K => He.fAd K ("BadStanding", some "__init__"), "__init__", "BadStanding.__init__", defArgs s_BadStanding_init, defBody s_BadStanding_init, defScope s_BadStanding_init, [], []⟩
def dd_BadClosing_init : He5.DefA := ⟨fun K => He.fAd K ("BadClosing", some "__init__"), "__init__", "BadClosing.__init__", defArgs s_BadClosing_init, defBody s_BadClosing_init, defScope s_BadClosing_init, [], []⟩
def dd_BadRules_init : He5.DefA := ⟨fun K => He.fAd K ("BadRules", some "__init__"), "__init__", "BadRules.__init__", defArgs s_BadRules_init, defBody s_BadRules_init, defScope s_BadRules_init, [], []⟩
def dd_BadFact_init : He5.DefA := ⟨fun K => He.fAd K ("BadFact", some "__init__"), "__init__", "BadFact.__init__", defArgs s_BadFact_init, defBody s_BadFact_init, defScope s_BadFact_init, [], []⟩
def dd_BadFacts_init : He5.DefA := ⟨fun K => He.fAd K ("BadFacts", some "__init__"), "__init__", "BadFacts.__init__", defArgs s_BadFacts_init, defBody s_BadFacts_init, defScope s_BadFacts_init, [], []⟩
def dd_NoSlip_init : He5.DefA := ⟨fun K => He.fAd K ("NoSlip", some "__init__"), "__init__", "NoSlip.__init__", defArgs s_NoSlip_init, defBody s_NoSlip_init, defScope s_NoSlip_init, [], []⟩
def dd_Filled_init : He5.DefA := ⟨fun K => He.fAd K ("Filled", some "__init__"), "__init__", "Filled.__init__", defArgs s_Filled_init, defBody s_Filled_init, defScope s_Filled_init, [], []⟩
def dd_NoDeed_init : He5.DefA := ⟨fun K => He.fAd K ("NoDeed", some "__init__"), "__init__", "NoDeed.__init__", defArgs s_NoDeed_init, defBody s_NoDeed_init, defScope s_NoDeed_init, [], []⟩
def dd_DayClosed_init : He5.DefA := ⟨fun K => He.fAd K ("DayClosed", some "__init__"), "__init__", "DayClosed.__init__", defArgs s_DayClosed_init, defBody s_DayClosed_init, defScope s_DayClosed_init, [], []⟩
def dd_NoTrade_init : He5.DefA := ⟨fun K => He.fAd K ("NoTrade", some "__init__"), "__init__", "NoTrade.__init__", defArgs s_NoTrade_init, defBody s_NoTrade_init, defScope s_NoTrade_init, [], []⟩
def dd_NotKnown_init : He5.DefA := ⟨fun K => He.fAd K ("NotKnown", some "__init__"), "__init__", "NotKnown.__init__", defArgs s_NotKnown_init, defBody s_NotKnown_init, defScope s_NotKnown_init, [], []⟩
def dd_BadQuestion_init : He5.DefA := ⟨fun K => He.fAd K ("BadQuestion", some "__init__"), "__init__", "BadQuestion.__init__", defArgs s_BadQuestion_init, defBody s_BadQuestion_init, defScope s_BadQuestion_init, [], []⟩
def dd_ManySlips_init : He5.DefA := ⟨fun K => He.fAd K ("ManySlips", some "__init__"), "__init__", "ManySlips.__init__", defArgs s_ManySlips_init, defBody s_ManySlips_init, defScope s_ManySlips_init, [], []⟩
def dd_BadLots_init : He5.DefA := ⟨fun K => He.fAd K ("BadLots", some "__init__"), "__init__", "BadLots.__init__", defArgs s_BadLots_init, defBody s_BadLots_init, defScope s_BadLots_init, [], []⟩
def dd_BadCost_init : He5.DefA := ⟨fun K => He.fAd K ("BadCost", some "__init__"), "__init__", "BadCost.__init__", defArgs s_BadCost_init, defBody s_BadCost_init, defScope s_BadCost_init, [], []⟩
def dd_BadWay_init : He5.DefA := ⟨fun K => He.fAd K ("BadWay", some "__init__"), "__init__", "BadWay.__init__", defArgs s_BadWay_init, defBody s_BadWay_init, defScope s_BadWay_init, [], []⟩
def dd_NotThere_init : He5.DefA := ⟨fun K => He.fAd K ("NotThere", some "__init__"), "__init__", "NotThere.__init__", defArgs s_NotThere_init, defBody s_NotThere_init, defScope s_NotThere_init, [], []⟩
def dd_BadEvent_init : He5.DefA := ⟨fun K => He.fAd K ("BadEvent", some "__init__"), "__init__", "BadEvent.__init__", defArgs s_BadEvent_init, defBody s_BadEvent_init, defScope s_BadEvent_init, [], []⟩
def dd_BadIndex_init : He5.DefA := ⟨fun K => He.fAd K ("BadIndex", some "__init__"), "__init__", "BadIndex.__init__", defArgs s_BadIndex_init, defBody s_BadIndex_init, defScope s_BadIndex_init, [], []⟩
def dd_BadPool_init : He5.DefA := ⟨fun K => He.fAd K ("BadPool", some "__init__"), "__init__", "BadPool.__init__", defArgs s_BadPool_init, defBody s_BadPool_init, defScope s_BadPool_init, [], []⟩
def dd_UnlikeUnits_init : He5.DefA := ⟨fun K => He.fAd K ("UnlikeUnits", some "__init__"), "__init__", "UnlikeUnits.__init__", defArgs s_UnlikeUnits_init, defBody s_UnlikeUnits_init, defScope s_UnlikeUnits_init, [], []⟩
def dd_BadDebt_init : He5.DefA := ⟨fun K => He.fAd K ("BadDebt", some "__init__"), "__init__", "BadDebt.__init__", defArgs s_BadDebt_init, defBody s_BadDebt_init, defScope s_BadDebt_init, [], []⟩
def dd_NoDebtor_init : He5.DefA := ⟨fun K => He.fAd K ("NoDebtor", some "__init__"), "__init__", "NoDebtor.__init__", defArgs s_NoDebtor_init, defBody s_NoDebtor_init, defScope s_NoDebtor_init, [], []⟩
def dd_BadViewer_init : He5.DefA := ⟨fun K => He.fAd K ("BadViewer", some "__init__"), "__init__", "BadViewer.__init__", defArgs s_BadViewer_init, defBody s_BadViewer_init, defScope s_BadViewer_init, [], []⟩
def dd_Hidden_init : He5.DefA := ⟨fun K => He.fAd K ("Hidden", some "__init__"), "__init__", "Hidden.__init__", defArgs s_Hidden_init, defBody s_Hidden_init, defScope s_Hidden_init, [], []⟩
def dd_Llaw_source : He5.DefA := ⟨fun K => He.fAd K ("_law_source", none), "_law_source", "_law_source", defArgs s_Llaw_source, defBody s_Llaw_source, defScope s_Llaw_source, [], []⟩
def dd_Llaw_draw : He5.DefA := ⟨fun K => He.fAd K ("_law_draw", none), "_law_draw", "_law_draw", defArgs s_Llaw_draw, defBody s_Llaw_draw, defScope s_Llaw_draw, [], []⟩
def dd_Llaw_thing : He5.DefA := ⟨fun K => He.fAd K ("_law_thing", none), "_law_thing", "_law_thing", defArgs s_Llaw_thing, defBody s_Llaw_thing, defScope s_Llaw_thing, [], []⟩
def dd_Llaw_by_place : He5.DefA := ⟨fun K => He.fAd K ("_law_by_place", none), "_law_by_place", "_law_by_place", defArgs s_Llaw_by_place, defBody s_Llaw_by_place, defScope s_Llaw_by_place, [], []⟩
def dd_Llaw_by_name : He5.DefA := ⟨fun K => He.fAd K ("_law_by_name", none), "_law_by_name", "_law_by_name", defArgs s_Llaw_by_name, defBody s_Llaw_by_name, defScope s_Llaw_by_name, [], []⟩
def dd_Llaw_others : He5.DefA := ⟨fun K => He.fAd K ("_law_others", none), "_law_others", "_law_others", defArgs s_Llaw_others, defBody s_Llaw_others, defScope s_Llaw_others, [], []⟩
def dd_Llaw_others_by_name : He5.DefA := ⟨fun K => He.fAd K ("_law_others_by_name", none), "_law_others_by_name", "_law_others_by_name", defArgs s_Llaw_others_by_name, defBody s_Llaw_others_by_name, defScope s_Llaw_others_by_name, [], []⟩
def dd_Llaw_shared : He5.DefA := ⟨fun K => He.fAd K ("_law_shared", none), "_law_shared", "_law_shared", defArgs s_Llaw_shared, defBody s_Llaw_shared, defScope s_Llaw_shared, [], []⟩
def dd_Llaw_first_kinds : He5.DefA := ⟨fun K => He.fAd K ("_law_first_kinds", none), "_law_first_kinds", "_law_first_kinds", defArgs s_Llaw_first_kinds, defBody s_Llaw_first_kinds, defScope s_Llaw_first_kinds, [], []⟩
def dd_Llaw_last_kinds : He5.DefA := ⟨fun K => He.fAd K ("_law_last_kinds", none), "_law_last_kinds", "_law_last_kinds", defArgs s_Llaw_last_kinds, defBody s_Llaw_last_kinds, defScope s_Llaw_last_kinds, [], []⟩
def dd_Llaw_is : He5.DefA := ⟨fun K => He.fAd K ("_law_is", none), "_law_is", "_law_is", defArgs s_Llaw_is, defBody s_Llaw_is, defScope s_Llaw_is, [], []⟩
def dd_Flaw : He5.DefA := ⟨fun K => He.fAd K ("law", none), "law", "law", defArgs s_Flaw, defBody s_Flaw, defScope s_Flaw, [], []⟩
def fn_0 : List He5.DefA := ([dd_BadDay_init, dd_BadCause_init, dd_BadPostings_init, dd_BadAccount_init, dd_BadAmount_init, dd_BadUnit_init, dd_BadOwner_init, dd_BadName_init, dd_BadPrice_init, dd_BadRow_init, dd_BadStatement_init, dd_NotCarried_init, dd_NotWhole_init] : List He5.DefA)
def fn_1 : List He5.DefA := ([dd_Unbalanced_init, dd_BadLine_init, dd_BadNumber_init, dd_BadLegs_init, dd_BadDues_init, dd_BadHoldings_init, dd_BadQueues_init, dd_BadOwners_init, dd_NoDue_init, dd_Duplicate_init, dd_NotTogether_init, dd_Settles_init, dd_TooMany_init] : List He5.DefA)
def fn_2 : List He5.DefA := ([dd_BadOrder_init, dd_BadSide_init, dd_NameTaken_init, dd_UnknownOrder_init, dd_Crossing_init, dd_BadBid_init, dd_TooManyBids_init, dd_BidTaken_init, dd_BothSides_init, dd_BadWidth_init, dd_UnknownBid_init, dd_BadPosition_init, dd_BadPrices_init] : List He5.DefA)
def fn_3 : List He5.DefA := ([dd_UnknownUnit_init, dd_BadMove_init, dd_BadCount_init, dd_BadStanding_init, dd_BadClosing_init, dd_BadRules_init, dd_BadFact_init, dd_BadFacts_init, dd_NoSlip_init, dd_Filled_init, dd_NoDeed_init, dd_DayClosed_init, dd_NoTrade_init] : List He5.DefA)
def fn_4 : List He5.DefA := ([dd_NotKnown_init, dd_BadQuestion_init, dd_ManySlips_init, dd_BadLots_init, dd_BadCost_init, dd_BadWay_init, dd_NotThere_init, dd_BadEvent_init, dd_BadIndex_init, dd_BadPool_init, dd_UnlikeUnits_init, dd_BadDebt_init, dd_NoDebtor_init] : List He5.DefA)
def fn_5 : List He5.DefA := ([dd_BadViewer_init, dd_Hidden_init, dd_Llaw_source, dd_Llaw_draw, dd_Llaw_thing, dd_Llaw_by_place, dd_Llaw_by_name, dd_Llaw_others, dd_Llaw_others_by_name, dd_Llaw_shared, dd_Llaw_first_kinds, dd_Llaw_last_kinds, dd_Llaw_is, dd_Flaw] : List He5.DefA)
def fn_6 : List He5.DefA := ([] : List He5.DefA)
def fn : List He5.DefA := fn_0 ++ (fn_1 ++ (fn_2 ++ (fn_3 ++ (fn_4 ++ (fn_5 ++ (fn_6))))))
def fa_0 : List He.Fa := ([.glo "_law_source", .glo "_law_draw", .glo "_law_thing", .glo "_law_by_place", .glo "_law_by_name", .glo "_law_others", .glo "_law_others_by_name", .glo "_law_shared", .glo "_law_first_kinds", .glo "_law_last_kinds", .glo "_law_is", .glo "law", .glo "MarketError", .glo "BadDay", .glo "BadCause", .glo "BadPostings", .glo "BadAccount", .glo "BadAmount", .glo "BadUnit", .glo "BadOwner", .glo "BadName", .glo "BadPrice", .glo "BadRow", .glo "BadStatement"] : List He.Fa) ++ ([.glo "NotCarried", .glo "NotWhole", .glo "Unbalanced", .glo "BadText"] : List He.Fa)
def fa_1 : List He.Fa := ([.glo "BadLine", .glo "NothingToUndo", .glo "NothingToRedo", .glo "BadNumber", .glo "BadLegs", .glo "BadDues", .glo "BadHoldings", .glo "BadQueues", .glo "BadOwners", .glo "NoDue", .glo "Duplicate", .glo "NotTogether", .glo "Settles", .glo "TooMany", .glo "BadOrder", .glo "BadSide", .glo "NameTaken", .glo "UnknownOrder", .glo "Crossing", .glo "BadBid", .glo "TooManyBids", .glo "BidTaken", .glo "BothSides", .glo "NoClearing"] : List He.Fa) ++ ([.glo "BadWidth", .glo "UnknownBid", .glo "Cleared", .glo "BadPosition", .glo "BadPrices"] : List He.Fa)
def fa_2 : List He.Fa := ([.glo "UnknownUnit", .glo "BadMove", .glo "BadCount", .glo "BadStanding", .glo "BadClosing", .glo "BadRules", .glo "BadFact", .glo "BadFacts", .glo "NoSlip", .glo "Filled", .glo "NoDeed", .glo "DayClosed", .glo "NoTrade", .glo "NotKnown", .glo "BadQuestion", .glo "ManySlips", .glo "BadLots", .glo "BadCost", .glo "BadWay", .glo "NotThere", .glo "BadEvent", .glo "BadIndex", .glo "BadPool", .glo "UnlikeUnits"] : List He.Fa) ++ ([.glo "NoUnit", .glo "NoShares", .glo "BadDebt", .glo "NoDebtor"] : List He.Fa)
def fa_3 : List He.Fa := ([.glo "BadViewer", .glo "Hidden", .free "len", .free "isinstance", .free "repr", .free "range", .free "int", .free "ValueError", .noat "BadDay" "given", .noat "BadCause" "given", .noat "BadPostings" "given", .noat "BadAccount" "given", .noat "BadAmount" "given", .noat "BadUnit" "given", .noat "BadOwner" "given", .noat "BadName" "given", .noat "BadPrice" "given", .noat "BadRow" "given", .noat "BadStatement" "given", .noat "NotCarried" "given", .noat "NotWhole" "given", .noat "Unbalanced" "given", .noat "Unbalanced" "off", .exc "BadText"] : List He.Fa) ++ ([.noat "BadLine" "line", .exc "NothingToUndo", .exc "NothingToRedo", .noat "BadNumber" "given", .noat "BadLegs" "given"] : List He.Fa)
def fa_4 : List He.Fa := ([.noat "BadDues" "given", .noat "BadHoldings" "given", .noat "BadQueues" "given", .noat "BadOwners" "given", .noat "NoDue" "given", .noat "Duplicate" "given", .noat "NotTogether" "given", .noat "Settles" "given", .noat "TooMany" "count", .noat "BadOrder" "field", .noat "BadOrder" "value", .noat "BadSide" "given", .noat "NameTaken" "name", .noat "UnknownOrder" "name", .noat "Crossing" "name", .noat "BadBid" "given", .noat "TooManyBids" "given", .noat "BidTaken" "given", .noat "BothSides" "given", .exc "NoClearing", .noat "BadWidth" "given", .noat "UnknownBid" "given", .exc "Cleared", .noat "BadPosition" "given"] : List He.Fa) ++ ([.noat "BadPrices" "given", .noat "UnknownUnit" "given", .noat "BadMove" "given", .noat "BadCount" "count"] : List He.Fa)
def fa_5 : List He.Fa := ([.noat "BadStanding" "given", .noat "BadClosing" "given", .noat "BadRules" "given", .noat "BadFact" "given", .noat "BadFacts" "given", .noat "NoSlip" "given", .noat "Filled" "given", .noat "NoDeed" "given", .noat "DayClosed" "given", .noat "NoTrade" "given", .noat "NotKnown" "given", .noat "BadQuestion" "given", .noat "ManySlips" "given", .noat "BadLots" "given", .noat "BadCost" "given", .noat "BadWay" "given", .noat "NotThere" "given", .noat "BadEvent" "index", .noat "BadIndex" "given", .noat "BadPool" "field", .noat "BadPool" "value", .noat "UnlikeUnits" "one", .noat "UnlikeUnits" "other", .exc "NoUnit"] : List He.Fa) ++ ([.exc "NoShares", .noat "BadDebt" "given", .noat "NoDebtor" "given", .noat "BadViewer" "given", .noat "Hidden" "given"] : List He.Fa)
def fa_6 : List He.Fa := ([] : List He.Fa)
def fa : List He.Fa := fa_0 ++ (fa_1 ++ (fa_2 ++ (fa_3 ++ (fa_4 ++ (fa_5 ++ (fa_6))))))
def exl_0 : List (PySem.W.Frag → Bool) := ([fun K => oexB K (He.ga K "BadDay"), fun K => iniB K (He.ga K "BadDay"), fun K => xfB K (He.ga K "BadDay"), fun K => oexB K (He.ga K "BadCause"), fun K => iniB K (He.ga K "BadCause"), fun K => xfB K (He.ga K "BadCause"), fun K => oexB K (He.ga K "BadPostings"), fun K => iniB K (He.ga K "BadPostings"), fun K => xfB K (He.ga K "BadPostings"), fun K => oexB K (He.ga K "BadAccount"), fun K => iniB K (He.ga K "BadAccount"), fun K => xfB K (He.ga K "BadAccount"), fun K => oexB K (He.ga K "BadAmount"), fun K => iniB K (He.ga K "BadAmount"), fun K => xfB K (He.ga K "BadAmount"), fun K => oexB K (He.ga K "BadUnit"), fun K => iniB K (He.ga K "BadUnit"), fun K => xfB K (He.ga K "BadUnit"), fun K => oexB K (He.ga K "BadOwner"), fun K => iniB K (He.ga K "BadOwner"), fun K => xfB K (He.ga K "BadOwner"), fun K => oexB K (He.ga K "BadName"), fun K => iniB K (He.ga K "BadName"), fun K => xfB K (He.ga K "BadName")] : List (PySem.W.Frag → Bool)) ++ ([fun K => oexB K (He.ga K "BadPrice"), fun K => iniB K (He.ga K "BadPrice"), fun K => xfB K (He.ga K "BadPrice"), fun K => oexB K (He.ga K "BadRow"), fun K => iniB K (He.ga K "BadRow"), fun K => xfB K (He.ga K "BadRow"), fun K => oexB K (He.ga K "BadStatement"), fun K => iniB K (He.ga K "BadStatement"), fun K => xfB K (He.ga K "BadStatement")] : List (PySem.W.Frag → Bool))
def exl_1 : List (PySem.W.Frag → Bool) := ([fun K => oexB K (He.ga K "NotCarried"), fun K => iniB K (He.ga K "NotCarried"), fun K => xfB K (He.ga K "NotCarried"), fun K => oexB K (He.ga K "NotWhole"), fun K => iniB K (He.ga K "NotWhole"), fun K => xfB K (He.ga K "NotWhole"), fun K => oexB K (He.ga K "Unbalanced"), fun K => iniB K (He.ga K "Unbalanced"), fun K => xfB K (He.ga K "Unbalanced"), fun K => oexB K (He.ga K "BadLine"), fun K => iniB K (He.ga K "BadLine"), fun K => xfB K (He.ga K "BadLine"), fun K => oexB K (He.ga K "BadNumber"), fun K => iniB K (He.ga K "BadNumber"), fun K => xfB K (He.ga K "BadNumber"), fun K => oexB K (He.ga K "BadLegs"), fun K => iniB K (He.ga K "BadLegs"), fun K => xfB K (He.ga K "BadLegs"), fun K => oexB K (He.ga K "BadDues"), fun K => iniB K (He.ga K "BadDues"), fun K => xfB K (He.ga K "BadDues"), fun K => oexB K (He.ga K "BadHoldings"), fun K => iniB K (He.ga K "BadHoldings"), fun K => xfB K (He.ga K "BadHoldings")] : List (PySem.W.Frag → Bool)) ++ ([fun K => oexB K (He.ga K "BadQueues"), fun K => iniB K (He.ga K "BadQueues"), fun K => xfB K (He.ga K "BadQueues"), fun K => oexB K (He.ga K "BadOwners"), fun K => iniB K (He.ga K "BadOwners"), fun K => xfB K (He.ga K "BadOwners"), fun K => oexB K (He.ga K "NoDue"), fun K => iniB K (He.ga K "NoDue"), fun K => xfB K (He.ga K "NoDue"), fun K => oexB K (He.ga K "Duplicate")] : List (PySem.W.Frag → Bool))
def exl_2 : List (PySem.W.Frag → Bool) := ([fun K => iniB K (He.ga K "Duplicate"), fun K => xfB K (He.ga K "Duplicate"), fun K => oexB K (He.ga K "NotTogether"), fun K => iniB K (He.ga K "NotTogether"), fun K => xfB K (He.ga K "NotTogether"), fun K => oexB K (He.ga K "Settles"), fun K => iniB K (He.ga K "Settles"), fun K => xfB K (He.ga K "Settles"), fun K => oexB K (He.ga K "TooMany"), fun K => iniB K (He.ga K "TooMany"), fun K => xfB K (He.ga K "TooMany"), fun K => oexB K (He.ga K "BadOrder"), fun K => iniB K (He.ga K "BadOrder"), fun K => xfB K (He.ga K "BadOrder"), fun K => oexB K (He.ga K "BadSide"), fun K => iniB K (He.ga K "BadSide"), fun K => xfB K (He.ga K "BadSide"), fun K => oexB K (He.ga K "NameTaken"), fun K => iniB K (He.ga K "NameTaken"), fun K => xfB K (He.ga K "NameTaken"), fun K => oexB K (He.ga K "UnknownOrder"), fun K => iniB K (He.ga K "UnknownOrder"), fun K => xfB K (He.ga K "UnknownOrder"), fun K => oexB K (He.ga K "Crossing")] : List (PySem.W.Frag → Bool)) ++ ([fun K => iniB K (He.ga K "Crossing"), fun K => xfB K (He.ga K "Crossing"), fun K => oexB K (He.ga K "BadBid"), fun K => iniB K (He.ga K "BadBid"), fun K => xfB K (He.ga K "BadBid"), fun K => oexB K (He.ga K "TooManyBids"), fun K => iniB K (He.ga K "TooManyBids"), fun K => xfB K (He.ga K "TooManyBids"), fun K => oexB K (He.ga K "BidTaken")] : List (PySem.W.Frag → Bool))
def exl_3 : List (PySem.W.Frag → Bool) := ([fun K => iniB K (He.ga K "BidTaken"), fun K => xfB K (He.ga K "BidTaken"), fun K => oexB K (He.ga K "BothSides"), fun K => iniB K (He.ga K "BothSides"), fun K => xfB K (He.ga K "BothSides"), fun K => oexB K (He.ga K "BadWidth"), fun K => iniB K (He.ga K "BadWidth"), fun K => xfB K (He.ga K "BadWidth"), fun K => oexB K (He.ga K "UnknownBid"), fun K => iniB K (He.ga K "UnknownBid"), fun K => xfB K (He.ga K "UnknownBid"), fun K => oexB K (He.ga K "BadPosition"), fun K => iniB K (He.ga K "BadPosition"), fun K => xfB K (He.ga K "BadPosition"), fun K => oexB K (He.ga K "BadPrices"), fun K => iniB K (He.ga K "BadPrices"), fun K => xfB K (He.ga K "BadPrices"), fun K => oexB K (He.ga K "UnknownUnit"), fun K => iniB K (He.ga K "UnknownUnit"), fun K => xfB K (He.ga K "UnknownUnit"), fun K => oexB K (He.ga K "BadMove"), fun K => iniB K (He.ga K "BadMove"), fun K => xfB K (He.ga K "BadMove"), fun K => oexB K (He.ga K "BadCount")] : List (PySem.W.Frag → Bool)) ++ ([fun K => iniB K (He.ga K "BadCount"), fun K => xfB K (He.ga K "BadCount"), fun K => oexB K (He.ga K "BadStanding"), fun K => iniB K (He.ga K "BadStanding"), fun K => xfB K (He.ga K "BadStanding"), fun K => oexB K (He.ga K "BadClosing"), fun K => iniB K (He.ga K "BadClosing"), fun K => xfB K (He.ga K "BadClosing"), fun K => oexB K (He.ga K "BadRules"), fun K => iniB K (He.ga K "BadRules")] : List (PySem.W.Frag → Bool))
def exl_4 : List (PySem.W.Frag → Bool) := ([fun K => xfB K (He.ga K "BadRules"), fun K => oexB K (He.ga K "BadFact"), fun K => iniB K (He.ga K "BadFact"), fun K => xfB K (He.ga K "BadFact"), fun K => oexB K (He.ga K "BadFacts"), fun K => iniB K (He.ga K "BadFacts"), fun K => xfB K (He.ga K "BadFacts"), fun K => oexB K (He.ga K "NoSlip"), fun K => iniB K (He.ga K "NoSlip"), fun K => xfB K (He.ga K "NoSlip"), fun K => oexB K (He.ga K "Filled"), fun K => iniB K (He.ga K "Filled"), fun K => xfB K (He.ga K "Filled"), fun K => oexB K (He.ga K "NoDeed"), fun K => iniB K (He.ga K "NoDeed"), fun K => xfB K (He.ga K "NoDeed"), fun K => oexB K (He.ga K "DayClosed"), fun K => iniB K (He.ga K "DayClosed"), fun K => xfB K (He.ga K "DayClosed"), fun K => oexB K (He.ga K "NoTrade"), fun K => iniB K (He.ga K "NoTrade"), fun K => xfB K (He.ga K "NoTrade"), fun K => oexB K (He.ga K "NotKnown"), fun K => iniB K (He.ga K "NotKnown")] : List (PySem.W.Frag → Bool)) ++ ([fun K => xfB K (He.ga K "NotKnown"), fun K => oexB K (He.ga K "BadQuestion"), fun K => iniB K (He.ga K "BadQuestion"), fun K => xfB K (He.ga K "BadQuestion"), fun K => oexB K (He.ga K "ManySlips"), fun K => iniB K (He.ga K "ManySlips"), fun K => xfB K (He.ga K "ManySlips"), fun K => oexB K (He.ga K "BadLots"), fun K => iniB K (He.ga K "BadLots")] : List (PySem.W.Frag → Bool))
def exl_5 : List (PySem.W.Frag → Bool) := ([fun K => xfB K (He.ga K "BadLots"), fun K => oexB K (He.ga K "BadCost"), fun K => iniB K (He.ga K "BadCost"), fun K => xfB K (He.ga K "BadCost"), fun K => oexB K (He.ga K "BadWay"), fun K => iniB K (He.ga K "BadWay"), fun K => xfB K (He.ga K "BadWay"), fun K => oexB K (He.ga K "NotThere"), fun K => iniB K (He.ga K "NotThere"), fun K => xfB K (He.ga K "NotThere"), fun K => oexB K (He.ga K "BadEvent"), fun K => iniB K (He.ga K "BadEvent"), fun K => xfB K (He.ga K "BadEvent"), fun K => oexB K (He.ga K "BadIndex"), fun K => iniB K (He.ga K "BadIndex"), fun K => xfB K (He.ga K "BadIndex"), fun K => oexB K (He.ga K "BadPool"), fun K => iniB K (He.ga K "BadPool"), fun K => xfB K (He.ga K "BadPool"), fun K => oexB K (He.ga K "UnlikeUnits"), fun K => iniB K (He.ga K "UnlikeUnits"), fun K => xfB K (He.ga K "UnlikeUnits"), fun K => oexB K (He.ga K "BadDebt"), fun K => iniB K (He.ga K "BadDebt")] : List (PySem.W.Frag → Bool)) ++ ([fun K => xfB K (He.ga K "BadDebt"), fun K => oexB K (He.ga K "NoDebtor"), fun K => iniB K (He.ga K "NoDebtor"), fun K => xfB K (He.ga K "NoDebtor"), fun K => oexB K (He.ga K "BadViewer"), fun K => iniB K (He.ga K "BadViewer"), fun K => xfB K (He.ga K "BadViewer"), fun K => oexB K (He.ga K "Hidden"), fun K => iniB K (He.ga K "Hidden"), fun K => xfB K (He.ga K "Hidden")] : List (PySem.W.Frag → Bool))
def exl_6 : List (PySem.W.Frag → Bool) := ([fun K => isMroB K ((["BadDay", "BadCause", "BadPostings", "BadAccount", "BadAmount", "BadUnit", "BadOwner", "BadName", "BadPrice", "BadRow", "BadStatement", "NotCarried", "NotWhole", "Unbalanced", "BadText", "BadLine", "NothingToUndo", "NothingToRedo", "BadNumber", "BadLegs", "BadDues", "BadHoldings", "BadQueues", "BadOwners", "NoDue", "Duplicate", "NotTogether", "Settles", "TooMany", "BadOrder"] : List Str) ++ (["BadSide", "NameTaken", "UnknownOrder", "Crossing", "BadBid", "TooManyBids", "BidTaken", "BothSides", "NoClearing", "BadWidth", "UnknownBid", "Cleared", "BadPosition", "BadPrices", "UnknownUnit", "BadMove", "BadCount", "BadStanding", "BadClosing", "BadRules", "BadFact", "BadFacts", "NoSlip", "Filled", "NoDeed", "DayClosed", "NoTrade", "NotKnown", "BadQuestion", "ManySlips"] : List Str) ++ (["BadLots", "BadCost", "BadWay", "NotThere", "BadEvent", "BadIndex", "BadPool", "UnlikeUnits", "NoUnit", "NoShares", "BadDebt", "NoDebtor", "BadViewer", "Hidden"] : List Str)), fun K => smB K] : List (PySem.W.Frag → Bool))
def exl : List (PySem.W.Frag → Bool) := exl_0 ++ (exl_1 ++ (exl_2 ++ (exl_3 ++ (exl_4 ++ (exl_5 ++ (exl_6))))))
def ex : PySem.W.Frag → Bool := exOf exl
def asL : List Addr := 3 :: 6 :: 4 :: 24 :: 44 :: 63 :: 82 :: 101 :: 120 :: 139 :: 158 :: 177 :: 196 :: 215 :: 234 :: 253 :: 272 :: 291 :: 303 :: 322 :: 334 :: 346 :: 365 :: 384 :: 403 :: 422 :: 441 :: 460 :: 479 :: 498 :: 517 :: 536 :: 555 :: 574 :: 593 :: 612 :: 631 :: 650 :: 669 :: 688 :: 707 :: 726 :: 738 :: 757 :: 776 :: 788 :: 807 :: 826 :: 845 :: 864 :: 883 :: 902 :: 921 :: 940 :: 959 :: 978 :: 997 :: 1016 :: 1035 :: 1054 :: 1073 :: 1092 :: 1111 :: 1130 :: 1149 :: 1168 :: 1187 :: 1206 :: 1225 :: 1244 :: 1263 :: 1282 :: 1294 :: 1306 :: 1325 :: 1344 :: 1363 :: 1382 :: 1391 :: 1398 :: 1405 :: 1412 :: 1419 :: 1424 :: 1429 :: 1434 :: 1441 :: 1448 :: 1453 :: 1460 :: 0 :: 23 :: 43 :: 62 :: 81 :: 100 :: 119 :: 138 :: 157 :: 176 :: 195 :: 214 :: 233 :: 252 :: 271 :: 290 :: 302 :: 321 :: 333 :: 345 :: 364 :: 383 :: 402 :: 421 :: 440 :: 459 :: 478 :: 497 :: 516 :: 535 :: 554 :: 573 :: 592 :: 611 :: 630 :: 649 :: 668 :: 687 :: 706 :: 725 :: 737 :: 756 :: 775 :: 787 :: 806 :: 825 :: 844 :: 863 :: 882 :: 901 :: 920 :: 939 :: 958 :: 977 :: 996 :: 1015 :: 1034 :: 1053 :: 1072 :: 1091 :: 1110 :: 1129 :: 1148 :: 1167 :: 1186 :: 1205 :: 1224 :: 1243 :: 1262 :: 1281 :: 1293 :: 1305 :: 1324 :: 1343 :: 1362 :: 1381 :: 1390 :: 1397 :: 1404 :: 1411 :: 1418 :: 1423 :: 1428 :: 1433 :: 1440 :: 1447 :: 1452 :: 1459 :: 22 :: 25 :: 41 :: 42 :: 60 :: 61 :: 79 :: 80 :: 98 :: 99 :: 117 :: 118 :: 136 :: 137 :: 155 :: 156 :: 174 :: 175 :: 193 :: 194 :: 212 :: 213 :: 231 :: 232 :: 250 :: 251 :: 269 :: 270 :: 288 :: 289 :: 301 :: 319 :: 320 :: 332 :: 344 :: 362 :: 363 :: 381 :: 382 :: 400 :: 401 :: 419 :: 420 :: 438 :: 439 :: 457 :: 458 :: 476 :: 477 :: 495 :: 496 :: 514 :: 515 :: 533 :: 534 :: 552 :: 553 :: 571 :: 572 :: 590 :: 591 :: 609 :: 610 :: 628 :: 629 :: 647 :: 648 :: 666 :: 667 :: 685 :: 686 :: 704 :: 705 :: 723 :: 724 :: 736 :: 754 :: 755 :: 773 :: 774 :: 786 :: 804 :: 805 :: 823 :: 824 :: 842 :: 843 :: 861 :: 862 :: 880 :: 881 :: 899 :: 900 :: 918 :: 919 :: 937 :: 938 :: 956 :: 957 :: 975 :: 976 :: 994 :: 995 :: 1013 :: 1014 :: 1032 :: 1033 :: 1051 :: 1052 :: 1070 :: 1071 :: 1089 :: 1090 :: 1108 :: 1109 :: 1127 :: 1128 :: 1146 :: 1147 :: 1165 :: 1166 :: 1184 :: 1185 :: 1203 :: 1204 :: 1222 :: 1223 :: 1241 :: 1242 :: 1260 :: 1261 :: 1279 :: 1280 :: 1292 :: 1304 :: 1322 :: 1323 :: 1341 :: 1342 :: 1360 :: 1361 :: 1379 :: 1380 :: 1385 :: 1386 :: 1387 :: 1388 :: 1389 :: 1392 :: 1393 :: 1394 :: 1395 :: 1396 :: 1399 :: 1400 :: 1401 :: 1402 :: 1403 :: 1406 :: 1407 :: 1408 :: 1409 :: 1410 :: 1413 :: 1414 :: 1415 :: 1416 :: 1417 :: 1420 :: 1421 :: 1422 :: 1425 :: 1426 :: 1427 :: 1430 :: 1431 :: 1432 :: 1435 :: 1436 :: 1437 :: 1438 :: 1439 :: 1442 :: 1443 :: 1444 :: 1445 :: 1446 :: 1449 :: 1450 :: 1451 :: 1454 :: 1455 :: 1456 :: 1457 :: 1458 :: 40 :: 59 :: 78 :: 97 :: 116 :: 135 :: 154 :: 173 :: 192 :: 211 :: 230 :: 249 :: 268 :: 287 :: 318 :: 361 :: 380 :: 399 :: 418 :: 437 :: 456 :: 475 :: 494 :: 513 :: 532 :: 551 :: 570 :: 589 :: 608 :: 627 :: 646 :: 665 :: 684 :: 703 :: 722 :: 753 :: 772 :: 803 :: 822 :: 841 :: 860 :: 879 :: 898 :: 917 :: 936 :: 955 :: 974 :: 993 :: 1012 :: 1031 :: 1050 :: 1069 :: 1088 :: 1107 :: 1126 :: 1145 :: 1164 :: 1183 :: 1202 :: 1221 :: 1240 :: 1259 :: 1278 :: 1321 :: 1340 :: 1359 :: 1378 :: 35 :: 36 :: 37 :: 38 :: 39 :: 54 :: 55 :: 56 :: 57 :: 58 :: 73 :: 74 :: 75 :: 76 :: 77 :: 92 :: 93 :: 94 :: 95 :: 96 :: 111 :: 112 :: 113 :: 114 :: 115 :: 130 :: 131 :: 132 :: 133 :: 134 :: 149 :: 150 :: 151 :: 152 :: 153 :: 168 :: 169 :: 170 :: 171 :: 172 :: 187 :: 188 :: 189 :: 190 :: 191 :: 206 :: 207 :: 208 :: 209 :: 210 :: 225 :: 226 :: 227 :: 228 :: 229 :: 244 :: 245 :: 246 :: 247 :: 248 :: 263 :: 264 :: 265 :: 266 :: 267 :: 282 :: 283 :: 284 :: 285 :: 286 :: 313 :: 314 :: 315 :: 316 :: 317 :: 356 :: 357 :: 358 :: 359 :: 360 :: 375 :: 376 :: 377 :: 378 :: 379 :: 394 :: 395 :: 396 :: 397 :: 398 :: 413 :: 414 :: 415 :: 416 :: 417 :: 432 :: 433 :: 434 :: 435 :: 436 :: 451 :: 452 :: 453 :: 454 :: 455 :: 470 :: 471 :: 472 :: 473 :: 474 :: 489 :: 490 :: 491 :: 492 :: 493 :: 508 :: 509 :: 510 :: 511 :: 512 :: 527 :: 528 :: 529 :: 530 :: 531 :: 546 :: 547 :: 548 :: 549 :: 550 :: 565 :: 566 :: 567 :: 568 :: 569 :: 584 :: 585 :: 586 :: 587 :: 588 :: 603 :: 604 :: 605 :: 606 :: 607 :: 622 :: 623 :: 624 :: 625 :: 626 :: 641 :: 642 :: 643 :: 644 :: 645 :: 660 :: 661 :: 662 :: 663 :: 664 :: 679 :: 680 :: 681 :: 682 :: 683 :: 698 :: 699 :: 700 :: 701 :: 702 :: 717 :: 718 :: 719 :: 720 :: 721 :: 748 :: 749 :: 750 :: 751 :: 752 :: 767 :: 768 :: 769 :: 770 :: 771 :: 798 :: 799 :: 800 :: 801 :: 802 :: 817 :: 818 :: 819 :: 820 :: 821 :: 836 :: 837 :: 838 :: 839 :: 840 :: 855 :: 856 :: 857 :: 858 :: 859 :: 874 :: 875 :: 876 :: 877 :: 878 :: 893 :: 894 :: 895 :: 896 :: 897 :: 912 :: 913 :: 914 :: 915 :: 916 :: 931 :: 932 :: 933 :: 934 :: 935 :: 950 :: 951 :: 952 :: 953 :: 954 :: 969 :: 970 :: 971 :: 972 :: 973 :: 988 :: 989 :: 990 :: 991 :: 992 :: 1007 :: 1008 :: 1009 :: 1010 :: 1011 :: 1026 :: 1027 :: 1028 :: 1029 :: 1030 :: 1045 :: 1046 :: 1047 :: 1048 :: 1049 :: 1064 :: 1065 :: 1066 :: 1067 :: 1068 :: 1083 :: 1084 :: 1085 :: 1086 :: 1087 :: 1102 :: 1103 :: 1104 :: 1105 :: 1106 :: 1121 :: 1122 :: 1123 :: 1124 :: 1125 :: 1140 :: 1141 :: 1142 :: 1143 :: 1144 :: 1159 :: 1160 :: 1161 :: 1162 :: 1163 :: 1178 :: 1179 :: 1180 :: 1181 :: 1182 :: 1197 :: 1198 :: 1199 :: 1200 :: 1201 :: 1216 :: 1217 :: 1218 :: 1219 :: 1220 :: 1235 :: 1236 :: 1237 :: 1238 :: 1239 :: 1254 :: 1255 :: 1256 :: 1257 :: 1258 :: 1273 :: 1274 :: 1275 :: 1276 :: 1277 :: 1316 :: 1317 :: 1318 :: 1319 :: 1320 :: 1335 :: 1336 :: 1337 :: 1338 :: 1339 :: 1354 :: 1355 :: 1356 :: 1357 :: 1358 :: 1373 :: 1374 :: 1375 :: 1376 :: 1377 :: 2 :: 1 :: []
abbrev R : PySem.W.OpenRow := PySem.W.OpenLaw.row PySem.Challenge.rw_evenmarket_k48_errors_of_all_modules
abbrev hk : PySem.W.Hook := hookU asL fa fn ex
def ob (s : PySem.W.SharedT) : AlS := obsU asL fa fn ex (HandSHeadRun.getT s)
def loose : List Str := (["__name__", "MarketError", "BadDay", "BadCause", "BadPostings", "BadAccount", "BadAmount", "BadUnit", "BadOwner", "BadName", "BadPrice", "BadRow", "BadStatement", "NotCarried", "NotWhole", "Unbalanced", "BadText", "BadLine", "NothingToUndo", "NothingToRedo", "BadNumber", "BadLegs", "BadDues", "BadHoldings"] : List Str) ++ (["BadQueues", "BadOwners", "NoDue", "Duplicate", "NotTogether", "Settles", "TooMany", "BadOrder", "BadSide", "NameTaken", "UnknownOrder", "Crossing", "BadBid", "TooManyBids", "BidTaken", "BothSides", "NoClearing", "BadWidth", "UnknownBid", "Cleared", "BadPosition", "BadPrices", "UnknownUnit", "BadMove"] : List Str) ++ (["BadCount", "BadStanding", "BadClosing", "BadRules", "BadFact", "BadFacts", "NoSlip", "Filled", "NoDeed", "DayClosed", "NoTrade", "NotKnown", "BadQuestion", "ManySlips", "BadLots", "BadCost", "BadWay", "NotThere", "BadEvent", "BadIndex", "BadPool", "UnlikeUnits", "NoUnit", "NoShares"] : List Str) ++ (["BadDebt", "NoDebtor", "BadViewer", "Hidden", "_law_source", "_law_draw", "_law_thing", "_law_by_place", "_law_by_name", "_law_others", "_law_others_by_name", "_law_shared", "_law_first_kinds", "_law_last_kinds", "_law_is"] : List Str)
theorem run_6c (w : World) (os : OsState) : (endC R 60000 w os).map (obP asL fa_6 fn_6 exl_6) = some (He5.valA fn_6, true) := by
  kernel_rfl
theorem run_l1 (w : World) (os : OsState) : (endC R 60000 w os).map (fun s => HandSHeadRun.looksF R.prog (PySem.W.boot_heap w.params) s.abs) = some true := by
  kernel_rfl
theorem run_l2 (w : World) (os : OsState) : (endC R 60000 w os).map (fun s => HandSHeadRun.seenQ (PySem.W.view R.prog [100]) loose (importedModules R.prog.main.body) (fun s => PySem.W.xlAt (PySem.W.view R.prog [100]) [] s && PySem.W.recOk R.toRowW.records s) s.abs) = some (PySem.W.openGood (PySem.W.view R.prog [100]) loose) := by
  kernel_rfl
theorem run_l (w : World) (os : OsState) : (endE R 60000 w os).map (fun s => (HandSHeadRun.looksF R.prog (PySem.W.boot_heap w.params) s.abs, HandSHeadRun.seenQ (PySem.W.view R.prog [100]) loose (importedModules R.prog.main.body) (fun s => PySem.W.xlAt (PySem.W.view R.prog [100]) [] s && PySem.W.recOk R.toRowW.records s) s.abs)) = some (true, PySem.W.openGood (PySem.W.view R.prog [100]) loose) := by_endC (map_both (run_l1 w os) (run_l2 w os))
theorem run_oc (w : World) (os : OsState) : (endC R 60000 w os).map (obT asL) = some true := by
  kernel_rfl
theorem run_o (w : World) (os : OsState) : (endE R 60000 w os).map (obT asL) = some true := by_endC (run_oc w os)
theorem run_0c (w : World) (os : OsState) : (endC R 60000 w os).map (obP asL fa_0 fn_0 exl_0) = some (He5.valA fn_0, true) := by
  kernel_rfl
theorem run_0 (w : World) (os : OsState) : (endE R 60000 w os).map (obP asL fa_0 fn_0 exl_0) = some (He5.valA fn_0, true) := by_endC (run_0c w os)
theorem run_1c (w : World) (os : OsState) : (endC R 60000 w os).map (obP asL fa_1 fn_1 exl_1) = some (He5.valA fn_1, true) := by
  kernel_rfl
theorem run_1 (w : World) (os : OsState) : (endE R 60000 w os).map (obP asL fa_1 fn_1 exl_1) = some (He5.valA fn_1, true) := by_endC (run_1c w os)
theorem run_2c (w : World) (os : OsState) : (endC R 60000 w os).map (obP asL fa_2 fn_2 exl_2) = some (He5.valA fn_2, true) := by
  kernel_rfl
theorem run_2 (w : World) (os : OsState) : (endE R 60000 w os).map (obP asL fa_2 fn_2 exl_2) = some (He5.valA fn_2, true) := by_endC (run_2c w os)
theorem run_3c (w : World) (os : OsState) : (endC R 60000 w os).map (obP asL fa_3 fn_3 exl_3) = some (He5.valA fn_3, true) := by
  kernel_rfl
theorem run_3 (w : World) (os : OsState) : (endE R 60000 w os).map (obP asL fa_3 fn_3 exl_3) = some (He5.valA fn_3, true) := by_endC (run_3c w os)
theorem run_4c (w : World) (os : OsState) : (endC R 60000 w os).map (obP asL fa_4 fn_4 exl_4) = some (He5.valA fn_4, true) := by
  kernel_rfl
theorem run_4 (w : World) (os : OsState) : (endE R 60000 w os).map (obP asL fa_4 fn_4 exl_4) = some (He5.valA fn_4, true) := by_endC (run_4c w os)
theorem run_5c (w : World) (os : OsState) : (endC R 60000 w os).map (obP asL fa_5 fn_5 exl_5) = some (He5.valA fn_5, true) := by
  kernel_rfl
theorem run_5 (w : World) (os : OsState) : (endE R 60000 w os).map (obP asL fa_5 fn_5 exl_5) = some (He5.valA fn_5, true) := by_endC (run_5c w os)
theorem run_6 (w : World) (os : OsState) : (endE R 60000 w os).map (obP asL fa_6 fn_6 exl_6) = some (He5.valA fn_6, true) := by_endC (run_6c w os)
theorem run (w : World) : HandSHeadRun.RunEq R (PySem.W.view R.prog [100]) hk ob 60000 loose w :=
  run_of (fun os => run_l w os) (fun os => run_o w os) fun os => piece_app (run_0 w os) (piece_app (run_1 w os) (piece_app (run_2 w os) (piece_app (run_3 w os) (piece_app (run_4 w os) (piece_app (run_5 w os) (run_6 w os))))))

end K48

namespace DL
open PySem L2


section
variable {K : PySem.W.Frag} {S S' : Hp}
end
end DL

namespace DL
open PySem L2


section
variable {K : PySem.W.Frag} {S S' H H' : Hp}
end

theorem LeP.le {w w' : Wd} (a : LeP w w') : Le w w' := ⟨a.s, fun x o h _ => a.h x o h, fun x h _ q => a.n x h q, fun x h => .inl (a.f ▸ h)⟩
section
variable {K : PySem.W.Frag} {S H : Hp} {a : Addr}
end

/-- the i-th name, and what is owned by it -/
theorem EnvR.get {K : PySem.W.Frag} {S H : Hp} : ∀ {σ : St} {ρ : Env} {fps : List (List Addr)} {i : Nat} {m : M}, EnvR K S H σ ρ fps → ρ[i]? = some (some m) → ∃ v fp, σ[i]? = some (some v) ∧ fps[i]? = some fp ∧ OwnR K S H v m fp
  | _, _, _, i, _, .nil _, h => by simp at h
  | _, _, _, 0, _, .no r, h => by simp at h
  | _, _, _, i + 1, _, .no r, h => by
    obtain ⟨v, fp, h1, h2, h3⟩ := EnvR.get (i := i) r (by simpa using h)
    exact ⟨v, fp, by simpa using h1, by simpa using h2, h3⟩
  | _, _, _, 0, _, .ow q r, h => by
    have e := Option.some.inj (Option.some.inj (by simpa using h))
    subst e
    exact ⟨_, _, rfl, rfl, q⟩
  | _, _, _, i + 1, _, .ow q r, h => by
    obtain ⟨v, fp, h1, h2, h3⟩ := EnvR.get (i := i) r (by simpa using h)
    exact ⟨v, fp, by simpa using h1, by simpa using h2, h3⟩
/-- another thing at the i-th name -/
theorem EnvR.set {K : PySem.W.Frag} {S H : Hp} : ∀ {σ : St} {ρ : Env} {fps : List (List Addr)} (i : Nat) {v : V} {m : M} {fp : List Addr}, EnvR K S H σ ρ fps → OwnR K S H v m fp → EnvR K S H (σ.set i (some v)) (ρ.set i (some m)) (fps.set i fp)
  | _, _, _, _, _, _, _, .nil t, _ => .nil t
  | _, _, _, 0, _, _, _, .no r, q => .ow q r
  | _, _, _, i + 1, _, _, _, .no r, q => .no (EnvR.set i r q)
  | _, _, _, 0, _, _, _, .ow _ r, q => .ow q r
  | _, _, _, i + 1, _, _, _, .ow h r, q => .ow h (EnvR.set i r q)
/-- a name is forgotten -/
theorem EnvR.forget {K : PySem.W.Frag} {S H : Hp} : ∀ {σ : St} {ρ : Env} {fps : List (List Addr)} (i : Nat), EnvR K S H σ ρ fps → EnvR K S H σ (ρ.set i none) (fps.set i [])
  | _, _, _, _, .nil t => .nil t
  | _, _, _, 0, .no r => .no r
  | _, _, _, i + 1, .no r => .no (EnvR.forget i r)
  | _, _, _, 0, .ow _ r => .no r
  | _, _, _, i + 1, .ow h r => .ow h (EnvR.forget i r)

/-- lists of addresses: the i-th exchanged -/
theorem mem_flatten_set {α : Type} : ∀ {l : List (List α)} {i : Nat} {f : List α} {x : α}, x ∈ (l.set i f).flatten → x ∈ l.flatten ∨ x ∈ f
  | [], _, _, _, none_there => by simp at none_there
  | a :: r, 0, f, x, h => by
    rw [List.set_cons_zero, List.flatten_cons] at h
    rcases (List.mem_append.mp h) with q | q
    · exact .inr q
    · exact .inl (by rw [List.flatten_cons]; exact List.mem_append_right _ q)
  | a :: r, i + 1, f, x, h => by
    rw [List.set_cons_succ, List.flatten_cons] at h
    rcases (List.mem_append.mp h) with q | q
    · exact .inl (by rw [List.flatten_cons]; exact List.mem_append_left _ q)
    · rcases mem_flatten_set q with z | z
      · exact .inl (by rw [List.flatten_cons]; exact List.mem_append_right _ z)
      · exact .inr z
theorem nodup_flatten_set {α : Type} : ∀ {l : List (List α)} {i : Nat} {f : List α}, l.flatten.Nodup → f.Nodup → (∀ x ∈ f, x ∉ (l.set i []).flatten) → (l.set i f).flatten.Nodup
  | [], _, _, _, _, _ => by simp
  | a :: r, 0, f, h, hf, d => by
    rw [List.set_cons_zero, List.flatten_cons] at d ⊢
    rw [List.flatten_cons] at h
    rw [List.nil_append] at d
    exact List.nodup_append.mpr ⟨hf, (List.nodup_append.mp h).2.1, fun x hx y hy z => d x hx (z ▸ hy)⟩
  | a :: r, i + 1, f, h, hf, d => by
    rw [List.set_cons_succ, List.flatten_cons] at d ⊢
    rw [List.flatten_cons] at h
    obtain ⟨h1, h2, h3⟩ := List.nodup_append.mp h
    refine List.nodup_append.mpr ⟨h1, nodup_flatten_set h2 hf fun x hx q => d x hx (List.mem_append_right _ q), fun x hx y hy z => ?_⟩
    subst z
    rcases mem_flatten_set hy with q | q
    · exact h3 x hx x q rfl
    · exact d x q (List.mem_append_left _ hx)
theorem mem_flatten_nil {α : Type} : ∀ {l : List (List α)} {i : Nat} {x : α}, x ∈ (l.set i []).flatten → x ∈ l.flatten := fun {l i x} h => (mem_flatten_set h).elim id fun q => by cases q
/-- apart: what the i-th has, and the others -/
theorem flatten_apart {α : Type} : ∀ {l : List (List α)} {i : Nat} {f : List α}, l.flatten.Nodup → l[i]? = some f → ∀ x ∈ f, x ∉ (l.set i []).flatten
  | [], _, _, _, none_there => by simp at none_there
  | a :: r, 0, f, h, e => by
    have e2 : a = f := Option.some.inj (by simpa using e)
    subst e2
    rw [List.flatten_cons] at h
    obtain ⟨_, _, h3⟩ := List.nodup_append.mp h
    intro x hx q
    rw [List.set_cons_zero, List.flatten_cons, List.nil_append] at q
    exact h3 x hx x q rfl
  | a :: r, i + 1, f, h, e => by
    rw [List.flatten_cons] at h
    obtain ⟨_, h2, h3⟩ := List.nodup_append.mp h
    have e2 : r[i]? = some f := by simpa using e
    intro x hx q
    rw [List.set_cons_succ, List.flatten_cons] at q
    rcases List.mem_append.mp q with q | q
    · exact h3 x q x (List.mem_flatten.mpr ⟨f, List.mem_of_getElem? e2, hx⟩) rfl
    · exact flatten_apart h2 e2 x hx q
theorem mem_flatten_get {α : Type} {l : List (List α)} {i : Nat} {f : List α} (e : l[i]? = some f) {x : α} (h : x ∈ f) : x ∈ l.flatten := List.mem_flatten.mpr ⟨f, List.mem_of_getElem? e, h⟩

/-! ### growing -/
section
variable {G : Gx} {w w' : Wd} {σ : St} {ρ : Env} {fx : List Addr}
theorem OkE.grow (o : Ok G w σ ρ) (l : LeP w w') (s : Sub w'.S w'.H) : Ok G w' σ ρ := by
  have at_ := o.at_
  obtain ⟨fps, h, e⟩ := o.env
  rw [e, List.append_nil] at at_
  exact ⟨s, ⟨fps, h.keep l.s (fun x q => l.n x (at_ x q).2 (at_ x q).1) (fun x _ o ho => l.h x o ho), l.f.trans e⟩, by rw [l.f]; exact o.nd, o.px⟩
/-- one more object that stays -/
def Wd.add (w : Wd) (p : Addr) (o : HO) : Wd := ⟨upd w.S p o, upd w.H p o, w.F⟩
theorem Wd.le_add {p : Addr} {o : HO} (s : Sub w.S w.H) (h : w.H p = none) : LeP w (w.add p o) := ⟨Ex.new (s.free h), (Ex.new h).keeps, fun x hx q => by
  have ne : x ≠ p := fun z => hx (z ▸ h)
  show upd w.S p o x = none
  rw [upd_ne ne]
  exact q, rfl⟩
theorem Wd.sub_add {p : Addr} {o : HO} (s : Sub w.S w.H) (hp : w.H p = none) : Sub (w.add p o).S (w.add p o).H := fun a u e => by
  show SubAt (upd w.S p o) (upd w.H p o a) u
  have e2 : upd w.S p o a = some u := e
  by_cases z : a = p
  · subst z
    rw [upd_same] at e2
    exact .inl (by rw [upd_same]; exact e2)
  · rw [upd_ne z] at e2
    rw [upd_ne z]
    exact (s a u e2).mono (Ex.new (s.free hp))
end
end DL

namespace DC
open PySem PySem.Spec PyProof.Rows LamX L2
/-! ### a lambda with one parameter -/
/-- what the table of names sc2 of a lambda says, its parameter a, made where sc stands: a is the only name of its own, nobody captures it -/
structure LamA (sc sc2 : Scope) (a : Str) : Prop where
  fn : sc2.kind = .function
  plain : sc2.isCoroutine = false ∧ sc2.isGenerator = false
  par : sc2.names.lookup a = some .local
  void : sc2.names.lookup ("" : Str) = none
  rest : ∀ x kd, (x, kd) ∈ sc2.names → (kd = .local ∧ x = a) ∨ kd = .globalImplicit ∨ kd = .globalExplicit ∨ (kd = .free ∧ (sc.names.lookup x = some .cell ∨ sc.names.lookup x = some .free))
section
variable {cells : List (Str × Addr)} {names : List (Str × NameKind)} {x : Str} {c : Addr}
end
section
variable {X : Cx} {pins : List (Addr × Obj)} {σ : L2.St} {T : Hp} {st : Shared}
end
end DC

namespace DC
open PySem.Spec PySem PyProof.Rows L2 LamX
section
variable {pins : List (Addr × Obj)} {σ : L2.St} {H : Hp} {s : Shared} {X : Cx}
/-- what the made lambda is -/
abbrev lamObj (X : Cx) (params : Arguments) (body : Expr) (scope : Scope) (pm ctv : Value) (c' : Addr) : Obj := PySem.W.kla_obj "<lambda>" (X.env.qual ++ "<lambda>") params body scope (cloFrom X.env.cells scope.names []) pm c' ctv
end
end DC

namespace DC
open PySem.Spec PySem PyProof.Rows L2 LamX
section
variable {pins : List (Addr × Obj)} {σ : L2.St} {H : Hp} {s : Shared} {X : Cx}
theorem FpOk.nofr {b : Addr} (I : Inv X pins σ H s) (h : FpOk X pins H b) : b ∉ frs X.stack := fun z => by
  rcases (List.mem_cons.mp (I.stkSub _ z)) with e | e
  · exact h.2.1 e
  · exact h.2.2.1 e
end
end DC

namespace DC
open PySem PySem.Spec PyProof.Rows LamX L2
section
variable {X : Cx} {pins : List (Addr × Obj)} {σ : L2.St} {T : Hp} {st : Shared}
/-- what the making tells -/
structure Made (X : Cx) (pins : List (Addr × Obj)) (σ : L2.St) (params : Arguments) (body : Expr) (sc2 : Scope) (T2 : Hp) (now : Shared) (fn cd : Addr) (pm ctv : Value) : Prop where
  inv : Inv X pins σ T2 now
  obj : now.heap.get? fn = some (lamObj X params body sc2 pm ctv cd)
  new : T2 fn = none
  nofr : fn ∉ frs X.stack
  code : T2 cd = some (CodeO cd (X.env.qual ++ "<lambda>"))
end
end DC
namespace DL
open PySem L2
/-- the world behind the making -/
theorem Sub.grown {w : Wd} {P : Addr} {q : Str} {T2 : Hp} (s : Sub w.S w.H) (hP : w.S P = some (TabM q)) (g : DC.Grown w.H P q T2) (here : ∃ ps, w.H P = some (.tbl ps) ∧ Good w.S ps q) : ∃ S2, LeP w ⟨S2, T2, w.F⟩ ∧ Sub S2 T2 ∧ ∃ ps, T2 P = some (.tbl ps) ∧ Good S2 ps q := by
  cases g with
  | same => exact ⟨w.S, LeP.refl w, s, here⟩
  | @more ps new cd h1 h2 h3 h4 =>
    obtain ⟨ps', e, g1, g2⟩ := here
    rw [h1] at e
    cases e
    have ne : P ≠ cd := fun z => by rw [z, h2] at h1; cases h1
    have sN : w.S cd = none := s.free h2
    have ex : Ex w.S (upd w.S cd (LamX.CodeO cd q)) := Ex.new sN
    have gd : Good (upd w.S cd (LamX.CodeO cd q)) (ps ++ new) q := ⟨h3, fun pos cv h => by
      rcases h4 pos cv h with z | z
      · obtain ⟨d, e1, e2⟩ := g2 pos cv z
        exact ⟨d, e1, ex _ _ e2⟩
      · exact ⟨cd, z, upd_same⟩⟩
    have atP : upd (upd w.H P (.tbl (ps ++ new))) cd (LamX.CodeO cd q) P = some (.tbl (ps ++ new)) := by rw [upd_ne ne, upd_same]
    refine ⟨upd w.S cd (LamX.CodeO cd q), ⟨ex, fun x o hx => ?_, fun x hx hs => ?_, rfl⟩, fun x o hx => ?_, _, atP, gd⟩
    · show Keeps o (upd (upd w.H P (.tbl (ps ++ new))) cd (LamX.CodeO cd q) x)
      by_cases z : x = P
      · subst z
        rw [h1] at hx
        cases hx
        exact .inr ⟨_, _, rfl, atP⟩
      · rw [upd_ne (ne_of_none hx h2), upd_ne z]
        exact .inl hx
    · show upd w.S cd (LamX.CodeO cd q) x = none
      rw [upd_ne (fun z : x = cd => hx (z ▸ h2))]
      exact hs
    · by_cases z : x = cd
      · subst z
        rw [upd_same] at hx ⊢
        exact .inl hx
      · rw [upd_ne z] at hx
        by_cases y : x = P
        · subst y
          rw [hP] at hx
          cases hx
          exact .inr (.inr ⟨q, _, rfl, atP, gd⟩)
        · rw [upd_ne z, upd_ne y]
          exact (s x o hx).mono ex
end DL

namespace DC
open PySem PySem.Spec PyProof.Rows LamX L2
section
variable {X : Cx}
end
end DC

namespace DL
open PySem L2

/-- an expression gives something new that may be changed -/
def WO (G : Gx) (te : TE) (ρ : Env) (P : M → Env → Prop) : Prop := ∀ w σ (Q : VK), Ok G w σ ρ → Esc G w → (∀ v w' m ρ' fp, P m ρ' → Le w w' → OkE G w' σ ρ' fp → OwnR G.K w'.S w'.H v m fp → Q v w'.H) → te σ w.H Q
def WA (G : Gx) (ta : TA) (ρ : Env) (P : List D → Env → Prop) : Prop := ∀ w σ (Q : List V → Hp → Prop), Ok G w σ ρ → Esc G w → (∀ vs w' ds ρ', P ds ρ' → Le w w' → Ok G w' σ ρ' → RepL G.K w'.S vs ds → Q vs w'.H) → ta σ w.H Q
def WS (G : Gx) (t : TS) (ρ : Env) (P : Post) : Prop := ∀ w σ D, Ok G w σ ρ → Esc G w → Meets G w D P → t D σ w.H
section
variable {G : Gx} {te ta tb tc : TE} {t u c : TT} {ρ : Env} {P : D → Env → Prop} {i : Nat} {d x y z : D}

/-! ### names, constants -/
theorem Ok.get {w : Wd} {σ : St} (o : Ok G w σ ρ) (h : ρ[i]? = some (some (.sh d))) : ∃ v, σ[i]? = some (some v) ∧ Rep G.K w.S v d := by
  obtain ⟨fps, e, _⟩ := o.env
  obtain ⟨v, fp, h1, _, h3⟩ := e.get h
  cases h3 with
  | sh r => exact ⟨v, h1, r⟩
theorem w_var (h : ρ[i]? = some (some (.sh d))) (k : P d ρ) : W G (tVar i) ρ P := fun w σ Q o _ q => by
  obtain ⟨v, h1, r⟩ := o.get h
  exact ⟨v, h1, q v w d ρ k (Le.refl w) o r⟩
theorem w_int {n : Int} (k : P (.int n) ρ) : W G (tC (.int n)) ρ P := fun w _ _ o _ q => q _ w _ ρ k (Le.refl w) o (.int n)
theorem w_bl {b : Bool} (k : P (.bl b) ρ) : W G (tC (.bl b)) ρ P := fun w _ _ o _ q => q _ w _ ρ k (Le.refl w) o (.bl b)
theorem w_non (k : P .non ρ) : W G (tC .non) ρ P := fun w _ _ o _ q => q _ w _ ρ k (Le.refl w) o .non
theorem w_str {a : Str} (k : P (.str a) ρ) : W G (tC (.str a)) ρ P := fun w _ _ o _ q => q _ w _ ρ k (Le.refl w) o (.str a)
theorem w_ty {n : String} (k : P (.ty n) ρ) : W G (tC (.ty n)) ρ P := fun w _ _ o _ q => q _ w _ ρ k (Le.refl w) o (.ty n)
theorem w_fun {a : Addr} (k : P (.fun_ a) ρ) : W G (tC (.ref a)) ρ P := fun w _ _ o _ q => q _ w _ ρ k (Le.refl w) o (.fun_ a)
def RU (K : PySem.W.Frag) (r : V → Hp → VK → Prop) (x : D) (k : D → Prop) : Prop := ∀ w v (Q : VK), Sub w.S w.H → Rep K w.S v x →
  (∀ z w' vz, k z → LeP w w' → Sub w'.S w'.H → Rep K w'.S vz z → Q vz w'.H) → r v w.H Q
def RC (K : PySem.W.Frag) (r : List V → Hp → VK → Prop) (xs : List D) (k : D → Prop) : Prop := ∀ w vs (Q : VK), Sub w.S w.H → RepL K w.S vs xs →
  (∀ z w' vz, k z → LeP w w' → Sub w'.S w'.H → Rep K w'.S vz z → Q vz w'.H) → r vs w.H Q
theorem w_op {r : R2} (h : W G ta ρ fun x ρ1 => W G tb ρ1 fun y ρ2 => RD G.K r x y fun z => P z ρ2) : W G (tOp r ta tb) ρ P := fun w σ Q o e q =>
  h w σ _ o e fun v w1 x ρ1 h1 l1 o1 r1 => h1 w1 σ _ o1 (e.later l1) fun u w2 y ρ2 h2 l2 o2 r2 => h2 w2 v u _ o2.sub (r1.mono l2.s) r2 fun z w3 vz pz l3 s3 r3 =>
    q vz w3 z ρ2 pz ((l1.trans l2).trans l3.le) (o2.grow l3 s3) r3
theorem w_un {r : V → Hp → VK → Prop} (h : W G ta ρ fun x ρ1 => RU G.K r x fun z => P z ρ1) : W G (tUn r ta) ρ P := fun w σ Q o e q =>
  h w σ _ o e fun v w1 x ρ1 h1 l1 o1 r1 => h1 w1 v _ o1.sub r1 fun z w3 vz pz l3 s3 r3 => q vz w3 z ρ1 pz (l1.trans l3.le) (o1.grow l3 s3) r3
/-- the answer is a plain value -/
theorem rd_val {K : PySem.W.Frag} {r : R2} {k : D → Prop} (vz : V) (hz : ∀ S, Rep K S vz z) (p : k z) (h : ∀ (w : Wd) (v u : V) (Q : VK), Sub w.S w.H → Rep K w.S v x → Rep K w.S u y → Q vz w.H → r v u w.H Q) : RD K r x y k :=
  fun w v u Q s rx ry q => h w v u Q s rx ry (q z w vz p (LeP.refl w) s (hz _))

variable {PT : Bool → Env → Prop}
theorem wt_test (h : W G te ρ fun x ρ1 => ∃ b, x = .bl b ∧ PT b ρ1) : WT G (tTest te) ρ PT := fun w σ Q o e q =>
  h w σ _ o e fun v w1 x ρ1 ⟨b, ex, p⟩ l1 o1 r1 => by
    subst ex
    exact ⟨b, r1.bl_inv, q b w1 ρ1 p l1 o1⟩
theorem wt_B (h : W G te ρ fun x ρ1 => ∃ b, x = .bl b ∧ PT b ρ1) : WT G (tB te) ρ PT := wt_test h
theorem wt_and (h : WT G t ρ fun b ρ1 => if b = true then WT G u ρ1 PT else PT false ρ1) : WT G (tAnd t u) ρ PT := fun w σ Q o e q =>
  h w σ _ o e fun b w1 ρ1 p l1 o1 => by
    cases b with
    | true => exact p w1 σ Q o1 (e.later l1) fun b w2 ρ2 p2 l2 => q b w2 ρ2 p2 (l1.trans l2)
    | false => exact q false w1 ρ1 p l1 o1
theorem wt_or (h : WT G t ρ fun b ρ1 => if b = true then PT true ρ1 else WT G u ρ1 PT) : WT G (tOr t u) ρ PT := fun w σ Q o e q =>
  h w σ _ o e fun b w1 ρ1 p l1 o1 => by
    cases b with
    | false => exact p w1 σ Q o1 (e.later l1) fun b w2 ρ2 p2 l2 => q b w2 ρ2 p2 (l1.trans l2)
    | true => exact q true w1 ρ1 p l1 o1
theorem wt_not (h : WT G t ρ fun b ρ1 => PT (!b) ρ1) : WT G (tNot t) ρ PT := fun w σ Q o e q => h w σ _ o e fun b w1 ρ1 p l1 o1 => q (!b) w1 ρ1 p l1 o1
theorem w_ifE (h : WT G t ρ fun b ρ1 => if b = true then W G ta ρ1 P else W G tb ρ1 P) : W G (tIf t ta tb) ρ P := fun w σ Q o e q =>
  h w σ _ o e fun b w1 ρ1 p l1 o1 => by
    cases b with
    | true => exact p w1 σ Q o1 (e.later l1) fun v w2 d ρ2 p2 l2 => q v w2 d ρ2 p2 (l1.trans l2)
    | false => exact p w1 σ Q o1 (e.later l1) fun v w2 d ρ2 p2 l2 => q v w2 d ρ2 p2 (l1.trans l2)
theorem w_andV (h : W G ta ρ fun x ρ1 => ∃ b, x = .bl b ∧ if b = true then W G tb ρ1 P else P (.bl false) ρ1) : W G (tAndV ta tb) ρ P := fun w σ Q o e q =>
  h w σ _ o e fun v w1 x ρ1 ⟨b, ex, p⟩ l1 o1 r1 => by
    subst ex
    refine ⟨b, r1.bl_inv, ?_⟩
    cases b with
    | true => exact p w1 σ Q o1 (e.later l1) fun v w2 d ρ2 p2 l2 => q v w2 d ρ2 p2 (l1.trans l2)
    | false => exact q _ w1 _ ρ1 p l1 o1 (.bl false)
theorem w_orV (h : W G ta ρ fun x ρ1 => ∃ b, x = .bl b ∧ if b = true then P (.bl true) ρ1 else W G tb ρ1 P) : W G (tOrV ta tb) ρ P := fun w σ Q o e q =>
  h w σ _ o e fun v w1 x ρ1 ⟨b, ex, p⟩ l1 o1 r1 => by
    subst ex
    refine ⟨b, r1.bl_inv, ?_⟩
    cases b with
    | false => exact p w1 σ Q o1 (e.later l1) fun v w2 d ρ2 p2 l2 => q v w2 d ρ2 p2 (l1.trans l2)
    | true => exact q _ w1 _ ρ1 p l1 o1 (.bl true)
theorem w_notV (h : W G ta ρ fun x ρ1 => ∃ b, x = .bl b ∧ P (.bl (!b)) ρ1) : W G (tNotV ta) ρ P := fun w σ Q o e q =>
  h w σ _ o e fun v w1 x ρ1 ⟨b, ex, p⟩ l1 o1 r1 => by
    subst ex
    exact ⟨b, r1.bl_inv, q _ w1 _ ρ1 p l1 o1 (.bl _)⟩
theorem w_chain {r r' : R2} (h : W G ta ρ fun x ρ1 => W G tb ρ1 fun y ρ2 => RD G.K r x y fun z => ∃ b, z = .bl b ∧ if b = true then W G tc ρ2 fun x3 ρ3 => RD G.K r' y x3 fun z' => P z' ρ3 else P (.bl false) ρ2) : W G (tChain r r' ta tb tc) ρ P := fun w σ Q o e q =>
  h w σ _ o e fun v w1 x ρ1 h1 l1 o1 r1 => h1 w1 σ _ o1 (e.later l1) fun u w2 y ρ2 h2 l2 o2 r2 => h2 w2 v u _ o2.sub (r1.mono l2.s) r2 fun z w3 vz pz l3 s3 r3 => by
    obtain ⟨b, ez, p⟩ := pz
    subst ez
    have o3 := o2.grow l3 s3
    have l03 := (l1.trans l2).trans l3.le
    refine ⟨b, r3.bl_inv, ?_⟩
    cases b with
    | true => exact p w3 σ _ o3 (e.later l03) fun v4 w4 x4 ρ4 h4 l4 o4 r4 => h4 w4 u v4 Q o4.sub ((r2.mono l3.s).mono l4.s) r4 fun z w5 vz pz l5 s5 r5 => q vz w5 z ρ4 pz ((l03.trans l4).trans l5.le) (o4.grow l5 s5) r5
    | false => exact q _ w3 _ ρ2 p l03 o3 (.bl false)

/-! ### arguments, displays -/
variable {PA : List D → Env → Prop} {tr t1 : TA}
theorem wa_nil (k : PA [] ρ) : WA G tNil ρ PA := fun w _ _ o _ q => q [] w [] ρ k (Le.refl w) o .nil
theorem wa_cons (h : W G ta ρ fun x ρ1 => WA G tr ρ1 fun xs ρ2 => PA (x :: xs) ρ2) : WA G (tCons ta tr) ρ PA := fun w σ Q o e q =>
  h w σ _ o e fun v w1 x ρ1 h1 l1 o1 r1 => h1 w1 σ _ o1 (e.later l1) fun vs w2 xs ρ2 h2 l2 o2 r2 => q (v :: vs) w2 (x :: xs) ρ2 h2 (l1.trans l2) o2 (.cons (r1.mono l2.s) r2)
theorem w_tup (h : WA G t1 ρ fun xs ρ1 => xs.length ≤ 100000 ∧ P (.tup xs) ρ1) : W G (tTup t1) ρ P := fun w σ Q o e q =>
  h w σ _ o e fun vs w1 xs ρ1 ⟨hl, p⟩ l1 o1 r1 => ⟨sz_of (by rw [r1.len]; exact hl), fun a ha => by
    have l2 := Wd.le_add (o := .tup vs) o1.sub ha
    have s2 := Wd.sub_add (p := a) (o := .tup vs) o1.sub ha
    exact q (.ref a) (w1.add a (.tup vs)) _ ρ1 p (l1.trans l2.le) (o1.grow l2 s2) (.tup (SqT.of upd_same) (r1.mono l2.s))⟩
theorem w_lst (h : WA G t1 ρ fun xs ρ1 => xs.length ≤ 100000 ∧ P (.lst xs) ρ1) : W G (tLst t1) ρ P := fun w σ Q o e q =>
  h w σ _ o e fun vs w1 xs ρ1 ⟨hl, p⟩ l1 o1 r1 => ⟨sz_of (by rw [r1.len]; exact hl), fun a ha => by
    have l2 := Wd.le_add (o := .lst vs) o1.sub ha
    have s2 := Wd.sub_add (p := a) (o := .lst vs) o1.sub ha
    exact q (.ref a) (w1.add a (.lst vs)) _ ρ1 p (l1.trans l2.le) (o1.grow l2 s2) (.lst (.inl upd_same) (r1.mono l2.s))⟩
/-- something new that is owned -/
def Wd.own (w : Wd) (p : Addr) (o : HO) : Wd := ⟨w.S, upd w.H p o, w.F ++ [p]⟩
theorem Wd.le_own {w : Wd} {p : Addr} {o : HO} (h : w.H p = none) : Le w (w.own p o) := ⟨Ex.refl _, fun x u hx _ => .inl (Ex.new h x u hx), fun _ _ _ q => q, fun x hx => by
  rcases List.mem_append.mp hx with z | z
  · exact .inl z
  · obtain rfl : x = p := by simpa using z
    exact .inr h⟩
theorem Wd.sub_own {w : Wd} {p : Addr} {o : HO} (s : Sub w.S w.H) (h : w.H p = none) : Sub (w.own p o).S (w.own p o).H := fun a u e => by
  have z : a ≠ p := fun z => by
    have q := s.free h
    rw [← z] at q
    rw [show w.S a = some u from e] at q
    cases q
  show SubAt _ (upd w.H p o a) u
  rw [upd_ne z]
  exact s a u e
theorem OkE.own {w : Wd} {σ : St} {p : Addr} {o : HO} (k : Ok G w σ ρ) (h : w.H p = none) : OkE G (w.own p o) σ ρ [p] := by
  have at_ := k.at_
  obtain ⟨fps, e, f⟩ := k.env
  have f2 : w.F = fps.flatten := by rw [f, List.append_nil]
  refine ⟨Wd.sub_own k.sub h, ⟨fps, e.keep (Ex.refl _) (fun x q => (at_ x (f2 ▸ q)).1) (fun x _ u hu => .inl (Ex.new h x u hu)), by show w.F ++ [p] = _; rw [f2]⟩, ?_, k.px⟩
  show (w.F ++ [p]).Nodup
  refine List.nodup_append.mpr ⟨k.nd, by simp, fun x hx y hy z => ?_⟩
  obtain rfl : y = p := by simpa using hy
  subst z
  exact (at_ x hx).2 h
theorem ownL_of {K : PySem.W.Frag} {S H : Hp} : ∀ {vs : List V} {ds : List D}, RepL K S vs ds → OwnL K S H vs (ds.map .sh) []
  | _, _, .nil => .nil
  | _, _, .cons r q => OwnL.cons (f := []) (g := []) (.sh r) (ownL_of q)
variable {PO : M → Env → Prop}
theorem wo_lst (h : WA G t1 ρ fun xs ρ1 => xs.length ≤ 100000 ∧ PO (.lst (xs.map .sh)) ρ1) : WO G (tLst t1) ρ PO := fun w σ Q o e q =>
  h w σ _ o e fun vs w1 xs ρ1 ⟨hl, p⟩ l1 o1 r1 => ⟨sz_of (by rw [r1.len]; exact hl), fun a ha => by
    exact q (.ref a) (w1.own a (.lst vs)) _ ρ1 [a] p (l1.trans (Wd.le_own ha)) (o1.own ha) (.lst (o1.sub.free ha) upd_same (ownL_of r1))⟩
end
end DL

namespace DL
open PySem L2

/-! ### environments that know less -/
def Drops (ρ' ρ : Env) : Prop := ρ'.length = ρ.length ∧ ∀ (j : Nat) (m : M), ρ'[j]? = some (some m) → ρ[j]? = some (some m)
theorem EnvR.congr {K : PySem.W.Frag} {S H : Hp} : ∀ {σ : St} {ρ : Env} {fps : List (List Addr)} {σ' : St} {ρ' : Env}, EnvR K S H σ ρ fps → σ'.length = σ.length → ρ'.length = ρ.length →
    (∀ (j : Nat) (m : M), ρ'[j]? = some (some m) → ρ[j]? = some (some m) ∧ σ'[j]? = σ[j]?) → ∃ fps', EnvR K S H σ' ρ' fps' ∧ fps'.flatten.Sublist fps.flatten
  | [], _, _, σ', ρ', .nil t, h1, h2, _ => by
    obtain rfl : σ' = [] := List.eq_nil_of_length_eq_zero h1
    obtain rfl : ρ' = [] := List.eq_nil_of_length_eq_zero h2
    exact ⟨[], .nil t, List.Sublist.refl _⟩
  | _ :: _, _ :: _, _, [], _, _, h1, _, _ => by simp at h1
  | _ :: _, _ :: _, _, _ :: _, [], _, _, h2, _ => by simp at h2
  | x :: σ, none :: ρ, _, y :: σ', b :: ρ', .no (fps := fps) r, h1, h2, h => by
    obtain ⟨fps', e, s⟩ := EnvR.congr r (σ' := σ') (ρ' := ρ') (by simpa using h1) (by simpa using h2) fun j m q => by
      have z := h (j + 1) m (by simpa using q)
      simpa using z
    cases b with
    | none => exact ⟨[] :: fps', .no e, by simpa using s⟩
    | some m => have z := (h 0 m rfl).1; simp at z
  | some v0 :: σ, some m0 :: ρ, _, y :: σ', b :: ρ', .ow (fp := fp) (fps := fps) q r, h1, h2, h => by
    obtain ⟨fps', e, s⟩ := EnvR.congr r (σ' := σ') (ρ' := ρ') (by simpa using h1) (by simpa using h2) fun j m q => by
      have z := h (j + 1) m (by simpa using q)
      simpa using z
    cases b with
    | none => exact ⟨[] :: fps', .no e, by
        rw [List.flatten_cons, List.flatten_cons]
        exact List.Sublist.trans s (List.sublist_append_right _ _)⟩
    | some m =>
      obtain ⟨z1, z2⟩ := h 0 m rfl
      have e1 := Option.some.inj (Option.some.inj (by simpa using z1))
      have e2 := Option.some.inj (by simpa using z2)
      subst e1
      rw [e2]
      exact ⟨fp :: fps', .ow q e, by
        rw [List.flatten_cons, List.flatten_cons]
        exact List.Sublist.append (List.Sublist.refl _) s⟩
section
variable {G : Gx} {ρ ρ' : Env} {w : Wd} {σ σ' : St}
/-- the same world, of which less is owned -/
def Wd.less (w : Wd) (F : List Addr) : Wd := ⟨w.S, w.H, F⟩
theorem Wd.le_less {F : List Addr} (h : ∀ x ∈ F, x ∈ w.F) : Le w (w.less F) := ⟨Ex.refl _, fun _ _ h _ => .inl h, fun _ _ _ h => h, fun x hx => .inl (h x hx)⟩
theorem OkE.congr (o : Ok G w σ ρ) (h1 : σ'.length = σ.length) (h2 : ρ'.length = ρ.length) (h : ∀ (j : Nat) (m : M), ρ'[j]? = some (some m) → ρ[j]? = some (some m) ∧ σ'[j]? = σ[j]?) (hp : ∀ i ∈ G.px, σ'[i]? = σ[i]?) :
    ∃ w', Le w w' ∧ w'.S = w.S ∧ w'.H = w.H ∧ (∀ x ∈ w'.F, x ∈ w.F) ∧ Ok G w' σ' ρ' := by
  obtain ⟨fps, e, f⟩ := o.env
  obtain ⟨fps', e', s⟩ := e.congr h1 h2 h
  have f2 : w.F = fps.flatten := by rw [f, List.append_nil]
  have sub : ∀ x ∈ fps'.flatten, x ∈ w.F := fun x hx => f2 ▸ s.subset hx
  exact ⟨w.less fps'.flatten, Wd.le_less sub, rfl, rfl, sub, o.sub, ⟨fps', e', by show fps'.flatten = _; rw [List.append_nil]⟩, by
    show fps'.flatten.Nodup
    have nd := o.nd
    rw [f2] at nd
    exact nd.sublist s, fun i hi => by rw [hp i hi]; exact o.px i hi⟩
theorem Ok.drop (o : Ok G w σ ρ) (d : Drops ρ' ρ) : ∃ w', Le w w' ∧ w'.S = w.S ∧ w'.H = w.H ∧ (∀ x ∈ w'.F, x ∈ w.F) ∧ Ok G w' σ ρ' := OkE.congr o rfl d.1 (fun j m q => ⟨d.2 j m q, rfl⟩) fun _ _ => rfl
/-- data at a name -/
theorem OkE.setSh {i : Nat} {v : V} {d : D} (o : Ok G w σ ρ) (r : Rep G.K w.S v d) (hi : i ∉ G.px) : ∃ w', Le w w' ∧ w'.S = w.S ∧ w'.H = w.H ∧ (∀ x ∈ w'.F, x ∈ w.F) ∧ Ok G w' (σ.set i (some v)) (ρ.set i (some (.sh d))) := by
  obtain ⟨fps, e, f⟩ := o.env
  have f2 : w.F = fps.flatten := by rw [f, List.append_nil]
  have sub : ∀ x ∈ (fps.set i []).flatten, x ∈ w.F := fun x hx => f2 ▸ mem_flatten_nil hx
  refine ⟨w.less (fps.set i []).flatten, Wd.le_less sub, rfl, rfl, sub, o.sub, ⟨_, e.set i (.sh r), by show (fps.set i []).flatten = _; rw [List.append_nil]⟩, ?_, fun j hj => ?_⟩
  · show (fps.set i []).flatten.Nodup
    have nd := o.nd
    rw [f2] at nd
    exact nodup_flatten_set nd (by simp) (fun x h => by cases h)
  · have ne : i ≠ j := fun z => hi (z ▸ hj)
    rw [List.getElem?_set_ne ne]
    exact o.px j hj
/-- what is owned, at a name -/
theorem OkE.setM {i : Nat} {v : V} {m : M} {fp : List Addr} (o : OkE G w σ ρ fp) (r : OwnR G.K w.S w.H v m fp) (hi : i ∉ G.px) (hl : i < ρ.length) : ∃ w', Le w w' ∧ w'.S = w.S ∧ w'.H = w.H ∧ (∀ x ∈ w'.F, x ∈ w.F) ∧ Ok G w' (σ.set i (some v)) (ρ.set i (some m)) := by
  obtain ⟨fps, e, f⟩ := o.env
  have nd := o.nd
  rw [f] at nd
  obtain ⟨nd1, nd2, nd3⟩ := List.nodup_append.mp nd
  have sub : ∀ x ∈ (fps.set i fp).flatten, x ∈ w.F := fun x hx => by
    rw [f]
    exact (mem_flatten_set hx).elim (List.mem_append_left _) (List.mem_append_right _)
  refine ⟨w.less (fps.set i fp).flatten, Wd.le_less sub, rfl, rfl, sub, o.sub, ⟨_, e.set i r, by show (fps.set i fp).flatten = _; rw [List.append_nil]⟩, ?_, fun j hj => ?_⟩
  · show (fps.set i fp).flatten.Nodup
    exact nodup_flatten_set nd1 nd2 (fun x h q => nd3 x (mem_flatten_nil q) x h rfl)
  · have ne : i ≠ j := fun z => hi (z ▸ hj)
    rw [List.getElem?_set_ne ne]
    exact o.px j hj
/-- what is owned by a name is taken out of it -/
theorem OkE.takeM {i : Nat} {m : M} (o : Ok G w σ ρ) (h : ρ[i]? = some (some m)) : ∃ v fp w', σ[i]? = some (some v) ∧ Le w w' ∧ w'.S = w.S ∧ w'.H = w.H ∧ OkE G w' σ (ρ.set i none) fp ∧ OwnR G.K w.S w.H v m fp := by
  obtain ⟨fps, e, f⟩ := o.env
  have f2 : w.F = fps.flatten := by rw [f, List.append_nil]
  obtain ⟨v, fp, h1, h2, h3⟩ := e.get h
  have nd := o.nd
  rw [f2] at nd
  have ap := flatten_apart nd h2
  have sub : ∀ x ∈ (fps.set i []).flatten ++ fp, x ∈ w.F := fun x hx => by
    rw [f2]
    exact (List.mem_append.mp hx).elim mem_flatten_nil (mem_flatten_get h2)
  refine ⟨v, fp, w.less ((fps.set i []).flatten ++ fp), h1, Wd.le_less sub, rfl, rfl, ⟨o.sub, ⟨_, e.forget i, rfl⟩, ?_, o.px⟩, h3⟩
  show ((fps.set i []).flatten ++ fp).Nodup
  refine List.nodup_append.mpr ⟨nodup_flatten_set nd (by simp) (fun x h => by cases h), ?_, fun x hx y hy z => ap y hy (z ▸ hx)⟩
  have q : fp.Sublist fps.flatten := by
    have hm := List.mem_of_getElem? h2
    exact List.sublist_flatten_of_mem hm
  exact nd.sublist q
end

/-! ### statements -/
section
variable {G : Gx} {te ta tb tc : TE} {t u : TS} {c : TT} {ρ ρ' : Env} {P : Post} {i j : Nat}
theorem ws_seq (h : WS G t ρ { P with nx := fun ρ' => WS G u ρ' P }) : WS G (tSeq t u) ρ P := fun w σ D o e m =>
  h w σ _ o e ⟨fun w' σ' ρ' q l o' => q w' σ' D o' (e.later l) (m.later l), m.rt, m.bk, m.ct⟩
theorem ws_next (h : P.nx ρ) : WS G tNext ρ P := fun w σ D o e m => m.nx w σ ρ h (Le.refl w) o
theorem ws_asg (hi : i ∉ G.px) (h : W G te ρ fun d ρ1 => P.nx (ρ1.set i (some (.sh d)))) : WS G (tAsg te (gName i)) ρ P := fun w σ D o e m =>
  h w σ _ o e fun v w1 d ρ1 p l1 o1 r1 => by
    obtain ⟨w2, l2, _, hH, _, o2⟩ := o1.setSh r1 hi
    have q := m.nx w2 _ _ p (l1.trans l2) o2
    rw [hH] at q
    exact q
theorem ws_asgO (hi : i ∉ G.px) (hl : i < ρ.length) (h : WO G te ρ fun a ρ1 => ρ1.length = ρ.length ∧ P.nx (ρ1.set i (some a))) : WS G (tAsg te (gName i)) ρ P := fun w σ D o e m =>
  h w σ _ o e fun v w1 d ρ1 fp ⟨hl1, p⟩ l1 o1 r1 => by
    obtain ⟨w2, l2, _, hH, _, o2⟩ := o1.setM r1 hi (by rw [hl1]; exact hl)
    have q := m.nx w2 _ _ p (l1.trans l2) o2
    rw [hH] at q
    exact q
theorem ws_drop (h : W G te ρ fun _ ρ1 => P.nx ρ1) : WS G (tDrop te) ρ P := fun w σ D o e m => h w σ _ o e fun v w1 d ρ1 p l1 o1 _ => m.nx w1 σ ρ1 p l1 o1
theorem ws_ret (h : W G te ρ fun d ρ1 => P.rt (.sh d) ρ1) : WS G (tRet te) ρ P := fun w σ D o e m => h w σ _ o e fun v w1 d ρ1 p l1 o1 r1 => m.rt v w1 σ _ ρ1 [] p l1 o1 (.sh r1)
theorem ws_retO (h : WO G te ρ P.rt) : WS G (tRet te) ρ P := fun w σ D o e m => h w σ _ o e fun v w1 a ρ1 fp p l1 o1 r1 => m.rt v w1 σ a ρ1 fp p l1 o1 r1
theorem ws_retN (h : P.rt (.sh .non) ρ) : WS G tRetN ρ P := fun w σ D o e m => m.rt .non w σ _ ρ [] h (Le.refl w) o (.sh .non)
theorem ws_if (h : WT G c ρ fun b ρ1 => if b = true then WS G t ρ1 P else WS G u ρ1 P) : WS G (tIfS c t u) ρ P := fun w σ D o e m =>
  h w σ _ o e fun b w1 ρ1 p l1 o1 => by
    cases b with
    | true => exact p w1 σ D o1 (e.later l1) (m.later l1)
    | false => exact p w1 σ D o1 (e.later l1) (m.later l1)
theorem ws_par {t1 : TA} (hi : i ∉ G.px) (hj : j ∉ G.px) (h : WA G t1 ρ fun ds ρ1 => ∃ x y, ds = [x, y] ∧ P.nx ((ρ1.set i (some (.sh x))).set j (some (.sh y)))) : WS G (tPar i j t1) ρ P := fun w σ D o e m =>
  h w σ _ o e fun vs w1 ds ρ1 ⟨x, y, ed, p⟩ l1 o1 r1 => by
    subst ed
    cases r1 with
    | cons ra r =>
      cases r with
      | cons rb r =>
        cases r
        obtain ⟨w2, l2, hS2, hH2, _, o2⟩ := o1.setSh ra hi
        obtain ⟨w3, l3, _, hH3, _, o3⟩ := o2.setSh (by rw [hS2]; exact rb) hj
        have q := m.nx w3 _ _ p ((l1.trans l2).trans l3) o3
        rw [hH3, hH2] at q
        exact ⟨_, _, rfl, q⟩
/-! ### targets -/
def WG (G : Gx) (g : TG) (d : D) (ρ : Env) (sl : List Nat) (P : Env → Prop) : Prop := ∀ w σ v (Q : St → Hp → Prop), Ok G w σ ρ → Rep G.K w.S v d →
  (∀ w' σ' ρ', P ρ' → Le w w' → w'.S = w.S → w'.H = w.H → Ok G w' σ' ρ' → σ'.length = σ.length → (∀ j, j ∉ sl → σ'[j]? = σ[j]?) → Q σ' w.H) → g v σ w.H Q
def WGs (G : Gx) (g : TGs) (ds : List D) (ρ : Env) (sl : List Nat) (P : Env → Prop) : Prop := ∀ w σ vs (Q : St → Hp → Prop), Ok G w σ ρ → RepL G.K w.S vs ds →
  (∀ w' σ' ρ', P ρ' → Le w w' → w'.S = w.S → w'.H = w.H → Ok G w' σ' ρ' → σ'.length = σ.length → (∀ j, j ∉ sl → σ'[j]? = σ[j]?) → Q σ' w.H) → g vs σ w.H Q
variable {d : D} {sl : List Nat} {PE_ : Env → Prop}
theorem wg_name (hi : i ∉ G.px) (hs : i ∈ sl) (h : PE_ (ρ.set i (some (.sh d)))) : WG G (gName i) d ρ sl PE_ := fun w σ v Q o r q => by
  obtain ⟨w', l, hS, hH, _, o'⟩ := o.setSh r hi
  exact q w' _ _ h l hS hH o' List.length_set fun j hj => List.getElem?_set_ne (fun z => hj (by rw [← z]; exact hs))
theorem wgs_nil (h : PE_ ρ) : WGs G gNil [] ρ sl PE_ := fun w σ vs Q o r q => by
  cases r
  exact ⟨rfl, q w σ ρ h (Le.refl w) rfl rfl o rfl fun _ _ => rfl⟩
theorem wgs_cons {g : TG} {gs : TGs} {ds : List D} (h : WG G g d ρ sl fun ρ1 => WGs G gs ds ρ1 sl PE_) : WGs G (gCons g gs) (d :: ds) ρ sl PE_ := fun w σ vs Q o r q => by
  cases r with
  | cons r1 r2 =>
    refine ⟨_, _, rfl, h w σ _ _ o r1 fun w1 σ1 ρ1 h1 l1 hS1 hH1 o1 n1 k1 => ?_⟩
    rw [← hH1]
    refine h1 w1 σ1 _ _ o1 (by rw [hS1]; exact r2) fun w2 σ2 ρ2 h2 l2 hS2 hH2 o2 n2 k2 => ?_
    rw [hH1]
    exact q w2 σ2 ρ2 h2 (l1.trans l2) (hS2.trans hS1) (hH2.trans hH1) o2 (n2.trans n1) fun j hj => (k2 j hj).trans (k1 j hj)
theorem wg_tup {gs : TGs} {ds : List D} {n : Nat} (hn : ds.length = n) (h : WGs G gs ds ρ sl PE_) : WG G (gTup G.K n gs) (.tup ds) ρ sl PE_ := fun w σ v Q o r q => by
  cases r with
  | tup h1 r1 => exact ⟨_, _, rfl, o.sub.st h1, by rw [r1.len, hn], h w σ _ Q o r1 q⟩
theorem wg_lst {gs : TGs} {ds : List D} {n : Nat} (hn : ds.length = n) (h : WGs G gs ds ρ sl PE_) : WG G (gLst G.K n gs) (.lst ds) ρ sl PE_ := fun w σ v Q o r q => by
  cases r with
  | lst h1 r1 => exact ⟨_, _, rfl, o.sub.sl (.inl h1), by rw [r1.len, hn], h w σ _ Q o r1 q⟩
def WI (G : Gx) (wi : TI) (ρ : Env) (P : List D → Env → Prop) : Prop := ∀ w σ (R : It → Hp → Prop), Ok G w σ ρ → Esc G w → (∀ J w' ds ρ', P ds ρ' → Le w w' → Ok G w' σ ρ' → Items G.K J w' ds → R J w'.H) → wi σ w.H R
theorem RepL.get {K : PySem.W.Frag} {S : Hp} : ∀ {vs : List V} {ds : List D} {i : Nat} {d : D}, RepL K S vs ds → ds[i]? = some d → ∃ v, vs[i]? = some v ∧ Rep K S v d
  | _, _, _, _, .nil, h => by simp at h
  | _, _, 0, _, .cons r _, h => by
    have e := Option.some.inj (by simpa using h)
    subst e
    exact ⟨_, rfl, r⟩
  | _, _, i + 1, _, .cons _ r, h => by
    obtain ⟨v, h1, h2⟩ := RepL.get (i := i) r (by simpa using h)
    exact ⟨v, by simpa using h1, h2⟩
variable {PI_ : List D → Env → Prop}
theorem wi_list {tl : TE} (h : W G tl ρ fun x ρ1 => ∃ ds, x = .lst ds ∧ PI_ ds ρ1) : WI G (iList G.K tl) ρ PI_ := fun w σ R o e q =>
  h w σ _ o e fun v w1 x ρ1 ⟨ds, ex, p⟩ l1 o1 r1 => by
    subst ex
    cases r1 with
    | @lst a xs _ h0 r1 =>
      have h1 : SqL G.K w1.S a xs := .inl h0
      refine ⟨_, rfl, ⟨_, o1.sub.sl h1⟩, q _ w1 ds ρ1 p l1 o1 fun w2 l2 s2 => ⟨fun i d hd => ?_, ⟨xs, s2.sl (l2.s.sl h1), by rw [r1.len]; exact Nat.le_refl _⟩⟩⟩
      obtain ⟨x, hx, rx⟩ := r1.get hd
      refine ⟨⟨xs, x, s2.sl (l2.s.sl h1), hx⟩, fun y H' ⟨eH, k⟩ => ⟨w2, eH.symm, LeP.refl w2, s2, ?_⟩⟩
      have e2 := (k xs (s2.sl (l2.s.sl h1))).symm.trans hx
      rw [Option.some.inj e2]
      exact rx.mono l2.s
/-- lo, lo + 1, .., n of them -/
def intsD (lo : Int) (n : Nat) : List D := (List.range n).map fun (i : Nat) => .int (lo + (i : Int))
theorem intsD_get {lo : Int} {n i : Nat} {d : D} (h : (intsD lo n)[i]? = some d) : i < n ∧ d = .int (lo + (i : Int)) := by
  unfold intsD at h
  rw [List.getElem?_map] at h
  by_cases hi : i < n
  · rw [List.getElem?_range hi] at h
    exact ⟨hi, (Option.some.inj h).symm⟩
  · rw [List.getElem?_eq_none (by rw [List.length_range]; omega)] at h
    cases h
theorem intsD_len {lo : Int} {n : Nat} : (intsD lo n).length = n := by unfold intsD; rw [List.length_map, List.length_range]
theorem items_rng {K : PySem.W.Frag} {lo : Int} {n : Nat} {w : Wd} : Items K (Itr lo n) w (intsD lo n) := fun w2 _ s2 => ⟨fun i d hd => by
  obtain ⟨hi, rfl⟩ := intsD_get hd
  exact ⟨hi, fun x H' ⟨eH, ex⟩ => ⟨w2, eH.symm, LeP.refl w2, s2, by rw [ex]; exact .int _⟩⟩, by rw [intsD_len]; exact Nat.le_refl _⟩
theorem wi_rng1 {t1 : TA} (h : WA G t1 ρ fun xs ρ1 => ∃ n, xs = [.int n] ∧ (-(2 ^ 62) ≤ n ∧ n < 2 ^ 62) ∧ PI_ (intsD 0 n.toNat) ρ1) : WI G (iRng1 t1) ρ PI_ := fun w σ R o e q =>
  h w σ _ o e fun vs w1 xs ρ1 ⟨n, ex, hn, p⟩ l1 o1 r1 => by
    subst ex
    cases r1 with
    | cons ra r =>
      cases r
      obtain rfl := ra.int_inv
      exact ⟨n, rfl, hn.1, hn.2, q _ w1 _ ρ1 p l1 o1 items_rng⟩
/-! ### loops -/
theorem ws_for {wi : TI} {g : TG} {sl : List Nat} (h : WI G wi ρ fun ds ρ1 => ∃ I : Nat → Env → Prop, I 0 ρ1 ∧
      (∀ i d ρ2, ds[i]? = some d → I i ρ2 → WG G g d ρ2 sl fun ρ3 => WS G t ρ3 { P with nx := I (i + 1), ct := I (i + 1), bk := P.nx }) ∧ ∀ ρ2, I ds.length ρ2 → P.nx ρ2) : WS G (tFor wi g t) ρ P := fun w σ D o e m =>
  h w σ _ o e fun J w1 ds ρ1 ⟨I, i0, step, fin⟩ l1 o1 it => by
    refine ⟨fun i n σ' H' => ∃ w' ρ', w'.H = H' ∧ Le w1 w' ∧ Ok G w' σ' ρ' ∧ i ≤ ds.length ∧ n = ds.length - i ∧ I i ρ', ⟨_, w1, ρ1, rfl, Le.refl w1, o1, Nat.zero_le _, rfl, i0⟩, ?_⟩
    rintro i n σ' H' ⟨w', ρ', rfl, l', o', hi, rfl, p⟩
    obtain ⟨go, stop⟩ := it w' l' o'.sub
    by_cases hlt : i < ds.length
    · obtain ⟨g1, g2⟩ := go i ds[i] (List.getElem?_eq_getElem hlt)
      refine .inr ⟨g1, fun σ2 H2 => ∃ w2 ρ2, w2.H = H2 ∧ Le w1 w2 ∧ Ok G w2 σ2 ρ2 ∧ I (i + 1) ρ2, fun σ2 H2 ⟨w2, ρ2, e2, l2, o2, p2⟩ => ⟨ds.length - (i + 1), by omega, w2, ρ2, e2, l2, o2, hlt, rfl, p2⟩, fun x H2 y => ?_⟩
      obtain ⟨w2, rfl, l2, s2, r2⟩ := g2 x H2 y
      have o2 := o'.grow l2 s2
      refine step i ds[i] ρ' (List.getElem?_eq_getElem hlt) p w2 σ' x _ o2 r2 fun w3 σ3 ρ3 p3 l3 _ hH3 o3 _ _ => ?_
      have lw : Le w1 w3 := (l'.trans l2.le).trans l3
      have lww : Le w w3 := l1.trans lw
      rw [← hH3]
      exact p3 w3 σ3 _ o3 (e.later lww) ⟨fun w4 σ4 ρ4 q l4 o4 => ⟨w4, ρ4, rfl, lw.trans l4, o4, q⟩, fun v w4 σ4 a ρ4 fp q l4 o4 r4 => m.rt v w4 σ4 a ρ4 fp q (lww.trans l4) o4 r4,
        fun w4 σ4 ρ4 q l4 o4 => m.nx w4 σ4 ρ4 q (lww.trans l4) o4, fun w4 σ4 ρ4 q l4 o4 => ⟨w4, ρ4, rfl, lw.trans l4, o4, q⟩⟩
    · have ei : i = ds.length := by omega
      subst ei
      exact .inl ⟨stop, m.nx w' σ' ρ' (fin ρ' p) (l1.trans l') o'⟩
end
end DL

namespace DL
open PySem L2

theorem frzL_sh : ∀ ds : List D, FrzL (ds.map .sh) ds
  | [] => .nil
  | _ :: r => .cons (.sh _) (frzL_sh r)
theorem frzK_sh : ∀ ds : List (Key × D), FrzK (ds.map fun p => (p.1, .sh p.2)) ds
  | [] => .nil
  | _ :: r => .cons (.sh _) (frzK_sh r)
theorem frz_lst {ds : List D} : Frz (.lst (ds.map .sh)) (.lst ds) := .lst (frzL_sh ds)
theorem frz_dic {ds : List (Key × D)} : Frz (.dic (ds.map fun p => (p.1, .sh p.2))) (.dic ds) := .dic (frzK_sh ds)
section
variable {K : PySem.W.Frag} {S S' H : Hp}
end
/-- S with what stands in H at fp -/
def letBe (S H : Hp) (fp : List Addr) : Hp := fun x => if x ∈ fp then H x else S x
section
variable {G : Gx} {te : TE} {ρ : Env} {P : D → Env → Prop} {w : Wd} {σ : St}
theorem OkE.freeze {v : V} {m : M} {d : D} {fp : List Addr} (o : OkE G w σ ρ fp) (r : OwnR G.K w.S w.H v m fp) (f : Frz m d) : ∃ w', Le w w' ∧ w'.H = w.H ∧ Ok G w' σ ρ ∧ Rep G.K w'.S v d := by
  obtain ⟨fps, e, ef⟩ := o.env
  have nd := o.nd
  rw [ef] at nd
  obtain ⟨nd1, nd2, nd3⟩ := List.nodup_append.mp nd
  have at_ := r.at_
  have ex : Ex w.S (letBe w.S w.H fp) := fun x u h => by
    unfold letBe
    rw [if_neg (fun q => by rw [(at_ x q).1] at h; cases h)]
    exact h
  have on : ∀ x ∈ fp, letBe w.S w.H fp x = w.H x := fun x h => if_pos h
  have off : ∀ x, x ∉ fp → letBe w.S w.H fp x = w.S x := fun x h => if_neg h
  refine ⟨⟨letBe w.S w.H fp, w.H, fps.flatten⟩, ⟨ex, fun _ _ h _ => .inl h, fun x h1 h2 h3 => ?_, fun x h => .inl (by rw [ef]; exact List.mem_append_left _ h)⟩, rfl, ⟨fun x u h => ?_, ⟨fps, e.keep ex (fun x h => ?_) (fun _ _ _ h => .inl h), by rw [List.append_nil]⟩, nd1, o.px⟩, r.frz ex on f⟩
  · exact (off x (fun q => h2 (by rw [ef]; exact List.mem_append_right _ q))).trans h3
  · by_cases q : x ∈ fp
    · exact .inl ((on x q).symm.trans h)
    · exact (o.sub x u ((off x q).symm.trans h)).mono ex
  · exact (off x (fun q => nd3 x h x q rfl)).trans (e.at_ x h).1
theorem w_frz (h : WO G te ρ fun m ρ1 => ∃ d, Frz m d ∧ P d ρ1) : W G te ρ P := fun w σ Q o e q =>
  h w σ Q o e fun v w1 m ρ1 fp ⟨d, f, p⟩ l1 o1 r1 => by
    obtain ⟨w2, l2, hH, o2, r2⟩ := o1.freeze r1 f
    have z := q v w2 d ρ1 p (l1.trans l2) o2 r2
    rw [hH] at z
    exact z
/-- a name's own thing is let be -/
theorem ws_letBe {t : TS} {P : Post} {i : Nat} {m : M} {d : D} (hi : ρ[i]? = some (some m)) (f : Frz m d) (hp : i ∉ G.px) (h : WS G t (ρ.set i (some (.sh d))) P) : WS G t ρ P := fun w σ D o e q => by
  obtain ⟨v, fp, w1, h1, l1, hS, hH, o1, r1⟩ := o.takeM hi
  obtain ⟨w2, l2, hH2, o2, r2⟩ := o1.freeze (by rw [hS, hH]; exact r1) f
  obtain ⟨w3, l3, _, hH3, _, o3⟩ := o2.setSh r2 hp
  have es : σ.set i (some v) = σ := by
    apply List.ext_getElem?
    intro j
    by_cases z : i = j
    · subst z
      have hl : i < σ.length := (List.getElem?_eq_some_iff.mp h1).1
      rw [List.getElem?_set_self hl, h1]
    · rw [List.getElem?_set_ne z]
  have er : (ρ.set i none).set i (some (.sh d)) = ρ.set i (some (.sh d)) := by rw [List.set_set]
  rw [es, er] at o3
  have l : Le w w3 := (l1.trans l2).trans l3
  have z := h w3 σ D o3 (e.later l) (q.later l)
  rw [hH3, hH2, hH] at z
  exact z
end

def wipeE (p : Nat → Bool) : Nat → Env → Env
  | _, [] => []
  | n, a :: ρ => (if p n then none else a) :: wipeE p (n + 1) ρ
def mixE (p : Nat → Bool) : Nat → Env → Env → Env
  | n, a :: ρ, b :: ρ' => (if p n then keepSh a else b) :: mixE p (n + 1) ρ ρ'
  | _, _, _ => []
theorem wipeE_len {p : Nat → Bool} : ∀ {n : Nat} {ρ : Env}, (wipeE p n ρ).length = ρ.length
  | _, [] => rfl
  | n, a :: ρ => by unfold wipeE; rw [List.length_cons, List.length_cons, wipeE_len]
theorem wipeE_get {p : Nat → Bool} : ∀ {n : Nat} {ρ : Env} {j : Nat} {m : M}, (wipeE p n ρ)[j]? = some (some m) → ρ[j]? = some (some m) ∧ p (n + j) = false
  | _, [], _, _, h => by simp [wipeE] at h
  | n, a :: ρ, 0, m, h => by
    unfold wipeE at h
    rw [List.getElem?_cons_zero] at h
    rw [Nat.add_zero]
    cases q : p n with
    | true => rw [q] at h; simp at h
    | false =>
      rw [q] at h
      exact ⟨by simpa using h, rfl⟩
  | n, a :: ρ, j + 1, m, h => by
    unfold wipeE at h
    rw [List.getElem?_cons_succ] at h
    obtain ⟨h1, h2⟩ := wipeE_get h
    exact ⟨by rw [List.getElem?_cons_succ]; exact h1, by rw [← h2]; congr 1; omega⟩
theorem wipe_get {σ : St} {j : Nat} : ∀ {vs : List Nat}, j ∉ vs → (wipe σ vs)[j]? = σ[j]?
  | [], _ => rfl
  | v :: vs, h => by
    unfold wipe
    rw [List.getElem?_set_ne (fun z => h (by rw [z]; exact List.mem_cons_self))]
    exact wipe_get fun q => h (List.mem_cons_of_mem _ q)
theorem wipe_in {σ : St} {j : Nat} (hj : j < σ.length) : ∀ {vs : List Nat}, j ∈ vs → (wipe σ vs)[j]? = some none
  | v :: vs, h => by
    unfold wipe
    by_cases z : v = j
    · subst z
      rw [List.getElem?_set_self (by rw [wipe_length]; exact hj)]
    · rw [List.getElem?_set_ne z]
      exact wipe_in hj ((List.mem_cons.mp h).resolve_left fun q => z q.symm)
theorem wipe_eq {σ σ2 : St} {vs : List Nat} (hl : σ2.length = σ.length) (h : ∀ j, j ∉ vs → σ2[j]? = σ[j]?) : wipe σ2 vs = wipe σ vs := by
  apply List.ext_getElem?
  intro j
  by_cases q : j ∈ vs
  · by_cases z : j < σ.length
    · rw [wipe_in z q, wipe_in (by rw [hl]; exact z) q]
    · rw [List.getElem?_eq_none (by rw [wipe_length]; omega), List.getElem?_eq_none (by rw [wipe_length]; omega)]
  · rw [wipe_get q, wipe_get q, h j q]
theorem EnvR.mix {K : PySem.W.Frag} {S0 S H0 H : Hp} {p : Nat → Bool} (e : Ex S0 S) : ∀ {n : Nat} {σ : St} {ρ0 ρ5 : Env} {fp0 fps : List (List Addr)}, EnvR K S0 H0 σ ρ0 fp0 → EnvR K S H σ (wipeE p n ρ5) fps → EnvR K S H σ (mixE p n ρ0 ρ5) fps
  | n, _, [], [], _, _, .nil t, r => by
    have z : wipeE p n [] = [] := rfl
    rw [z] at r
    cases r
    exact .nil (t.mono e)
  | n, _, [], b :: ρ5, _, _, .nil _, r => by
    unfold wipeE at r
    cases r
  | n, _, a :: ρ0, [], _, _, h, r => by
    have z : wipeE p n [] = [] := rfl
    rw [z] at r
    cases r
    cases h
  | n, x :: σ, a :: ρ0, b :: ρ5, _, _, h, r => by
    unfold wipeE at r
    unfold mixE
    cases q : p n with
    | false =>
      rw [q] at r
      have r2 : EnvR K S H (x :: σ) (b :: wipeE p (n + 1) ρ5) _ := r
      show EnvR K S H (x :: σ) (b :: mixE p (n + 1) ρ0 ρ5) _
      cases r2 with
      | no r2 =>
        cases h with
        | no h => exact .no (EnvR.mix e h r2)
        | ow _ h => exact .no (EnvR.mix e h r2)
      | ow z r2 =>
        cases h with
        | no h => exact .ow z (EnvR.mix e h r2)
        | ow _ h => exact .ow z (EnvR.mix e h r2)
    | true =>
      rw [q] at r
      have r2 : EnvR K S H (x :: σ) (none :: wipeE p (n + 1) ρ5) _ := r
      show EnvR K S H (x :: σ) (keepSh a :: mixE p (n + 1) ρ0 ρ5) _
      cases r2 with
      | no r2 =>
        cases h with
        | no h => exact .no (EnvR.mix e h r2)
        | ow z h =>
          cases z with
          | sh z => exact .ow (.sh (z.mono e)) (EnvR.mix e h r2)
          | lst _ _ _ => exact .no (EnvR.mix e h r2)
          | dic _ _ _ => exact .no (EnvR.mix e h r2)
          | dit _ _ _ => exact .no (EnvR.mix e h r2)
          | obj _ _ _ => exact .no (EnvR.mix e h r2)
          | tup _ _ => exact .no (EnvR.mix e h r2)
          | ex _ _ => exact .no (EnvR.mix e h r2)
  | n, [], a :: ρ0, b :: ρ5, _, _, h, r => by cases h
def inL (vs : List Nat) : Nat → Bool := fun j => vs.contains j
theorem inL_iff {vs : List Nat} {j : Nat} : inL vs j = false ↔ j ∉ vs := by
  unfold inL
  rw [← Bool.not_eq_true, List.contains_iff_mem]
/-- no exception -/
abbrev Gx.nox (G : Gx) : Gx := { G with Wx := fun _ _ _ _ => False, er := fun _ _ _ => False }
section
variable {G : Gx} {ρ ρ0 ρ5 : Env} {w w0 : Wd} {σ σ2 : St} {vs : List Nat} {fx : List Addr}
theorem OkE.nox (o : OkE G w σ ρ fx) : OkE G.nox w σ ρ fx := ⟨o.sub, o.env, o.nd, o.px⟩
theorem OkE.unnox (o : OkE G.nox w σ ρ fx) : OkE G w σ ρ fx := ⟨o.sub, o.env, o.nd, o.px⟩
theorem esc_nox : Esc G.nox w := fun _ _ _ _ _ _ h => False.elim h
theorem OkE.wipe (o : Ok G w σ ρ) (hv : ∀ i ∈ G.px, i ∉ vs) : ∃ w', Le w w' ∧ w'.S = w.S ∧ w'.H = w.H ∧ (∀ x ∈ w'.F, x ∈ w.F) ∧ Ok G w' (wipe σ vs) (wipeE (inL vs) 0 ρ) :=
  OkE.congr o (wipe_length _ _) wipeE_len (fun j m h => by
    obtain ⟨h1, h2⟩ := wipeE_get h
    rw [Nat.zero_add] at h2
    exact ⟨h1, wipe_get (inL_iff.mp h2)⟩) fun i hi => wipe_get (hv i hi)
theorem OkE.mix (o0 : Ok G w0 σ ρ0) (l : Le w0 w) (o : Ok G w σ2 ρ5) (hl : σ2.length = σ.length) (hs : ∀ j, j ∉ vs → σ2[j]? = σ[j]?) : ∃ w', Le w w' ∧ w'.S = w.S ∧ w'.H = w.H ∧ (∀ x ∈ w'.F, x ∈ w.F) ∧ Ok G w' σ (mixE (inL vs) 0 ρ0 ρ5) := by
  obtain ⟨w', l', hS, hH, hF, o'⟩ := OkE.congr (σ' := σ) (ρ' := wipeE (inL vs) 0 ρ5) o hl.symm wipeE_len (fun j m h => by
    obtain ⟨h1, h2⟩ := wipeE_get h
    rw [Nat.zero_add] at h2
    exact ⟨h1, (hs j (inL_iff.mp h2)).symm⟩) fun i hi => (o0.px i hi).trans (o.px i hi).symm
  obtain ⟨fp0, e0, _⟩ := o0.env
  obtain ⟨fps, e, f⟩ := o'.env
  exact ⟨w', l', hS, hH, hF, o'.sub, ⟨fps, EnvR.mix (by rw [hS]; exact l.s) e0 e, f⟩, o'.nd, o'.px⟩
theorem Le.stays {w w' : Wd} (l : Le w w') {a : Addr} {o : HO} (h : w.H a = some o) (n : a ∉ w.F) (s : w.S a = none) (hd : Hard o := by exact True.intro) : w'.H a = some o ∧ a ∉ w'.F ∧ w'.S a = none :=
  ⟨(l.h a o h n).eq hd, ⟨fun q => (l.f a q).elim n (fun z => by rw [h] at z; cases z), l.n a (by rw [h]; exact Option.some_ne_none _) n s⟩⟩
end
section
variable {G : Gx} {te : TE} {tt : TT} {wi : TI} {g : TG} {ρ : Env} {vs sl : List Nat} {PO : M → Env → Prop}
/-- a comprehension from its walk on -/
def lcBody (J : It) (g : TG) (tt : TT) (te : TE) (vs : List Nat) (σ : St) (H1 : Hp) (Q : VK) : Prop := tLc (fun _ H R => R J H) g tt te vs σ H1 Q
theorem lc_at {w w1 : Wd} {σ : St} {Q : VK} {J : It} {ds : List D} {ρ1 : Env} (hv : ∀ i ∈ G.px, i ∉ vs) (hsl : ∀ j ∈ sl, j ∈ vs) (hl : ds.length ≤ 90000) (I : Nat → List D → Env → Prop) (i0 : I 0 [] ρ1)
      (step : ∀ i d acc ρ2, ds[i]? = some d → I i acc ρ2 → WG G.nox g d (wipeE (inL vs) 0 ρ2) sl fun ρ3 => WT G.nox tt ρ3 fun b ρ4 =>
        if b = true then W G.nox te ρ4 fun y ρ5 => I (i + 1) (acc ++ [y]) (mixE (inL vs) 0 ρ2 ρ5) else I (i + 1) acc (mixE (inL vs) 0 ρ2 ρ4))
      (fin : ∀ acc ρ2, I ds.length acc ρ2 → PO (.lst (acc.map .sh)) ρ2) (l1 : Le w w1) (o1 : Ok G w1 σ ρ1) (it : Items G.K J w1 ds)
      (q : ∀ v w' m ρ' fp, PO m ρ' → Le w w' → OkE G w' σ ρ' fp → OwnR G.K w'.S w'.H v m fp → Q v w'.H) : lcBody J g tt te vs σ w1.H Q := fun Dl hD => by
    have sD : w1.S Dl = none := o1.sub.free hD
    have nF : Dl ∉ w1.F := fun z => (o1.at_ Dl z).2 hD
    have lp : LeP w1 ⟨w1.S, upd w1.H Dl (.lst []), w1.F⟩ := ⟨Ex.refl _, (Ex.new hD).keeps, fun _ _ z => z, rfl⟩
    have offD : ∀ {S H : Hp} {o' : HO}, Sub S H → S Dl = none → Sub S (upd H Dl o') := fun {S H o'} s z a u ha => by
      have ne : a ≠ Dl := fun y => by rw [y, z] at ha; cases ha
      show SubAt _ (upd H Dl o' a) u
      rw [upd_ne ne]
      exact s a u ha
    refine ⟨fun i n H' => ∃ w' ρ' xs acc, w'.H = H' ∧ Le w1 w' ∧ w'.H Dl = some (.lst xs) ∧ w'.S Dl = none ∧ Dl ∉ w'.F ∧ RepL G.K w'.S xs acc ∧ Ok G w' σ ρ' ∧ i ≤ ds.length ∧ n = ds.length - i ∧ acc.length ≤ i ∧ I i acc ρ',
      ⟨_, ⟨w1.S, upd w1.H Dl (.lst []), w1.F⟩, ρ1, [], [], rfl, lp.le, upd_same, sD, nF, .nil, o1.grow lp (offD o1.sub sD), Nat.zero_le _, rfl, Nat.le_refl _, i0⟩, ?_⟩
    rintro i n H' ⟨w', ρ', xs, acc, rfl, l', hL, hS, hF, rl, o', hi, rfl, ha, p⟩
    obtain ⟨go, stop⟩ := it w' l' o'.sub
    by_cases hlt : i < ds.length
    · obtain ⟨g1, g2⟩ := go i ds[i] (List.getElem?_eq_getElem hlt)
      refine .inr ⟨g1, fun H2 => ∃ w' ρ' xs acc, w'.H = H2 ∧ Le w1 w' ∧ w'.H Dl = some (.lst xs) ∧ w'.S Dl = none ∧ Dl ∉ w'.F ∧ RepL G.K w'.S xs acc ∧ Ok G w' σ ρ' ∧ acc.length ≤ i + 1 ∧ I (i + 1) acc ρ', fun H2 ⟨w', ρ', xs, acc, h1, h2, h3, h4, h5, h6, h7, h8, h9⟩ =>
        ⟨ds.length - (i + 1), by omega, w', ρ', xs, acc, h1, h2, h3, h4, h5, h6, h7, hlt, rfl, h8, h9⟩, fun x H2 y => ?_⟩
      obtain ⟨w2, rfl, l2, s2, r2⟩ := g2 x H2 y
      have o2 := o'.grow l2 s2
      obtain ⟨k2, k2f, k2s⟩ := l2.le.stays hL hF hS
      obtain ⟨w3, l3, hS3, hH3, hF3, o3⟩ := o2.wipe hv
      obtain ⟨k3, k3f, k3s⟩ := l3.stays k2 k2f k2s
      rw [← hH3]
      refine step i ds[i] acc ρ' (List.getElem?_eq_getElem hlt) p w3 _ x _ o3.nox (by show Rep G.K w3.S x _; rw [hS3]; exact r2) fun w4 σ4 ρ3 p4 l4 _ hH4 o4 n4 e4 => ?_
      obtain ⟨k4, k4f, k4s⟩ := l4.stays k3 k3f k3s
      have nσ : σ4.length = σ.length := by rw [n4, wipe_length]
      have eσ : ∀ j, j ∉ vs → σ4[j]? = σ[j]? := fun j hj => by rw [e4 j (fun z => hj (hsl j z)), wipe_get hj]
      refine ⟨wipe_eq nσ eσ, ?_⟩
      have lw4 : Le w' w4 := (l2.le.trans l3).trans l4
      rw [← hH4]
      refine p4 w4 σ4 _ o4 esc_nox fun b w5 ρ4 p5 l5 o5 => ?_
      obtain ⟨k5, k5f, k5s⟩ := l5.stays k4 k4f k4s
      cases b with
      | false =>
        have p5' : I (i + 1) acc (mixE (inL vs) 0 ρ' ρ4) := p5
        obtain ⟨w6, l6, hS6, hH6, hF6, o6⟩ := OkE.mix o' (lw4.trans l5) o5.unnox nσ eσ
        obtain ⟨k6, k6f, k6s⟩ := l6.stays k5 k5f k5s
        exact ⟨w6, _, xs, acc, hH6, ((l'.trans lw4).trans l5).trans l6, k6, k6s, k6f, rl.mono ((lw4.trans l5).trans l6).s, o6, by omega, p5'⟩
      | true =>
        refine (show W G.nox te ρ4 fun y ρ5 => I (i + 1) (acc ++ [y]) (mixE (inL vs) 0 ρ' ρ5) from p5) w5 σ4 _ o5 esc_nox fun v w6 y ρ5 p6 l6 o6 r6 => ?_
        obtain ⟨k6, k6f, k6s⟩ := l6.stays k5 k5f k5s
        have lw6 : Le w' w6 := (lw4.trans l5).trans l6
        refine ⟨xs, k6, by rw [rl.len]; exact Nat.lt_of_le_of_lt (show acc.length ≤ 90000 by omega) (by decide), ?_⟩
        obtain ⟨fps, en, f⟩ := o6.env
        have o7 : Ok G ⟨w6.S, upd w6.H Dl (.lst (xs ++ [v])), w6.F⟩ σ4 ρ5 := ⟨offD o6.sub k6s, ⟨fps, en.keep (Ex.refl _) (fun x hx => (en.at_ x hx).1) (fun x hx u hu => by
          show Keeps u (upd w6.H Dl _ x)
          rw [upd_ne (fun z => k6f (by rw [← z, f]; exact List.mem_append_left _ hx))]
          exact .inl hu), f⟩, o6.nd, o6.px⟩
        have lb : Le w1 w6 := l'.trans lw6
        have l7 : Le w1 ⟨w6.S, upd w6.H Dl (.lst (xs ++ [v])), w6.F⟩ := ⟨lb.s, fun x u hx hn => by
          show Keeps u (upd w6.H Dl _ x)
          rw [upd_ne (ne_of_none hx hD)]
          exact lb.h x u hx hn, lb.n, lb.f⟩
        have s7 : Ex w'.S w6.S := lw6.s
        -- the outer names
        have o0 : Ok G ⟨w'.S, upd w'.H Dl (.lst (xs ++ [v])), w'.F⟩ σ ρ' := by
          obtain ⟨fps, en, f⟩ := o'.env
          exact ⟨offD o'.sub hS, ⟨fps, en.keep (Ex.refl _) (fun x hx => (en.at_ x hx).1) (fun x hx u hu => by
            show Keeps u (upd w'.H Dl _ x)
            rw [upd_ne (fun z => hF (by rw [← z, f]; exact List.mem_append_left _ hx))]
            exact .inl hu), f⟩, o'.nd, o'.px⟩
        have l07 : Le ⟨w'.S, upd w'.H Dl (.lst (xs ++ [v])), w'.F⟩ ⟨w6.S, upd w6.H Dl (.lst (xs ++ [v])), w6.F⟩ := ⟨s7, fun x u hx hn => by
          by_cases z : x = Dl
          · subst z
            have hx' : upd w'.H x (.lst (xs ++ [v])) x = some u := hx
            rw [upd_same] at hx'
            show Keeps u (upd w6.H x _ x)
            rw [upd_same]
            exact .inl hx'
          · have hx' : upd w'.H Dl (.lst (xs ++ [v])) x = some u := hx
            rw [upd_ne z] at hx'
            show Keeps u (upd w6.H Dl _ x)
            rw [upd_ne z]
            exact lw6.h x u hx' hn, fun x hx hn hs => by
          by_cases z : x = Dl
          · subst z
            exact k6s
          · refine lw6.n x (fun y => hx ?_) hn hs
            show upd w'.H Dl _ x = none
            rw [upd_ne z]
            exact y, fun x hx => by
          rcases lw6.f x hx with y | y
          · exact .inl y
          · refine .inr ?_
            have z : x ≠ Dl := fun z => k6f (z ▸ hx)
            show upd w'.H Dl _ x = none
            rw [upd_ne z]
            exact y⟩
        obtain ⟨w8, l8, hS8, hH8, hF8, o8⟩ := OkE.mix o0 l07 o7 nσ eσ
        refine ⟨w8, _, xs ++ [v], acc ++ [y], hH8, l7.trans l8, ?_, ?_, fun z => k6f (hF8 Dl z), ?_, o8, by rw [List.length_append, List.length_singleton]; omega, p6⟩
        · rw [hH8]
          exact upd_same
        · rw [hS8]
          exact k6s
        · rw [hS8]
          exact (rl.mono s7).app (.cons r6 .nil)
    · have ei : i = ds.length := by omega
      subst ei
      refine .inl ⟨stop, ?_⟩
      have z := q (.ref Dl) ⟨w'.S, w'.H, w'.F ++ [Dl]⟩ (.lst (acc.map .sh)) ρ' [Dl] (fin acc ρ' p) ?_ ?_ (.lst hS hL (ownL_of rl))
      · exact z
      · have lw := l1.trans l'
        exact ⟨lw.s, lw.h, lw.n, fun x hx => by
          rcases List.mem_append.mp hx with y | y
          · exact lw.f x y
          · obtain rfl : x = Dl := by simpa using y
            by_cases hf : x ∈ w.F
            · exact .inl hf
            · refine .inr ?_
              cases e3 : w.H x with
              | none => rfl
              | some u => exact absurd hD (l1.h x u e3 hf).ex⟩
      · obtain ⟨fps, en, f⟩ := o'.env
        refine ⟨o'.sub, ⟨fps, en, by show w'.F ++ [Dl] = _; rw [f, List.append_nil]⟩, ?_, o'.px⟩
        show (w'.F ++ [Dl]).Nodup
        refine List.nodup_append.mpr ⟨o'.nd, by simp, fun x hx y hy z => hF ?_⟩
        obtain rfl : y = Dl := by simpa using hy
        rw [← z]
        exact hx
theorem wo_lc (hv : ∀ i ∈ G.px, i ∉ vs) (hsl : ∀ j ∈ sl, j ∈ vs) (h : WI G wi ρ fun ds ρ1 => ds.length ≤ 90000 ∧ ∃ I : Nat → List D → Env → Prop, I 0 [] ρ1 ∧
      (∀ i d acc ρ2, ds[i]? = some d → I i acc ρ2 → WG G.nox g d (wipeE (inL vs) 0 ρ2) sl fun ρ3 => WT G.nox tt ρ3 fun b ρ4 =>
        if b = true then W G.nox te ρ4 fun y ρ5 => I (i + 1) (acc ++ [y]) (mixE (inL vs) 0 ρ2 ρ5) else I (i + 1) acc (mixE (inL vs) 0 ρ2 ρ4)) ∧
      ∀ acc ρ2, I ds.length acc ρ2 → PO (.lst (acc.map .sh)) ρ2) : WO G (tLc wi g tt te vs) ρ PO := fun w σ Q o e q =>
  h w σ _ o e fun J w1 ds ρ1 ⟨hl, I, i0, step, fin⟩ l1 o1 it => lc_at hv hsl hl I i0 step fin l1 o1 it q
/-- the list as data -/
theorem w_lc {P : D → Env → Prop} (hv : ∀ i ∈ G.px, i ∉ vs) (hsl : ∀ j ∈ sl, j ∈ vs) (h : WI G wi ρ fun ds ρ1 => ds.length ≤ 90000 ∧ ∃ I : Nat → List D → Env → Prop, I 0 [] ρ1 ∧
      (∀ i d acc ρ2, ds[i]? = some d → I i acc ρ2 → WG G.nox g d (wipeE (inL vs) 0 ρ2) sl fun ρ3 => WT G.nox tt ρ3 fun b ρ4 =>
        if b = true then W G.nox te ρ4 fun y ρ5 => I (i + 1) (acc ++ [y]) (mixE (inL vs) 0 ρ2 ρ5) else I (i + 1) acc (mixE (inL vs) 0 ρ2 ρ4)) ∧
      ∀ acc ρ2, I ds.length acc ρ2 → P (.lst acc) ρ2) : W G (tLc wi g tt te vs) ρ P :=
  w_frz (wo_lc hv hsl fun w σ R o e q => h w σ R o e fun J w' ds ρ' ⟨a, I, b, c, d⟩ => q J w' ds ρ' ⟨a, I, b, c, fun acc ρ2 i => ⟨_, frz_lst, d acc ρ2 i⟩⟩)
end
end DL

namespace DL
open PySem L2


/-! ### operators: all kinds of values at once -/
section
variable {X : Cx}
def rCatR (K : PySem.W.Frag) : R2 := fun x y H Q => ∃ l b xs zs, x = .ref l ∧ y = .ref b ∧ SqL K H l xs ∧ SqL K H b zs ∧ xs.length + zs.length ≤ sizeLine ∧ ∀ p, H p = none → Q (.ref p) (upd H p (.lst (xs ++ zs)))
theorem o_catR : OpR X (binaryOp .Add) (rCatR X.K) := by
  intro pins s σ H x y v u Q I rx ry ⟨l, b, xs, zs, ex, ey, h1, h2, hz, q⟩
  subst ex
  subst ey
  cases rx
  cases ry
  obtain ⟨its, r, ⟨ob, n, e, c1, c2, c3⟩, z⟩ := I.list h1
  obtain ⟨its2, r2, ⟨ob2, n2, e2, d1, d2, d3⟩, z2⟩ := I.list h2
  have l1 := r.length
  have l2 := r2.length
  obtain ⟨oc, od, dt, sl⟩ := ob
  obtain ⟨oc2, od2, dt2, sl2⟩ := ob2
  simp only at c1 c2 c3 d1 d2 d3
  subst c1 c2 c3 d1 d2 d3
  have both : its.toArray ++ its2.toArray = (its ++ its2).toArray := by simp
  have hs : its.toArray.size + its2.toArray.size ≤ sizeLine := by rw [List.size_toArray, List.size_toArray]; omega
  refine concat_meets ⟨_, e, rfl⟩ ⟨_, e2, rfl⟩ noFill_list_add seq_list_add PySem.F.slot_list_add PySem.F.entry_list_add (PySem.F.args_list_add_2 _ _) (PyProof.Rows.list_addW l b its.toArray its2.toArray n n2 _ _ sl sl2 hs) ⟨e, e2, ?_⟩
  rw [both]
  exact ⟨.ref _, _, I.lnew (t' := s.toks) (r.append r2) (show (xs ++ zs).length ≤ sizeLine by rw [List.length_append]; omega), rfl, q _ I.fresh⟩

def rAddS : R2 := fun x y H Q => ∃ i j, x = .str i ∧ y = .str j ∧ i.length + j.length ≤ sizeLine ∧ Q (.str (i ++ j)) H
def gAdd (K : PySem.W.Frag) : R2 := fun x y H Q => rI0 (fun i j => .int (i + j)) x y H Q ∨ rAddS x y H Q ∨ rCatR K x y H Q ∨ rCatT K x y H Q
theorem o_add : OpR X (binaryOp .Add) (gAdd X.K) := op_add.or (op_add_str.or (o_catR.or op_catT))
def gMul : R2 := fun x y H Q => rI CMulW (fun i j => .int (i * j)) x y H Q ∨ rRep x y H Q
theorem o_mul : OpR X (binaryOp .Mult) gMul := op_mulW.or op_rep
def CPowW (i j : Int) : Prop := 0 ≤ j ∧ (Builtin.Int.intBits i : Int) * j ≤ 2 ^ 27
theorem o_pow : OpR X (binaryOp .Pow) (rI CPowW fun i j => .int (i ^ j.toNat)) := opI fun _ _ _ _ _ _ _ hc q => PyProof.Rows.pow_int hc.1 hc.2 q
def gLt : R2 := fun x y H Q => rI0 (fun i j => .bl (decide (i < j))) x y H Q ∨ ∃ i j, x = .str i ∧ y = .str j ∧ Q (.bl (decide (i.cps.toList < j.cps.toList))) H
def gLe : R2 := fun x y H Q => rI0 (fun i j => .bl (decide (i ≤ j))) x y H Q ∨ ∃ i j, x = .str i ∧ y = .str j ∧ Q (.bl (!decide (j.cps.toList < i.cps.toList))) H
def gGt : R2 := fun x y H Q => rI0 (fun i j => .bl (decide (j < i))) x y H Q ∨ ∃ i j, x = .str i ∧ y = .str j ∧ Q (.bl (decide (j.cps.toList < i.cps.toList))) H
def gGe : R2 := fun x y H Q => rI0 (fun i j => .bl (decide (j ≤ i))) x y H Q ∨ ∃ i j, x = .str i ∧ y = .str j ∧ Q (.bl (!decide (i.cps.toList < j.cps.toList))) H
theorem o_ge : OpR X (compareOp .GtE) gGe := op_ge.or op_ge_str
end

/-! ### the same at the data -/
section
variable {K : PySem.W.Frag} {k : D → Prop} {i j : Int} {a b : Str} {xs ys : List D} {x y : D}
theorem rd_i2 {g : Int → Int → V} {C : Int → Int → Prop} {z : D} (hz : ∀ S, Rep K S (g i j) z) (c : C i j) (p : k z) : RD K (rI C g) (.int i) (.int j) k := rd_val _ hz p fun w v u Q s rx ry q => by
  obtain rfl := rx.int_inv
  obtain rfl := ry.int_inv
  exact ⟨i, j, rfl, rfl, c, q⟩
theorem rd_i20 {g : Int → Int → V} {z : D} (hz : ∀ S, Rep K S (g i j) z) (p : k z) : RD K (rI0 g) (.int i) (.int j) k := rd_val _ hz p fun w v u Q s rx ry q => by
  obtain rfl := rx.int_inv
  obtain rfl := ry.int_inv
  exact ⟨i, j, rfl, rfl, q⟩
theorem rd_s2 {g : Str → Str → V} {z : D} (hz : ∀ S, Rep K S (g a b) z) (p : k z) : RD K (fun x y H Q => ∃ i j, x = .str i ∧ y = .str j ∧ Q (g i j) H) (.str a) (.str b) k := rd_val _ hz p fun w v u Q s rx ry q => by
  obtain rfl := rx.str_inv
  obtain rfl := ry.str_inv
  exact ⟨a, b, rfl, rfl, q⟩
theorem rd_add (p : k (.int (i + j))) : RD K (gAdd K) (.int i) (.int j) k := RD.l (rd_i20 (fun _ => .int _) p)
theorem Rep.lst_inv {S : Hp} {v : V} (r : Rep K S v (.lst xs)) : ∃ p vs, v = .ref p ∧ SqL K S p vs ∧ RepL K S vs xs := by
  cases r with
  | lst h r => exact ⟨_, _, rfl, .inl h, r⟩
theorem Rep.rol_inv {S : Hp} {v : V} (r : Rep K S v (.rol xs)) : ∃ p vs, v = .ref p ∧ SqL K S p vs ∧ RepL K S vs xs := by
  cases r with
  | rol h r => exact ⟨_, _, rfl, h, r⟩
theorem Rep.isL_inv {S : Hp} {v : V} {d : D} (h : IsL d xs) (r : Rep K S v d) : ∃ p vs, v = .ref p ∧ SqL K S p vs ∧ RepL K S vs xs := by
  cases h with
  | lst => exact r.lst_inv
  | rol => exact r.rol_inv
theorem Wd.repNew {w : Wd} {p : Addr} {vs : List V} (s : Sub w.S w.H) (hp : w.H p = none) (r : RepL K w.S vs xs) : LeP w (w.add p (.lst vs)) ∧ Sub (w.add p (.lst vs)).S (w.add p (.lst vs)).H ∧ Rep K (w.add p (.lst vs)).S (.ref p) (.lst xs) := by
  have l := Wd.le_add (o := .lst vs) s hp
  exact ⟨l, Wd.sub_add s hp, .lst (.inl upd_same) (r.mono l.s)⟩
theorem rd_addL (hx : IsL x xs) (hy : IsL y ys) (h : xs.length + ys.length ≤ 100000) (p : k (.lst (xs ++ ys))) : RD K (gAdd K) x y k := RD.r (RD.r (RD.l fun w v u Q s rx ry q => by
  obtain ⟨l, vs, rfl, h1, r1⟩ := Rep.isL_inv hx rx
  obtain ⟨m, us, rfl, h2, r2⟩ := Rep.isL_inv hy ry
  refine ⟨l, m, vs, us, rfl, rfl, s.sl h1, s.sl h2, sz_of (by rw [r1.len, r2.len]; exact h), fun q' hq => ?_⟩
  obtain ⟨a1, a2, a3⟩ := Wd.repNew s hq (r1.app r2)
  exact q _ _ _ p a1 a2 a3))
theorem rd_sub (p : k (.int (i - j))) : RD K (rI0 fun i j => .int (i - j)) (.int i) (.int j) k := rd_i20 (fun _ => .int _) p
theorem cmulW {a b : Nat} (h1 : i.natAbs < 2 ^ a) (h2 : j.natAbs < 2 ^ b) (h : a + b ≤ 999000) : CMulW i j := by
  refine wide_mul (a := a + 1) (b := b + 1) (Nat.lt_of_lt_of_le h1 (Nat.pow_le_pow_right (by decide) (by omega))) (Nat.lt_of_lt_of_le h2 (Nat.pow_le_pow_right (by decide) (by omega))) (by omega) (by omega) (by omega)
theorem rd_mul (c : CMulW i j) (p : k (.int (i * j))) : RD K gMul (.int i) (.int j) k := RD.l (rd_i2 (fun _ => .int _) c p)
theorem rd_div (c : CDivW i j) (p : k (.int (i / j))) : RD K (rI CDivW fun i j => .int (i / j)) (.int i) (.int j) k := rd_i2 (fun _ => .int _) c p
theorem rd_mod (c : 0 < j) (p : k (.int (i % j))) : RD K (rI (fun _ j => 0 < j) fun i j => .int (i % j)) (.int i) (.int j) k := rd_i2 (fun _ => .int _) c p
theorem rd_pow (c : CPowW i j) (p : k (.int (i ^ j.toNat))) : RD K (rI CPowW fun i j => .int (i ^ j.toNat)) (.int i) (.int j) k := rd_i2 (fun _ => .int _) c p
theorem rd_lt (p : k (.bl (decide (i < j)))) : RD K gLt (.int i) (.int j) k := RD.l (rd_i20 (fun _ => .bl _) p)
theorem rd_le (p : k (.bl (decide (i ≤ j)))) : RD K gLe (.int i) (.int j) k := RD.l (rd_i20 (fun _ => .bl _) p)
theorem rd_gt (p : k (.bl (decide (j < i)))) : RD K gGt (.int i) (.int j) k := RD.l (rd_i20 (fun _ => .bl _) p)
theorem rd_ge (p : k (.bl (decide (j ≤ i)))) : RD K gGe (.int i) (.int j) k := RD.l (rd_i20 (fun _ => .bl _) p)
theorem rd_ltS (p : k (.bl (decide (a.cps.toList < b.cps.toList)))) : RD K gLt (.str a) (.str b) k := RD.r (rd_s2 (g := fun i j => .bl (decide (i.cps.toList < j.cps.toList))) (fun _ => .bl _) p)
theorem rd_leS (p : k (.bl (!decide (b.cps.toList < a.cps.toList)))) : RD K gLe (.str a) (.str b) k := RD.r (rd_s2 (g := fun i j => .bl (!decide (j.cps.toList < i.cps.toList))) (fun _ => .bl _) p)
theorem rd_gtS (p : k (.bl (decide (b.cps.toList < a.cps.toList)))) : RD K gGt (.str a) (.str b) k := RD.r (rd_s2 (g := fun i j => .bl (decide (j.cps.toList < i.cps.toList))) (fun _ => .bl _) p)
theorem rd_geS (p : k (.bl (!decide (a.cps.toList < b.cps.toList)))) : RD K gGe (.str a) (.str b) k := RD.r (rd_s2 (g := fun i j => .bl (!decide (i.cps.toList < j.cps.toList))) (fun _ => .bl _) p)
theorem rd_isN (p : k (.bl (match x with | .non => true | _ => false))) : RD K (fun x y H Q => y = .non ∧ Q (.bl (decide (x = .non))) H) x .non k := fun w v u Q s rx ry q => by
  refine ⟨ry.non_inv, q _ w _ p (LeP.refl w) s ?_⟩
  cases rx with
  | bl => rw [decide_eq_false (by simp)]; exact .bl _
  | _ => first | exact .bl _ | (rw [decide_eq_false (by simp)]; exact .bl _)
theorem rd_notN (p : k (.bl (match x with | .non => false | _ => true))) : RD K (fun x y H Q => y = .non ∧ Q (.bl (!decide (x = .non))) H) x .non k := fun w v u Q s rx ry q => by
  refine ⟨ry.non_inv, q _ w _ p (LeP.refl w) s ?_⟩
  cases rx with
  | bl => rw [decide_eq_false (by simp)]; exact .bl _
  | _ => first | exact .bl _ | (rw [decide_eq_false (by simp)]; exact .bl _)
theorem rd_eqD {p q : PyData} (hx : x.py = some p) (hy : y.py = some q) (sp : SeqAt.shaped p = true) (sq : SeqAt.shaped q = true) (c : k (.bl (PyData.eqv p q))) : RD K (rEqD K) x y k := rd_val (.bl (PyData.eqv p q)) (fun _ => .bl _) c fun w v u Q s rx ry z => ⟨p, q, rx.dp s hx, ry.dp s hy, sp, sq, z⟩
theorem rd_neD {p q : PyData} (hx : x.py = some p) (hy : y.py = some q) (sp : SeqAt.shaped p = true) (sq : SeqAt.shaped q = true) (c : k (.bl (!PyData.eqv p q))) : RD K (rNeD K) x y k := rd_val (.bl (!PyData.eqv p q)) (fun _ => .bl _) c fun w v u Q s rx ry z => ⟨p, q, rx.dp s hx, ry.dp s hy, sp, sq, z⟩
/-- places -/
theorem RepL.atI {S : Hp} {vs : List V} {d : D} (r : RepL K S vs xs) (h : atI xs i = some d) : ∃ v, atI vs i = some v ∧ Rep K S v d := by
  unfold L2.atI at h ⊢
  rw [r.len]
  cases e : (ixN xs.length i) with
  | none => rw [e] at h ; cases h
  | some n =>
    rw [e] at h
    exact r.get h
theorem rd_ixL {d : D} (hx : IsL x xs) (h : atI xs i = some d) (p : k d) : RD K (rIx K) x (.int i) k := fun w v u Q s rx ry q => by
  obtain ⟨l, vs, rfl, h1, r1⟩ := Rep.isL_inv hx rx
  obtain rfl := ry.int_inv
  obtain ⟨v, e, r⟩ := r1.atI h
  exact .inl ⟨l, vs, i, v, rfl, rfl, s.sl h1, e, q _ w _ p (LeP.refl w) s r⟩
end
end DL

namespace DL
open PySem L2

/-! ### calls of builtins, fields, slices -/
section
variable {G : Gx} {ρ : Env} {P : D → Env → Prop} {ta te : TE} {t : TA} {tl th : TO}
theorem w_call {r : List V → Hp → VK → Prop} (h : WA G t ρ fun xs ρ1 => RC G.K r xs fun z => P z ρ1) : W G (tCB r t) ρ P := fun w σ Q o e q =>
  h w σ _ o e fun vs w1 xs ρ1 h1 l1 o1 r1 => h1 w1 vs _ o1.sub r1 fun z w2 vz pz l2 s2 r2 => q vz w2 z ρ1 pz (l1.trans l2.le) (o1.grow l2 s2) r2
theorem RepF.get {K : PySem.W.Frag} {S : Hp} {f : Str} {d : D} : ∀ {vs : List (Str × V)} {ds : List (Str × D)}, RepF K S vs ds → ds.lookup f = some d → ∃ v, vs.lookup f = some v ∧ Rep K S v d
  | _, _, .nil, h => by cases h
  | (g, v) :: vs, (_, e) :: ds, .cons r1 r2, h => by
    rw [List.lookup_cons] at h ⊢
    cases q : f == g with
    | true =>
      rw [q] at h
      have z := Option.some.inj h
      subst z
      exact ⟨v, rfl, r1⟩
    | false =>
      rw [q] at h
      exact RepF.get r2 h
theorem w_fld {f : Str} (h : W G ta ρ fun x ρ1 => ∃ c fs d, x = .obj c fs ∧ Cls G.K (clsAt G.K c) ∧ NoAttr G.K (clsAt G.K c) f ∧ fs.lookup f = some d ∧ P d ρ1) : W G (tFld G.K ta f) ρ P := fun w σ Q o e q =>
  h w σ _ o e fun v w1 x ρ1 ⟨c, fs, d, ex, hc, hn, hl, p⟩ l1 o1 r1 => by
    subst ex
    cases r1 with
    | @obj a dx _ xs _ h1 r1 =>
      obtain ⟨u, hu, ru⟩ := r1.get hl
      exact ⟨a, _, dx, xs, u, rfl, o1.sub.ins h1, hc, hn, hu, q u w1 d ρ1 p l1 o1 ru⟩
/-- the parts of a slice -/
def WP (G : Gx) (t : TO) (ρ : Env) (P : Option Int → Env → Prop) : Prop := ∀ w σ (Q : Option Int → Hp → Prop), Ok G w σ ρ → Esc G w → (∀ i w' ρ', P i ρ' → Le w w' → Ok G w' σ ρ' → Q i w'.H) → t σ w.H Q
variable {PP : Option Int → Env → Prop}
theorem wp_no (k : PP none ρ) : WP G tNoPart ρ PP := fun w _ _ o _ q => q none w ρ k (Le.refl w) o
theorem wp_int (h : W G te ρ fun x ρ1 => ∃ i, x = .int i ∧ PP (some i) ρ1) : WP G (tPart te) ρ PP := fun w σ Q o e q =>
  h w σ _ o e fun v w1 x ρ1 ⟨i, ex, p⟩ l1 o1 r1 => by
    subst ex
    exact ⟨i, r1.int_inv, q (some i) w1 ρ1 p l1 o1⟩
def RS (K : PySem.W.Frag) (r : V → Option Int → Option Int → Hp → VK → Prop) (x : D) (lo hi : Option Int) (k : D → Prop) : Prop := ∀ w v (Q : VK), Sub w.S w.H → Rep K w.S v x →
  (∀ z w' vz, k z → LeP w w' → Sub w'.S w'.H → Rep K w'.S vz z → Q vz w'.H) → r v lo hi w.H Q
theorem w_slice {r : V → Option Int → Option Int → Hp → VK → Prop} (h : W G te ρ fun x ρ1 => WP G tl ρ1 fun lo ρ2 => WP G th ρ2 fun hi ρ3 => RS G.K r x lo hi fun z => P z ρ3) : W G (tSl r te tl th) ρ P := fun w σ Q o e q =>
  h w σ _ o e fun v w1 x ρ1 h1 l1 o1 r1 => h1 w1 σ _ o1 (e.later l1) fun lo w2 ρ2 h2 l2 o2 => h2 w2 σ _ o2 (e.later (l1.trans l2)) fun hi w3 ρ3 h3 l3 o3 =>
    h3 w3 v Q o3.sub ((r1.mono l2.s).mono l3.s) fun z w4 vz pz l4 s4 r4 => q vz w4 z ρ3 pz (((l1.trans l2).trans l3).trans l4.le) (o3.grow l4 s4) r4
end
section
variable {X : Cx}
def gSl (K : PySem.W.Frag) : V → Option Int → Option Int → Hp → VK → Prop := fun x lo hi H Q => rSlL K x lo hi H Q ∨ rSlS x lo hi H Q ∨ rSlA K x lo hi H Q
theorem o_sl : SlR X (gSl X.K) := sl_list.or (sl_str.or sl_tupA)
end
def cutD (ds : List D) (lo hi : Option Int) : List D := (ds.drop (HT.sIx ds.length 0 lo)).take (HT.sIx ds.length ds.length hi - HT.sIx ds.length 0 lo)
section
variable {K : PySem.W.Frag} {k : D → Prop} {xs : List D} {x : D} {lo hi : Option Int} {a : Str}
theorem RepL.drop {S : Hp} : ∀ (n : Nat) {vs : List V} {ds : List D}, RepL K S vs ds → RepL K S (vs.drop n) (ds.drop n)
  | 0, _, _, r => r
  | _ + 1, _, _, .nil => .nil
  | n + 1, _, _, .cons _ r => RepL.drop n r
theorem RepL.take {S : Hp} : ∀ (n : Nat) {vs : List V} {ds : List D}, RepL K S vs ds → RepL K S (vs.take n) (ds.take n)
  | 0, _, _, _ => .nil
  | _ + 1, _, _, .nil => .nil
  | n + 1, _, _, .cons h r => .cons h (RepL.take n r)
theorem RepL.cut {S : Hp} {vs : List V} (r : RepL K S vs xs) : RepL K S (cutV vs lo hi) (cutD xs lo hi) := by
  unfold cutV cutD
  rw [r.len]
  exact RepL.take _ (RepL.drop _ r)
theorem rs_list (hx : IsL x xs) (p : k (.lst (cutD xs lo hi))) : RS K (gSl K) x lo hi k := fun w v Q s rx q => by
  obtain ⟨l, vs, rfl, h1, r1⟩ := Rep.isL_inv hx rx
  refine .inl ⟨l, vs, rfl, s.sl h1, fun q' hq => ?_⟩
  obtain ⟨a1, a2, a3⟩ := Wd.repNew s hq (r1.cut (lo := lo) (hi := hi))
  exact q _ _ _ p a1 a2 a3
end

/-! ### builtins at the data -/
section
variable {K : PySem.W.Frag} {k : D → Prop} {i j : Int} {a b : Str} {xs ys : List D} {x y : D}
theorem rc_abs (p : k (.int (if i < 0 then -i else i))) : RC K (fun xs H Q => ∃ i, xs = [.int i] ∧ Q (.int (if i < 0 then -i else i)) H) [.int i] k := fun w vs Q s r q => by
  obtain ⟨v, rfl, r1⟩ := r.one
  obtain rfl := r1.int_inv
  exact ⟨i, rfl, q _ w _ p (LeP.refl w) s (.int _)⟩
theorem rc_int1 (p : k (.int i)) : RC K (fun xs H Q => (∃ i, xs = [.int i] ∧ Q (.int i) H) ∨ ∃ k, xs = [.bl k] ∧ Q (.int (if k then 1 else 0)) H) [.int i] k := fun w vs Q s r q => by
  obtain ⟨v, rfl, r1⟩ := r.one
  obtain rfl := r1.int_inv
  exact .inl ⟨i, rfl, q _ w _ p (LeP.refl w) s (.int _)⟩
theorem rc_lenL (hx : IsL x xs) (p : k (.int xs.length)) : RC K (fun xs H Q => ∃ x n, xs = [x] ∧ LenV K x H n ∧ Q (.int n) H) [x] k := fun w vs Q s r q => by
  obtain ⟨v, rfl, r1⟩ := r.one
  obtain ⟨l, vs, rfl, h1, r1⟩ := Rep.isL_inv hx r1
  exact ⟨_, xs.length, rfl, .inl ⟨vs, s.sl h1, r1.len.symm⟩, q _ w _ p (LeP.refl w) s (.int _)⟩
theorem rc_min2 (p : k (.int (if j < i then j else i))) : RC K (fun xs H Q => ∃ i j, xs = [.int i, .int j] ∧ Q (.int (if j < i then j else i)) H) [.int i, .int j] k := fun w vs Q s r q => by
  obtain ⟨v, u, rfl, r1, r2⟩ := r.two
  obtain rfl := r1.int_inv
  obtain rfl := r2.int_inv
  exact ⟨i, j, rfl, q _ w _ p (LeP.refl w) s (.int _)⟩
theorem rc_max2 (p : k (.int (if j > i then j else i))) : RC K (fun xs H Q => ∃ i j, xs = [.int i, .int j] ∧ Q (.int (if j > i then j else i)) H) [.int i, .int j] k := fun w vs Q s r q => by
  obtain ⟨v, u, rfl, r1, r2⟩ := r.two
  obtain rfl := r1.int_inv
  obtain rfl := r2.int_inv
  exact ⟨i, j, rfl, q _ w _ p (LeP.refl w) s (.int _)⟩
end
end DL

namespace DC
open PySem L2 PySem.Spec PyProof.Rows
section
variable {X : Cx} {CX : CXT} {lv : Nat} {f : Addr} {fd : FuncData} {names : List Str} {sp : Sp} {dvs : List V} {dus : List Value} {E : St → XK}
/-- the callee's run, from bound arguments -/
theorem goesTo {E1 : XK} {pins : List (Addr × Obj)} {σ : St} {H : Hp} {s : Shared} {Q : VK} {given : Args} {us : List Value} {xs : List V} (F : FnG X.prog X.w X.K X.mg X.base CX lv f fd names sp) (gd : X.A.guards = some []) (room : Room lv X.A) (bnd : BindsTo s fd given (names.zip us))
    (esc : ∀ e s', CX X.stack H s E1 e s' → X.xe e s') (J : Inv X pins σ H s) (rel : Vals xs us) (wish : sp xs H Q E1) : codeAny (model X.prog X.w) X.A (.call (.ref f) given) (fun r s' => match r with
      | .ok (.ret u) => EP X pins σ Q u s'
      | .ok _ => False
      | .error e => X.xe e s') s :=
  codeAny_mono (F.go X.A X.stack s H given us xs Q E1 gd room J.env0 bnd rel wish) fun out s' got => by
    match out, got with
    | .error e, got => exact esc e s' got
    | .ok (.ret u), got => exact J.after got
    | .ok .next, got => exact got.elim
    | .ok .brk, got => exact got.elim
    | .ok .cont, got => exact got.elim
theorem goes {pins : List (Addr × Obj)} {σ : St} {H : Hp} {s : Shared} {Q : VK} {us : List Value} {xs : List V} (F : FnG X.prog X.w X.K X.mg X.base CX lv f fd names sp) (gd : X.A.guards = some []) (room : Room lv X.A) (bnd : Binds X.K fd names dus) (dv : Vals dvs dus)
    (esc : PassesAt CX X σ (E σ)) (J : Inv X pins σ H s) (rel : Vals xs us) (wish : sp (xs ++ dvs) H Q (E σ)) : wpAny (model X.prog X.w) X.A (call (.ref f) us) (EP X pins σ Q) X.xe s := by
  have rel2 := rel.append dv
  have cnt : (us ++ dus).length = names.length := rel2.length.symm.trans (F.ln _ _ _ _ wish)
  refine wpAny_call (codeAny_mono (goesTo F gd room (bnd s us J.kIn cnt) (fun e s' c => esc pins H s e s' J c) J rel2 wish) fun out s' got => ?_)
  match out, got with
  | .error e, got => exact got
  | .ok (.ret u), got => exact got
  | .ok .next, got => exact got
  | .ok .brk, got => exact got
  | .ok .cont, got => exact got
variable {x m : Str} {p pos apos : Pos} {e o : Expr} {es : List Expr} {ta : TE} {t : TA}
theorem pe_callG (F : FnG X.prog X.w X.K X.mg X.base CX lv f fd names sp) (gd : X.A.guards = some []) (room : Room lv X.A) (gl : Gl X x) (at_ : X.mg x = some (.ref f)) (kept : PySem.W.keepIn X.K (.ref f) = true) (bnd : Binds X.K fd names dus) (dv : Vals dvs dus) (esc : ∀ σ, PassesAt CX X σ (E σ))
    (args : PA X (e :: es) t) (nodbg : (x == ("__debug__" : Str)) = false := by decide) (st : starEach (e :: es) X.env = (false, eval e X.env) :: starEach es X.env := by rfl) (pln : (backTo pos (starEach es X.env)).any (·.1) = false := by rfl) :
    PE X (.Call (.Name x p) (e :: es) [] pos) (tCallSD sp dvs E t) :=
  ⟨fun pins s σ H Q J wish => wpAny_Call_Name_kw (ld_glob J gl at_ (PySem.W.callWith_K (h₀ := X.base) J.ok.mod.kin kept (thn (args.run pos pins s σ H _ J wish) fun us s1 ⟨xs, H1, J1, rel, q⟩ => ⟨J1.kIn, goes F gd room bnd dv (esc σ) J1 rel q⟩) st pln) nodbg)⟩
/-- o.m(..), what is raised by the caller's slots -/
def tMethS (C : Addr) (m : Str) (sp : Sp) (dvs : List V) (E : St → XK) (ta : TE) (t : TA) : TE := fun σ H Q => ta σ H fun x H1 => ∃ a dx fs, x = .ref a ∧ H1 a = some (.ins C dx fs) ∧ fs.lookup m = none ∧
  t σ H1 fun vs H2 => sp (x :: (vs ++ dvs)) H2 Q (E σ)
variable {C : Addr}
/-- C(..) -/
def tMakeS (C : Addr) (sp : Sp) (dvs : List V) (E : St → XK) (t : TA) : TE := fun σ H Q => t σ H fun vs H1 => ∀ x dx, H1 x = none → H1 dx = none → dx ≠ x →
  sp (.ref x :: (vs ++ dvs)) (upd (upd H1 dx (.own x)) x (.ins C dx [])) (fun v H2 => v = .non ∧ Q (.ref x) H2) (E σ)
end
section
variable {prg : Program} {wd : World} {K : PySem.W.Frag} {mg : Str → Option Value} {bs : Heap}
theorem guards_deeper {A : Around} {env : Env} (h : A.guards = some []) : (A.deeper env).guards = some [] := h
/-- a def of the text, by its body -/
theorem fnG_of {x qual : Str} {params : Arguments} {body : List Stmt} {scp : Scope} {dfl : List V} {kwd : List (Str × V)} {f : Addr} {fd : FuncData} {N names : List Str} {lv : Nat} {sp : Sp} (F : FunD K x qual params body scp dfl kwd f fd) (sc : FnScope N names scp) (ln : ∀ xs H Q E, sp xs H Q E → xs.length = names.length)
    (bd : ∀ (cdv : Value) (A : Around) (fr : List Env) (s : Shared) (H : Hp) (xs : List V) (Q : VK) (E : XK), (A.deeper (envOfC qual scp s.heap.objs.size f cdv)).guards = some [] → Room lv (A.deeper (envOfC qual scp s.heap.objs.size f cdv)) → sp xs H Q E →
      ∃ t, PSs (cxOf (L2.CX prg wd) prg wd K mg bs N qual scp f cdv A fr s H E) body t ∧ t { nx := fun _ H' => Q .non H', rt := Q } (start N xs) H) : FnG prg wd K mg bs (L2.CX prg wd) (lv + 1) f fd names sp := by
  obtain ⟨oc, od, dV, kV, dc, pm, an, cdv, ct, os_, rfl, lk, hcd, _, _⟩ := F.ex
  refine ⟨ln, fun A fr s H given us xs Q E gd room e0 bnd rel wish => ?_⟩
  have cnt := ln _ _ _ _ wish
  have kin : K.In s.heap := e0.mod.kin.keeps fun b o z => (e0.bs b o z).1
  have nol : s.heap.NoLimit := e0.mod.nolimit.keeps fun b o z => (e0.bs b o z).1
  have kinds : ∀ y ∈ names.zip us, scp.names.lookup y.1 = some .local ∨ (scp.names.lookup y.1 = some .cell ∧ ((cellsFrom (s.heap.objs.size + 1) scp.names []).lookup y.1).isSome = true) := by
    rintro ⟨n, v⟩ mem
    cases sc.par n (List.of_mem_zip mem).1 with
    | inl q => exact .inl q
    | inr q => exact .inr ⟨q, PySem.W.cellsFrom_some _ _ _ (.inl q)⟩
  refine codeAny_call_function room.depth (kin _ _ lk) rfl sc.co sc.gen rfl (PySem.W.codeRec_of kin hcd) (bnd _ _ _ _ (wpAny_newFunctionEnv_cells sc.kind kinds fun env he s1 y => ?_))
  subst he
  refine ⟨nol.keeps y.toInCall.keep, codeAny_func ?_⟩
  obtain ⟨t, ht, hq⟩ := bd cdv A fr s H xs Q E (guards_deeper gd) (room.deeper _) wish
  have J : Inv (cxOf (L2.CX prg wd) prg wd K mg bs N qual scp f cdv A fr s H E) [] (start N xs) H s1 := inv_start sc room.hd e0 cnt rel y
  refine wpAny_mono (ht.run [] s1 (start N xs) H _ J hq) (fun out s' got => ?_) fun e s' got => got
  match out, got with
  | .ret u, ⟨v, σ', H', J', rv, q⟩ => exact ⟨v, H', J'.os, J'.bare, J'.base, J'.hok, rv, q⟩
  | .next, ⟨σ', H', J', q⟩ => exact ⟨V.non, H', J'.os, J'.bare, J'.base, J'.hok, rfl, q⟩
  | .brk, ⟨_, _, _, q⟩ => exact False.elim q
  | .cont, ⟨_, _, _, q⟩ => exact False.elim q
end
end DC

namespace DL
open PySem L2

def EndC (K : PySem.W.Frag) (w : Wd) (vs : List V) (Q : VK) (E : XK) (o : Out) (ms' : List M) : Prop := ∀ w' fp', Le w w' → Sub w'.S w'.H → OwnL K w'.S w'.H vs ms' fp' → match o with
  | .ret m => ∀ v fr, OwnR K w'.S w'.H v m fr → w'.F = fp' ++ fr → w'.F.Nodup → Q v w'.H
  | .err c fs => ∀ d, ExcAt K w'.S c fs d → w'.F = fp' → w'.F.Nodup → E (.ref (clsAt K c)) d w'.H
def toSp (K : PySem.W.Frag) (n : Nat) (C : Con) : Sp := fun vs H Q E => ∃ (w : Wd) (ms : List M), w.H = H ∧ Sub w.S w.H ∧ OwnL K w.S w.H vs ms w.F ∧ w.F.Nodup ∧ ms.length = n ∧ TbK K w.S ∧ C.c ms (EndC K w vs Q E)
theorem toSp_len {K : PySem.W.Frag} {n : Nat} {C : Con} {ps : List Str} (h : ps.length = n) : ∀ vs H Q E, toSp K n C vs H Q E → vs.length = ps.length := fun vs H Q E ⟨w, ms, _, _, o, _, hl, _⟩ => by rw [o.len, hl, h]

section
variable {G : Gx} {ρ : Env} {t : TA} {PO : M → Env → Prop} {C : Con} {n : Nat} {dvs : List V} {dds : List D}
/-- the caller's world again behind a callee that owned fp of it -/
theorem OkE.back {w : Wd} {σ : St} {fp fr : List Addr} {w' : Wd} (o : OkE G w σ ρ fp) (l : Le ⟨w.S, w.H, fp⟩ w') (s : Sub w'.S w'.H) (hf : w'.F = fr) (nd : w'.F.Nodup) : ∃ w2, Le w w2 ∧ w2.S = w'.S ∧ w2.H = w'.H ∧ OkE G w2 σ ρ fr := by
  obtain ⟨fps, e, ef⟩ := o.env
  have ndw := o.nd
  rw [ef] at ndw
  obtain ⟨n1, n2, n3⟩ := List.nodup_append.mp ndw
  have at_ := e.at_
  have nfp : ∀ x ∈ fps.flatten, x ∉ fp := fun x h1 h2 => n3 x h1 x h2 rfl
  have hr : ∀ x ∈ fr, x ∈ fp ∨ w.H x = none := fun x hx => l.f x (by rw [hf]; exact hx)
  refine ⟨⟨w'.S, w'.H, fps.flatten ++ fr⟩, ⟨l.s, fun x u h hn => l.h x u h (fun z => hn (by rw [ef]; exact List.mem_append_right _ z)), fun x h hn => l.n x h (fun z => hn (by rw [ef]; exact List.mem_append_right _ z)), fun x hx => ?_⟩, rfl, rfl, s, ⟨fps, e.keep l.s (fun x hx => l.n x (at_ x hx).2 (nfp x hx) (at_ x hx).1) (fun x hx u hu => l.h x u hu (nfp x hx)), rfl⟩, ?_, o.px⟩
  · rcases List.mem_append.mp hx with h | h
    · exact .inl (by rw [ef]; exact List.mem_append_left _ h)
    · rcases hr x h with h | h
      · exact .inl (by rw [ef]; exact List.mem_append_right _ h)
      · exact .inr h
  · refine List.nodup_append.mpr ⟨n1, by rw [← hf]; exact nd, fun x hx y hy z => ?_⟩
    subst z
    rcases hr x hy with h | h
    · exact nfp x hx h
    · exact (at_ x hx).2 h
/-- a call, all arguments data -/
theorem wo_callD (hd : ∀ S, RepL G.K S dvs dds) (h : WA G t ρ fun ds ρ1 => (ds ++ dds).length = n ∧ C.c ((ds ++ dds).map .sh) (fun o _ => match o with | .ret m => PO m ρ1 | .err c fs => G.er c fs ρ1)) :
    WO G (tCallSD (toSp G.K n C) dvs (fun σ cls d H => G.Wx cls d σ H) t) ρ PO := fun w σ Q o e q =>
  h w σ _ o e fun vs w1 ds ρ1 ⟨hl, hc⟩ l1 o1 r1 => by
    have r2 := r1.app (hd w1.S)
    refine ⟨⟨w1.S, w1.H, []⟩, (ds ++ dds).map .sh, rfl, o1.sub, ownL_of r2, List.nodup_nil, by rw [List.length_map]; exact hl, o1.tb, C.mono _ _ _ (fun oc ms' hk => ?_) hc⟩
    intro w' fp' l s ow
    cases oc with
    | ret m =>
      intro v fr om hF nd
      have nd2 : (w'.less fr).F.Nodup := by
        show fr.Nodup
        rw [hF] at nd
        exact (List.nodup_append.mp nd).2.1
      have l2 : Le ⟨w1.S, w1.H, []⟩ (w'.less fr) := l.trans (Wd.le_less fun x hx => by rw [hF]; exact List.mem_append_right _ hx)
      obtain ⟨w2, l3, eS, eH, o2⟩ := OkE.back (fp := []) o1 l2 s rfl nd2
      have z := q v w2 m ρ1 fr hk (l1.trans l3) o2 (by rw [eS, eH]; exact om)
      rw [eH] at z
      exact z
    | err c fs =>
      intro d ex hF nd
      have l2 : Le ⟨w1.S, w1.H, []⟩ (w'.less []) := l.trans (Wd.le_less fun x hx => by cases hx)
      obtain ⟨w2, l3, eS, eH, o2⟩ := OkE.back (fp := []) o1 l2 s rfl List.nodup_nil
      have z := e w2 σ ρ1 c fs d hk (l1.trans l3) o2 (by rw [eS]; exact ex)
      rw [eH] at z
      exact z
/-- o.m(..), all of them data -/
theorem wo_methD {ta : TE} {CA : Addr} {m : Str} (hd : ∀ S, RepL G.K S dvs dds) (h : W G ta ρ fun x ρ1 => ∃ c fs, x = .obj c fs ∧ CA = clsAt G.K c ∧ fs.lookup m = none ∧ WA G t ρ1 fun ds ρ2 => (x :: (ds ++ dds)).length = n ∧
      C.c ((x :: (ds ++ dds)).map .sh) (fun o _ => match o with | .ret m => PO m ρ2 | .err c fs => G.er c fs ρ2)) :
    WO G (DC.tMethS CA m (toSp G.K n C) dvs (fun σ cls d H => G.Wx cls d σ H) ta t) ρ PO := fun w σ Q o e q =>
  h w σ _ o e fun v0 w0 x ρ0 ⟨c, fs, ex, eC, hlk, h1⟩ l0 o0 r0 => by
    subst ex
    subst eC
    have r00 := r0
    cases r0 with
    | @obj a dx _ xs _ ha rf =>
      have hno : xs.lookup m = none := rf.none hlk
      refine ⟨a, dx, xs, rfl, o0.sub.ins ha, hno, h1 w0 σ _ o0 (e.later l0) fun vs w1 ds ρ1 ⟨hl, hc⟩ l1 o1 r1 => ?_⟩
      have r2 : RepL G.K w1.S (.ref a :: (vs ++ dvs)) (.obj c fs :: (ds ++ dds)) := .cons (r00.mono l1.s) (r1.app (hd w1.S))
      refine ⟨⟨w1.S, w1.H, []⟩, (.obj c fs :: (ds ++ dds)).map .sh, rfl, o1.sub, ownL_of r2, List.nodup_nil, by rw [List.length_map]; exact hl, o1.tb, C.mono _ _ _ (fun oc ms' hk => ?_) hc⟩
      intro w' fp' l s ow
      have l01 := l0.trans l1
      cases oc with
      | ret m =>
        intro v fr om hF nd
        have nd2 : (w'.less fr).F.Nodup := by
          show fr.Nodup
          rw [hF] at nd
          exact (List.nodup_append.mp nd).2.1
        have l2 : Le ⟨w1.S, w1.H, []⟩ (w'.less fr) := l.trans (Wd.le_less fun x hx => by rw [hF]; exact List.mem_append_right _ hx)
        obtain ⟨w2, l3, eS, eH, o2⟩ := OkE.back (fp := []) o1 l2 s rfl nd2
        have z := q v w2 m ρ1 fr hk (l01.trans l3) o2 (by rw [eS, eH]; exact om)
        rw [eH] at z
        exact z
      | err c' fs' =>
        intro d ex hF nd
        have l2 : Le ⟨w1.S, w1.H, []⟩ (w'.less []) := l.trans (Wd.le_less fun x hx => by cases hx)
        obtain ⟨w2, l3, eS, eH, o2⟩ := OkE.back (fp := []) o1 l2 s rfl List.nodup_nil
        have z := e w2 σ ρ1 c' fs' d hk (l01.trans l3) o2 (by rw [eS]; exact ex)
        rw [eH] at z
        exact z
/-- a call, the first argument a name's own thing -/
theorem OkE.putBack {w : Wd} {σ : St} {i : Nat} {v : V} {m : M} {fp fr : List Addr} (o : OkE G w σ (ρ.set i none) (fp ++ fr)) (hv : σ[i]? = some (some v)) (r : OwnR G.K w.S w.H v m fp) (hl : i < ρ.length) : ∃ w', Le w w' ∧ w'.S = w.S ∧ w'.H = w.H ∧ OkE G w' σ (ρ.set i (some m)) fr := by
  obtain ⟨fps, e, f⟩ := o.env
  have nd := o.nd
  rw [f] at nd
  obtain ⟨nd1, nd2, nd3⟩ := List.nodup_append.mp nd
  obtain ⟨nd4, nd5, nd6⟩ := List.nodup_append.mp nd2
  have es : σ.set i (some v) = σ := by
    apply List.ext_getElem?
    intro j
    by_cases z : i = j
    · subst z
      have hl : i < σ.length := (List.getElem?_eq_some_iff.mp hv).1
      rw [List.getElem?_set_self hl, hv]
    · rw [List.getElem?_set_ne z]
  have e2 := e.set i r
  rw [es, List.set_set] at e2
  have sub : ∀ x ∈ (fps.set i fp).flatten ++ fr, x ∈ w.F := fun x hx => by
    rw [f]
    rcases List.mem_append.mp hx with h | h
    · rcases mem_flatten_set h with h | h
      · exact List.mem_append_left _ h
      · exact List.mem_append_right _ (List.mem_append_left _ h)
    · exact List.mem_append_right _ (List.mem_append_right _ h)
  refine ⟨w.less ((fps.set i fp).flatten ++ fr), Wd.le_less sub, rfl, rfl, o.sub, ⟨_, e2, rfl⟩, ?_, o.px⟩
  show ((fps.set i fp).flatten ++ fr).Nodup
  refine List.nodup_append.mpr ⟨nodup_flatten_set nd1 nd4 (fun x h q => nd3 x (mem_flatten_nil q) x (List.mem_append_left _ h) rfl), nd5, fun x hx y hy z => ?_⟩
  subst z
  rcases mem_flatten_set hx with h | h
  · exact nd3 x h x (List.mem_append_right _ hy) rfl
  · exact nd6 x h x hy rfl
theorem wo_callO {i : Nat} (hd : ∀ S, RepL G.K S dvs dds) (hp : ∃ m, ρ[i]? = some (some m)) (h : WA G t ρ fun ds ρ1 => ∃ m, ρ1[i]? = some (some m) ∧ (m :: (ds ++ dds).map .sh).length = n ∧
      C.c (m :: (ds ++ dds).map .sh) (fun o ms' => ∃ m' r, ms' = m' :: r ∧ match o with | .ret a => PO a (ρ1.set i (some m')) | .err c fs => G.er c fs (ρ1.set i (some m')))) :
    WO G (tCallSD (toSp G.K n C) dvs (fun σ cls d H => G.Wx cls d σ H) (tCons (tVar i) t)) ρ PO := fun w σ Q o e q => by
  obtain ⟨m0, hm0⟩ := hp
  obtain ⟨v, _, _, hv, _⟩ := o.takeM hm0
  refine ⟨v, hv, h w σ _ o e fun vs w1 ds ρ1 ⟨m, hm, hl, hc⟩ l1 o1 r1 => ?_⟩
  obtain ⟨v', fp, w2, hv', l2, eS, eH, o2, om⟩ := o1.takeM hm
  obtain rfl : v' = v := by
    rw [hv] at hv'
    exact (Option.some.inj (Option.some.inj hv')).symm
  have hil : i < ρ1.length := (List.getElem?_eq_some_iff.mp hm).1
  have r2 := r1.app (hd w1.S)
  have ndf : fp.Nodup := by
    have nd := o2.nd
    obtain ⟨fps, _, ef⟩ := o2.env
    rw [ef] at nd
    exact (List.nodup_append.mp nd).2.1
  refine ⟨⟨w1.S, w1.H, fp⟩, m :: (ds ++ dds).map .sh, rfl, o1.sub, by
    have z : OwnL G.K w1.S w1.H (v' :: (vs ++ dvs)) (m :: (ds ++ dds).map .sh) (fp ++ []) := .cons om (ownL_of r2)
    rw [List.append_nil] at z
    exact z, ndf, hl, o1.tb, C.mono _ _ _ (fun oc ms' hk => ?_) hc⟩
  obtain ⟨m', rr, ems, hk⟩ := hk
  subst ems
  intro w' fp' l s ow
  have lb : Le ⟨w2.S, w2.H, fp⟩ w' := by rw [eS, eH]; exact l
  have l12 := l1.trans l2
  cases ow with
  | @cons _ _ _ _ f1 f2 ow1 ow2 =>
    cases oc with
    | ret a =>
      intro u fr oa hF nd
      have hF2 : (w'.less (f1 ++ fr)).F = f1 ++ fr := rfl
      have sb : ∀ x ∈ f1 ++ fr, x ∈ w'.F := fun x hx => by
        rw [hF]
        rcases List.mem_append.mp hx with h | h
        · exact List.mem_append_left _ (List.mem_append_left _ h)
        · exact List.mem_append_right _ h
      have nd2 : (w'.less (f1 ++ fr)).F.Nodup := by
        show (f1 ++ fr).Nodup
        rw [hF] at nd
        obtain ⟨a1, a2, a3⟩ := List.nodup_append.mp nd
        exact List.nodup_append.mpr ⟨(List.nodup_append.mp a1).1, a2, fun x hx y hy z => a3 x (List.mem_append_left _ hx) y hy z⟩
      obtain ⟨w3, l3, eS3, eH3, o3⟩ := OkE.back (fp := fp) o2 (lb.trans (Wd.le_less sb)) s hF2 nd2
      obtain ⟨w4, l4, eS4, eH4, o4⟩ := OkE.putBack (m := m') o3 hv (by rw [eS3, eH3]; exact ow1) hil
      have z := q u w4 a _ fr hk ((l12.trans l3).trans l4) o4 (by rw [eS4, eH4, eS3, eH3]; exact oa)
      rw [eH4, eH3] at z
      exact z
    | err c fs =>
      intro d ex hF nd
      have sb : ∀ x ∈ f1 ++ [], x ∈ w'.F := fun x hx => by
        rw [hF]
        rw [List.append_nil] at hx
        exact List.mem_append_left _ hx
      have nd2 : (w'.less (f1 ++ [])).F.Nodup := by
        show (f1 ++ []).Nodup
        rw [hF] at nd
        rw [List.append_nil]
        exact (List.nodup_append.mp nd).1
      obtain ⟨w3, l3, eS3, eH3, o3⟩ := OkE.back (fp := fp) o2 (lb.trans (Wd.le_less sb)) s rfl nd2
      obtain ⟨w4, l4, eS4, eH4, o4⟩ := OkE.putBack (fr := []) (m := m') o3 hv (by rw [eS3, eH3]; exact ow1) hil
      have z := e w4 σ _ c fs d hk ((l12.trans l3).trans l4) o4 (by rw [eS4, eS3]; exact ex)
      rw [eH4, eH3] at z
      exact z
end
end DL

namespace DL
open PySem L2

/-! ### contracts of two kinds -/
/-- all arguments data -/
structure CD where
  c : List D → (Out → Prop) → Prop
  mono : ∀ ds k k', (∀ o, k o → k' o) → c ds k → c ds k'
def CD.con (C : CD) : Con := ⟨fun ms k => ∃ ds : List D, ms = ds.map M.sh ∧ C.c ds fun o => k o ms, by
  intro ms k k' h hk
  obtain ⟨ds, e, q⟩ := hk
  exact ⟨ds, e, C.mono _ _ _ (fun o => h o ms) q⟩⟩
/-- the first argument may be changed -/
structure CO where
  c : M → List D → (Out → M → Prop) → Prop
  mono : ∀ m ds k k', (∀ o a, k o a → k' o a) → c m ds k → c m ds k'
def CO.con (C : CO) : Con := ⟨fun ms k => ∃ (m : M) (ds : List D), ms = m :: ds.map M.sh ∧ C.c m ds fun o m' => k o (m' :: ds.map M.sh), by
  intro ms k k' h hk
  obtain ⟨m, ds, e, q⟩ := hk
  exact ⟨m, ds, e, C.mono _ _ _ _ (fun o a => h o _) q⟩⟩
section
variable {G : Gx} {ρ : Env} {t : TA} {PO : M → Env → Prop} {P : D → Env → Prop} {n i : Nat} {dvs : List V} {dds : List D} {ta : TE} {CA : Addr} {m : Str}
theorem wo_cd {C : CD} (hd : ∀ S, RepL G.K S dvs dds) (h : WA G t ρ fun ds ρ1 => (ds ++ dds).length = n ∧ C.c (ds ++ dds) fun o => match o with | .ret m => PO m ρ1 | .err c fs => G.er c fs ρ1) :
    WO G (tCallSD (toSp G.K n C.con) dvs (fun σ cls d H => G.Wx cls d σ H) t) ρ PO := wo_callD hd fun w σ Q o e q => h w σ Q o e fun vs w1 ds ρ1 ⟨a, b⟩ => q vs w1 ds ρ1 ⟨a, ds ++ dds, rfl, C.mono _ _ _ (fun o h => h) b⟩
theorem wo_md {C : CD} (hd : ∀ S, RepL G.K S dvs dds) (h : W G ta ρ fun x ρ1 => ∃ c fs, x = .obj c fs ∧ CA = clsAt G.K c ∧ fs.lookup m = none ∧ WA G t ρ1 fun ds ρ2 => (x :: (ds ++ dds)).length = n ∧
      C.c (x :: (ds ++ dds)) fun o => match o with | .ret m => PO m ρ2 | .err c fs => G.er c fs ρ2) : WO G (DC.tMethS CA m (toSp G.K n C.con) dvs (fun σ cls d H => G.Wx cls d σ H) ta t) ρ PO :=
  wo_methD hd fun w σ Q o e q => h w σ Q o e fun v w1 x ρ1 ⟨c, fs, e1, e2, e3, z⟩ => q v w1 x ρ1 ⟨c, fs, e1, e2, e3, fun w σ Q o e q => z w σ Q o e fun vs w1 ds ρ1 ⟨a, b⟩ => q vs w1 ds ρ1 ⟨a, x :: (ds ++ dds), rfl, C.mono _ _ _ (fun o h => h) b⟩⟩
theorem wo_co {C : CO} (hd : ∀ S, RepL G.K S dvs dds) (hp : ∃ m, ρ[i]? = some (some m)) (h : WA G t ρ fun ds ρ1 => ∃ m, ρ1[i]? = some (some m) ∧ (ds ++ dds).length + 1 = n ∧
      C.c m (ds ++ dds) fun o m' => match o with | .ret a => PO a (ρ1.set i (some m')) | .err c fs => G.er c fs (ρ1.set i (some m'))) :
    WO G (tCallSD (toSp G.K n C.con) dvs (fun σ cls d H => G.Wx cls d σ H) (tCons (tVar i) t)) ρ PO := wo_callO hd hp fun w σ Q o e q => h w σ Q o e fun vs w1 ds ρ1 ⟨m, a, b, c⟩ => q vs w1 ds ρ1 ⟨m, a, by rw [List.length_cons, List.length_map]; exact b, m, ds ++ dds, rfl, C.mono _ _ _ _ (fun o m' h => ⟨m', _, rfl, h⟩) c⟩
theorem wo_mk {C : CO} {c : Str} (hd : ∀ S, RepL G.K S dvs dds) (h : WA G t ρ fun ds ρ1 => CA = clsAt G.K c ∧ (ds ++ dds).length + 1 = n ∧ C.c (.obj c []) (ds ++ dds) fun o m' => match o with | .ret a => a = .sh .non ∧ PO m' ρ1 | .err c fs => G.er c fs ρ1) :
    WO G (DC.tMakeS CA (toSp G.K n C.con) dvs (fun σ cls d H => G.Wx cls d σ H) t) ρ PO := fun w σ Q o e q =>
  h w σ _ o e fun vs w1 ds ρ1 ⟨eC, hl, hc⟩ l1 o1 r1 => by
    subst eC
    intro x dx hx hdx ne
    have r2 := r1.app (hd w1.S)
    obtain ⟨l2, o2⟩ := OkE.ins (o1 := .own x) (o2 := .ins (clsAt G.K c) dx []) o1 hx hdx
    refine ⟨⟨w1.S, upd (upd w1.H dx (.own x)) x (.ins (clsAt G.K c) dx []), [x]⟩, .obj c [] :: (ds ++ dds).map .sh, rfl, o2.sub, ?_, by simp, by rw [List.length_cons, List.length_map]; exact hl, o1.tb, .obj c [], ds ++ dds, rfl, C.mono _ _ _ _ (fun oc m' hk => ?_) hc⟩
    · have z : OwnL G.K w1.S (upd (upd w1.H dx (.own x)) x (.ins (clsAt G.K c) dx [])) (.ref x :: (vs ++ dvs)) (.obj c [] :: (ds ++ dds).map .sh) ([x] ++ []) := .cons (.obj (o1.sub.free hx) upd_same .nil) (ownL_of r2)
      exact z
    · intro w' fp' l s ow
      cases ow with
      | @cons _ _ _ _ f1 f2 ow1 ow2 =>
        obtain ⟨_, rfl⟩ := ownL_inv ow2
        cases oc with
        | ret a =>
          intro u fr oa hF nd
          obtain ⟨ea, hk⟩ := hk
          subst ea
          have eu : u = .non := by
            cases oa with
            | sh r => exact r.non_inv
          have sb : ∀ y ∈ f1, y ∈ w'.F := fun y hy => by
            rw [hF]
            exact List.mem_append_left _ (List.mem_append_left _ hy)
          have nd2 : (w'.less f1).F.Nodup := by
            show f1.Nodup
            rw [hF] at nd
            exact (List.nodup_append.mp (List.nodup_append.mp nd).1).1
          obtain ⟨w3, l3, eS3, eH3, o3⟩ := OkE.back (fp := [x]) o2 (l.trans (Wd.le_less sb)) s rfl nd2
          have z := q (.ref x) w3 m' ρ1 f1 hk ((l1.trans l2).trans l3) o3 (by rw [eS3, eH3]; exact ow1)
          rw [eH3] at z
          exact ⟨eu, z⟩
        | err c' fs =>
          intro d ex hF nd
          have l4 : Le ⟨w1.S, upd (upd w1.H dx (.own x)) x (.ins (clsAt G.K c) dx []), [x]⟩ (w'.less []) := l.trans (Wd.le_less fun y hy => by cases hy)
          obtain ⟨w3, l3, eS3, eH3, o3⟩ := OkE.back (fp := [x]) (fr := []) o2 l4 s rfl List.nodup_nil
          have z := e w3 σ ρ1 c' fs d hk ((l1.trans l2).trans l3) o3 (by rw [eS3]; exact ex)
          rw [eH3] at z
          exact z

/-- one object of what was taken is written -/
theorem OkE.write {w : Wd} {σ : St} {fp fp' : List Addr} {a : Addr} {ob : HO} (k : OkE G w σ ρ fp) (ha : a ∈ fp) (at_ : w.S a = none) (sub : ∀ x ∈ fp', x ∈ fp) (nd : fp'.Nodup) : ∃ w', Le w w' ∧ w'.S = w.S ∧ w'.H = upd w.H a ob ∧ OkE G w' σ ρ fp' := by
  obtain ⟨fps, e, ef⟩ := k.env
  have ndw := k.nd
  rw [ef] at ndw
  obtain ⟨n1, n2, n3⟩ := List.nodup_append.mp ndw
  have haF : a ∈ w.F := by rw [ef]; exact List.mem_append_right _ ha
  refine ⟨⟨w.S, upd w.H a ob, fps.flatten ++ fp'⟩, ⟨Ex.refl _, fun x u h hn => ?_, fun _ _ _ h => h, fun x hx => .inl ?_⟩, rfl, rfl, ⟨fun x u h => ?_, ⟨fps, e.keep (Ex.refl _) (fun x hx => (e.at_ x hx).1) (fun x hx u hu => ?_), rfl⟩, ?_, k.px⟩⟩
  · show Keeps u (upd w.H a ob x)
    rw [upd_ne (fun z : x = a => hn (by rw [z]; exact haF))]
    exact .inl h
  · rw [ef]
    rcases List.mem_append.mp hx with h | h
    · exact List.mem_append_left _ h
    · exact List.mem_append_right _ (sub x h)
  · have ne : x ≠ a := fun z => by
      rw [z] at h
      have h2 : w.S a = some u := h
      rw [at_] at h2
      cases h2
    show SubAt _ (upd w.H a ob x) u
    rw [upd_ne ne]
    exact k.sub x u h
  · show Keeps u (upd w.H a ob x)
    rw [upd_ne (fun z => n3 x hx a ha z)]
    exact .inl hu
  · exact List.nodup_append.mpr ⟨n1, nd, fun x hx y hy z => n3 x hx y (sub y hy) z⟩
theorem OkE.nodupFx {w : Wd} {σ : St} {fp : List Addr} (k : OkE G w σ ρ fp) : fp.Nodup := by
  obtain ⟨fps, e, ef⟩ := k.env
  have ndw := k.nd
  rw [ef] at ndw
  exact (List.nodup_append.mp ndw).2.1
/-! ### a def, by its body at the data -/
theorem envOf {K : PySem.W.Frag} {S H : Hp} : ∀ {vs : List V} {ms : List M} {fp : List Addr} (j : Nat), TbK K S → OwnL K S H vs ms fp → ∃ fps, EnvR K S H (vs.map some ++ List.replicate j none) (ms.map some ++ List.replicate j none) fps ∧ fps.flatten = fp
  | _, _, _, 0, t, .nil => ⟨[], .nil t, rfl⟩
  | _, _, _, j + 1, t, .nil => by
    obtain ⟨fps, e, f⟩ := envOf (K := K) (S := S) (H := H) (vs := []) (ms := []) (fp := []) j t .nil
    exact ⟨[] :: fps, .no e, by rw [List.flatten_cons, f]; rfl⟩
  | _, _, _, j, t, .cons h r => by
    obtain ⟨fps, e, f⟩ := envOf j t r
    exact ⟨_ :: fps, .ow h e, by rw [List.flatten_cons, f]⟩
end
/-- the names at the entry -/
def env0 (ms : List M) (j : Nat) : Env := ms.map some ++ List.replicate j none
def envD (ds : List D) (j : Nat) : Env := ds.map (fun d => some (.sh d)) ++ List.replicate j none
theorem envD_eq (ds : List D) (j : Nat) : envD ds j = env0 (ds.map .sh) j := by
  unfold envD env0
  rw [List.map_map]
  rfl
/-- where the body of a def stands whose arguments are data -/
abbrev gxD (K : PySem.W.Frag) (E : XK) (kk : Out → Prop) : Gx := ⟨K, [], fun _ => .non, fun cls d _ H => E cls d H, fun c fs _ => kk (.err c fs)⟩
abbrev postD (kk : Out → Prop) : Post := { nx := fun _ => kk (.ret (.sh .non)), rt := fun m _ => kk (.ret m) }
abbrev gxO (K : PySem.W.Frag) (E : XK) (v : V) (kk : Out → M → Prop) : Gx := ⟨K, [0], fun _ => v, fun cls d _ H => E cls d H, fun c fs ρ => ∃ m, ρ[0]? = some (some m) ∧ kk (.err c fs) m⟩
abbrev postO (kk : Out → M → Prop) : Post := { nx := fun ρ => ∃ m, ρ[0]? = some (some m) ∧ kk (.ret (.sh .non)) m, rt := fun a ρ => ∃ m, ρ[0]? = some (some m) ∧ kk (.ret a) m }
section
variable {prg : Program} {wd : World} {K : PySem.W.Frag} {mg : Str → Option Value} {bs : Heap} {x qual : Str} {params : Arguments} {body : List Stmt} {scp : Scope} {dfl : List V} {kwd : List (Str × V)} {f : Addr} {fd : FuncData} {N names : List Str} {lv n : Nat}
theorem def_D {C : CD} (F : FunD K x qual params body scp dfl kwd f fd) (sc : FnScope N names scp) (hn : names.length = n)
    (bd : ∀ (cdv : Value) (A : Around) (fr : List PySem.Env) (s : Shared) (H : Hp) (E : XK) (ds : List D) (kk : Out → Prop), (A.deeper (PyProof.Rows.envOfC qual scp s.heap.objs.size f cdv)).guards = some [] → Room lv (A.deeper (PyProof.Rows.envOfC qual scp s.heap.objs.size f cdv)) → C.c ds kk → ds.length = n →
      ∃ t, PSs (cxOf (L2.CX prg wd) prg wd K mg bs N qual scp f cdv A fr s H E) body t ∧ WS (gxD K E kk) t (envD ds (N.length - n)) (postD kk)) :
    DC.FnG prg wd K mg bs (L2.CX prg wd) (lv + 1) f fd names (toSp K n C.con) :=
  DC.fnG_of F sc (toSp_len hn) fun cdv A fr s H xs Q E gd room ⟨w, ms, eH, hs, ow, ndF, hl, tbk, ds, ems, hc⟩ => by
    subst ems
    subst eH
    obtain ⟨r, eF⟩ := ownL_inv ow
    have hl2 : ds.length = n := by rw [List.length_map] at hl; exact hl
    obtain ⟨t, ht, hw⟩ := bd cdv A fr s w.H E ds (fun o => EndC K w xs Q E o (ds.map .sh)) gd room hc hl2
    refine ⟨t, ht, ?_⟩
    obtain ⟨fps, e, ef⟩ := envOf (N.length - n) tbk ow
    have o0 : Ok (gxD K E fun o => EndC K w xs Q E o (ds.map .sh)) w (L2.start N xs) (envD ds (N.length - n)) := by
      refine ⟨hs, ⟨fps, ?_, by rw [ef, List.append_nil]⟩, ndF, fun i hi => by cases hi⟩
      have el : xs.length = n := by rw [r.len, hl2]
      unfold L2.start
      rw [envD_eq, el]
      exact e
    refine hw w _ _ o0 (fun w' σ ρ' c fs d he l o' ex => ?_) ⟨fun w' σ' ρ' h l o' => ?_, fun v w' σ' m ρ' fp h l o' om => ?_, fun _ _ _ h => h.elim, fun _ _ _ h => h.elim⟩
    · exact he (w'.less []) [] (l.trans (Wd.le_less fun x hx => by cases hx)) o'.sub (ownL_of (r.mono l.s)) d ex rfl List.nodup_nil
    · exact h (w'.less []) [] (l.trans (Wd.le_less fun x hx => by cases hx)) o'.sub (ownL_of (r.mono l.s)) .non [] (.sh .non) rfl List.nodup_nil
    · have nd := o'.nodupFx
      obtain ⟨fps', _, ef'⟩ := o'.env
      exact h (w'.less fp) [] (l.trans (Wd.le_less fun x hx => by rw [ef']; exact List.mem_append_right _ hx)) o'.sub (ownL_of (r.mono l.s)) v fp om rfl nd
theorem def_O {C : CO} (F : FunD K x qual params body scp dfl kwd f fd) (sc : FnScope N names scp) (hn : names.length = n)
    (bd : ∀ (cdv : Value) (A : Around) (fr : List PySem.Env) (s : Shared) (H : Hp) (E : XK) (v0 : V) (m : M) (ds : List D) (kk : Out → M → Prop), (A.deeper (PyProof.Rows.envOfC qual scp s.heap.objs.size f cdv)).guards = some [] → Room lv (A.deeper (PyProof.Rows.envOfC qual scp s.heap.objs.size f cdv)) → C.c m ds kk → ds.length + 1 = n →
      ∃ t, PSs (cxOf (L2.CX prg wd) prg wd K mg bs N qual scp f cdv A fr s H E) body t ∧ WS (gxO K E v0 kk) t (some m :: envD ds (N.length - n)) (postO kk)) :
    DC.FnG prg wd K mg bs (L2.CX prg wd) (lv + 1) f fd names (toSp K n C.con) :=
  DC.fnG_of F sc (toSp_len hn) fun cdv A fr s H xs Q E gd room ⟨w, ms, eH, hs, ow, ndF, hl, tbk, m0, ds, ems, hc⟩ => by
    subst ems
    subst eH
    have hl2 : ds.length + 1 = n := by rw [List.length_cons, List.length_map] at hl; exact hl
    generalize hF : w.F = F0 at ow
    have ow' := ow
    cases ow with
    | @cons v0 vs _ _ f1 f2 ow1 ow2 =>
      obtain ⟨r, eF⟩ := ownL_inv ow2
      subst eF
      obtain ⟨t, ht, hw⟩ := bd cdv A fr s w.H E v0 m0 ds (fun o m' => EndC K w (v0 :: vs) Q E o (m' :: ds.map .sh)) gd room hc hl2
      refine ⟨t, ht, ?_⟩
      obtain ⟨fps, e, ef⟩ := envOf (N.length - n) tbk ow'
      have el : vs.length + 1 = n := by rw [r.len, hl2]
      have o0 : Ok (gxO K E v0 fun o m' => EndC K w (v0 :: vs) Q E o (m' :: ds.map .sh)) w (L2.start N (v0 :: vs)) (some m0 :: envD ds (N.length - n)) := by
        refine ⟨hs, ⟨fps, ?_, by rw [ef, List.append_nil]; exact hF⟩, ndF, fun i hi => ?_⟩
        · unfold L2.start
          rw [envD_eq, List.length_cons, el]
          exact e
        · obtain rfl : i = 0 := by simpa [gxO] using hi
          rfl
      have px : ∀ {w' σ' ρ' fp}, OkE (gxO K E v0 fun o m' => EndC K w (v0 :: vs) Q E o (m' :: ds.map .sh)) w' σ' ρ' fp → σ'[0]? = some (some v0) := fun {w' σ' ρ' fp} o' => o'.px 0 (by simp [gxO])
      -- what the first argument owns, apart from what is handed back
      have fin : ∀ {w' σ' ρ' fp m}, Le w w' → OkE (gxO K E v0 fun o m' => EndC K w (v0 :: vs) Q E o (m' :: ds.map .sh)) w' σ' ρ' fp → ρ'[0]? = some (some m) → ∃ g, Le w (w'.less (g ++ fp)) ∧ (g ++ fp).Nodup ∧ OwnL K w'.S w'.H (v0 :: vs) (m :: ds.map .sh) g := fun {w' σ' ρ' fp m} l o' hm => by
        have p0 := px o'
        obtain ⟨fps', e', ef'⟩ := o'.env
        obtain ⟨v', g, h1, h2, h3⟩ := e'.get hm
        rw [p0] at h1
        have z := Option.some.inj (Option.some.inj h1)
        subst z
        have nd := o'.nd
        rw [ef'] at nd
        obtain ⟨n1, n2, n3⟩ := List.nodup_append.mp nd
        have gs : ∀ x ∈ g, x ∈ fps'.flatten := fun x hx => mem_flatten_get h2 hx
        refine ⟨g, l.trans (Wd.le_less fun x hx => ?_), List.nodup_append.mpr ⟨n1.sublist (List.sublist_flatten_of_mem (List.mem_of_getElem? h2)), n2, fun x hx y hy z => n3 x (gs x hx) y hy z⟩, ?_⟩
        · rw [ef']
          exact (List.mem_append.mp hx).elim (fun h => List.mem_append_left _ (gs x h)) fun h => List.mem_append_right _ h
        · have z : OwnL K w'.S w'.H (v0 :: vs) (m :: ds.map .sh) (g ++ []) := .cons h3 (ownL_of (r.mono l.s))
          rw [List.append_nil] at z
          exact z
      refine hw w _ _ o0 (fun w' σ ρ' c fs d he l o' ex => ?_) ⟨fun w' σ' ρ' h l o' => ?_, fun v w' σ' a ρ' fp h l o' om => ?_, fun _ _ _ h => h.elim, fun _ _ _ h => h.elim⟩
      · obtain ⟨m, hm, hk⟩ := he
        obtain ⟨g, l2, nd, own⟩ := fin (fp := []) l o' hm
        rw [List.append_nil] at l2 nd
        exact hk (w'.less g) g l2 o'.sub own d ex rfl nd
      · obtain ⟨m, hm, hk⟩ := h
        obtain ⟨g, l2, nd, own⟩ := fin (fp := []) l o' hm
        exact hk (w'.less (g ++ [])) g l2 o'.sub own .non [] (.sh .non) rfl nd
      · obtain ⟨m, hm, hk⟩ := h
        obtain ⟨g, l2, nd, own⟩ := fin l o' hm
        exact hk (w'.less (g ++ fp)) g l2 o'.sub own v fp om rfl nd
end
end DL

namespace DC
open PySem L2 PySem.Spec PyProof.Rows
section
variable {X : Cx} {body : List Stmt} {h₀ : ExceptHandler} {hs : List ExceptHandler} {l : List Clause} {pos : Pos} {tb : WX → List (Addr × Obj) → (Value → Shared → Prop) → TS} {out : WX}
end
end DC
namespace DC
open PySem L2 PySem.Spec PyProof.Rows
section
variable {X : Cx}
end
end DC
namespace DC
open PySem L2 PySem.Spec PyProof.Rows
section
variable {X : Cx}
end
end DC

namespace DL
open PySem L2

/-! ### raise -/
/-- the promise of an exception class's own __init__ that keeps its arguments in fields -/
def spIni (K : PySem.W.Frag) : List Str → Sp
  | [f] => fun vs H Q _ => ∃ a C y, vs = [.ref a, y] ∧ OexC K C ∧ NoAttr K C f ∧ H a = some (exo a C none) ∧ ∀ dx, H dx = none → dx ≠ a → Q .non (upd (upd H dx (exd dx [(f, y)])) a (exo a C (some dx)))
  | [f, g] => fun vs H Q _ => ∃ a C y z, vs = [.ref a, y, z] ∧ OexC K C ∧ NoAttr K C f ∧ NoAttr K C g ∧ H a = some (exo a C none) ∧ ∀ dx, H dx = none → dx ≠ a → Q .non (upd (upd (upd H dx (exd dx [(f, y)])) a (exo a C (some dx))) dx (exd dx [(g, z), (f, y)]))
  | _ => fun _ _ _ _ => False
section
variable {G : Gx} {ρ : Env} {P : Post} {ta : TA} {CA : Addr} {c : Str} {f g : Str} {k : D → Prop}
/-! ### try -/
/-- the clauses at the data -/
def clD (G : Gx) (P : Post) : List DC.Clause → Str → List (Str × D) → Env → Prop
  | [], c, fs, ρ => G.er c fs ρ
  | (cv, none, ts) :: more, c, fs, ρ => ∃ yes, PySem.W.exmOne G.K (.ref (clsAt G.K c)) cv = some yes ∧ if yes = true then ∀ a ob d pn, WS G.nox (ts a ob (.ref (clsAt G.K c)) d pn) ρ P else clD G P more c fs ρ
  | (cv, some i, ts) :: more, c, fs, ρ => ∃ yes, PySem.W.exmOne G.K (.ref (clsAt G.K c)) cv = some yes ∧ if yes = true then fs ≠ [] ∧ i ∉ G.px ∧ ∀ a ob dd pn, WS G.nox (ts a ob (.ref (clsAt G.K c)) (some dd) pn) (ρ.set i (some (.sh (.exc a dd c fs))))
      { nx := fun ρ => P.nx (ρ.set i none), rt := P.rt, bk := fun ρ => P.bk (ρ.set i none), ct := fun ρ => P.ct (ρ.set i none) } else clD G P more c fs ρ
theorem Meets.nox {w : Wd} {D : Ends} (m : Meets G w D P) : Meets G.nox w D P := ⟨fun w' σ' ρ' h l o => m.nx w' σ' ρ' h l o.unnox, fun v w' σ' a ρ' fp h l o r => m.rt v w' σ' a ρ' fp h l o.unnox r, fun w' σ' ρ' h l o => m.bk w' σ' ρ' h l o.unnox, fun w' σ' ρ' h l o => m.ct w' σ' ρ' h l o.unnox⟩
/-- e.f -/
theorem w_xf {te : TE} {a dd : Addr} {PD : D → Env → Prop} (h : W G te ρ fun x ρ1 => ∃ fs d, x = .exc a dd c fs ∧ CA = clsAt G.K c ∧ fs.lookup f = some d ∧ PD d ρ1) : W G (tXf a (.ref (clsAt G.K c)) (some dd) CA f te) ρ PD := fun w σ Q o e q =>
  h w σ _ o e fun v w1 x ρ1 ⟨fs, d, ex, eC, hl, p⟩ l1 o1 r1 => by
    subst ex
    subst eC
    cases r1 with
    | @exc _ _ _ xs _ hS rf =>
      obtain ⟨u, hu, ru⟩ := rf.get hl
      exact ⟨rfl, rfl, dd, xs, u, rfl, o1.sub.xd hS, hu, q u w1 d ρ1 p l1 o1 ru⟩
end
end DL

namespace DC
open PySem L2 PySem.Spec PyProof.Rows
end DC
namespace DL
open PySem L2 PySem.Spec PyProof.Rows
end DL

namespace DL
open PySem L2
theorem oexB_ok {K : PySem.W.Frag} {C : Addr} (h : oexB K C = true) : OexC K C := by
  obtain ⟨h1, h⟩ := (Bool.and_eq_true_iff.mp h)
  obtain ⟨h2, h⟩ := (Bool.and_eq_true_iff.mp h)
  obtain ⟨h3, h⟩ := Bool.and_eq_true_iff.mp h
  obtain ⟨h4, h5⟩ := Bool.and_eq_true_iff.mp h
  refine ⟨?_, of_decide_eq_true h2, of_decide_eq_true h3, of_decide_eq_true h4, h5⟩
  split at h1
  · rename_i dict cd sl at_
    split at h1
    · rename_i D up s0 s1 s2 s3 n s5 em es
      simp only [Bool.and_eq_true, beq_iff_eq, Bool.not_eq_true'] at h1
      obtain ⟨rfl, rfl, nodel, hasd, tail⟩ := h1
      obtain ⟨nm, bases, mro, space, qn, hd, sn, sub, ab, col, del⟩ := cd
      dsimp only at em nodel hasd
      subst em nodel hasd
      obtain ⟨l⟩ := sl
      simp only at es
      subst es
      exact ⟨nm, qn, space, bases, up, sn, sub, ab, col, dict, s0, s1, s2, s3, s5, at_, tail⟩
    · cases h1
  · cases h1
theorem iniB_ok {K : PySem.W.Frag} {C : Addr} (h : iniB K C = true) : PySem.W.findIn K (.ref C) "__init__" = some (some (.ref (He.ma K C "__init__"))) ∧ PySem.W.typeIn K (.ref (He.ma K C "__init__")) = some (.type "function") := by
  obtain ⟨h1, h2⟩ := Bool.and_eq_true_iff.mp h
  exact ⟨of_decide_eq_true h1, of_decide_eq_true h2⟩
theorem room70 {k : Nat} {A : Around} (r : Room k A) : A.units + 70 < cLine := by have := r.un; omega
end DL

namespace DL
open PySem L2
section
variable {G : Gx} {ρ : Env} {t : TA} {P : D → Env → Prop} {PO : M → Env → Prop} {n i : Nat} {dvs : List V} {dds : List D} {ta te : TE} {CA : Addr} {m : Str} {PS_ : Post}
/-- calls that give data -/
theorem w_cd {C : CD} (hd : ∀ S, RepL G.K S dvs dds) (h : WA G t ρ fun ds ρ1 => (ds ++ dds).length = n ∧ C.c (ds ++ dds) fun o => match o with | .ret m => ∃ d, Frz m d ∧ P d ρ1 | .err c fs => G.er c fs ρ1) :
    W G (tCallSD (toSp G.K n C.con) dvs (fun σ cls d H => G.Wx cls d σ H) t) ρ P := w_frz (wo_cd hd h)
theorem w_md {C : CD} (hd : ∀ S, RepL G.K S dvs dds) (h : W G ta ρ fun x ρ1 => ∃ c fs, x = .obj c fs ∧ CA = clsAt G.K c ∧ fs.lookup m = none ∧ WA G t ρ1 fun ds ρ2 => (x :: (ds ++ dds)).length = n ∧
      C.c (x :: (ds ++ dds)) fun o => match o with | .ret m => ∃ d, Frz m d ∧ P d ρ2 | .err c fs => G.er c fs ρ2) : W G (DC.tMethS CA m (toSp G.K n C.con) dvs (fun σ cls d H => G.Wx cls d σ H) ta t) ρ P := w_frz (wo_md hd h)
theorem w_co {C : CO} (hd : ∀ S, RepL G.K S dvs dds) (hp : ∃ m, ρ[i]? = some (some m)) (h : WA G t ρ fun ds ρ1 => ∃ m, ρ1[i]? = some (some m) ∧ (ds ++ dds).length + 1 = n ∧
      C.c m (ds ++ dds) fun o m' => match o with | .ret a => ∃ d, Frz a d ∧ P d (ρ1.set i (some m')) | .err c fs => G.er c fs (ρ1.set i (some m'))) :
    W G (tCallSD (toSp G.K n C.con) dvs (fun σ cls d H => G.Wx cls d σ H) (tCons (tVar i) t)) ρ P := w_frz (wo_co hd hp h)
theorem w_mk {C : CO} {c : Str} (hd : ∀ S, RepL G.K S dvs dds) (h : WA G t ρ fun ds ρ1 => CA = clsAt G.K c ∧ (ds ++ dds).length + 1 = n ∧ C.c (.obj c []) (ds ++ dds) fun o m' => match o with | .ret a => a = .sh .non ∧ ∃ d, Frz m' d ∧ P d ρ1 | .err c fs => G.er c fs ρ1) :
    W G (DC.tMakeS CA (toSp G.K n C.con) dvs (fun σ cls d H => G.Wx cls d σ H) t) ρ P := w_frz (wo_mk hd h)
theorem repL_nil {K : PySem.W.Frag} : ∀ S : Hp, RepL K S [] [] := fun _ => .nil
/-- xs.append(e), xs a name's own list -/
theorem ws_append (hpx : ∃ m, ρ[i]? = some (some (.lst m))) (h : W G te ρ fun d ρ1 => ∃ ms, ρ1[i]? = some (some (.lst ms)) ∧ ms.length ≤ 90000 ∧ PS_.nx (ρ1.set i (some (.lst (ms ++ [.sh d]))))) (stay : ∀ w σ, Ok G w σ ρ → True := fun _ _ _ => trivial) :
    WS G (tDrop (tBM G.K "list" rAppend (tVar i) (tCons te tNil))) ρ PS_ := fun w σ D o e q => by
  obtain ⟨m0, hm0⟩ := hpx
  obtain ⟨v, fp0, w0, hv, l0, _, _, _, om0⟩ := o.takeM hm0
  refine ⟨v, hv, ?_, ?_⟩
  · cases om0 with
    | lst hS hH ol => exact .inl ⟨rfl, _, .inl (.inl hH)⟩
  refine h w σ _ o e fun u w1 d ρ1 ⟨ms, hi, hl, p⟩ l1 o1 r1 => ?_
  obtain ⟨v', fp, w2, hv', l2, eS, eH, o2, om⟩ := o1.takeM hi
  obtain rfl : v' = v := by
    rw [hv] at hv'
    exact (Option.some.inj (Option.some.inj hv')).symm
  have hil : i < ρ1.length := (List.getElem?_eq_some_iff.mp hi).1
  have ndf := o2.nodupFx
  cases om with
  | @lst a vs _ fp1 hS hH ol =>
    have nd1 := List.nodup_cons.mp ndf
    refine ⟨a, vs, u, rfl, rfl, hH, by rw [ol.len]; exact Nat.lt_of_le_of_lt hl (by decide), ?_⟩
    obtain ⟨w3, l3, eS3, eH3, o3⟩ := OkE.write (a := a) (ob := .lst (vs ++ [u])) (fp' := (a :: fp1) ++ []) o2 List.mem_cons_self (by rw [eS]; exact hS) (fun x hx => by rw [List.append_nil] at hx; exact hx) (by rw [List.append_nil]; exact ndf)
    have own : OwnR G.K w3.S w3.H (.ref a) (.lst (ms ++ [.sh d])) (a :: fp1) := by
      rw [eS3, eH3, eS, eH]
      refine .lst hS upd_same ?_
      have k1 : OwnL G.K w1.S (upd w1.H a (.lst (vs ++ [u]))) vs ms fp1 := ol.keep (Ex.refl _) (fun x hx => (ol.at_ x hx).1) fun x hx ob ho => by
        rw [upd_ne (fun z : x = a => nd1.1 (by rw [← z]; exact hx))]
        exact .inl ho
      have app : ∀ {vs : List V} {ms : List M} {fp : List Addr} {S H : Hp}, OwnL G.K S H vs ms fp → Rep G.K S u d → OwnL G.K S H (vs ++ [u]) (ms ++ [.sh d]) fp := by
        intro vs ms fp S H k r
        induction vs generalizing ms fp with
        | nil =>
          cases k
          exact OwnL.cons (f := []) (g := []) (.sh r) .nil
        | cons b vs ih =>
          cases k with
          | cons k1 k2 => exact .cons k1 (ih k2)
      exact app k1 r1
    obtain ⟨w4, l4, eS4, eH4, o4⟩ := OkE.putBack (fr := []) o3 hv own hil
    have z := q.nx w4 σ _ p (((l1.trans l2).trans l3).trans l4) o4
    rw [eH4, eH3, eH] at z
    exact z
end
/-! ### an if at the data -/
theorem if_dec {p : Prop} [Decidable p] {A B : Prop} (h : p → A) (h' : ¬ p → B) : if decide p = true then A else B := by
  by_cases q : p
  · rw [decide_eq_true q, if_pos rfl]
    exact h q
  · rw [decide_eq_false q, if_neg Bool.false_ne_true]
    exact h' q
theorem if_b {b : Bool} {A B : Prop} (h : b = true → A) (h' : b = false → B) : if b = true then A else B := by
  cases b with
  | true => exact h rfl
  | false => exact h' rfl
/-! ### in, not in -/
def D.flat : D → Bool
  | .non => true
  | .bl _ => true
  | .int _ => true
  | .str _ => true
  | _ => false
def dEq : D → D → Bool
  | .non, .non => true
  | .bl a, .bl b => a == b
  | .bl truth, .int b => (if truth then 1 else 0) == b
  | .int a, .bl truth => a == (if truth then 1 else 0)
  | .int a, .int b => a == b
  | .str a, .str b => a == b
  | _, _ => false
theorem Rep.flat_eq {K : PySem.W.Frag} {S : Hp} {v u : V} {x y : D} (r : Rep K S v x) (fx : x.flat = true) (q : Rep K S u y) (fy : y.flat = true) : flatV v = true ∧ eqV v u = dEq x y := by
  cases x <;> first | cases fx | skip
  all_goals cases y <;> first | cases fy | skip
  all_goals cases r
  all_goals cases q
  all_goals exact ⟨rfl, rfl⟩
section
variable {K : PySem.W.Frag} {k : D → Prop} {x y : D} {ys : List D}
end
section
variable {X : Cx}
end
end DL

namespace DL
open PySem L2
section
variable {K : PySem.W.Frag} {k : D → Prop} {i j : Int} {x y : D} {a b : Str}
theorem rd_eqI (p : k (.bl (decide (i = j)))) : RD K (rEqD K) (.int i) (.int j) k := rd_eqD rfl rfl rfl rfl (by
  have e : PyData.eqv (.int i) (.int j) = decide (i = j) := by
    show (i == j) = _
    rw [Bool.eq_iff_iff]
    simp
  rw [e]
  exact p)
theorem rd_neI (p : k (.bl (!decide (i = j)))) : RD K (rNeD K) (.int i) (.int j) k := rd_neD rfl rfl rfl rfl (by
  have e : PyData.eqv (.int i) (.int j) = decide (i = j) := by
    show (i == j) = _
    rw [Bool.eq_iff_iff]
    simp
  rw [e]
  exact p)
end
def isB : D → Bool
  | .bl _ => true
  | _ => false
section
variable {K : PySem.W.Frag} {k : D → Prop} {x : D}
end
theorem wt_yes {G : Gx} {ρ : Env} {PT : Bool → Env → Prop} (k : PT true ρ) : WT G tYes ρ PT := fun w _ _ o _ q => q true w ρ k (Le.refl w) o
theorem ru_neg {K : PySem.W.Frag} {i : Int} {k : D → Prop} (p : k (.int (-i))) : RU K (rU fun i => .int (-i)) (.int i) k := fun w v Q s r q => by
  obtain rfl := r.int_inv
  exact ⟨i, rfl, q _ w _ p (LeP.refl w) s (.int _)⟩
section
variable {G : Gx} {P : Post} {c : Str} {fs : List (Str × D)} {ρ : Env} {cv : Value} {n : Option Nat} {i : Nat} {ts : DC.Suite} {more : List DC.Clause}
end
end DL

namespace DL
open PySem L2
/-! ### the same rules with K named (within a comprehension) -/
section
variable {X : Cx} {K : PySem.W.Frag}
theorem o_ixK (hk : X.K = K) : IxR X (rIx K) := hk ▸ ix_seq
end
/-- {} -/
theorem w_dnew {G : Gx} {ρ : Env} {P : D → Env → Prop} (k : P (.dic []) ρ) : W G tDNewK ρ P := fun w σ Q o e q p hp => by
  have l := Wd.le_add (o := .dK []) o.sub hp
  have s := Wd.sub_add (p := p) (o := .dK []) o.sub hp
  exact q (.ref p) (w.add p (.dK [])) _ ρ k l.le (o.grow l s) (.dic (.inl upd_same) .nil)
end DL

namespace DC
open PySem L2 PySem.Spec PyProof.Rows
end DC
namespace DL
open PySem L2
end DL

namespace DL
open PySem L2
section
variable {K : PySem.W.Frag} {S H : Hp}
structure StA (K : PySem.W.Frag) (S H : Hp) (a a0 : Addr) (v1 : V) (bl cs : List Int) (k : Int) : Prop where
  sa : S a = none
  sb : S a0 = none
  ha : H a = some (.lst [.ref a0, v1, .int k])
  hb : H a0 = some (.lst (bl.map .int))
  rc : Rep K S v1 (.lst (cs.map .int))
end
section
variable {G : Gx} {ρ : Env} {P : D → Env → Prop} {PS_ : Post} {i : Nat} {bl cs : List Int} {k j : Int} {te : TE}
end
end DL

namespace DC
open PySem L2 PySem.Spec PyProof.Rows
variable {X : Cx}
end DC

namespace DC
open PySem L2 PySem.Spec PyProof.Rows
/-! ### == and != by a class's own __eq__ -/
/-- what is asked of the class at C whose __eq__ stands at f -/
structure EqC (K : PySem.W.Frag) (C f : Addr) : Prop where
  eq : PySem.W.findIn K (.ref C) "__eq__" = some (some (.ref f))
  ne : PySem.W.findIn K (.ref C) "__ne__" = some (some (.builtin "object.__ne__"))
  ob : PySem.W.mroIn K C (.type "object") = some true
  own : PySem.W.notFirst K C (.ref C) = true
  tup : PySem.W.notFirst K C (.type "tuple") = true
  isf : PySem.W.isFn K (.ref f) = true
  cls : Cls K C
  kl : PySem.W.findIn K (.ref C) "__class__" = some (some (.builtin "object.__class__"))
  sp : PySem.W.specialIn K (.builtin "object.__class__") "__get__" = some (some (.builtin "getset_descriptor.__get__"))
  tk : PySem.W.takesIn K (.builtin "object.__class__") = some true
  iO : PySem.W.kitOne K (.ref C) (.ref C) = some true
  iT : PySem.W.kitOne K (.type "tuple") (.ref C) = some false
section
variable {X : Cx} {lv : Nat} {f C : Addr} {fd : FuncData} {names : List Str} {sp : Sp}
end
end DC

namespace DL
open PySem L2
section
variable {G : Gx} {ρ : Env} {P : D → Env → Prop} {K : PySem.W.Frag} {k : D → Prop} {c : Str} {fs : List (Str × D)} {x y : D} {te tb : TE} {f : Addr} {xs : List D} {i : Nat}
end
end DL

namespace DL
open PySem L2
section
variable {G : Gx} {ρ : Env}
end
end DL

namespace DC
open PySem L2 PySem.Spec PyProof.Rows
/-! ### str(x), x of a class with its own __str__ -/
structure StrC (K : PySem.W.Frag) (C f : Addr) : Prop where
  str : PySem.W.findIn K (.ref C) "__str__" = some (some (.ref f))
  isf : PySem.W.isFn K (.ref f) = true
section
variable {X : Cx} {lv : Nat} {f C : Addr} {fd : FuncData} {names : List Str} {sp : Sp}
end

/-! ### a classmethod, read off its class; a class in a local name -/
section
variable {X : Cx} {CX : CXT} {lv : Nat} {f C p g : Addr} {fd : FuncData} {names : List Str} {sp : Sp} {dvs : List V} {dus : List Value} {E : L2.St → XK} {x m : Str} {np pos apos : Pos} {e o : Expr} {es : List Expr} {ta tf : TE} {t : TA}
end
end DC

namespace DL
open PySem L2
section
variable {G : Gx} {ρ : Env} {P : D → Env → Prop} {PO : M → Env → Prop} {K : PySem.W.Frag} {k : D → Prop} {c : Str} {fs : List (Str × D)} {te ta tb tf : TE} {t : TA} {CA : Addr} {xs : List D} {i n : Nat} {dvs : List V} {dds : List D} {PS_ : Post}
/-! ### a name's own list of data -/
theorem OkE.ownLst {w : Wd} {σ : St} {ds : List D} (o : Ok G w σ ρ) (h : ρ[i]? = some (some (.lst (ds.map .sh)))) : ∃ a vs, σ[i]? = some (some (.ref a)) ∧ w.H a = some (.lst vs) ∧ RepL G.K w.S vs ds ∧
    ∀ vs' ds', RepL G.K w.S vs' ds' → ∃ w', Le w w' ∧ w'.S = w.S ∧ w'.H = upd w.H a (.lst vs') ∧ Ok G w' σ (ρ.set i (some (.lst (ds'.map .sh)))) := by
  obtain ⟨v, fp, w2, hv, l2, eS, eH, o2, om⟩ := o.takeM h
  have hil : i < ρ.length := (List.getElem?_eq_some_iff.mp h).1
  have ndf := o2.nodupFx
  cases om with
  | @lst a vs _ fp1 hS hH ol =>
    obtain ⟨rl, rfl⟩ := ownL_inv ol
    refine ⟨a, vs, hv, hH, rl, fun vs' ds' r' => ?_⟩
    obtain ⟨w3, l3, eS3, eH3, o3⟩ := OkE.write (a := a) (ob := .lst vs') (fp' := [a] ++ []) o2 List.mem_cons_self (by rw [eS]; exact hS) (fun x hx => by rw [List.append_nil] at hx; exact hx) (by rw [List.append_nil]; exact ndf)
    have own : OwnR G.K w3.S w3.H (.ref a) (.lst (ds'.map .sh)) [a] := by
      rw [eS3, eH3, eS, eH]
      exact .lst hS upd_same (ownL_of r')
    obtain ⟨w4, l4, eS4, eH4, o4⟩ := OkE.putBack (fr := []) o3 hv own hil
    exact ⟨w4, (l2.trans l3).trans l4, by rw [eS4, eS3, eS], by rw [eH4, eH3, eH], o4⟩
theorem RepL.set {S : Hp} {v : V} {d : D} (r : Rep K S v d) : ∀ {vs : List V} {ds : List D} (j : Nat), RepL K S vs ds → RepL K S (vs.set j v) (ds.set j d)
  | _, _, _, .nil => .nil
  | _, _, 0, .cons _ q => .cons r q
  | _, _, j + 1, .cons h q => .cons h (RepL.set r j q)
/-- xs[e] = x -/
theorem ws_setO (h0 : ∃ m, ρ[i]? = some (some m)) (h : W G te ρ fun d ρ1 => (∃ ds : List D, ρ1[i]? = some (some (.lst (ds.map .sh)))) ∧ W G tb ρ1 fun y ρ2 => ∃ (ds : List D) (j : Int) (n : Nat), ρ2[i]? = some (some (.lst (ds.map .sh))) ∧ y = .int j ∧ ixN ds.length j = some n ∧ PS_.nx (ρ2.set i (some (.lst ((ds.set n d).map .sh))))) :
    WS G (tAsg te (gSub (tVar i) tb rSetL)) ρ PS_ := fun w σ D o e q =>
  h w σ _ o e fun v w1 d ρ1 ⟨⟨ds1, hd1⟩, h1⟩ l1 o1 r1 => by
    obtain ⟨a, _, hv, _, _, _⟩ := o1.ownLst hd1
    refine ⟨_, hv, h1 w1 σ _ o1 (e.later l1) fun u w2 y ρ2 ⟨ds, j, n, h2, ey, hj, p⟩ l2 o2 r2 => ?_⟩
    subst ey
    obtain rfl := r2.int_inv
    obtain ⟨a', vs, hv', hH, rl, put⟩ := o2.ownLst h2
    obtain rfl : a' = a := by
      rw [hv] at hv'
      exact (V.ref.inj (Option.some.inj (Option.some.inj hv'))).symm
    obtain ⟨w3, l3, eS, eH, o3⟩ := put _ _ (RepL.set (r1.mono l2.s) n rl)
    refine ⟨a', vs, j, n, rfl, rfl, hH, by rw [rl.len]; exact hj, ?_⟩
    have z := q.nx w3 σ _ p ((l1.trans l2).trans l3) o3
    rw [eH] at z
    exact z
end
end DL

namespace DL
open PySem L2 PySem.Spec PyProof.Rows
theorem smB_ok {K : PySem.W.Frag} (h : smB K = true) : SmK K := by
  unfold smB at h
  cases q : K.lookup sysModules with
  | none => rw [q] at h; cases h
  | some o =>
    obtain ⟨oc, od, dt, sl⟩ := o
    rw [q] at h
    cases oc with
    | type c => exact ⟨_, q, congrArg Value.type (of_decide_eq_true h)⟩
    | _ => cases h
section
variable {X : Cx} {pins : List (Addr × Obj)} {σ : L2.St} {H : Hp} {s : Shared} {S : Hp}
/-- repr(x) of data, dicts too -/
def rReprD (K : PySem.W.Frag) : List V → Hp → VK → Prop := fun xs H Q => ∃ x S d p, xs = [x] ∧ Sub S H ∧ Rep K S x d ∧ d.pyR = some p ∧ p.showable = true ∧ p.depth ≤ 64 ∧ p.shown.length ≤ sizeLine ∧ Q (.str p.shown) H
theorem o_reprD (gd : X.A.guards = some []) (hu : X.A.units + 70 < cLine) (m : SmK X.K) : CallR X (.builtin "repr") (rReprD X.K) := by
  intro pins s σ H xs us Q J rel ⟨x, S, d, p, ex, b, r, hp, sh, dp, sz, q⟩
  subst ex
  obtain ⟨u, rfl, ru⟩ := vals1 rel
  obtain ⟨as, rd, na⟩ := Rep.rdR J m b r hp ru
  cases rd with
  | none => exact PySem.P.repr_of_none ⟨.str _, H, J.tok _, ⟨_, rfl⟩, q⟩
  | bool c => exact PySem.P.repr_of_bool ⟨.str _, H, J.tok _, ⟨_, rfl⟩, q⟩
  | int i t => exact PySem.P.repr_of_int (of_decide_eq_true sh) ⟨.str _, H, J.tok _, ⟨_, rfl⟩, q⟩
  | str y t => exact PySem.P.repr_of_str ⟨.str _, H, J.tok _, ⟨_, rfl⟩, q⟩ sz
  | list h1 h2 h3 h4 => exact repr_of_reads' (.list h1 h2 h3 h4) sh (fun _ => na) gd (by omega) (fun _ _ e => e) (fun h' v tk keep => ⟨.str _, H, J.kept (t' := tk) keep, ⟨_, rfl⟩, q⟩) sz
  | tuple h1 h2 h3 h4 => exact repr_of_reads' (.tuple h1 h2 h3 h4) sh (fun _ => na) gd (by omega) (fun _ _ e => e) (fun h' v tk keep => ⟨.str _, H, J.kept (t' := tk) keep, ⟨_, rfl⟩, q⟩) sz
  | dict h1 h2 h3 h4 h5 => exact repr_of_reads' (.dict h1 h2 h3 h4 h5) sh (fun _ => na) gd (by omega) (fun _ _ e => e) (fun h' v tk keep => ⟨.str _, H, J.kept (t' := tk) keep, ⟨_, rfl⟩, q⟩) sz
end
theorem rc_reprD {K : PySem.W.Frag} {x : D} {p : PyData} {k : D → Prop} (hx : x.pyR = some p) (sh : p.showable = true) (dp : p.depth ≤ 64) (sz : p.shown.length ≤ 100000) (h : k (.str p.shown)) : RC K (rReprD K) [x] k := fun w vs Q s r q => by
  obtain ⟨v, rfl, r1⟩ := r.one
  exact ⟨v, w.S, x, p, rfl, s, r1, hx, sh, dp, sz_of sz, q _ w _ h (LeP.refl w) s (.str _)⟩
end DL
namespace DL
open PySem L2
end DL

namespace DL
open PySem L2
/-! ### dicts with keys ints and texts -/
def keyD : Key → D
  | .inl i => .int i
  | .inr x => .str x
section
variable {K : PySem.W.Frag} {S H : Hp}
theorem keyD_inv {k : Key} {v : V} (r : Rep K S v (keyD k)) : v = kV k := by
  cases k with
  | inl i => exact r.int_inv
  | inr x => exact r.str_inv
theorem RepK.keys : ∀ {xs : List (Key × V)} {ds : List (Key × D)}, RepK K S xs ds → xs.map (·.1) = ds.map (·.1)
  | _, _, .nil => rfl
  | _, _, .cons _ q => by rw [List.map_cons, List.map_cons, RepK.keys q]
end
section
variable {G : Gx} {ρ : Env} {P : D → Env → Prop} {PO : M → Env → Prop} {PT : Bool → Env → Prop} {K : PySem.W.Frag} {kk : D → Prop} {td ty tv tx : TE} {i : Nat} {PS_ : Post}
/-- d[y] -/
theorem w_dget (h : W G td ρ fun x ρ1 => ∃ kvs, x = .dic kvs ∧ W G ty ρ1 fun y ρ2 => ∃ k d, y = keyD k ∧ lookD kvs k = some d ∧ P d ρ2) : W G (tDGet td ty) ρ P := fun w σ Q o e q =>
  h w σ _ o e fun v w1 x ρ1 ⟨kvs, ex, h1⟩ l1 o1 r1 => by
    subst ex
    cases r1 with
    | dic ha rk =>
      refine h1 w1 σ _ o1 (e.later l1) fun u w2 y ρ2 ⟨k, d, ey, hk, p⟩ l2 o2 r2 => ?_
      subst ey
      obtain rfl := keyD_inv r2
      obtain ⟨v, hv, rv⟩ := (RepK.look (rk.mono l2.s)).1 d hk
      exact ⟨_, v, rfl, .inl ⟨_, k, o2.sub.dk (l2.s.rd ha), rfl, hv.symm⟩, q v w2 d ρ2 p (l1.trans l2) o2 rv⟩
/-- d.get(y) -/
theorem w_dget1 (h : W G td ρ fun x ρ1 => ∃ kvs, x = .dic kvs ∧ W G ty ρ1 fun y ρ2 => ∃ k, y = keyD k ∧ P ((lookD kvs k).getD .non) ρ2) : W G (tDGet1 td ty) ρ P := fun w σ Q o e q =>
  h w σ _ o e fun v w1 x ρ1 ⟨kvs, ex, h1⟩ l1 o1 r1 => by
    subst ex
    cases r1 with
    | dic ha rk =>
      refine ⟨_, rfl, .inl ⟨_, o1.sub.dk ha⟩, h1 w1 σ _ o1 (e.later l1) fun u w2 y ρ2 ⟨k, ey, p⟩ l2 o2 r2 => ?_⟩
      subst ey
      obtain rfl := keyD_inv r2
      refine ⟨_, .inl ⟨_, k, o2.sub.dk (l2.s.rd ha), rfl, rfl⟩, ?_⟩
      obtain ⟨z1, z2⟩ := RepK.look (k := k) (rk.mono l2.s)
      cases hl : lookD kvs k with
      | none =>
        rw [hl] at p
        rw [z2 hl]
        exact q _ w2 _ ρ2 p (l1.trans l2) o2 .non
      | some d =>
        rw [hl] at p
        obtain ⟨v, hv, rv⟩ := z1 d hl
        rw [hv]
        exact q _ w2 _ ρ2 p (l1.trans l2) o2 rv
/-- d.get(y, z) -/
theorem w_dget2 (h : W G td ρ fun x ρ1 => ∃ kvs, x = .dic kvs ∧ W G ty ρ1 fun y ρ2 => ∃ k, y = keyD k ∧ W G tx ρ2 fun z ρ3 => P ((lookD kvs k).getD z) ρ3) : W G (tDGet2 td ty tx) ρ P := fun w σ Q o e q =>
  h w σ _ o e fun v w1 x ρ1 ⟨kvs, ex, h1⟩ l1 o1 r1 => by
    subst ex
    cases r1 with
    | dic ha rk =>
      refine ⟨_, rfl, .inl ⟨_, o1.sub.dk ha⟩, h1 w1 σ _ o1 (e.later l1) fun u w2 y ρ2 ⟨k, ey, h2⟩ l2 o2 r2 => ?_⟩
      subst ey
      obtain rfl := keyD_inv r2
      refine h2 w2 σ _ o2 (e.later (l1.trans l2)) fun t w3 z ρ3 p l3 o3 r3 => ?_
      refine ⟨_, .inl ⟨_, k, o3.sub.dk (l3.s.rd (l2.s.rd ha)), rfl, rfl⟩, ?_⟩
      obtain ⟨z1, z2⟩ := RepK.look (k := k) ((rk.mono l2.s).mono l3.s)
      cases hl : lookD kvs k with
      | none =>
        rw [hl] at p
        rw [z2 hl]
        exact q _ w3 _ ρ3 p ((l1.trans l2).trans l3) o3 r3
      | some d =>
        rw [hl] at p
        obtain ⟨v, hv, rv⟩ := z1 d hl
        rw [hv]
        exact q _ w3 _ ρ3 p ((l1.trans l2).trans l3) o3 rv
/-! ### a name's own dict of data -/
def ownD (kvs : List (Key × D)) : M := .dic (kvs.map fun p => (p.1, .sh p.2))
theorem ownK_of {S H : Hp} : ∀ {xs : List (Key × V)} {ds : List (Key × D)}, RepK K S xs ds → OwnK K S H xs (ds.map fun p => (p.1, .sh p.2)) []
  | _, _, .nil => .nil
  | _, _, .cons r q => OwnK.cons (f := []) (g := []) (.sh r) (ownK_of q)
end
end DL

namespace DL
open PySem L2
/-! ### a name's own thing looked at as data for a while -/
/-- nothing is raised -/
abbrev Gx.calm (G : Gx) : Gx := { G with er := fun _ _ _ => False }
def viewE (i : Nat) (d : D) (ρ : Env) : Env := (ρ.map keepSh).set i (some (.sh d))
section
variable {K : PySem.W.Frag} {S S' : Hp} (hs : ∀ a xs, SqT K S a xs → SqT K S' a xs)
include hs
end
section
variable {K : PySem.W.Frag} {S H : Hp}
end
section
variable {G : Gx} {ρ : Env} {P : D → Env → Prop} {PO : M → Env → Prop} {te : TE} {i : Nat} {m : M} {d : D}
/-- where the thing stands as data, and back -/
structure Viewed (G : Gx) (w : Wd) (σ : St) (ρ : Env) (i : Nat) (d : D) (wv : Wd) : Prop where
  ok : Ok G.calm wv σ (viewE i d ρ)
  H : wv.H = w.H
  F : wv.F = []
  back : ∀ w2, Le wv w2 → Sub w2.S w2.H → ∃ S3 : Hp, (∀ a, w2.S a = none → S3 a = none) ∧ (∀ a xs, SqT G.K w2.S a xs → SqT G.K S3 a xs) ∧ Le w ⟨S3, w2.H, w.F⟩ ∧ Ok G ⟨S3, w2.H, w.F⟩ σ ρ
theorem OkE.viewed {w : Wd} {σ : St} (o : Ok G w σ ρ) (hi : ρ[i]? = some (some m)) (f : Frz m d) : ∃ wv, Viewed G w σ ρ i d wv := by
  obtain ⟨v, fp, w1, hv, l1, eS, eH, o1, om⟩ := o.takeM hi
  have hil : i < ρ.length := (List.getElem?_eq_some_iff.mp hi).1
  have at_ := o.at_
  have fpS : ∀ x ∈ fp, w.S x = none := fun x hx => (om.at_ x hx).1
  have fpH : ∀ x ∈ fp, w.H x ≠ none := fun x hx => (om.at_ x hx).2
  have off : ∀ x, x ∉ fp → letBe w.S w.H fp x = w.S x := fun x hx => by
    unfold letBe
    rw [if_neg hx]
  have on : ∀ x, x ∈ fp → letBe w.S w.H fp x = w.H x := fun x hx => by
    unfold letBe
    rw [if_pos hx]
  have ex : Ex w.S (letBe w.S w.H fp) := fun x u hu => by
    rw [off x (fun z => by rw [fpS x z] at hu; cases hu)]
    exact hu
  have rep : Rep G.K (letBe w.S w.H fp) v d := OwnR.frz ex om on f
  refine ⟨⟨letBe w.S w.H fp, w.H, []⟩, ⟨?_, rfl, rfl, fun w2 l2 s2 => ?_⟩⟩
  · obtain ⟨fps, en, _⟩ := o.env
    obtain ⟨gps, hv2, hz⟩ := en.view ex
    have es : σ.set i (some v) = σ := by
      apply List.ext_getElem?
      intro j
      by_cases z : i = j
      · subst z
        have hl : i < σ.length := (List.getElem?_eq_some_iff.mp hv).1
        rw [List.getElem?_set_self hl, hv]
      · rw [List.getElem?_set_ne z]
    have hs := hv2.set i (.sh rep)
    rw [es] at hs
    refine ⟨fun a u hu => ?_, ⟨_, hs, ?_⟩, List.nodup_nil, o.px⟩
    · by_cases z : a ∈ fp
      · exact .inl (by rw [← on a z]; exact hu)
      · exact (o.sub a u (by rw [← off a z]; exact hu)).mono ex
    · rw [List.append_nil]
      refine (List.eq_nil_iff_forall_not_mem.mpr fun x hx => ?_).symm
      rcases mem_flatten_set hx with q | q
      · rw [hz] at q
        cases q
      · cases q
  · have keepH : ∀ x u, w.H x = some u → Keeps u (w2.H x) := fun x u hu => l2.h x u hu List.not_mem_nil
    have keepS : ∀ x, w.H x ≠ none → w.S x = none → x ∉ fp → w2.S x = none := fun x hx hs hf => l2.n x hx List.not_mem_nil (by
      show letBe w.S w.H fp x = none
      rw [off x hf]
      exact hs)
    let S3 : Hp := fun a => if a ∈ fp then none else w2.S a
    have S3on : ∀ a, a ∈ fp → S3 a = none := fun a ha => if_pos ha
    have S3off : ∀ a, a ∉ fp → S3 a = w2.S a := fun a ha => if_neg ha
    have S3none : ∀ a, w2.S a = none → S3 a = none := fun a ha => by
      by_cases z : a ∈ fp
      · exact S3on a z
      · rw [S3off a z]
        exact ha
    have ex3 : Ex w.S S3 := fun x u hu => by
      have z : x ∉ fp := fun z => by rw [fpS x z] at hu; cases hu
      rw [S3off x z]
      exact l2.s x u (ex x u hu)
    have n3 : ∀ x, w.H x ≠ none → w.S x = none → S3 x = none := fun x hx hs => by
      by_cases z : x ∈ fp
      · exact S3on x z
      · rw [S3off x z]
        exact keepS x hx hs z
    have S3tup : ∀ a xs, SqT G.K w2.S a xs → SqT G.K S3 a xs := fun a xs hq => by
      refine hq.imp (fun hr => ?_) id
      by_cases z : a ∈ fp
      · obtain ⟨u, hu, n1, n2⟩ := om.kind a z
        have hu2 : w2.S a = some u := l2.s a u (by show letBe w.S w.H fp a = some u; rw [on a z]; exact hu)
        rcases hr with y | ⟨ob, y⟩
        · rw [hu2] at y
          exact absurd (Option.some.inj y) (n1 _)
        · rw [hu2] at y
          exact absurd (Option.some.inj y) (n2 _ _)
      · rcases hr with y | ⟨ob, y⟩
        · exact .inl (by rw [S3off a z]; exact y)
        · exact .inr ⟨ob, by rw [S3off a z]; exact y⟩
    refine ⟨S3, S3none, S3tup, ⟨ex3, fun x u hu _ => keepH x u hu, fun x hx _ hs => n3 x hx hs, fun x hx => .inl hx⟩, ?_⟩
    obtain ⟨fps, en, ef⟩ := o.env
    have ef2 : w.F = fps.flatten := by rw [ef, List.append_nil]
    refine ⟨fun a u hu => ?_, ⟨fps, en.keep ex3 (fun x hx => ?_) fun x hx u hu => keepH x u hu, ef⟩, o.nd, o.px⟩
    · have hu : S3 a = some u := hu
      by_cases z : a ∈ fp
      · rw [S3on a z] at hu
        cases hu
      · rw [S3off a z] at hu
        rcases s2 a u hu with z1 | z1 | ⟨q, ps, e1, e2, g1, g2⟩
        · exact .inl z1
        · exact .inr (.inl z1)
        · refine .inr (.inr ⟨q, ps, e1, e2, g1, fun pos cv hcv => ?_⟩)
          obtain ⟨c, e3, hc⟩ := g2 pos cv hcv
          refine ⟨c, e3, ?_⟩
          show S3 c = _
          rw [S3off c fun zc => ?_]
          · exact hc
          · cases q1 : w.H c with
            | none => exact fpH c zc q1
            | some u1 =>
              have := l2.s c u1 (by show letBe w.S w.H fp c = some u1; rw [on c zc]; exact q1)
              rw [hc] at this
              cases this
              exact om.noext c zc _ q1
    · obtain ⟨h1, h2⟩ := at_ x (by rw [ef2]; exact hx)
      exact n3 x h2 h1
/-- an expression of a still value -/
theorem w_view (hi : ρ[i]? = some (some m)) (f : Frz m d) (h : W G.calm te (viewE i d ρ) fun x _ => x.still = true ∧ P x ρ) : W G te ρ P := fun w σ Q o e q => by
  obtain ⟨wv, vw⟩ := o.viewed hi f
  have z := h wv σ Q vw.ok (fun _ _ _ _ _ _ h => False.elim h) fun v w2 x ρ2 ⟨hf, p⟩ l2 o2 r2 => by
    obtain ⟨S3, s0, st, l3, o3⟩ := vw.back w2 l2 o2.sub
    exact q v ⟨S3, w2.H, w.F⟩ x ρ p l3 o3 (r2.stillAny st hf)
  rw [vw.H] at z
  exact z
end
end DL

namespace DC
open PySem L2 PySem.Spec PyProof.Rows
end DC
namespace DL
open PySem L2
section
variable {G : Gx} {ρ : Env} {i : Nat} {kvs : List (Key × D)}
section
variable {g : TG} {tt : TT} {te : TE} {vs sl : List Nat} {PO : M → Env → Prop}
end
end
end DL

namespace DL
open PySem L2
section
variable {G : Gx} {ρ : Env} {P : D → Env → Prop} {PO : M → Env → Prop} {PM : List M → Env → Prop} {ta te tb : TE} {tr t1 : TA} {i : Nat} {m : M} {PS_ : Post}
theorem OwnL.get {K : PySem.W.Frag} {S H : Hp} : ∀ {vs : List V} {ms : List M} {fp : List Addr} {j : Nat} {m : M}, OwnL K S H vs ms fp → ms[j]? = some m → ∃ v fj, vs[j]? = some v ∧ OwnR K S H v m fj ∧ fj.Sublist fp
  | _, _, _, _, _, .nil, h => by simp at h
  | _, _, _, 0, _, .cons (f := f) (g := g) r _, h => by
    have e := Option.some.inj (by simpa using h)
    subst e
    exact ⟨_, f, rfl, r, List.sublist_append_left _ _⟩
  | _, _, _, j + 1, _, .cons (f := f) (g := g) _ r, h => by
    obtain ⟨v, fj, h1, h2, h3⟩ := OwnL.get (j := j) r (by simpa using h)
    exact ⟨v, fj, by simpa using h1, h2, h3.trans (List.sublist_append_right _ _)⟩
theorem OwnL.atI {K : PySem.W.Frag} {S H : Hp} {vs : List V} {ms : List M} {fp : List Addr} {j : Int} {m : M} (r : OwnL K S H vs ms fp) (h : atI ms j = some m) : ∃ v fj, atI vs j = some v ∧ OwnR K S H v m fj ∧ fj.Sublist fp := by
  unfold L2.atI at h ⊢
  rw [r.len]
  cases e : (ixN ms.length j) with
  | none => rw [e] at h ; cases h
  | some n =>
    rw [e] at h
    exact r.get h
end
end DL

namespace DL
open PySem L2
section
variable {G : Gx} {tk tv : TE} {tt : TT} {wi : TI} {g : TG} {ρ : Env} {vs sl : List Nat} {PO : M → Env → Prop}
end
end DL

namespace DL
open PySem L2
def rLenDr : List V → Hp → VK → Prop := fun xs H Q => ∃ (a : Addr) (kvs : List (Key × V)), xs = [.ref a] ∧ Rd H a (.dK kvs) ∧ Q (.int kvs.length) H
theorem call_lenR {X : Cx} : CallR X (.builtin "len") rLenDr := by
  intro pins s σ H xs us Q I r ⟨a, kvs, ex, hd, q⟩
  subst ex
  obtain ⟨u, eu, rx⟩ := vals1 r
  subst eu
  obtain rfl : u = .ref a := rx
  exact d_len I hd fun t s' I' => ⟨.int _, H, I', ⟨t, rfl⟩, q⟩
def gLenA (K : PySem.W.Frag) : List V → Hp → VK → Prop := fun xs H Q => (fun xs H Q => ∃ x n, xs = [x] ∧ LenV K x H n ∧ Q (.int n) H) xs H Q ∨ rLenDr xs H Q
theorem o_lenA {X : Cx} : CallR X (.builtin "len") (gLenA X.K) := call_len.or call_lenR
section
variable {K : PySem.W.Frag} {k : D → Prop} {x : D} {kvs : List (Key × D)}
theorem rc_lenAL {xs : List D} (hx : IsL x xs) (p : k (.int xs.length)) : RC K (gLenA K) [x] k := fun w vs Q s r q => .inl (rc_lenL hx p w vs Q s r q)
end
def mergeD (kvs more : List (Key × D)) : List (Key × D) := more.foldl (fun acc kv => putD acc kv.1 kv.2) kvs
theorem RepK.merge {K : PySem.W.Frag} {S : Hp} : ∀ {ys : List (Key × V)} {es : List (Key × D)}, RepK K S ys es → ∀ {xs : List (Key × V)} {ds : List (Key × D)}, RepK K S xs ds → RepK K S (mergeK xs ys) (mergeD ds es)
  | _, _, .nil, _, _, r => r
  | _, _, .cons h q, _, _, r => RepK.merge q (RepK.put h r)
section
variable {G : Gx} {ρ : Env} {ta te : TE} {t : TA} {PO : M → Env → Prop} {PS_ : Post} {i : Nat} {P : D → Env → Prop}
/-! ### {k: v, ..} -/
/-- keys and values in turn -/
def WPs (G : Gx) : List (TE × TE) → Env → (List (Key × D) → Env → Prop) → Prop
  | [], ρ, P => P [] ρ
  | (tk, tv) :: r, ρ, P => W G tk ρ fun y ρ1 => ∃ k, y = keyD k ∧ W G tv ρ1 fun d ρ2 => WPs G r ρ2 fun kvs ρ3 => P ((k, d) :: kvs) ρ3
theorem wps_run : ∀ {trs : List (TE × TE)} {ρ : Env} {P : List (Key × D) → Env → Prop}, WPs G trs ρ P → ∀ w σ (Q : List (V × V) → Hp → Prop), Ok G w σ ρ → Esc G w →
    (∀ xs w' kvs ρ', P kvs ρ' → Le w w' → Ok G w' σ ρ' → RepK G.K w'.S xs kvs → Q (xs.map fun kv => (kV kv.1, kv.2)) w'.H) → tPairs trs σ w.H Q
  | [], ρ, P, h, w, σ, Q, o, e, q => q [] w [] ρ h (Le.refl w) o .nil
  | (tk, tv) :: r, ρ, P, h, w, σ, Q, o, e, q => (show W G tk ρ _ from h) w σ _ o e fun v w1 y ρ1 ⟨k, ey, h1⟩ l1 o1 r1 => by
    subst ey
    obtain rfl := keyD_inv r1
    exact h1 w1 σ _ o1 (e.later l1) fun u w2 d ρ2 h2 l2 o2 r2 => wps_run h2 w2 σ _ o2 (e.later (l1.trans l2)) fun xs w3 kvs ρ3 h3 l3 o3 r3 => q ((k, u) :: xs) w3 ((k, d) :: kvs) ρ3 h3 ((l1.trans l2).trans l3) o3 (.cons (r2.mono l3.s) r3)
theorem wo_disp {trs : List (TE × TE)} (h : WPs G trs ρ fun kvs ρ1 => kvs.length ≤ 15 ∧ PO (ownD (mergeD [] kvs)) ρ1) : WO G (tDisp trs) ρ PO := fun w σ Q o e q p' hp => by
  have sD : w.S p' = none := o.sub.free hp
  have nF : p' ∉ w.F := fun z => (o.at_ p' z).2 hp
  have lp : LeP w ⟨w.S, upd w.H p' (.dK []), w.F⟩ := ⟨Ex.refl _, (Ex.new hp).keeps, fun _ _ z => z, rfl⟩
  have s1 : Sub w.S (upd w.H p' (.dK [])) := fun a u ha => by
    have ne : a ≠ p' := fun y => by rw [y, sD] at ha; cases ha
    show SubAt _ (upd w.H p' _ a) u
    rw [upd_ne ne]
    exact o.sub a u ha
  have o1 : Ok G ⟨w.S, upd w.H p' (.dK []), w.F⟩ σ ρ := o.grow lp s1
  refine wps_run h ⟨w.S, upd w.H p' (.dK []), w.F⟩ σ _ o1 (e.later lp.le) fun xs w2 kvs ρ2 ⟨hl, hq⟩ l2 o2 r2 => ?_
  obtain ⟨k2, k2f, k2s⟩ := l2.stays upd_same nF sD
  refine ⟨k2, xs, rfl, by rw [r2.len]; exact hl, ?_⟩
  obtain ⟨fps, en, ef⟩ := o2.env
  have at2 := en.at_
  have f2 : w2.F = fps.flatten := by rw [ef, List.append_nil]
  have lw := lp.le.trans l2
  refine q (.ref p') ⟨w2.S, upd w2.H p' (.dK (mergeK [] xs)), w2.F ++ [p']⟩ _ ρ2 [p'] hq ?_ ?_ (.dic k2s upd_same (ownK_of (RepK.merge r2 .nil)))
  · refine ⟨lw.s, fun x u hx hn => ?_, lw.n, fun x hx => ?_⟩
    · show Keeps u (upd w2.H p' _ x)
      rw [upd_ne (ne_of_none hx hp)]
      exact lw.h x u hx hn
    · rcases List.mem_append.mp hx with y | y
      · exact lw.f x y
      · rw [List.mem_singleton.mp y]
        exact .inr hp
  · refine ⟨fun a u ha => ?_, ⟨fps, en.keep (Ex.refl _) (fun x hx => (at2 x hx).1) (fun x hx u hu => ?_), by show w2.F ++ [p'] = _; rw [f2]⟩, ?_, o2.px⟩
    · have ne : a ≠ p' := fun y => by
        have ha : w2.S a = some u := ha
        rw [y, k2s] at ha
        cases ha
      show SubAt _ (upd w2.H p' _ a) u
      rw [upd_ne ne]
      exact o2.sub a u ha
    · show Keeps u (upd w2.H p' _ x)
      rw [upd_ne (fun z => k2f (by rw [← z, f2]; exact hx))]
      exact .inl hu
    · show (w2.F ++ [p']).Nodup
      refine List.nodup_append.mpr ⟨o2.nd, by simp, fun x hx y hy z => k2f ?_⟩
      rw [← List.mem_singleton.mp hy, ← z]
      exact hx
end
end DL

namespace PySem.SeqAt
open MeetsSeq3 MeetsSeq SeqRoads2 MeetsSeq2
open AutoSeq1 renaming wpAny_loadPart' → loadPt
section
variable {w : World} {prog : Program}
def seqO (T : String) (xs : Array Value) (n : Nat) (dd : Option Addr) (sl : Array (Option Value)) : Obj := { cls := .type T, dict := dd, data := .seq xs n, slots := sl }
/-- the items of two sequences that answer by e -/
def Eqs (prog : Program) (w : World) (A : Around) (s : Shared) (xs ys : Array Value) (e : Nat → Bool) : Prop := ∀ j (p : j < xs.size) (q : j < ys.size), EqIn prog w A.in1 s xs[j] ys[j] (e j)
theorem range_step {m i : Nat} (e : Nat → Bool) (h : i < m) : ((List.range m).drop i).all e = (e i && ((List.range m).drop (i + 1)).all e) := by
  have z : (List.range m).drop i = i :: (List.range m).drop (i + 1) := by simp [List.drop_eq_getElem_cons, h]
  rw [z, List.all_cons]
theorem tupNe (p q : Addr) (xs ys : Array Value) (n m : Nat) (d1 d2 : Option Addr) (s1 s2 : Array (Option Value)) (e : Nat → Bool) :
    MeetsIn prog w (Builtin.«tuple.__ne__» ⟨[.ref p, .ref q], []⟩) (fun A R s => s.heap.get? p = some (seqO "tuple" xs n d1 s1) ∧ s.heap.get? q = some (seqO "tuple" ys m d2 s2) ∧ Eqs prog w A s xs ys e ∧
      R (.ok (.ret (.bool (!((List.range (min xs.size ys.size)).all e && xs.size == ys.size))))) s) :=
  .of_wp fun A R s wish => by
    obtain ⟨hp, g, d, tk, os⟩ := (s)
    obtain ⟨lp, lq, each, fin⟩ := wish
    unfold seqO at lp lq
    have sub2 := AutoSeq1.sub_tuple_tuple
    have len : (xs.toList.zip ys.toList).length = min xs.size ys.size := by simp
    wp_walk using loadPt lp, loadPt lq, wpAny_forIn_list _ (fun more b t => b.1 = none ∧ t = ⟨hp, g, d, tk, os⟩ ∧ ∃ i, more = (xs.toList.zip ys.toList).drop i ∧
      R (.ok (.ret (.bool (!(((List.range (min xs.size ys.size)).drop i).all e && xs.size == ys.size))))) ⟨hp, g, d, tk, os⟩) _
    case turn =>
      rintro ⟨y, x⟩ more b t ⟨eb, rfl, i, ez, left⟩
      have il : i < (xs.toList.zip ys.toList).length := by
        by_cases c : i < (xs.toList.zip ys.toList).length
        · exact c
        · rw [List.drop_of_length_le (Nat.le_of_not_lt c)] at ez
          cases ez
      have im : i < min xs.size ys.size := by rw [← len]; exact il
      have ix : i < xs.size := by omega
      have iy : i < ys.size := by omega
      rw [List.drop_eq_getElem_cons il] at ez
      injection ez with e1 e2
      obtain rfl : y = xs[i] := by simpa using congrArg Prod.fst e1
      obtain rfl : x = ys[i] := by simpa using congrArg Prod.snd e1
      rw [range_step e im] at left
      refine wpAny_bind (each i ix iy _ _ ?_)
      cases c : e i with
      | true =>
        rw [c] at left
        wp_walk
        exact ⟨rfl, rfl, i + 1, e2, by simpa using left⟩
      | false =>
        rw [c] at left
        wp_walk
        exact ⟨_, rfl, by simpa using left⟩
    case fin =>
      rintro ⟨b1, b2⟩ t ⟨eb, rfl, i, ez, left⟩
      simp only at eb
      subst eb
      have ge : min xs.size ys.size ≤ i := by
        by_cases c : i < (xs.toList.zip ys.toList).length
        · rw [List.drop_eq_getElem_cons c] at ez
          cases ez
        · rw [← len]
          exact Nat.le_of_not_lt c
      rw [List.drop_of_length_le (by simpa using ge)] at left
      wp_walk
      exact ⟨_, rfl, by simpa [Builtin.Tuple.tupleCompareSizes, bne] using left⟩
    case h => exact ⟨rfl, rfl, 0, rfl, by simpa using fin⟩
theorem lstNeFrom (p q : Addr) (xs ys : Array Value) (n m : Nat) (d1 d2 : Option Addr) (s1 s2 : Array (Option Value)) (alike : xs.size = ys.size) (e : Nat → Bool) (left : Nat) : ∀ i : Nat, xs.size - i = left →
    MeetsIn prog w (Builtin.«list.__eq__.loop» ⟨[.ref p, .ref q, rawInt i, rawInt 3], []⟩) (fun A R s => s.heap.get? p = some (seqO "list" xs n d1 s1) ∧ s.heap.get? q = some (seqO "list" ys m d2 s2) ∧ Eqs prog w A s xs ys e ∧
      R (.ok (.ret (.bool (!((List.range xs.size).drop i).all e)))) s) := by
  induction left with
  | zero =>
    intro i ei A R s wish
    obtain ⟨hp, g, d, tk, os⟩ := (s)
    obtain ⟨lp, lq, each, fin⟩ := wish
    unfold seqO at lp lq
    wp_walk using loadPt lp, loadPt lq
    have no1 : xs[((i : Nat) : Int).toNat]? = none := by simp; omega
    have no2 : ys[((i : Nat) : Int).toNat]? = none := by simp; omega
    have z : (List.range xs.size).drop i = [] := by simp; omega
    rw [z] at fin
    rw [no1, no2]
    wp_walk using loadPt lp, loadPt lq
    show R (.ok (.ret (.bool (xs.size != ys.size)))) _
    rw [alike]
    simpa using fin
  | succ left ih =>
    intro i ei A R s wish
    obtain ⟨hp, g, d, tk, os⟩ := (s)
    obtain ⟨lp, lq, each, fin⟩ := wish
    have lp0 := lp
    have lq0 := lq
    unfold seqO at lp lq
    wp_walk using loadPt lp, loadPt lq
    have ix : i < xs.size := by omega
    have iy : i < ys.size := by omega
    have at1 : xs[((i : Nat) : Int).toNat]? = some xs[i] := by simp [ix]
    have at2 : ys[((i : Nat) : Int).toNat]? = some ys[i] := by simp [iy]
    have up : ((i : Int) + 1) = ((i + 1 : Nat) : Int) := by push_cast; rfl
    rw [range_step e ix] at fin
    rw [at1, at2]
    refine wpAny_bind (each i ix iy _ _ ?_)
    cases c : e i with
    | true =>
      rw [c] at fin
      wp_walk
      rw [up]
      refine ⟨plainId_quiet plain_eq_loop _, codeAny_builtin entry_eq_loop ?_⟩
      (rw [Around.under_plainId plain_eq_loop _])
      exact ih (i + 1) (by omega) A R _ ⟨lp0, lq0, each, by simpa using fin⟩
    | false =>
      rw [c] at fin
      wp_walk using loadPt lp, loadPt lq
      rw [at1, at2]
      wp_walk
      simpa using fin
theorem lstNe (p q : Addr) (xs ys : Array Value) (n m : Nat) (d1 d2 : Option Addr) (s1 s2 : Array (Option Value)) (alike : xs.size = ys.size) (e : Nat → Bool) :
    MeetsIn prog w (Builtin.«list.__ne__» ⟨[.ref p, .ref q], []⟩) (fun A R s => s.heap.get? p = some (seqO "list" xs n d1 s1) ∧ s.heap.get? q = some (seqO "list" ys m d2 s2) ∧ Eqs prog w A s xs ys e ∧
      R (.ok (.ret (.bool (!(List.range xs.size).all e)))) s) := by
  intro A R s wish
  obtain ⟨hp, g, d, tk, os⟩ := (s)
  obtain ⟨lp, lq, each, fin⟩ := wish
  have lp0 := lp
  have lq0 := lq
  unfold seqO at lp lq
  have sub3 := AutoSeq1.sub_list_list
  have nn : ¬ (xs.size != ys.size) = true := by simp [alike]
  wp_walk using loadPt lp, loadPt lq
  refine ⟨plainId_quiet plain_eq_loop _, codeAny_builtin entry_eq_loop ?_⟩
  (rw [Around.under_plainId plain_eq_loop _])
  exact lstNeFrom p q xs ys n m d1 d2 s1 s2 alike e _ 0 rfl A R _ ⟨lp0, lq0, each, by simpa using fin⟩
variable {A : Around} {s : Shared} {E Q : Value → Shared → Prop} {p q : Addr} {xs ys : Array Value} {e : Nat → Bool}
theorem ne_tups (lp : s.heap.IsTuple p xs) (lq : s.heap.IsTuple q ys) (few : A.units < cLine) (each : Eqs prog w A s xs ys e) (fin : Q (.bool (!((List.range (min xs.size ys.size)).all e && xs.size == ys.size))) s) : wpAny (model prog w) A (richCompare .NotEq (.ref p) (.ref q)) Q E s := by
  obtain ⟨⟨c1, d1, a1, s1⟩, o1, k1, n, e1⟩ := id lp
  obtain ⟨⟨c2, d2, a2, s2⟩, o2, k2, m, e2⟩ := id lq
  simp only at k1 e1 k2 e2
  subst k1 e1 k2 e2
  have t1 : s.TypeIs (.ref p) "tuple" := ⟨_, o1, rfl⟩
  have t2 : s.TypeIs (.ref q) "tuple" := ⟨_, o2, rfl⟩
  exact wpAny_richCompare_same_room (op := .NotEq) t1 t2 F.slot_tuple_ne (call_meetsIn F.slot_tuple_ne t1 F.entry_tuple_ne (F.args_tuple_ne_2 _ _) (tupNe p q xs ys n m d1 d2 s1 s2 e) ⟨o1, o2, each, (fun x => nomatch x), fin⟩) few
theorem ne_lsts (lp : s.heap.IsList p xs) (lq : s.heap.IsList q ys) (alike : xs.size = ys.size) (few : A.units < cLine) (each : Eqs prog w A s xs ys e) (fin : Q (.bool (!(List.range xs.size).all e)) s) : wpAny (model prog w) A (richCompare .NotEq (.ref p) (.ref q)) Q E s := by
  obtain ⟨⟨c1, d1, a1, s1⟩, o1, k1, n, e1⟩ := id lp
  obtain ⟨⟨c2, d2, a2, s2⟩, o2, k2, m, e2⟩ := id lq
  simp only at k1 e1 k2 e2
  subst k1 e1 k2 e2
  have t1 : s.TypeIs (.ref p) "list" := ⟨_, o1, rfl⟩
  have t2 : s.TypeIs (.ref q) "list" := ⟨_, o2, rfl⟩
  exact wpAny_richCompare_same_room (op := .NotEq) t1 t2 F.slot_list_ne (call_meetsIn F.slot_list_ne t1 F.entry_list_ne (F.args_list_ne_2 _ _) (lstNe p q xs ys n m d1 d2 s1 s2 alike e) ⟨o1, o2, each, (fun x => nomatch x), fin⟩) few
end
end PySem.SeqAt

namespace PySem.W
open PySem.Calls PySem PyProof.Rows PySem.Spec
section
variable {prog : Program} {w : World} {K : Type} [DecidableEq K] {knd : KeyKind prog w K} {A : Around} {E Q : Value → Shared → Prop} {s : Shared} {p q : Addr} {ks ls : List (K × Value)} {r : Bool}
theorem ne_dicts (np : (p == sysModules) = false) (nq : (q == sysModules) = false) (dp : s.heap.DictOf knd p ks) (dq : s.heap.DictOf knd q ls) (few : A.units < cLine) (hits : ks.length = ls.length → KeqHitsIn prog w A.in1 s ls ks r)
    (fin : Q (.bool (!(ks.length == ls.length && r))) s) : wpAny (model prog w) A (compareOp .NotEq (.ref p) (.ref q)) Q E s := by
  have t1 := dp.typeIs
  have t2 := dq.typeIs
  refine wpAny_richCompare_same_room (op := .NotEq) t1 t2 PySem.F.slot_dict_ne (wpAny_call_entry PySem.F.slot_dict_ne t1 PySem.F.entry_dict_ne ?_ (PySem.F.args_dict_ne_2 _ _)) few
  refine wpAny_bind (show wpAny _ _ (Builtin.Dict.dictSlotArgs "__ne__" _) _ _ s from ?_)
  (unfold Builtin.Dict.dictSlotArgs)
  refine wpAny_bind (wpAny_notOrdered_dict t1 (wpAny_pure (wpAny_bind (wpAny_isInstance (T := "dict") t2 PySem.F.sub_dict_dict ?_))))
  (simp only [Bool.not_true, Bool.false_eq_true, if_false])
  exact wpAny_bind (wpAny_pure (wpAny_bind (wpAny_pure (wpAny_bind (keq_samePairsIn np nq dp dq hits (wpAny_pure ⟨_, rfl, (fun x => nomatch x), by simpa using fin⟩))))))
end
end PySem.W
namespace DL
open PySem L2
/-! ### == of data, dicts within -/
inductive DEq : Nat → D → D → Bool → Prop
  | leaf {n : Nat} {x y : D} (fx : x.flat = true) (fy : y.flat = true) : DEq n x y (dEq x y)
  | lsts {n : Nat} {x y : D} {xs ys : List D} (e : Nat → Bool) (hx : IsL x xs) (hy : IsL y ys) (hl : xs.length = ys.length) (h : ∀ j a b, xs[j]? = some a → ys[j]? = some b → DEq n a b (e j)) : DEq (n + 1) x y ((List.range xs.length).all e)
  | lstsN {n : Nat} {x y : D} {xs ys : List D} (hx : IsL x xs) (hy : IsL y ys) (hl : xs.length ≠ ys.length) : DEq (n + 1) x y false
  | tups {n : Nat} {xs ys : List D} (e : Nat → Bool) (h : ∀ j a b, xs[j]? = some a → ys[j]? = some b → DEq n a b (e j)) : DEq (n + 1) (.tup xs) (.tup ys) ((List.range (min xs.length ys.length)).all e && xs.length == ys.length)
  | dics {n : Nat} {ks ls : List (Key × D)} (e : Key → Bool) (h : ∀ k a b, (k, a) ∈ ks → lookD ls k = some b → DEq n a b (e k)) : DEq (n + 1) (.dic ks) (.dic ls) (ks.length == ls.length && ks.all fun p => (lookD ls p.1).isSome && e p.1)
theorem listInj {h : Heap} {a : Addr} {xs ys : Array Value} (p : h.IsList a xs) (q : h.IsList a ys) : xs = ys := by
  obtain ⟨o, e1, _, n, e2⟩ := p
  obtain ⟨o', e3, _, n', e4⟩ := q
  rw [e1] at e3
  cases e3
  rw [e2] at e4
  cases e4
  rfl
theorem tupInj {h : Heap} {a : Addr} {xs ys : Array Value} (p : h.IsTuple a xs) (q : h.IsTuple a ys) : xs = ys := by
  obtain ⟨o, e1, _, n, e2⟩ := p
  obtain ⟨o', e3, _, n', e4⟩ := q
  rw [e1] at e3
  cases e3
  rw [e2] at e4
  cases e4
  rfl
theorem relV_flat {u t : V} {v : Value} {x y : D} {K : PySem.W.Frag} {S : Hp} (rx : Rep K S u x) (ry : Rep K S t y) (fx : x.flat = true) (fy : y.flat = true) (h : RelV u v) (k : RelV t v) : dEq x y = true := by
  cases x <;> first | cases fx | skip
  all_goals cases y <;> first | cases fy | skip
  all_goals cases rx
  all_goals cases ry
  all_goals simp only [RelV] at h k
  all_goals (try (obtain ⟨t1, e1⟩ := h))
  all_goals (try (obtain ⟨t2, e2⟩ := k))
  all_goals (try subst_vars)
  all_goals simp_all [dEq]
theorem Paired.get_r {α β : Type} {R : α → β → Prop} : ∀ {xs : List α} {ys : List β} {j : Nat} {y : β}, Paired R xs ys → ys[j]? = some y → ∃ x, xs[j]? = some x ∧ R x y
  | _, _, _, _, .nil, h => by simp at h
  | _, _, 0, _, .cons r _, h => by
    obtain rfl := Option.some.inj (show some _ = some _ from by simpa using h)
    exact ⟨_, rfl, r⟩
  | _, _, j + 1, _, .cons _ q, h => by
    obtain ⟨x, h1, h2⟩ := Paired.get_r (j := j) q (by simpa using h)
    exact (⟨x, by simpa using h1, h2⟩)
theorem Paired.mem_r {α β : Type} {R : α → β → Prop} : ∀ {xs : List α} {ys : List β} {y : β}, Paired R xs ys → y ∈ ys → ∃ x ∈ xs, R x y
  | _, _, _, .nil, h => by cases h
  | _, _, _, .cons r q, h => by
    rcases (List.mem_cons.mp h) with z | z
    · subst z
      exact ⟨_, List.mem_cons_self, r⟩
    · obtain ⟨x, h1, h2⟩ := Paired.mem_r q z
      exact ⟨x, List.mem_cons_of_mem _ h1, h2⟩
theorem RepK.mem {K : PySem.W.Frag} {S : Hp} {k : Key} {v : V} : ∀ {xs : List (Key × V)} {ds : List (Key × D)}, RepK K S xs ds → (k, v) ∈ xs → ∃ d, (k, d) ∈ ds ∧ Rep K S v d
  | _, _, .nil, h => by cases h
  | _, _, .cons r q, h => by
    rcases (List.mem_cons.mp h) with z | z
    · cases z
      exact ⟨_, List.mem_cons_self, r⟩
    · obtain ⟨d, h1, h2⟩ := RepK.mem q z
      exact ⟨d, List.mem_cons_of_mem _ h1, h2⟩
theorem RepK.look_r {K : PySem.W.Frag} {S : Hp} {k : Key} {v : V} {xs : List (Key × V)} {ds : List (Key × D)} (r : RepK K S xs ds) (h : valV xs k = some v) : ∃ d, lookD ds k = some d ∧ Rep K S v d := by
  obtain ⟨h1, h2⟩ := RepK.look (k := k) r
  cases e : lookD ds k with
  | none =>
    rw [h2 e] at h
    cases h
  | some d =>
    obtain ⟨v', e1, e2⟩ := h1 d e
    rw [e1] at h
    cases h
    exact ⟨d, rfl, e2⟩
theorem lookD_mem {ds : List (Key × D)} {k : Key} {d : D} (h : lookD ds k = some d) : (k, d) ∈ ds := by
  unfold lookD at h
  obtain ⟨p, h1, h2⟩ := Option.map_eq_some_iff.mp h
  have z := List.mem_of_find?_eq_some h1
  have e := List.find?_some h1
  have e : p.1 = k := of_decide_eq_true e
  obtain ⟨a, b⟩ := p
  simp only at e h2
  rw [← e, ← h2]
  exact z
theorem lookD_some {ds : List (Key × D)} {k : Key} {d : D} (h : (k, d) ∈ ds) : ∃ a, lookD ds k = some a := by
  unfold lookD
  cases e : ds.find? fun kv => decide (kv.1 = k) with
  | none =>
    have z := List.find?_eq_none.mp e (k, d) h
    simp at z
  | some p => exact ⟨p.2, rfl⟩
theorem Vals.eachR {xs : List V} {us : List Value} {j : Nat} (r : Vals xs us) (h : j < us.length) : ∃ x, xs[j]? = some x ∧ RelV x us[j] := Paired.get_r r (List.getElem?_eq_getElem h)
theorem RepL.getR {K : PySem.W.Frag} {S : Hp} : ∀ {vs : List V} {ds : List D} {i : Nat} {v : V}, RepL K S vs ds → vs[i]? = some v → ∃ d, ds[i]? = some d ∧ Rep K S v d
  | _, _, _, _, .nil, h => by simp at h
  | _, _, 0, _, .cons r _, h => by
    obtain rfl := Option.some.inj (show some _ = some _ from by simpa using h)
    exact ⟨_, rfl, r⟩
  | _, _, i + 1, _, .cons _ r, h => by
    obtain ⟨d, h1, h2⟩ := RepL.getR (i := i) r (by simpa using h)
    exact ⟨d, by simpa using h1, h2⟩
theorem dicRes {K : PySem.W.Frag} {S : Hp} {e : Key → Bool} {xs ys : List (Key × V)} {ks ls : List (Key × D)} {va vc : List (Key × Value)} (ka : KV xs va) (kc : KV ys vc) (r1 : RepK K S xs ks) (r2 : RepK K S ys ls) :
    (va.length == vc.length && va.all fun p => (valueAt vc p.1).isSome && e p.1) = (ks.length == ls.length && ks.all fun p => (lookD ls p.1).isSome && e p.1) := by
  have lena : va.length = ks.length := by rw [← Paired.length ka, r1.len]
  have lenc : vc.length = ls.length := by rw [← Paired.length kc, r2.len]
  have some_ : ∀ k, (valueAt vc k).isSome = (lookD ls k).isSome := fun k => by
    rw [← r2.isSome k]
    have ro := KV.val kc k
    cases e2 : valV ys k with
    | none =>
      rw [e2] at ro
      cases e3 : valueAt vc k with
      | none => rfl
      | some _ => rw [e3] at ro; exact False.elim ro
    | some t' =>
      rw [e2] at ro
      cases e3 : valueAt vc k with
      | none => rw [e3] at ro; exact False.elim ro
      | some _ => rfl
  have keys : va.map (·.1) = ks.map (·.1) := by
    rw [← r1.keys]
    clear lena r1
    unfold KV at ka
    induction ka with
    | nil => rfl
    | cons h _ ih => rw [List.map_cons, List.map_cons, ih, h.1]
  rw [lena, lenc]
  congr 1
  have g : ∀ {α : Type} (l : List (Key × α)), (l.all fun p => (lookD ls p.1).isSome && e p.1) = (l.map (·.1)).all fun k => (lookD ls k).isSome && e k := fun l => by rw [List.all_map]; rfl
  rw [g ks, ← keys, ← g va]
  congr 1
  funext p
  rw [some_]
section
variable {X : Cx} {pins : List (Addr × Obj)} {σ : L2.St} {H S : Hp} {s : Shared}
theorem DEq.tree (I : Inv X pins σ H s) (sb : Sub S H) {n : Nat} {x y : D} {b : Bool} (h : DEq n x y b) : ∀ {u t : V} {v z : Value}, Rep X.K S u x → RelV u v → Rep X.K S t y → RelV t z → PySem.W.EqTree X.prog X.w s n v z b ∧ (v = z → b = true) := by
  induction h with
  | @leaf n x y fx fy =>
    intro u t v z rx hv ry hz
    obtain ⟨fu, eq⟩ := rx.flat_eq fx ry fy
    obtain ⟨ft, _⟩ := ry.flat_eq fy ry fy
    refine ⟨.leaf fun A _ => ?_, fun e => ?_⟩
    · have := eqAt_V (A := A) (s := s) hv hz fu ft
      rw [eq] at this
      exact this
    · subst e
      exact relV_flat rx ry fx fy hv hz
  | @lsts n x y xs ys e hx hy hl _ ih =>
    intro u t v z rx hv ry hz
    obtain ⟨p, us, rfl, hp, r1⟩ := Rep.isL_inv hx rx
    obtain ⟨q, ts, rfl, hq, r2⟩ := Rep.isL_inv hy ry
    obtain rfl : v = .ref p := hv
    obtain rfl : z = .ref q := hz
    obtain ⟨i1, v1, l1, _⟩ := I.list (sb.sl hp)
    obtain ⟨i2, v2, l2, _⟩ := I.list (sb.sl hq)
    have n1 : i1.length = xs.length := by rw [← v1.length, r1.len]
    have n2 : i2.length = ys.length := by rw [← v2.length, r2.len]
    have each : ∀ j (h1 : j < i1.length) (h2 : j < i2.length), PySem.W.EqTree X.prog X.w s n i1[j] i2[j] (e j) ∧ (i1[j] = i2[j] → e j = true) := fun j h1 h2 => by
      obtain ⟨u1, g1, k1⟩ := Vals.eachR v1 h1
      obtain ⟨u2, g2, k2⟩ := Vals.eachR v2 h2
      obtain ⟨a, m1, o1⟩ := r1.getR g1
      obtain ⟨b, m2, o2⟩ := r2.getR g2
      exact ih j a b m1 m2 o1 k1 o2 k2
    have same : p = q → (List.range xs.length).all e = true := fun pq => by
      subst pq
      have ei : i1 = i2 := by
        have := listInj l1.isList l2.isList
        simpa using this
      subst ei
      refine List.all_eq_true.mpr fun j hj => ?_
      have hj' : j < i1.length := by rw [n1]; exact List.mem_range.mp hj
      exact (each j hj' hj').2 rfl
    refine ⟨?_, fun e => same (by cases e; rfl)⟩
    by_cases pq : p = q
    · rw [same pq]
      subst pq
      exact .same
    · have z := PySem.W.EqTree.lists (prog := X.prog) (w := X.w) (n := n) (e := e) pq l1.isList l2.isList (by rw [List.size_toArray, List.size_toArray, n1, n2, hl]) fun j h1 h2 => by
        have := (each j (by simpa using h1) (by simpa using h2)).1
        simpa using this
      rw [List.size_toArray, n1] at z
      exact z
  | @lstsN n x y xs ys hx hy hl =>
    intro u t v z rx hv ry hz
    obtain ⟨p, us, rfl, hp, r1⟩ := Rep.isL_inv hx rx
    obtain ⟨q, ts, rfl, hq, r2⟩ := Rep.isL_inv hy ry
    obtain rfl : v = .ref p := hv
    obtain rfl : z = .ref q := hz
    obtain ⟨i1, v1, l1, _⟩ := I.list (sb.sl hp)
    obtain ⟨i2, v2, l2, _⟩ := I.list (sb.sl hq)
    have n1 : i1.length = xs.length := by rw [← v1.length, r1.len]
    have n2 : i2.length = ys.length := by rw [← v2.length, r2.len]
    have pq : p ≠ q := fun pq => by
      subst pq
      have := listInj l1.isList l2.isList
      have ei : i1 = i2 := by simpa using this
      rw [ei] at n1
      exact hl (n1.symm.trans n2)
    exact ⟨.listsLen pq l1.isList l2.isList (by rw [List.size_toArray, List.size_toArray, n1, n2]; simpa using hl), fun e => absurd (by cases e; rfl) pq⟩
  | @tups n xs ys e _ ih =>
    intro u t v z rx hv ry hz
    obtain ⟨p, us, rfl, hp, r1⟩ := rx.tup_inv
    obtain ⟨q, ts, rfl, hq, r2⟩ := ry.tup_inv
    obtain rfl : v = .ref p := hv
    obtain rfl : z = .ref q := hz
    obtain ⟨i1, v1, l1, _⟩ := I.tuple (sb.st hp)
    obtain ⟨i2, v2, l2, _⟩ := I.tuple (sb.st hq)
    have t1 : s.heap.IsTuple p i1.toArray := l1
    have t2 : s.heap.IsTuple q i2.toArray := l2
    have n1 : i1.length = xs.length := by rw [← v1.length, r1.len]
    have n2 : i2.length = ys.length := by rw [← v2.length, r2.len]
    have each : ∀ j (h1 : j < i1.length) (h2 : j < i2.length), PySem.W.EqTree X.prog X.w s n i1[j] i2[j] (e j) ∧ (i1[j] = i2[j] → e j = true) := fun j h1 h2 => by
      obtain ⟨u1, g1, k1⟩ := Vals.eachR v1 h1
      obtain ⟨u2, g2, k2⟩ := Vals.eachR v2 h2
      obtain ⟨a, m1, o1⟩ := r1.getR g1
      obtain ⟨b, m2, o2⟩ := r2.getR g2
      exact ih j a b m1 m2 o1 k1 o2 k2
    have same : p = q → ((List.range (min xs.length ys.length)).all e && xs.length == ys.length) = true := fun pq => by
      subst pq
      have ei : i1 = i2 := by
        have := tupInj t1 t2
        simpa using this
      subst ei
      have el : xs.length = ys.length := n1.symm.trans n2
      rw [el, Nat.min_self, beq_self_eq_true, Bool.and_true]
      refine List.all_eq_true.mpr fun j hj => ?_
      have hj' : j < i1.length := by rw [n2]; exact List.mem_range.mp hj
      exact (each j hj' hj').2 rfl
    refine ⟨?_, fun e => same (by cases e; rfl)⟩
    by_cases pq : p = q
    · rw [same pq]
      subst pq
      exact .same
    · have z := PySem.W.EqTree.tuples (prog := X.prog) (w := X.w) (n := n) (e := e) pq t1 t2 fun j h1 h2 => by
        have := (each j (by simpa using h1) (by simpa using h2)).1
        simpa using this
      rw [List.size_toArray, List.size_toArray, n1, n2] at z
      exact z
  | @dics n ks ls e _ ih =>
    intro u t v z rx hv ry hz
    cases rx with
    | @dic a xs _ ha r1 =>
      cases ry with
      | @dic c ys _ hc r2 =>
        obtain rfl : v = .ref a := hv
        obtain rfl : z = .ref c := hz
        have h1 := sb.dk ha
        have h2 := sb.dk hc
        obtain ⟨_, na, va, ka, da⟩ := dk_rd I.hok h1
        obtain ⟨_, nc, vc, kc, dc⟩ := dk_rd I.hok h2
        have each : ∀ k v y, (k, v) ∈ va → valueAt vc k = some y → PySem.W.EqTree X.prog X.w s n v y (e k) := fun k v y hm hl => by
          obtain ⟨⟨k', v'⟩, m1, ek, rv⟩ := Paired.mem_r ka hm
          simp only at ek rv
          subst ek
          obtain ⟨d, m2, o1⟩ := r1.mem m1
          have ro := KV.val kc k'
          rw [hl] at ro
          cases e2 : valV ys k' with
          | none =>
            rw [e2] at ro
            exact False.elim ro
          | some t' =>
            rw [e2] at ro
            obtain ⟨d2, m3, o2⟩ := r2.look_r e2
            exact (ih k' d d2 m2 m3 o1 rv o2 ro).1
        have res := dicRes (e := e) ka kc r1 r2
        have same : a = c → (ks.length == ls.length && ks.all fun p => (lookD ls p.1).isSome && e p.1) = true := fun ac => by
          subst ac
          have exy : xs = ys := by
            rcases h1 with q1 | ⟨o1, q1⟩
            · rcases h2 with q2 | ⟨o2, q2⟩
              · rw [q1] at q2; cases q2; rfl
              · rw [q1] at q2; cases q2
            · rcases h2 with q2 | ⟨o2, q2⟩
              · rw [q1] at q2; cases q2
              · rw [q1] at q2; cases q2; rfl
          subst exy
          have el : ks.length = ls.length := by rw [← r1.len, r2.len]
          rw [el, beq_self_eq_true, Bool.true_and]
          refine List.all_eq_true.mpr fun p hp => ?_
          obtain ⟨k, d⟩ := p
          obtain ⟨d0, e0⟩ := lookD_some hp
          obtain ⟨v0, e1, o1⟩ := (RepK.look (k := k) r1).1 d0 e0
          obtain ⟨d2, e2, o2⟩ := r2.look_r e1
          have ro := KV.val ka k
          rw [e1] at ro
          cases e3 : valueAt va k with
          | none => rw [e3] at ro; exact False.elim ro
          | some v3 =>
            rw [e3] at ro
            have := (ih k d0 d2 (lookD_mem e0) e2 o1 ro o2 ro).2 rfl
            show ((lookD ls k).isSome && e k) = true
            rw [e2, this]
            rfl
        refine ⟨?_, fun e => same (by cases e; rfl)⟩
        by_cases ac : a = c
        · rw [same ac]
          subst ac
          exact .same
        · have z := PySem.W.EqTree.dicts (e := e) ac na nc da dc each
          rw [res] at z
          exact z
theorem dicParts (I : Inv X pins σ H s) (sb : Sub S H) {n : Nat} {ks ls : List (Key × D)} {e : Key → Bool} {u t : V} {v z : Value} (rx : Rep X.K S u (.dic ks)) (ry : Rep X.K S t (.dic ls)) (hv : RelV u v) (hz : RelV t z) (h : ∀ k a b, (k, a) ∈ ks → lookD ls k = some b → DEq n a b (e k)) :
    ∃ (a c : Addr) (va vc : List (Key × Value)), (a == sysModules) = false ∧ (c == sysModules) = false ∧ s.heap.DictOf (mixKind X.prog X.w) a va ∧ s.heap.DictOf (mixKind X.prog X.w) c vc ∧ (∀ k v y, (k, v) ∈ va → valueAt vc k = some y → PySem.W.EqTree X.prog X.w s n v y (e k)) ∧
      (va.length == vc.length && va.all fun p => (valueAt vc p.1).isSome && e p.1) = (ks.length == ls.length && ks.all fun p => (lookD ls p.1).isSome && e p.1) ∧ v = .ref a ∧ z = .ref c := by
  cases rx with
  | @dic a xs _ ha r1 =>
    cases ry with
    | @dic c ys _ hc r2 =>
      obtain rfl : v = .ref a := hv
      obtain rfl : z = .ref c := hz
      obtain ⟨_, na, va, ka, da⟩ := dk_rd I.hok (sb.dk ha)
      obtain ⟨_, nc, vc, kc, dc⟩ := dk_rd I.hok (sb.dk hc)
      refine ⟨a, c, va, vc, na, nc, da, dc, fun k v y hm hl => ?_, ?_, rfl, rfl⟩
      · obtain ⟨⟨k', v'⟩, m1, ek, rv⟩ := Paired.mem_r ka hm
        simp only at ek rv
        subst ek
        obtain ⟨d, m2, o1⟩ := r1.mem m1
        have ro := KV.val kc k'
        rw [hl] at ro
        cases e2 : valV ys k' with
        | none =>
          rw [e2] at ro
          exact False.elim ro
        | some t' =>
          rw [e2] at ro
          obtain ⟨d2, m3, o2⟩ := r2.look_r e2
          exact (DEq.tree I sb (h k' d d2 m2 m3) o1 rv o2 ro).1
      · exact dicRes ka kc r1 r2
/-- x == y by the data, neither of them flat -/
def rEqN (K : PySem.W.Frag) (neg : Bool) : R2 := fun x y H Q => ∃ (S : Hp) (n : Nat) (dx dy : D) (b : Bool), Sub S H ∧ Rep K S x dx ∧ Rep K S y dy ∧ DEq n dx dy b ∧ n ≤ 60 ∧ dx.flat = false ∧ Q (.bl (if neg then !b else b)) H
theorem op_eqN (hu : X.A.units + 64 < cLine) : OpR X (compareOp .Eq) (rEqN X.K false) := by
  intro pins s σ H x y v u Q I rx ry ⟨S, n, dx, dy, b, sb, r1, r2, h, hn, nf, q⟩
  have fin : (fun v s' => ∃ v' H', Inv X pins σ H' s' ∧ RelV v' v ∧ Q v' H') (.bool b) s := ⟨.bl b, H, I, rfl, q⟩
  have tr := fun {n : Nat} {x y : D} {b : Bool} (h : DEq n x y b) => @DEq.tree X pins σ H S s I sb n x y b h
  cases h with
  | leaf fx fy => rw [fx] at nf; cases nf
  | @lsts n _ _ xs ys e hx hy hl h =>
    obtain ⟨p, us, rfl, hp, l1⟩ := Rep.isL_inv hx r1
    obtain ⟨t, ts, rfl, hq, l2⟩ := Rep.isL_inv hy r2
    obtain rfl : v = .ref p := rx
    obtain rfl : u = .ref t := ry
    obtain ⟨i1, v1, p1, _⟩ := I.list (sb.sl hp)
    obtain ⟨i2, v2, p2, _⟩ := I.list (sb.sl hq)
    have n1 : i1.length = xs.length := by rw [← v1.length, l1.len]
    have n2 : i2.length = ys.length := by rw [← v2.length, l2.len]
    refine PySem.W.eq_listsT (n := n) (e := e) p1.isList p2.isList (by rw [List.size_toArray, List.size_toArray, n1, n2, hl]) (fun j h1 h2 => ?_) (by omega) ?_
    · obtain ⟨u1, g1, k1⟩ := Vals.eachR (j := j) v1 (by simpa using h1)
      obtain ⟨u2, g2, k2⟩ := Vals.eachR (j := j) v2 (by simpa using h2)
      obtain ⟨a, m1, o1⟩ := l1.getR g1
      obtain ⟨b, m2, o2⟩ := l2.getR g2
      have := (tr (h j a b m1 m2) o1 k1 o2 k2).1
      simpa using this
    · rw [List.size_toArray, n1]
      exact fin
  | @lstsN n _ _ xs ys hx hy hl =>
    obtain ⟨p, us, rfl, hp, l1⟩ := Rep.isL_inv hx r1
    obtain ⟨t, ts, rfl, hq, l2⟩ := Rep.isL_inv hy r2
    obtain rfl : v = .ref p := rx
    obtain rfl : u = .ref t := ry
    obtain ⟨i1, v1, p1, _⟩ := I.list (sb.sl hp)
    obtain ⟨i2, v2, p2, _⟩ := I.list (sb.sl hq)
    have n1 : i1.length = xs.length := by rw [← v1.length, l1.len]
    have n2 : i2.length = ys.length := by rw [← v2.length, l2.len]
    exact SeqAt.RcAt.lists_lengths p1.isList p2.isList (by rw [List.size_toArray, List.size_toArray, n1, n2]; simpa using hl) (by omega) _ _ _ _ fin
  | @tups n xs ys e h =>
    obtain ⟨p, us, rfl, hp, l1⟩ := r1.tup_inv
    obtain ⟨t, ts, rfl, hq, l2⟩ := r2.tup_inv
    obtain rfl : v = .ref p := rx
    obtain rfl : u = .ref t := ry
    obtain ⟨i1, v1, p1, _⟩ := I.tuple (sb.st hp)
    obtain ⟨i2, v2, p2, _⟩ := I.tuple (sb.st hq)
    have t1 : s.heap.IsTuple p i1.toArray := p1
    have t2 : s.heap.IsTuple t i2.toArray := p2
    have n1 : i1.length = xs.length := by rw [← v1.length, l1.len]
    have n2 : i2.length = ys.length := by rw [← v2.length, l2.len]
    refine PySem.W.eq_tuplesT (n := n) (e := e) t1 t2 (fun j h1 h2 => ?_) (by omega) ?_
    · obtain ⟨u1, g1, k1⟩ := Vals.eachR (j := j) v1 (by simpa using h1)
      obtain ⟨u2, g2, k2⟩ := Vals.eachR (j := j) v2 (by simpa using h2)
      obtain ⟨a, m1, o1⟩ := l1.getR g1
      obtain ⟨b, m2, o2⟩ := l2.getR g2
      have := (tr (h j a b m1 m2) o1 k1 o2 k2).1
      simpa using this
    · rw [List.size_toArray, List.size_toArray, n1, n2]
      exact fin
  | @dics n ks ls e h =>
    obtain ⟨p, t, va, vc, np, nt, d1, d2, each, res, e1, e2⟩ := dicParts (X := X) I sb r1 r2 rx ry h
    subst e1
    subst e2
    refine PySem.W.eq_dictsT (n := n) (e := e) np nt d1 d2 each (by omega) ?_
    rw [res]
    exact fin
theorem op_neN (hu : X.A.units + 64 < cLine) : OpR X (compareOp .NotEq) (rEqN X.K true) := by
  intro pins s σ H x y v u Q I rx ry ⟨S, n, dx, dy, b, sb, r1, r2, h, hn, nf, q⟩
  have fin : (fun v s' => ∃ v' H', Inv X pins σ H' s' ∧ RelV v' v ∧ Q v' H') (.bool (!b)) s := ⟨.bl (!b), H, I, rfl, q⟩
  have tr := fun {n : Nat} {x y : D} {b : Bool} (h : DEq n x y b) => @DEq.tree X pins σ H S s I sb n x y b h
  cases h with
  | leaf fx fy => rw [fx] at nf; cases nf
  | @lsts n _ _ xs ys e hx hy hl h =>
    obtain ⟨p, us, rfl, hp, l1⟩ := Rep.isL_inv hx r1
    obtain ⟨t, ts, rfl, hq, l2⟩ := Rep.isL_inv hy r2
    obtain rfl : v = .ref p := rx
    obtain rfl : u = .ref t := ry
    obtain ⟨i1, v1, p1, _⟩ := I.list (sb.sl hp)
    obtain ⟨i2, v2, p2, _⟩ := I.list (sb.sl hq)
    have n1 : i1.length = xs.length := by rw [← v1.length, l1.len]
    have n2 : i2.length = ys.length := by rw [← v2.length, l2.len]
    refine SeqAt.ne_lsts (e := e) p1.isList p2.isList (by rw [List.size_toArray, List.size_toArray, n1, n2, hl]) (by omega) (fun j h1 h2 => ?_) ?_
    · obtain ⟨u1, g1, k1⟩ := Vals.eachR (j := j) v1 (by simpa using h1)
      obtain ⟨u2, g2, k2⟩ := Vals.eachR (j := j) v2 (by simpa using h2)
      obtain ⟨a, m1, o1⟩ := l1.getR g1
      obtain ⟨b, m2, o2⟩ := l2.getR g2
      have := (tr (h j a b m1 m2) o1 k1 o2 k2).1.at X.A.in1 (by show X.A.units + 1 + n < cLine; omega)
      simpa using this
    · rw [List.size_toArray, n1]
      exact fin
  | @lstsN n _ _ xs ys hx hy hl =>
    obtain ⟨p, us, rfl, hp, l1⟩ := Rep.isL_inv hx r1
    obtain ⟨t, ts, rfl, hq, l2⟩ := Rep.isL_inv hy r2
    obtain rfl : v = .ref p := rx
    obtain rfl : u = .ref t := ry
    obtain ⟨i1, v1, p1, _⟩ := I.list (sb.sl hp)
    obtain ⟨i2, v2, p2, _⟩ := I.list (sb.sl hq)
    have n1 : i1.length = xs.length := by rw [← v1.length, l1.len]
    have n2 : i2.length = ys.length := by rw [← v2.length, l2.len]
    exact SeqAt.RcNeAt.lists_lengths p1.isList p2.isList (by rw [List.size_toArray, List.size_toArray, n1, n2]; simpa using hl) (by omega) _ _ _ _ fin
  | @tups n xs ys e h =>
    obtain ⟨p, us, rfl, hp, l1⟩ := r1.tup_inv
    obtain ⟨t, ts, rfl, hq, l2⟩ := r2.tup_inv
    obtain rfl : v = .ref p := rx
    obtain rfl : u = .ref t := ry
    obtain ⟨i1, v1, p1, _⟩ := I.tuple (sb.st hp)
    obtain ⟨i2, v2, p2, _⟩ := I.tuple (sb.st hq)
    have t1 : s.heap.IsTuple p i1.toArray := p1
    have t2 : s.heap.IsTuple t i2.toArray := p2
    have n1 : i1.length = xs.length := by rw [← v1.length, l1.len]
    have n2 : i2.length = ys.length := by rw [← v2.length, l2.len]
    refine SeqAt.ne_tups (e := e) t1 t2 (by omega) (fun j h1 h2 => ?_) ?_
    · obtain ⟨u1, g1, k1⟩ := Vals.eachR (j := j) v1 (by simpa using h1)
      obtain ⟨u2, g2, k2⟩ := Vals.eachR (j := j) v2 (by simpa using h2)
      obtain ⟨a, m1, o1⟩ := l1.getR g1
      obtain ⟨b, m2, o2⟩ := l2.getR g2
      have := (tr (h j a b m1 m2) o1 k1 o2 k2).1.at X.A.in1 (by show X.A.units + 1 + n < cLine; omega)
      simpa using this
    · rw [List.size_toArray, List.size_toArray, n1, n2]
      exact fin
  | @dics n ks ls e h =>
    obtain ⟨p, t, va, vc, np, nt, d1, d2, each, res, e1, e2⟩ := dicParts (X := X) I sb r1 r2 rx ry h
    subst e1
    subst e2
    refine PySem.W.ne_dicts (r := va.all fun p => (valueAt vc p.1).isSome && e p.1) np nt d1 d2 (by omega) (fun _ => PySem.W.KeqHitsIn.of _ fun k v y hm hv => (each k v y hm hv).at X.A.in1 (by show X.A.units + 1 + n < cLine; omega)) ?_
    rw [res]
    exact fin
end
def rEqA (K : PySem.W.Frag) : R2 := fun x y H Q => rEqD K x y H Q ∨ rEqN K false x y H Q ∨ rEq x y H Q
def rNeA (K : PySem.W.Frag) : R2 := fun x y H Q => rNeD K x y H Q ∨ rEqN K true x y H Q ∨ rNe x y H Q
theorem op_eqA {X : Cx} (hu : X.A.units + 64 < cLine) : OpR X (compareOp .Eq) (rEqA X.K) := (op_eqD hu).or (OpR.or (op_eqN hu) op_eq)
theorem op_neA {X : Cx} (hu : X.A.units + 64 < cLine) : OpR X (compareOp .NotEq) (rNeA X.K) := (op_neD hu).or (OpR.or (op_neN hu) op_ne)
section
variable {K : PySem.W.Frag} {k : D → Prop} {x y : D} {b : Bool} {n : Nat}
theorem rd_eqL {r : D → Prop} (h : RD K (rEqD K) x y r) : RD K (rEqA K) x y r := RD.l h
theorem rd_neL {r : D → Prop} (h : RD K (rNeD K) x y r) : RD K (rNeA K) x y r := RD.l h
theorem rd_eqAS {a b : Str} (p : k (.bl (decide (a = b)))) : RD K (rEqA K) (.str a) (.str b) k := RD.r (RD.r (rd_val (.bl (decide (a = b))) (fun _ => .bl _) p fun w v u Q s rx ry q => by
  obtain rfl := rx.str_inv
  obtain rfl := ry.str_inv
  exact ⟨rfl, by rw [show decide (V.str a = V.str b) = decide (a = b) by simp]; exact q⟩))
theorem rd_neAS {a b : Str} (p : k (.bl (!decide (a = b)))) : RD K (rNeA K) (.str a) (.str b) k := RD.r (RD.r (rd_val (.bl (!decide (a = b))) (fun _ => .bl _) p fun w v u Q s rx ry q => by
  obtain rfl := rx.str_inv
  obtain rfl := ry.str_inv
  exact ⟨rfl, by rw [show decide (V.str a = V.str b) = decide (a = b) by simp]; exact q⟩))
end
end DL

namespace DC
open PySem L2 PySem.Spec PyProof.Rows
/-! ### f(e, .., k = e, ..) -/
/-- the written ones, and the keywords' values at their places -/
def kwG {α : Type} (ix : List Nat) (us ws : List α) : List α := us ++ ix.filterMap fun i => ws[i]?
theorem Paired.opt {α β : Type} {R : α → β → Prop} : ∀ {xs : List α} {ys : List β}, Paired R xs ys → ∀ i : Nat, (xs[i]? = none ∧ ys[i]? = none) ∨ ∃ x y, xs[i]? = some x ∧ ys[i]? = some y ∧ R x y
  | _, _, .nil, i => .inl ⟨by simp, by simp⟩
  | _, _, .cons h _, 0 => .inr ⟨_, _, rfl, rfl, h⟩
  | _, _, .cons _ r, i + 1 => by
    rcases Paired.opt r i with ⟨a, b⟩ | ⟨x, y, a, b, c⟩
    · exact .inl ⟨by simpa using a, by simpa using b⟩
    · exact .inr ⟨x, y, by simpa using a, by simpa using b, c⟩
theorem Paired.picked {α β : Type} {R : α → β → Prop} {xs : List α} {ys : List β} (r : Paired R xs ys) : ∀ ix : List Nat, Paired R (ix.filterMap fun i => xs[i]?) (ix.filterMap fun i => ys[i]?)
  | [] => .nil
  | i :: ix => by
    rcases Paired.opt r i with ⟨a, b⟩ | ⟨x, y, a, b, c⟩
    · rw [List.filterMap_cons, List.filterMap_cons, a, b]
      exact Paired.picked r ix
    · rw [List.filterMap_cons, List.filterMap_cons, a, b]
      exact .cons c (Paired.picked r ix)
theorem kwG_rel {ix : List Nat} {vs zs : List V} {us ws : List Value} (h : Vals vs us) (k : Vals zs ws) : Vals (kwG ix vs zs) (kwG ix us ws) := Paired.app h (Paired.picked k ix)
theorem kbN {K : PySem.W.Frag} {x qual : Str} {params : Arguments} {body : List Stmt} {scope : Scope} {kws : List (Str × V)} {f : Addr} {fd : FuncData} {ps : List Str} (F : FunD K x qual params body scope [] kws f fd) (n : Nat) (ks : List Str) (ix : List Nat)
    (h : ∀ (kV doc pm : Value) (an : Option Addr) (cdv ct : Value) (us ws : List Value), us.length = n → ws.length = ks.length → bindArgs (PySem.W.fnOf x qual params body scope .none kV doc pm an cdv ct) ⟨us, ks.zip ws⟩ = pure (ps.zip (kwG ix us ws))) : KBn K fd ps n ks (kwG ix) (kwG ix) := by
  obtain ⟨oc, od, dV, kV, doc, pm, an, cdv, ct, osl, rfl, lk, hcd, hD, hK⟩ := (F.ex)
  rcases (hD) with ⟨_, rfl⟩ | ⟨e, _⟩
  · exact ⟨fun s us ws _ l1 l2 => .of_eq (h kV doc pm an cdv ct us ws l1 l2), fun r k => kwG_rel r k⟩
  · exact absurd rfl e
section
variable {X : Cx} {CX : CXT} {lv n : Nat} {f : Addr} {fd : FuncData} {names ks : List Str} {sp : Sp} {E : St → XK} {x : Str} {p pos : Pos} {e : Expr} {es : List Expr} {kws : List Keyword} {t tk : TA} {g : List Value → List Value → List Value} {gV : List V → List V → List V}
end
end DC
namespace DL
open PySem L2
theorem RepL.opt {K : PySem.W.Frag} {S : Hp} : ∀ {vs : List V} {ds : List D}, RepL K S vs ds → ∀ i : Nat, (vs[i]? = none ∧ ds[i]? = none) ∨ ∃ v d, vs[i]? = some v ∧ ds[i]? = some d ∧ Rep K S v d
  | _, _, .nil, i => .inl ⟨by simp, by simp⟩
  | _, _, .cons h _, 0 => .inr ⟨_, _, rfl, rfl, h⟩
  | _, _, .cons _ r, i + 1 => by
    rcases RepL.opt r i with ⟨a, b⟩ | ⟨x, y, a, b, c⟩
    · exact .inl ⟨by simpa using a, by simpa using b⟩
    · exact .inr ⟨x, y, by simpa using a, by simpa using b, c⟩
theorem RepL.picked {K : PySem.W.Frag} {S : Hp} {vs : List V} {ds : List D} (r : RepL K S vs ds) : ∀ ix : List Nat, RepL K S (ix.filterMap fun i => vs[i]?) (ix.filterMap fun i => ds[i]?)
  | [] => .nil
  | i :: ix => by
    rcases RepL.opt r i with ⟨a, b⟩ | ⟨x, y, a, b, c⟩
    · rw [List.filterMap_cons, List.filterMap_cons, a, b]
      exact RepL.picked r ix
    · rw [List.filterMap_cons, List.filterMap_cons, a, b]
      exact .cons c (RepL.picked r ix)
section
variable {G : Gx} {ρ : Env} {t tk : TA} {PO : M → Env → Prop} {P : D → Env → Prop} {n m N : Nat} {ix : List Nat}
end
end DL

namespace DC
open PySem L2 PySem.Spec PyProof.Rows
end DC
namespace DL
open PySem L2
section
variable {X : Cx} {K : PySem.W.Frag}
end
section
variable {K : PySem.W.Frag} {k : D → Prop} {x : D}
end
theorem rd_eqAI {K : PySem.W.Frag} {k : D → Prop} {i j : Int} (p : k (.bl (decide (i = j)))) : RD K (rEqA K) (.int i) (.int j) k := rd_eqL (rd_eqI p)
theorem rd_neAI {K : PySem.W.Frag} {k : D → Prop} {i j : Int} (p : k (.bl (!decide (i = j)))) : RD K (rNeA K) (.int i) (.int j) k := rd_neL (rd_neI p)
end DL

namespace DL
open PySem L2
section
variable {G : Gx} {ρ : Env} {P : D → Env → Prop} {PS_ : Post} {i : Nat} {bl cs : List Int} {k : Int} {te : TE}
end
end DL

namespace DL
open PySem L2
/-! ### comprehensions over the keys of a dict that an expression gives -/
/-- the expression gives the very dict, locked or not -/
def KeyE (G : Gx) (te : TE) (ρ : Env) (kvs : List (Key × D)) : Prop := ∀ w σ, Ok G w σ ρ → ∃ a xs, Rd w.S a (.dK xs) ∧ RepK G.K w.S xs kvs ∧ ∀ (H' : Hp) (Q : VK), Sub w.S H' → Q (.ref a) H' → te σ H' Q
section
variable {G : Gx} {ρ : Env} {kvs : List (Key × D)} {i : Nat} {te0 : TE}
variable {g : TG} {tt : TT} {te : TE} {vs sl : List Nat} {PO : M → Env → Prop}
end
end DL
namespace DL
open PySem L2
section
variable {X : Cx} {K : PySem.W.Frag}
end
end DL

namespace DL
open PySem L2 PySem.Spec PyProof.Rows
/-! ### what is shown of dicts of numbers -/
/-- it can be shown, in so many signs -/
structure Sho (v : D) (p : PyData) (n : Nat) : Prop where
  py : v.pyR = some p
  sh : p.showable = true
  dp : p.depth ≤ 60
  len : p.shown.length ≤ n
theorem piled_le {B : Nat} : ∀ {ts : List Str}, (∀ t ∈ ts, t.length ≤ B) → piled ts ≤ ts.length * (B + 2)
  | [], _ => by simp [piled]
  | t :: r, h => by
    have a := h t List.mem_cons_self
    have b := piled_le (ts := r) fun x hx => h x (List.mem_cons_of_mem _ hx)
    rw [piled_cons, List.length_cons, Nat.add_mul, Nat.one_mul]
    omega
end DL

namespace DL
open PySem L2
/-! ### comprehensions that leave all names as they are -/
theorem mixE_get {p : Nat → Bool} : ∀ {n : Nat} {ρ ρ' : Env} {j : Nat}, ρ'.length = ρ.length → (mixE p n ρ ρ')[j]? = if p (n + j) = true then (ρ[j]?).map keepSh else ρ'[j]?
  | n, [], [], j, _ => by simp [mixE]
  | n, a :: ρ, [], j, h => by simp at h
  | n, [], b :: ρ', j, h => by simp at h
  | n, a :: ρ, b :: ρ', 0, h => by
    unfold mixE
    rw [Nat.add_zero]
    split <;> simp_all
  | n, a :: ρ, b :: ρ', j + 1, h => by
    unfold mixE
    rw [List.getElem?_cons_succ, List.getElem?_cons_succ, List.getElem?_cons_succ, mixE_get (by simpa using h), show n + 1 + j = n + (j + 1) by omega]
theorem wipeE_at {p : Nat → Bool} : ∀ {n : Nat} {ρ : Env} {j : Nat}, p (n + j) = false → (wipeE p n ρ)[j]? = ρ[j]?
  | _, [], _, _ => by simp [wipeE]
  | n, a :: ρ, 0, h => by
    unfold wipeE
    rw [Nat.add_zero] at h
    rw [h]
    rfl
  | n, a :: ρ, j + 1, h => by
    unfold wipeE
    rw [List.getElem?_cons_succ, List.getElem?_cons_succ, wipeE_at (by rw [show n + 1 + j = n + (j + 1) by omega]; exact h)]
theorem inL1 {v j : Nat} : inL [v] j = decide (j = v) := by
  unfold inL
  by_cases e : j = v
  · subst e; simp
  · simp [e]
/-- the name's place within -/
abbrev inE (v : Nat) (ρ : Env) (d : D) : Env := (wipeE (inL [v]) 0 ρ).set v (some (.sh d))
def NameOk (v : Nat) (ρ : Env) : Prop := ∃ x, ρ[v]? = some x ∧ keepSh x = x
theorem mix_in {v : Nat} {ρ : Env} {d : D} (h : NameOk v ρ) : mixE (inL [v]) 0 ρ (inE v ρ d) = ρ := by
  obtain ⟨x, hx, hk⟩ := h
  apply List.ext_getElem?
  intro j
  rw [mixE_get (by rw [List.length_set, wipeE_len]), Nat.zero_add, inL1]
  by_cases e : j = v
  · subst e
    rw [decide_eq_true rfl, if_pos rfl, hx]
    show some (keepSh x) = some x
    rw [hk]
  · rw [decide_eq_false e, if_neg Bool.false_ne_true, List.getElem?_set_ne (fun z => e z.symm), wipeE_at (by rw [Nat.zero_add, inL1]; exact decide_eq_false e)]
section
variable {G : Gx} {ρ : Env} {v : Nat} {tt : TT} {te tk tv te0 : TE} {wi : TI} {PO : M → Env → Prop} {P : D → Env → Prop} {F : D → Option D} {kvs : List (Key × D)}
theorem filterMap_step {α β : Type} {f : α → Option β} {l : List α} {i : Nat} {d : α} (h : l[i]? = some d) : (l.take (i + 1)).filterMap f = (l.take i).filterMap f ++ (match f d with | some y => [y] | none => []) := by
  rw [List.take_add_one, h, List.filterMap_append]
  cases e : f d with
  | none => simp [e]
  | some y => simp [e]
theorem nameOk_none (h : ρ[v]? = some none) : NameOk v ρ := ⟨none, h, rfl⟩
theorem nameOk_sh {d : D} (h : ρ[v]? = some (some (.sh d))) : NameOk v ρ := ⟨_, h, rfl⟩
end
end DL

namespace DC
open PySem L2 PySem.Spec PyProof.Rows
end DC
namespace DL
open PySem L2
section
variable {G : Gx} {ρ : Env} {te to tl : TE} {P : D → Env → Prop} {PO : M → Env → Prop} {PI_ : List D → Env → Prop} {PS_ : Post} {i v : Nat} {g : TG} {t : TS} {K : PySem.W.Frag} {k : D → Prop} {x : D} {xs : List D}
end
end DL

namespace DL
open PySem.Spec PySem PyProof.Rows L2
/-! ### names -/
abbrev sg (x : Str) : List Nat := x.cps.toList
section
variable {G : Gx} {ρ : Env} {v : Nat} {tt : TT} {te te0 : TE} {P : D → Env → Prop} {kvs : List (Key × D)} {Fk : Key → D → Option D}
end
end DL

namespace DL
open PySem L2
theorem ws_mid {G : Gx} {t u : TS} {ρ : Env} {P : Post} (Mid : Env → Prop) (h : WS G t ρ { P with nx := Mid }) (h2 : ∀ ρ', Mid ρ' → WS G u ρ' P) : WS G (tSeq t u) ρ P := ws_seq fun w σ D o e m => h w σ D o e ⟨fun w' σ' ρ' hm l o' => m.nx w' σ' ρ' (h2 ρ' hm) l o', m.rt, m.bk, m.ct⟩
end DL

namespace DL
open PySem L2 PySem.Spec PyProof.Rows
theorem textFrom_le : ∀ (ts : List Str) (k : Nat) (acc : Str), (textFrom k acc ts).length ≤ acc.length + piled ts
  | [], k, acc => Nat.le_refl _
  | t :: r, k, acc => by
    have e : textFrom k acc (t :: r) = textFrom (k + 1) (acc ++ (if k > 0 then ", " else "" : String) ++ t) r := rfl
    have h := textFrom_le r (k + 1) (acc ++ (if k > 0 then ", " else "" : String) ++ t)
    rw [e, piled_cons]
    rw [strLen_append, strLen_append] at h
    have l : ((if k > 0 then ", " else "" : String) : Str).length ≤ 2 := by
      split
      · exact Nat.le_refl 2
      · exact Nat.zero_le 2
    omega
theorem listText_le {B : Nat} {ts : List Str} (h : ∀ t ∈ ts, t.length ≤ B) : (listText ts).length ≤ 2 + ts.length * (B + 2) := by
  have e : (listText ts).length = (textFrom 0 "[" ts).length + 1 := by
    unfold listText
    rw [strLen_append]
    rfl
  have p := piled_le h
  have q := textFrom_le ts 0 "["
  have o : (("[" : String) : Str).length = 1 := rfl
  omega
theorem shw_all {d n : Nat} : ∀ {ds : List D}, (∀ x ∈ ds, Shw x d n) → ∃ ps, D.pysR ds = some ps ∧ PyData.showableAll ps = true ∧ PyData.depthAll ps ≤ d ∧ (∀ t ∈ PyData.shownAll ps, t.length ≤ n) ∧ (PyData.shownAll ps).length = ds.length
  | [], _ => ⟨[], rfl, rfl, Nat.zero_le _, (fun t h => by cases h), rfl⟩
  | x :: r, h => by
    obtain ⟨ps, a, b, c, e, f⟩ := shw_all (ds := r) fun y hy => h y (List.mem_cons_of_mem _ hy)
    obtain ⟨p, h1, h2, h3, h4⟩ := h x List.mem_cons_self
    refine ⟨p :: ps, ?_, ?_, ?_, ?_, ?_⟩
    · show (match D.pyR x with
        | some p => (D.pysR r).map (p :: ·)
        | none => none) = _
      rw [h1, a]
      rfl
    · show (PyData.showable p && PyData.showableAll ps) = true
      rw [h2, b]
      rfl
    · have e1 : PyData.depthAll (p :: ps) = max p.depth (PyData.depthAll ps) := by simp only [PyData.depthAll]
      omega
    · intro t ht
      have ht : t ∈ PyData.shown p :: PyData.shownAll ps := ht
      rcases List.mem_cons.mp ht with z | z
      · rw [z]
        exact h4
      · exact e t z
    · show (PyData.shown p :: PyData.shownAll ps).length = _
      rw [List.length_cons, List.length_cons, f]
theorem shw_lst {d n : Nat} {ds : List D} (h : ∀ x ∈ ds, Shw x d n) : Shw (.lst ds) (d + 1) (2 + ds.length * (n + 2)) := by
  obtain ⟨ps, a, b, c, e, f⟩ := shw_all h
  refine ⟨.list ps, ?_, b, ?_, ?_⟩
  · show (D.pysR ds).map PyData.list = _
    rw [a]
    rfl
  · have : (PyData.list ps).depth = PyData.depthAll ps + 1 := by simp only [PyData.depth]
    omega
  · have := listText_le e
    rw [f] at this
    exact this
/-- repr of what can be shown -/
theorem rc_shw {K : PySem.W.Frag} {x : D} {k : D → Prop} {d n : Nat} (h : Shw x d n) (hd : d ≤ 64) (hn : n ≤ 100000) (q : ∀ p, x.pyR = some p → k (.str p.shown)) : RC K (rReprD K) [x] k := by
  obtain ⟨p, h1, h2, h3, h4⟩ := h
  exact rc_reprD h1 h2 (Nat.le_trans h3 hd) (Nat.le_trans h4 hn) (q p h1)
end DL

namespace DL
open PySem L2 PySem.Spec PyProof.Rows
section
variable {K : PySem.W.Frag} {S S' H H' : Hp}
theorem OL.own : ∀ {xs : List (Key × V)} {ds : List (Key × List D)} {fp : List Addr}, OL K S H xs ds fp → OwnK K S H xs (ds.map fun p => (p.1, .lst (p.2.map .sh))) fp
  | _, _, _, .nil => .nil
  | _, _, _, @OL.cons _ _ _ k l ys zs xs ds fp a b r q => OwnK.cons (f := [l]) (g := fp) (.lst a b (ownL_of r)) q.own
end
section
variable {G : Gx} {ρ : Env} {i : Nat} {ty te : TE} {PS_ : Post}
end
end DL

namespace DL
open PySem L2 PySem.Spec PyProof.Rows
section
variable {G : Gx} {tk tv : TE} {tt : TT} {wi : TI} {g : TG} {ρ : Env} {vs sl : List Nat} {PO : M → Env → Prop}
end
end DL

namespace DC
open PySem L2 PySem.Spec PyProof.Rows
end DC
namespace DL
open PySem L2 PySem.Spec PyProof.Rows
section
variable {G : Gx} {w w1 w2 : Wd} {σ : L2.St} {ρ : Env} {a : Addr} {ob : HO}
end
/-- within the first, within the second -/
abbrev in1 (vs : List Nat) (v : Nat) (ρ : Env) (d : D) : Env := (wipeE (inL vs) 0 ρ).set v (some (.sh d))
section
variable {G : Gx} {te te0 : TE} {tt tt1 : TT} {ρ : Env} {i v v1 : Nat} {vs vs1 : List Nat} {PO : M → Env → Prop} {kvs : List (Key × D)} {F : Key → Key → D}
end
/-! ### xs.extend([..]), xs a name's own list -/
section
variable {G : Gx} {ρ : Env} {i : Nat} {ta : TA} {PS_ : Post}
end
theorem ws_par3 {G : Gx} {ρ : Env} {i j k : Nat} {t1 : TA} {P : Post} (hi : i ∉ G.px) (hj : j ∉ G.px) (hk : k ∉ G.px) (h : WA G t1 ρ fun ds ρ1 => ∃ x y z, ds = [x, y, z] ∧ P.nx (((ρ1.set i (some (.sh x))).set j (some (.sh y))).set k (some (.sh z)))) : WS G (tPar3 i j k t1) ρ P := fun w σ D o e m =>
  h w σ _ o e fun vs w1 ds ρ1 ⟨x, y, z, ed, p⟩ l1 o1 r1 => by
    subst ed
    cases r1 with
    | cons ra r =>
      cases r with
      | cons rb r =>
        cases r with
        | cons rc r =>
          cases r
          obtain ⟨w2, l2, hS2, hH2, _, o2⟩ := o1.setSh ra hi
          obtain ⟨w3, l3, hS3, hH3, _, o3⟩ := o2.setSh (by rw [hS2]; exact rb) hj
          obtain ⟨w4, l4, _, hH4, _, o4⟩ := o3.setSh (by rw [hS3, hS2]; exact rc) hk
          have q := m.nx w4 _ _ p (((l1.trans l2).trans l3).trans l4) o4
          rw [hH4, hH3, hH2] at q
          exact ⟨_, _, _, rfl, q⟩
end DL

namespace DL
open PySem L2 PySem.Spec PyProof.Rows
section
variable {G : Gx} {ρ : Env} {i v : Nat} {tt : TT} {PO : M → Env → Prop} {ms : List (Key × M)} {ds : List (Key × D)}
end
/-! ### d[k].clear() and d.clear(), d a name's own dict of dicts of its own -/
def setM : List (Key × M) → Key → M → List (Key × M)
  | [], _, _ => []
  | p :: r, k, m => if p.1 = k then (p.1, m) :: r else p :: setM r k m
section
variable {G : Gx} {ρ : Env} {i : Nat} {ty : TE} {PS_ : Post}
end
end DL

namespace DL
open PySem L2 PySem.Spec PyProof.Rows
section
variable {G : Gx} {ρ : Env} {t : TA} {PO : M → Env → Prop}
end
end DL

namespace DL
open PySem L2 PySem.Spec PyProof.Rows
theorem Vals.size {xs : List V} {its : List Value} (r : Vals xs its) : its.toArray.size = xs.length := by
  rw [List.size_toArray]
  exact (Paired.length r).symm
section
variable {G : Gx} {ρ : Env} {t : TA} {PI_ : List D → Env → Prop}
end
end DL

namespace DL
open PySem L2 PySem.Spec PyProof.Rows
section
variable {K : PySem.W.Frag} {k : D → Prop}
end
end DL

namespace DL
open PySem L2 PySem.Spec PyProof.Rows
section
variable {G : Gx} {ρ : Env} {te : TE} {t : TA} {P : List D → Env → Prop}
end
end DL

namespace DL
open PySem L2 PySem.Spec PyProof.Rows
end DL

namespace L2
open PySem.Spec PySem PyProof.Rows
section
variable {X : Cx}
end
end L2

namespace DL
open PySem L2
section
variable {G : Gx} {ρ : Env} {te te2 : TE} {t : TA} {PO : M → Env → Prop} {P : D → Env → Prop}
end
end DL
namespace DL
end DL
namespace DL
open PySem L2
end DL

namespace DL
open PySem L2
end DL

namespace DC
open PySem PySem.Spec PyProof.Rows LamX L2
/-- the law's own call, where tables of code objects may grow: cs, the code objects and their tables -/
theorem lawGT {prg : Program} {wd : World} {K : PySem.W.Frag} {mg mb : Str → Option Value} {lv : Nat} {fa a : Addr} {cs : List (Addr × Addr)} {fd : FuncData} {x : Str} {sp : Sp} {st : Shared} {vs : List Value} {ns : List Int}
    (kin : K.In st.heap) (globs : st.heap.Ns mainGlobals mg) (blts : st.heap.Ns builtinsNs mb) (boot : ∀ x : Str, x ≠ "__name__" → mb x = bootBuiltins x) (nol : st.heap.NoLimit) (nog : st.gens = #[])
    (tabs : ∀ p ∈ cs, st.heap.get? p.2 = some tab0) (noK : ∀ p ∈ cs, K.lookup p.2 = none) (codes : ∀ p ∈ cs, PySem.W.CodeHd st.heap p.1 p.2)
    (bmod : ∃ (bm : Addr) (ob : Obj), mg "__builtins__" = some (.ref bm) ∧ bm ≠ builtinsNs ∧ st.heap.get? bm = some ob ∧ ob.cls = .type "module" ∧ ob.dict = some builtinsNs ∧ ob.data = .plain)
    (script : st.heap.get? a = some { cls := .type "list", data := .seq vs.toArray }) (areInts : IntsAre vs ns) (short : ns.length ≤ sizeLine) (room : Room lv callerA)
    (F : ∀ bs : Heap, K.In bs → bs.Ns mainGlobals mg → (∀ p ∈ cs, TabB bs mg p.1 p.2) → FnG prg wd K mg bs (L2.CX prg wd) lv fa fd [x] sp) (bnd : ∀ (s : Shared) (u : Value), BindsTo s fd ⟨[u], []⟩ [(x, u)])
    (wish : ∀ H : Hp, (∀ p ∈ cs, H p.2 = some (.tbl #[])) → (∀ b, H b = none ∨ (∃ p ∈ cs, b = p.2) ∨ (b = a ∧ ∃ o xs, H b = some (.frz o (.lst xs)))) → SqL K H a (ns.map V.int) → sp [.ref a] H (fun v _ => v = .bl true) fun _ _ _ => False) :
    codeAny (model prg wd) callerA (.call (.ref fa) ⟨[.ref a], []⟩) (fun r s' => r = .ok (.ret (.bool true)) ∧ OldK st.heap s'.heap ∧ s'.os = st.os ∧ AllBare s'.gens) st := by
  have rel := vals_ints areInts
  have aT : ∀ p ∈ cs, a ≠ p.2 := fun p hp z => by
    have := tabs p hp
    rw [← z, script] at this
    cases (show Data.seq vs.toArray _ = Data.fields #[] from congrArg Obj.data (Option.some.inj this))
  have key : ∀ H : Hp, (∀ p ∈ cs, H p.2 = some (.tbl #[])) → (∀ b, H b = none ∨ (∃ p ∈ cs, b = p.2) ∨ (b = a ∧ ∃ o xs, H b = some (.frz o (.lst xs)))) → SqL K H a (ns.map V.int) → HOk prg wd H st.heap → (H a ≠ none → K.lookup a = none) →
      codeAny (model prg wd) callerA (.call (.ref fa) ⟨[.ref a], []⟩) (fun r s' => r = .ok (.ret (.bool true)) ∧ OldK st.heap s'.heap ∧ s'.os = st.os ∧ AllBare s'.gens) st := fun H onT only sq hok out => by
    have below : ∀ {b : Addr} {o : Obj}, st.heap.get? b = some o → H b = none → (hidT st.heap H).get? b = some o := fun e n => hidT_get e n
    -- neither the script nor a table
    have free : ∀ {b : Addr} {o : Obj}, st.heap.get? b = some o → (∀ v n, o.data ≠ .seq v n) → o.data ≠ .fields #[] → H b = none := fun {b o} e n1 n2 => by
      rcases only b with z | ⟨p, hp, rfl⟩ | ⟨rfl, _⟩
      · exact z
      · rw [tabs p hp] at e
        cases e
        exact (n2 rfl).elim
      · rw [script] at e
        cases e
        exact (n1 _ _ rfl).elim
    have nsB : ∀ {b : Addr} {m : Str → Option Value}, st.heap.Ns b m → (hidT st.heap H).Ns b m := fun {b m} ⟨o, es, ep, e, d, r⟩ => ⟨o, es, ep, below e (free e (fun v n z => by rw [d] at z; cases z) fun z => by rw [d] at z; cases z), d, r⟩
    have kinB : K.In (hidT st.heap H) := fun b o e => below (kin b o e) (by
      rcases only b with z | ⟨p, hp, rfl⟩ | ⟨rfl, o', xs', z⟩
      · exact z
      · rw [noK p hp] at e
        cases e
      · rw [out (by rw [z]; exact Option.some_ne_none _)] at e
        cases e)
    obtain ⟨mc, l1, l2⟩ := nol
    obtain ⟨bm, ob, b1, b2, b3, b4, b5, b6⟩ := bmod
    have tb : ∀ p ∈ cs, TabB (hidT st.heap H) mg p.1 p.2 := fun p hp => by
      refine ⟨?_, ⟨bm, ob, b1, b2, fun z => ?_, fun z => ?_, below b3 (free b3 (fun v n z => by rw [b6] at z; cases z) fun z => by rw [b6] at z; cases z), b4, b5, b6⟩, fun z => ?_⟩
      · obtain ⟨o, us, f1, f2, f3, f4, f5, f6, f7, e1, r1, r2, r3, rest⟩ := codes p hp
        exact ⟨o, us, f1, f2, f3, f4, f5, f6, f7, below e1 (free e1 (fun v n z => by rw [r2] at z; cases z) fun z => by rw [r2] at z; cases z; simp at r3), r1, r2, r3, rest⟩
      · obtain ⟨o, es, ep, e, d, _⟩ := globs
        rw [z, e] at b3
        cases b3
        rw [d] at b6
        cases b6
      · rw [z, tabs p hp] at b3
        cases b3
        cases b6
      · obtain ⟨o, es, ep, e, d, _⟩ := globs
        rw [z, tabs p hp] at e
        cases e
        cases d
    have md : Mod K mg (hidT st.heap H) := ⟨kinB, nsB globs, ⟨mb, nsB blts, boot⟩, mc, nsB l1, l2⟩
    have env : Env0 prg wd K mg (hidT st.heap H) callerA [] st H := ⟨rfl, md, fun b o e => of_hidT e, Nat.le_of_eq (hidT_size _ _), trivial, (fun b mem => by cases mem), hok, .of_eq nog⟩
    refine codeAny_mono ((F _ kinB (nsB globs) tb).go callerA [] st H ⟨[.ref a], []⟩ [.ref a] [.ref a] _ _ rfl room env (bnd st (.ref a)) (.cons rfl .nil) (wish H onT only sq)) fun out s' got => ?_
    match out, got with
    | .error e, got =>
      obtain ⟨_, _, _, _, _, _, _, _, _, _, _, _, z⟩ := got
      exact z.elim
    | .ok .next, got => exact got.elim
    | .ok .brk, got => exact got.elim
    | .ok .cont, got => exact got.elim
    | .ok (.ret u), ⟨v, H', os, bare, un, hok', r', q⟩ =>
      have ev : v = .bl true := q
      subst ev
      cases (show u = Value.bool true from r')
      have later : ∀ b o, st.heap.get? b = some o → s'.heap.get? b = some o ∨ ∃ p ∈ cs, b = p.2 ∧ ∃ more, s'.heap.get? b = some { cls := .none, data := .fields more } := fun b o e => by
        rcases only b with z | ⟨p, hp, rfl⟩ | ⟨_, o', xs', z⟩
        · exact .inl (un.keep b o e z (fun z => by cases z) (fun z => by cases z))
        · obtain ⟨more, z⟩ := un.tbls p.2 #[] (onT p hp)
          exact .inr ⟨p, hp, rfl, _, hok' p.2 _ z⟩
        · have q1 := (hok b _ z).1
          have q2 := (hok' b _ (un.frzs b o' _ z)).1
          rw [e] at q1
          cases (Option.some.inj q1)
          exact .inl q2
      refine (⟨rfl, ⟨fun b o e => ?_, fun b o e => ?_⟩, os, bare⟩)
      · rcases later b o e with z | ⟨p, hp, rfl, more, z⟩
        · exact .inl z
        · rw [tabs p hp] at e
          cases e
          exact .inr (.inl ⟨((codes p hp).tab (tabs p hp)).isCodeTable, rfl, #[], more, rfl, by rw [Array.empty_append]; exact z⟩)
      · rcases later b o e with z | ⟨_, _, _, _, z⟩
        · exact ⟨_, z⟩
        · exact ⟨_, z⟩
  have dec : ∀ b : Addr, (∃ p ∈ cs, b = p.2) ∨ ¬ ∃ p ∈ cs, b = p.2 := fun b => Classical.em _
  cases hk : K.lookup a with
  | some o =>
    have e := kin a o hk
    rw [script] at e
    cases (Option.some.inj e)
    classical
    refine key (fun b => if ∃ p ∈ cs, b = p.2 then some (.tbl #[]) else none) (fun p hp => if_pos ⟨p, hp, rfl⟩) (fun b => ?_) (.inr ⟨_, vs.toArray, _, hk, rfl, rfl, rfl, by rw [List.size_toArray, areInts.length]; exact short, by simpa using rel⟩) (fun b u z => ?_) (fun z => absurd (if_neg fun ⟨p, hp, e⟩ => aT p hp e) z)
    · rcases dec b with y | y
      · exact .inr (.inl y)
      · exact .inl (if_neg y)
    · rcases dec b with y | y
      · have z := (if_pos y).symm.trans z
        cases z
        obtain ⟨p, hp, rfl⟩ := y
        exact tabs p hp
      · have z := (if_neg y).symm.trans z
        cases z
  | none =>
    classical
    refine key (fun b => if b = a then some (.frz { cls := .type "list", data := .seq vs.toArray } (.lst (ns.map V.int))) else if ∃ p ∈ cs, b = p.2 then some (.tbl #[]) else none) (fun p hp => (if_neg fun z : p.2 = a => aT p hp z.symm).trans (if_pos ⟨p, hp, rfl⟩)) (fun b => ?_) (.inl (.inr ⟨_, if_pos rfl⟩)) (fun b u z => ?_) fun _ => hk
    · by_cases y : b = a
      · exact .inr (.inr ⟨y, _, _, if_pos y⟩)
      · rcases dec b with y2 | y2
        · exact .inr (.inl y2)
        · exact .inl ((if_neg y).trans (if_neg y2))
    · by_cases y : b = a
      · have z := (if_pos y).symm.trans z
        cases z
        subst y
        exact ⟨script, by rw [List.length_map]; exact short, vs, _, rel, script⟩
      · have z := (if_neg y).symm.trans z
        rcases dec b with y2 | y2
        · have z := (if_pos y2).symm.trans z
          cases z
          obtain ⟨p, hp, rfl⟩ := y2
          exact tabs p hp
        · have z := (if_neg y2).symm.trans z
          cases z
end DC

namespace DL
open PySem L2 PySem.Spec PyProof.Rows LamX
/-- the walk's end, where tables of code objects may grow: cs, the code objects and their tables; nm, their lambdas' names -/
theorem walk_DLT {l : PySem.W.OpenLaw} {n lv : Nat} {q : Program} {loose : List Str} {XP : (Str → Option Value) → Heap → Prop} {YP : World → Heap → Prop} {d : DefRec} {x : Str} {C : CD} (most : l.most = some n) (few : n ≤ sizeLine) (nodfl : d.params.defaults = []) (room : Room lv callerA)
    (F : ∀ (w : World) (mg : Str → Option Value) (fa : Addr) (h : Heap), YP w h → h.Ns mainGlobals mg → mg d.name = some (.ref fa) → ∃ (K : PySem.W.Frag) (fd : FuncData) (cs : List (Addr × Addr)) (nm : Addr → Str), K.In h ∧ (∀ (s : Shared) (u : Value), BindsTo s fd ⟨[u], []⟩ [(x, u)]) ∧
        (∀ p ∈ cs, h.get? p.2 = some DC.tab0) ∧ (∀ p ∈ cs, K.lookup p.2 = none) ∧ (∀ p ∈ cs, PySem.W.CodeHd h p.1 p.2) ∧
        (∀ c P y, PySem.W.codeHdIn K c P = true → K.lookup P = none → PySem.W.codeIn K (.ref c) y = true → (∃ p ∈ cs, P = p.2) ∧ nm P = (y ++ ".<locals>.") ++ "<lambda>") ∧
        ∀ bs : Heap, K.In bs → bs.Ns mainGlobals mg → (∀ p ∈ cs, TabB bs mg p.1 p.2) → DC.FnG l.prog w K mg bs (L2.CX l.prog w) lv fa fd [x] (toSp K 1 C.con))
    (wish : ∀ ns : List Int, ns.length ≤ n → (∀ z ∈ ns, Builtin.Int.intBits z ≤ 1048576) → C.c [.rol (ns.map .int)] fun o => o = .ret (.sh (.bl true))) : PySem.W.WalkO q loose XP YP l.row.toRowW d [] (fun f vs => PySem.call f vs) := by
  refine Att.attach_callB most nodfl fun w s₀ s₁ mg mb fa o pm cd doc a vs ns G Y ho hd hcd hmg hobj hints hlen hbits hg => ?_
  obtain ⟨K, fd, cs, nm, kin, bnd, tabs, noK, codes, all_, hF⟩ := F w mg fa _ Y G.T.g hmg
  refine DC.lawGT kin G.T.g G.T.b G.T.builtins G.T.nolimit hg tabs noK codes G.T.bmain hobj hints (Nat.le_trans hlen few) room hF bnd fun H onT only sq => ?_
  classical
  have apart : ∀ p ∈ cs, ∀ u, H p.2 = some u → u = .tbl #[] := fun p hp u h => by
    rw [onT p hp] at h
    exact (Option.some.inj h).symm
  let S : Hp := fun b => if ∃ p ∈ cs, b = p.2 then some (TabM (nm b)) else H b
  have sq2 : SqL K S a (ns.map V.int) := by
    rcases sq with h | h
    · have na : ¬ ∃ p ∈ cs, a = p.2 := fun ⟨p, hp, e⟩ => by
        subst e
        rcases h with h | ⟨_, h⟩
        · cases apart p hp _ h
        · cases apart p hp _ h
      rcases h with h | ⟨ob, h⟩
      · exact .inl (.inl ((if_neg na).trans h))
      · exact .inl (.inr ⟨ob, (if_neg na).trans h⟩)
    · exact .inr h
  refine ⟨⟨S, H, []⟩, [.sh (.rol (ns.map .int))], rfl, fun b o h => ?_, OwnL.cons (f := []) (g := []) (.sh (.rol sq2 ?_)) .nil, List.nodup_nil, rfl, fun c P y k1 k2 k3 => ?_, [.rol (ns.map .int)], rfl, C.mono _ _ _ (fun o ho => ?_) (wish ns hlen hbits)⟩
  · by_cases z : ∃ p ∈ cs, b = p.2
    · have h := (if_pos z).symm.trans h
      cases h
      obtain ⟨p, hp, rfl⟩ := z
      exact .inr (.inr ⟨nm p.2, #[], rfl, onT p hp, True.intro, fun pos cv hcv => by
        have y : codeAmong pos [] = some cv := hcv
        simp [codeAmong] at y⟩)
    · exact .inl ((if_neg z).symm.trans h)
  · clear hints hlen hbits sq sq2
    induction ns with
    | nil => exact .nil
    | cons i r ih => exact .cons (.int i) ih
  · obtain ⟨e1, e2⟩ := all_ c P y k1 k2 k3
    rw [← e2]
    exact if_pos e1
  · subst ho
    intro w' fp' l s ow v fr om hF nd
    cases om with
    | sh r => exact r.bl_inv
end DL

namespace DC
open PySem L2 PySem.Spec PyProof.Rows
/-! ### a def whose body wants to know its code object -/
section
variable {prg : Program} {wd : World} {K : PySem.W.Frag} {mg : Str → Option Value} {bs : Heap}
end
end DC
namespace DL
open PySem L2 PySem.Spec PyProof.Rows
section
variable {prg : Program} {wd : World} {K : PySem.W.Frag} {mg : Str → Option Value} {bs : Heap} {x qual : Str} {params : Arguments} {body : List Stmt} {scp : Scope} {dfl : List V} {kwd : List (Str × V)} {f : Addr} {fd : FuncData} {N names : List Str} {lv n : Nat}
end
end DL

namespace DL
open PySem L2 PySem.Spec PyProof.Rows
end DL

namespace DL
open PySem L2 PySem.Spec PyProof.Rows
/-! ### the head's run looked at in pieces, each in a theorem of its own; the addresses are written out -/
section
variable {S A B : Type} {E : Option S} {f : S → A} {g : S → B} {a : A} {b : B}
end
theorem obsU_eq {as : List Addr} {fa : List He.Fa} {fn : List He5.DefA} {ex : PySem.W.Frag → Bool} {g : Addr → Option Obj} {s : Shared} (h : ∀ a, g a = s.heap.get? a) : obsU as fa fn ex g = (hookU as fa fn ex).obs s := by
  have same : g = s.heap.get? := funext h
  rw [same] <;> rfl
end DL

namespace DC
open PySem L2 PySem.Spec PyProof.Rows
/-! ### C(.., k = e, ..) and o.m(k = e, ..) -/
/-- the same for a def with defaults, where all is given -/
theorem kbD {K : PySem.W.Frag} {x qual : Str} {params : Arguments} {body : List Stmt} {scope : Scope} {dvs : List V} {kws : List (Str × V)} {f : Addr} {fd : FuncData} {ps : List Str} (F : FunD K x qual params body scope dvs kws f fd) (hd : dvs ≠ []) (n : Nat) (ks : List Str) (ix : List Nat)
    (given : ∀ (T : Addr) (kV dc pm : Value) (an : Option Addr) (cdv ct : Value) (us its ws : List Value), us.length = n → its.length = dvs.length → ws.length = ks.length →
      ∃ k, bindArgs (PySem.W.fnOf x qual params body scope (.ref T) kV dc pm an cdv ct) ⟨us, ks.zip ws⟩ = seqItems? (.ref T) >>= k ∧ k (some its.toArray) = pure (ps.zip (kwG ix us ws))) : KBn K fd ps n ks (kwG ix) (kwG ix) := by
  obtain ⟨oc, od, dV, kV, doc, pm, an, cdv, ct, osl, rfl, lk, hcd, hD, hK⟩ := (F.ex)
  rcases (hD) with ⟨e, _⟩ | ⟨_, T, o, its, m, rfl, lT, oT, rT⟩
  · exact absurd e hd
  · refine ⟨fun s us ws X l1 l2 => ?_, fun r k => kwG_rel r k⟩
    obtain ⟨k, e1, e2⟩ := given T kV doc pm an cdv ct us its ws l1 rT.length.symm l2
    refine BindsTo.of_looks fun mdl => ?_
    rw [e1]
    exact (looks_items X lT oT (.of_pure e2))
section
variable {X : Cx} {CX : CXT} {lv n : Nat} {f C : Addr} {fd : FuncData} {names ks : List Str} {sp : Sp} {E : St → XK} {x m : Str} {p pos apos : Pos} {o e : Expr} {es : List Expr} {kws : List Keyword} {ta : TE} {t tk : TA} {ix : List Nat}
end
end DC
namespace DL
open PySem L2
section
variable {G : Gx} {ρ : Env} {t tk : TA} {PO : M → Env → Prop} {P : D → Env → Prop} {n m N k : Nat} {ix : List Nat} {CA : Addr} {ta : TE} {mn : Str}
end
end DL

namespace DL
open PySem L2
/-! ### parts of what is owned, written in their places -/
section
variable {K : PySem.W.Frag} {S H : Hp}
/-- at v stands the whole, at v' a part of it; the whole with another part -/
structure Foc (K : PySem.W.Frag) (S H : Hp) (v : V) (fp : List Addr) (v' : V) (sub : M) (fp' : List Addr) (put : M → M) : Prop where
  own : OwnR K S H v' sub fp'
  in_ : ∀ x ∈ fp', x ∈ fp
  nd : fp.Nodup → fp'.Nodup
  back : ∀ (S' H' : Hp) (sub' : M) (fp2 : List Addr), Ex S S' → (∀ x ∈ fp, S' x = none) → OwnR K S' H' v' sub' fp2 → (∀ x ∈ fp2, x ∈ fp') → fp2.Nodup → fp.Nodup →
    (∀ x ∈ fp, x ∉ fp' → ∀ o, H x = some o → Keeps o (H' x)) → ∃ fpn, OwnR K S' H' v (put sub') fpn ∧ (∀ x ∈ fpn, x ∈ fp) ∧ fpn.Nodup
theorem Foc.here {v : V} {m : M} {fp : List Addr} (h : OwnR K S H v m fp) : Foc K S H v fp v m fp id := ⟨h, fun _ h => h, id, fun _ _ _ fp2 _ _ o s n _ _ => ⟨fp2, o, s, n⟩⟩
end
section
variable {G : Gx} {ρ : Env} {i : Nat} {te tb : TE} {sub m : M} {put : M → M} {PS_ : Post} {P : D → Env → Prop} {PO : M → Env → Prop}
/-- an expression that leads from a name to a part of what it owns, and does nothing else -/
def PathE (G : Gx) (te : TE) (i : Nat) (ρ : Env) (sub : M) (put : M → M) : Prop := ∃ m, ρ[i]? = some (some m) ∧ ∀ w σ v fp, Ok G w σ ρ → σ[i]? = some (some v) → OwnR G.K w.S w.H v m fp →
  ∃ v' fp', Foc G.K w.S w.H v fp v' sub fp' put ∧ ∀ Q : VK, Q v' w.H → te σ w.H Q
theorem OkE.growE {w w' : Wd} {σ : St} {fx : List Addr} (o : OkE G w σ ρ fx) (l : LeP w w') (s : Sub w'.S w'.H) : OkE G w' σ ρ fx := by
  obtain ⟨fps, h, e⟩ := o.env
  exact ⟨s, ⟨fps, h.keep l.s (fun x q => l.n x (h.at_ x q).2 (h.at_ x q).1) (fun x _ o ho => l.h x o ho), l.f.trans e⟩, by rw [l.f]; exact o.nd, o.px⟩
/-- the part is found, and may be written, then or behind what changes nothing -/
theorem PathE.write (h : PathE G te i ρ sub put) {w : Wd} {σ : St} (o : Ok G w σ ρ) : ∃ v' fp', OwnR G.K w.S w.H v' sub fp' ∧ (∀ Q : VK, Q v' w.H → te σ w.H Q) ∧ fp'.Nodup ∧ ∀ w1, LeP w w1 → Sub w1.S w1.H → OwnR G.K w1.S w1.H v' sub fp' ∧
    ∀ (a : Addr) (ob : HO) (sub' : M) (fp2 : List Addr), a ∈ fp' → OwnR G.K w1.S (upd w1.H a ob) v' sub' fp2 → (∀ x ∈ fp2, x ∈ fp') → fp2.Nodup → ∃ w', Le w1 w' ∧ w'.S = w1.S ∧ w'.H = upd w1.H a ob ∧ Ok G w' σ (ρ.set i (some (put sub'))) := by
  obtain ⟨m, hm, F⟩ := h
  obtain ⟨v, fp, wt, hv, lt, eS, eH, ot, om⟩ := o.takeM hm
  have hil : i < ρ.length := (List.getElem?_eq_some_iff.mp hm).1
  obtain ⟨v', fp', fc, ev⟩ := F w σ v fp o hv om
  have nd : fp.Nodup := ot.nodupFx
  refine ⟨v', fp', fc.own, ev, fc.nd nd, fun w1 l1 s1 => ⟨fc.own.keep l1.s (fun x hx => l1.n x (fc.own.at_ x hx).2 (fc.own.at_ x hx).1) fun x _ ob ho => l1.h x ob ho, fun a ob sub' fp2 ha own s n => ?_⟩⟩
  have off : ∀ x ∈ fp, w1.S x = none := fun x hx => l1.n x (om.at_ x hx).2 (om.at_ x hx).1
  obtain ⟨fpn, ow, sn, nn⟩ := fc.back w1.S (upd w1.H a ob) sub' fp2 l1.s off own s n nd fun x hx nx u hu => by
    rw [upd_ne (fun z : x = a => nx (by rw [z]; exact ha))]
    exact l1.h x u hu
  have lp : LeP wt ⟨w1.S, w1.H, wt.F⟩ := ⟨by rw [eS]; exact l1.s, by rw [eH]; exact l1.h, by rw [eS, eH]; exact l1.n, rfl⟩
  have o1 : OkE G ⟨w1.S, w1.H, wt.F⟩ σ (ρ.set i none) fp := ot.growE lp s1
  have inF : ∀ x ∈ wt.F, x ∈ w1.F := fun x hx => by
    rw [l1.f]
    rcases lt.f x hx with z | z
    · exact z
    · obtain ⟨fps, en, ef⟩ := ot.env
      rw [ef] at hx
      rcases List.mem_append.mp hx with y | y
      · exact absurd (by rw [eH]; exact z) (en.at_ x y).2
      · exact absurd z (om.at_ x y).2
  obtain ⟨w3, l3, eS3, eH3, o3⟩ := OkE.write (a := a) (ob := ob) (fp' := fpn ++ []) o1 (fc.in_ a ha) (off a (fc.in_ a ha)) (fun x hx => by rw [List.append_nil] at hx; exact sn x hx) (by rw [List.append_nil]; exact nn)
  obtain ⟨w4, l4, eS4, eH4, o4⟩ := OkE.putBack (fr := []) o3 hv (by rw [eS3, eH3]; exact ow) hil
  exact ⟨w4, ((Wd.le_less inF : Le w1 (w1.less wt.F)).trans l3).trans l4, by rw [eS4, eS3], by rw [eH4, eH3], o4⟩
end
end DL

namespace DC
open PySem L2 PySem.Spec PyProof.Rows
end DC
namespace DL
open PySem L2 PySem.Spec PyProof.Rows
section
variable {G : Gx} {ρ : Env} {P : D → Env → Prop} {c : Str} {f : Addr} {ta tb : TE}
end
end DL
namespace DC
open PySem L2 PySem.Spec PyProof.Rows
end DC
namespace DL
open PySem L2 PySem.Spec PyProof.Rows
theorem isXB_ok {K : PySem.W.Frag} {C : Addr} (h : isXB K C = true) : L2.ExcC K C := by
  unfold isXB at h
  (simp only [Bool.and_eq_true, decide_eq_true_eq] at h)
  obtain ⟨⟨⟨⟨⟨⟨⟨gaX, gtX⟩, subX⟩, dictX⟩, clsX⟩, getX⟩, takX⟩, mroX⟩ := h
  exact ⟨gaX, gtX, subX, dictX, clsX, getX, takX, mroX⟩
end DL

namespace DL
open PySem L2
section
variable {K : PySem.W.Frag} {S S' H : Hp} (hs : ∀ a xs, SqT K S a xs → SqT K S' a xs) (n : ∀ a, S a = none → S' a = none)
include hs n
end
theorem KeptE.forget : ∀ {ρ ρ2 : Env} (i : Nat), KeptE ρ ρ2 → KeptE (ρ.set i none) (ρ2.set i none)
  | _, _, _, .nil => .nil
  | _, _, 0, .no h => .no h
  | _, _, 0, .sm h => .no h
  | _, _, 0, .st _ h => .no h
  | _, _, i + 1, .no h => .no (KeptE.forget i h)
  | _, _, i + 1, .sm h => .sm (KeptE.forget i h)
  | _, _, i + 1, .st z h => .st z (KeptE.forget i h)
section
variable {G : Gx} {ρ : Env} {P : D → Env → Prop} {PO : M → Env → Prop} {te : TE} {i : Nat} {m : M} {d : D}
/-- where the thing stands as data among the other names, and back -/
structure ViewK (G : Gx) (w : Wd) (σ : St) (ρ : Env) (i : Nat) (m : M) (d : D) (wv : Wd) : Prop where
  ok : Ok G.calm wv σ (ρ.set i (some (.sh d)))
  H : wv.H = w.H
  back : ∀ w2 ρ2 fx, Le wv w2 → OkE G.calm w2 σ ρ2 fx → (∀ x ∈ fx, w2.S x = none) → KeptE (ρ.set i (some (.sh d))) ρ2 → ∃ S3 F3, (∀ a, w2.S a = none → S3 a = none) ∧ (∀ a xs, SqT G.K w2.S a xs → SqT G.K S3 a xs) ∧ Le w ⟨S3, w2.H, F3⟩ ∧ OkE G ⟨S3, w2.H, F3⟩ σ (ρ2.set i (some m)) fx
end
end DL

namespace DC
open PySem L2 PySem.Spec PyProof.Rows SeqAt PySem.MeetsSeq
/-! ### x in a list of other things, x of a class with its own == -/
/-- the class is no kind of list, and not None's -/
structure EqN (K : PySem.W.Frag) (C : Addr) : Prop where
  lst : PySem.W.subIn K (.ref C) (.type "list") = some false
  non : PySem.W.subIn K (.ref C) (.type "NoneType") = some false
section
variable {X : Cx} {lv : Nat} {f C : Addr} {fd : FuncData} {names : List Str} {sp : Sp}
end
end DC
namespace DL
open PySem L2 PySem.Spec PyProof.Rows
section
variable {G : Gx} {ρ : Env} {P : D → Env → Prop} {c : Str} {ta tb : TE}
end
end DL

namespace DL
open PySem L2
section
variable {G : Gx} {ρ : Env}
end
end DL

namespace DC
open PySem L2 PySem.Spec PyProof.Rows
/-! ### own exceptions as values -/
/-- C(), C without fields, as a value -/
def tExb (C : Addr) : TE := fun _ H Q => ∀ a, H a = none → Q (.ref a) (upd H a (exo a C none))
theorem pe_exb {X : Cx} {C : Addr} {bmB : List Value} {B newId initId : String} {x : Str} {p pos : Pos} (F : ExcBaseFacts B newId initId bmB) (q : PySem.W.excIn X.K C bmB newId = true) (gC : X.mg x = some (.ref C)) (kC : PySem.W.keepIn X.K (.ref C) = true) (hg : Gl X x)
    (nodbg : (x == ("__debug__" : Str)) = false := by decide) : PE X (.Call (.Name x p) [] [] pos) (tExb C) := ⟨fun pins s σ H Q J wish =>
  wpAny_Call_Name_kw (ld_glob J hg gC (PySem.W.callWith_K0 J.kIn kC (by
    obtain ⟨bm, N, nm, qn, bs, hdct, sn, sub, ab, col, dd, k0, k1, k2, k3, k5, mN, hC, hN, hni, T⟩ := exc_obj J.kIn q
    refine wpAny_call_exc_subT F T hC hN hni (fun h' a made => ?_) (Nat.zero_le _)
    have free : H a = none := J.hok.gone made.new
    obtain ⟨t, at_, _⟩ := made.there
    exact ⟨.ref a, _, J.laidN made.keeps made.new free (exo_ok at_), rfl, wish a free⟩)) nodbg)⟩
/-- C(e, ..), C with an own `__init__`, as a value -/
def tOexV (C : Addr) (sp : Sp) (ta : TA) : TE := fun σ H Q => ta σ H fun vs H1 => vs.length ≤ 1000 ∧ ∀ a, H1 a = none → sp (.ref a :: vs) (upd H1 a (exo a C none))
  (fun v H2 => v = .non ∧ ∃ (d : Addr) (fs : List (Str × V)), H2 a = some (exo a C (some d)) ∧ H2 d = some (exd d fs) ∧ H1 d = none ∧ Q (.ref a) H2) fun _ _ _ => False
theorem pe_oexV {X : Cx} {CX : CXT} {x : Str} {C fI : Addr} {k : Nat} {fd : FuncData} {ps : List Str} {sp : Sp} {e : Expr} {es : List Expr} {ta : TA} {p pos : Pos} (T : OexC X.K C) (iC : PySem.W.findIn X.K (.ref C) "__init__" = some (some (.ref fI))) (tI : PySem.W.typeIn X.K (.ref fI) = some (.type "function"))
    (F1 : FnOk X.prog X.w X.K X.mg X.base CX k fI fd ps sp) (room : Room (k + 1) X.A) (hb : Binds X.K fd ps []) (hx : Passes CX X (fun _ _ _ => False)) (hg : Gl X x) (gC : X.mg x = some (.ref C)) (ha : PA X (e :: es) ta)
    (nodbg : (x == ("__debug__" : Str)) = false := by decide) (he : starEach (e :: es) X.env = (false, eval e X.env) :: starEach es X.env := by rfl) (hpl : (backTo pos (starEach es X.env)).any (·.1) = false := by rfl) :
    PE X (.Call (.Name x p) (e :: es) [] pos) (tOexV C sp ta) := by
  refine ⟨fun pins s σ H Q J wish => ?_⟩
  obtain ⟨nm, q, N, bs, bm, sn, sub, ab, col, dd, k0, k1, k2, k3, k5, hC, hbm⟩ := (T.cls)
  refine wpAny_Call_Name_kw (ld_glob J hg gC ?_ nodbg)
  refine PySem.W.callWith_K (h₀ := X.base) J.ok.mod.kin T.kC (thn (ha.run pos pins s σ H _ J wish) fun us s1 ⟨vs, H1, J1, r1, small, w1⟩ => ⟨J1.kIn, ?_⟩) he hpl
  show wpAny (model X.prog X.w) X.A (call (.ref C) us) (EP X pins σ Q) X.xe s1
  obtain ⟨hp, g, dr, tk, os⟩ := (s1)
  have free : H1 (hp.objs.size + 1) = none := J1.hok.fresh (Nat.le_succ _)
  have w2 := w1 (hp.objs.size + 1) free
  have J2 : Inv X pins σ (upd H1 (hp.objs.size + 1) (exo (hp.objs.size + 1) C none)) ⟨(hp.push (PySem.W.kdv_tup us)).push (PySem.HandSPX.excO C hp.objs.size), g, dr, tk, os⟩ :=
    J1.laid (t' := tk) (fun b o kept => Heap.get?_push_of_some _ (Heap.get?_push_of_some _ kept)) (Nat.le_succ _) (exo_ok (by heap_get))
  have r2 : Vals (V.ref (hp.objs.size + 1) :: vs) (Value.ref (hp.objs.size + 1) :: us) := (.cons rfl r1)
  have len : (Value.ref (hp.objs.size + 1) :: us).length = ps.length := by
    have e1 := r2.length
    rw [F1.len _ _ _ _ w2] at e1
    exact e1.symm
  have few : us.length ≤ sizeLine := by
    have e1 := Paired.length r1
    rw [sizeLine_eq]
    omega
  have bnd := hb _ (Value.ref (hp.objs.size + 1) :: us) J2.kIn (by rw [List.append_nil]; exact len)
  rw [List.append_nil] at bnd
  refine wpAny_call (PySem.HandSPX.call_own F.excBase_ValueError (fun Y => PySem.HandSPX.refsVE_contains Y bm hbm) (J1.kIn _ _ hC) (PySem.W.looks_findIn J1.kIn iC) (fun self => PySem.W.bind_fn J1.kIn self tI) few
    (codeAny_mono (F1.run _ X.stack _ _ ⟨Value.ref (hp.objs.size + 1) :: us, []⟩ (Value.ref (hp.objs.size + 1) :: us) _ _ (fun _ _ _ => False) (room.make C us []) (J2.env0.make C us []) bnd r2 w2) fun r s' got => ?_))
  cases r with
  | error er => exact hx pins σ _ _ er s' J2 got
  | ok fl =>
    cases fl with
    | ret u =>
      obtain ⟨z, H2, J3, rz, ez, d, fs, a1, a2, a3, w3⟩ := J2.after got
      subst ez
      exact ⟨rz, .ref (hp.objs.size + 1), H2, J3, rfl, w3⟩
    | next => exact got.elim
    | brk => exact got.elim
    | cont => exact got.elim
/-- e.f, e such a value -/
def tXfV (K : PySem.W.Frag) (f : Str) (te : TE) : TE := fun σ H Q => te σ H fun x H1 => ∃ (a C d : Addr) (fs : List (Str × V)) (v : V), x = .ref a ∧ XfC K C ∧ PySem.W.findIn K (.ref C) f = some none ∧ H1 a = some (exo a C (some d)) ∧ H1 d = some (exd d fs) ∧ fs.lookup f = some v ∧ Q v H1
theorem exd_inj {d : Addr} {fs gs : List (Str × V)} {f : Str} {v : V} {mA : Str → Option Value} (r : ∀ g, RelO (fs.lookup g) (mA g)) (l : fs.lookup f = some v) : ∃ u, mA f = some u ∧ RelV v u := RelO.some_of (by rw [← l]; exact r f)
theorem pe_xfV {X : Cx} {e : Expr} {te : TE} {pos : Pos} {n : Str} (he : PE X e te) (hb : attributeBase e n X.env (eval e X.env) = eval e X.env := by rfl) : PE X (.Attribute e n pos) (tXfV X.K n te) := by
  refine ⟨fun pins s σ H Q J wish => ?_⟩
  refine attr_of hb (thn (he.run pins s σ H _ J wish) fun u s1 got => ?_)
  obtain ⟨x, H1, J1, rx, a, C, d, fs, v, ex, T, no, ha, hd, l, q⟩ := got
  subst ex
  obtain rfl : u = Value.ref a := (rx)
  obtain ⟨t1, at_⟩ := exo_at J1.hok ha
  obtain ⟨mA, ns, rel⟩ := exd_at J1.hok hd
  obtain ⟨od, there, hl⟩ := lookIn_ns ns
  obtain ⟨u, hu, ru⟩ := exd_inj (d := d) (gs := []) rel l
  have inst : PySem.W.InstAt s1.heap a _ C (some od) := ⟨at_, rfl, rfl, there⟩
  exact HandSPX.exc_get J1.kIn inst T.ga T.gg T.exC (PySem.W.findObj_own T.hdC no rfl (by rw [hl, hu])) (handed_of ru) ⟨v, H1, J1.tok _, ru, q⟩
theorem pe_xfVK {X : Cx} {K : PySem.W.Frag} {e : Expr} {te : TE} {pos : Pos} {n : Str} (hk : X.K = K) (he : PE X e te) (hb : attributeBase e n X.env (eval e X.env) = eval e X.env := by rfl) : PE X (.Attribute e n pos) (tXfV K n te) := by
  subst hk
  exact pe_xfV he hb
/-- isinstance(e, c), e such a value -/
def rIsV (K : PySem.W.Frag) : List V → Hp → VK → Prop := fun xs H Q => ∃ (a C : Addr) (d : Option Addr) (t : V) (tv : Value) (b : Bool), xs = [.ref a, t] ∧ H a = some (exo a C d) ∧ (∀ dd, d = some dd → ∃ fs, H dd = some (exd dd fs)) ∧ L2.ExcC K C ∧ (∀ u, RelV t u → u = tv) ∧ PySem.W.kitOne K (.ref C) tv = some b ∧ Q (.bl b) H
theorem call_isV {X : Cx} : CallR X (.builtin "isinstance") (rIsV X.K) := by
  intro pins s σ H xs us Q J rel ⟨a, C, d, t, tv, b, ex, ha, hd, ec, one, kit, q⟩
  subst ex
  cases rel with
  | cons r1 rel =>
    cases rel with
    | cons r2 rel =>
      cases rel
      cases r1
      obtain rfl := one _ r2
      have cl : (PySem.W.clsIn X.K C).isSome = true := by
        obtain ⟨cd, e, _⟩ := PySem.W.any_some ec.hd
        rw [e]
        rfl
      obtain ⟨t1, at_⟩ := exo_at J.hok ha
      cases d with
      | none =>
        have inst : PySem.W.InstAt s.heap a _ C none := ⟨at_, rfl, rfl, trivial⟩
        exact PySem.W.kia_one (PySem.W.kitx_exc cl ec.hg ec.hk ec.hs ec.ha ec.hn ec.ht ec.hm) J.kIn inst kit (fun z => nomatch z) fun tk => ⟨.bl b, H, J.kept (t' := tk) fun _ _ z => z, rfl, q⟩
      | some dd =>
        obtain ⟨fs, hx⟩ := hd dd rfl
        obtain ⟨mA, ns, _⟩ := exd_at J.hok hx
        obtain ⟨od, there, _⟩ := lookIn_ns ns
        have inst : PySem.W.InstAt s.heap a _ C (some od) := ⟨at_, rfl, rfl, there⟩
        exact PySem.W.kia_one (PySem.W.kitx_exc cl ec.hg ec.hk ec.hs ec.ha ec.hn ec.ht ec.hm) J.kIn inst kit (fun z => nomatch z) fun tk => ⟨.bl b, H, J.kept (t' := tk) fun _ _ z => z, rfl, q⟩
end DC
namespace DL
open PySem L2
theorem upd_over {H : Hp} {a dx : Addr} {o1 o2 o3 : HO} : upd (upd (upd H a o1) dx o2) a o3 = upd (upd H dx o2) a o3 := by
  funext b
  by_cases h1 : b = a
  · subst h1
    rw [upd_same, upd_same]
  · rw [upd_ne h1, upd_ne h1]
    by_cases h2 : b = dx
    · subst h2
      rw [upd_same, upd_same]
    · rw [upd_ne h2, upd_ne h2, upd_ne h1]
theorem upd_over2 {H : Hp} {a dx : Addr} {o1 o2 o3 o4 : HO} (ne : dx ≠ a) : upd (upd (upd (upd H a o1) dx o2) a o3) dx o4 = upd (upd H dx o4) a o3 := by
  funext b
  by_cases h1 : b = dx
  · subst h1
    rw [upd_same, upd_ne ne, upd_same]
  · rw [upd_ne h1]
    by_cases h2 : b = a
    · subst h2
      rw [upd_same, upd_same]
    · rw [upd_ne h2, upd_ne h1, upd_ne h2, upd_ne h2, upd_ne h1]
section
variable {G : Gx} {ρ : Env} {P : D → Env → Prop} {ta : TA} {te : TE} {CA : Addr} {c f g : Str}
/-- a new exception stands: its dict and itself -/
theorem exv_new {w : Wd} {a dx C : Addr} {xs : List (Str × V)} {σ : St} (o : Ok G w σ ρ) (ha : w.H a = none) (hd : w.H dx = none) (ne : dx ≠ a) : ∃ w', LeP w w' ∧ w'.H = upd (upd w.H dx (exd dx xs)) a (exo a C (some dx)) ∧ Ok G w' σ ρ ∧ w'.S a = some (exo a C (some dx)) ∧ w'.S dx = some (exd dx xs) := by
  have l1 := Wd.le_add (o := exd dx xs) o.sub hd
  have s1 := Wd.sub_add (o := exd dx xs) o.sub hd
  have ha1 : (w.add dx (exd dx xs)).H a = none := by
    show upd w.H dx _ a = none
    rw [upd_ne (Ne.symm ne)]
    exact ha
  have l2 := Wd.le_add (o := exo a C (some dx)) s1 ha1
  refine ⟨_, l1.trans l2, rfl, o.grow (l1.trans l2) (Wd.sub_add s1 ha1), upd_same, ?_⟩
  show upd (upd w.S dx _) a _ dx = _
  rw [upd_ne ne, upd_same]
theorem w_oexV1 (h : WA G ta ρ fun ds ρ1 => ∃ y, ds = [y] ∧ CA = clsAt G.K c ∧ OexC G.K (clsAt G.K c) ∧ NoAttr G.K (clsAt G.K c) f ∧ P (.exv c [(f, y)]) ρ1) : W G (DC.tOexV CA (spIni G.K [f]) ta) ρ P := fun w σ Q o e q =>
  h w σ _ o e fun vs w1 ds ρ1 ⟨y, ed, eC, oe, na, p⟩ l1 o1 r1 => by
    subst ed
    subst eC
    obtain ⟨v, rfl, rv⟩ := r1.one
    refine ⟨by show 1 ≤ 1000; decide, fun a ha => ⟨a, _, v, rfl, oe, na, upd_same, fun dx hdx ne => ⟨rfl, dx, [(f, v)], upd_same, by rw [upd_ne ne]; exact upd_same, ?_, ?_⟩⟩⟩
    · rw [upd_ne ne] at hdx
      exact hdx
    · rw [upd_ne ne] at hdx
      obtain ⟨w2, l2, eH, o2, sa, sd⟩ := exv_new (C := clsAt G.K c) (xs := [(f, v)]) o1 ha hdx ne
      rw [upd_over, ← eH]
      exact q _ w2 _ ρ1 p (l1.trans l2.le) o2 (.exv sa sd (.cons (rv.mono l2.s) .nil))
theorem w_oexV2 (h : WA G ta ρ fun ds ρ1 => ∃ y z, ds = [y, z] ∧ CA = clsAt G.K c ∧ OexC G.K (clsAt G.K c) ∧ NoAttr G.K (clsAt G.K c) f ∧ NoAttr G.K (clsAt G.K c) g ∧ P (.exv c [(g, z), (f, y)]) ρ1) : W G (DC.tOexV CA (spIni G.K [f, g]) ta) ρ P := fun w σ Q o e q =>
  h w σ _ o e fun vs w1 ds ρ1 ⟨y, z, ed, eC, oe, na, na2, p⟩ l1 o1 r1 => by
    subst ed
    subst eC
    obtain ⟨v, u, rfl, rv, ru⟩ := r1.two
    refine ⟨by show 2 ≤ 1000; decide, fun a ha => ⟨a, _, v, u, rfl, oe, na, na2, upd_same, fun dx hdx ne => ⟨rfl, dx, [(g, u), (f, v)], by rw [upd_ne (Ne.symm ne)]; exact upd_same, upd_same, ?_, ?_⟩⟩⟩
    · rw [upd_ne ne] at hdx
      exact hdx
    · rw [upd_ne ne] at hdx
      obtain ⟨w2, l2, eH, o2, sa, sd⟩ := exv_new (C := clsAt G.K c) (xs := [(g, u), (f, v)]) o1 ha hdx ne
      rw [upd_over2 ne, ← eH]
      exact q _ w2 _ ρ1 p (l1.trans l2.le) o2 (.exv sa sd (.cons (ru.mono l2.s) (.cons (rv.mono l2.s) .nil)))
theorem w_exb (eC : CA = clsAt G.K c) (p : P (.exb c) ρ) : W G (DC.tExb CA) ρ P := fun w σ Q o e q a ha => by
  subst eC
  have l1 := Wd.le_add (o := exo a (clsAt G.K c) none) o.sub ha
  exact q _ (w.add a (exo a (clsAt G.K c) none)) _ ρ p l1.le (o.grow l1 (Wd.sub_add o.sub ha)) (.exb upd_same)
theorem exo_hard {e C : Addr} {d : Option Addr} : (¬ Dct (exo e C d)) ∧ ∀ q, exo e C d ≠ TabM q := ⟨fun z => by
  rcases z with ⟨_, z⟩ | ⟨_, z⟩ <;> (unfold exo at z; cases z), fun q z => by
  unfold exo TabM at z
  cases z⟩
theorem exd_hard {e : Addr} {fs : List (Str × V)} : (¬ Dct (exd e fs)) ∧ ∀ q, exd e fs ≠ TabM q := ⟨fun z => by
  rcases z with ⟨_, z⟩ | ⟨_, z⟩ <;> (unfold exd at z; cases z), fun q z => by
  unfold exd TabM at z
  cases z⟩
theorem w_xfV (h : W G te ρ fun x ρ1 => ∃ c fs y, x = .exv c fs ∧ XfC G.K (clsAt G.K c) ∧ PySem.W.findIn G.K (.ref (clsAt G.K c)) f = some none ∧ fs.lookup f = some y ∧ P y ρ1) : W G (DC.tXfV G.K f te) ρ P := fun w σ Q o e q =>
  h w σ _ o e fun v w1 x ρ1 ⟨c, fs, y, ex, T, no, l, p⟩ l1 o1 r1 => by
    subst ex
    cases r1 with
    | @exv a d _ xs _ sa sd rf =>
      obtain ⟨u, hu, ru⟩ := rf.get l
      exact ⟨a, _, d, xs, u, rfl, T, no, o1.sub.is sa exo_hard.1 exo_hard.2, o1.sub.is sd exd_hard.1 exd_hard.2, hu, q u w1 y ρ1 p l1 o1 ru⟩
/-- isinstance(e, C), C told by its address or by its name -/
theorem rc_isV {K : PySem.W.Frag} {k : D → Prop} {x t : D} {c : Str} {tv : Value} {b : Bool} (hx : (∃ fs, x = .exv c fs) ∨ x = .exb c) (ht : (∃ B, t = .fun_ B ∧ tv = .ref B) ∨ ∃ n, t = .ty n ∧ tv = .type n) (ec : L2.ExcC K (clsAt K c)) (kt : PySem.W.kitOne K (.ref (clsAt K c)) tv = some b) (p : k (.bl b)) : RC K (DC.rIsV K) [x, t] k := fun w vs Q s r q => by
  obtain ⟨v, u, rfl, r1, r2⟩ := r.two
  have one : ∀ z, L2.RelV u z → z = tv := by
    rcases ht with ⟨B, rfl, rfl⟩ | ⟨n, rfl, rfl⟩
    · cases r2
      exact fun z e => e
    · cases r2
      exact fun z e => e
  rcases hx with ⟨fs, rfl⟩ | rfl
  · cases r1 with
    | @exv a d _ xs _ sa sd rf => exact ⟨a, _, some d, u, tv, b, rfl, s.is sa exo_hard.1 exo_hard.2, fun dd e => by cases e; exact ⟨xs, s.is sd exd_hard.1 exd_hard.2⟩, ec, one, kt, q _ w _ p (LeP.refl w) s (.bl _)⟩
  · cases r1 with
    | @exb a _ sa => exact ⟨a, _, none, u, tv, b, rfl, s.is sa exo_hard.1 exo_hard.2, (fun dd e => by cases e), ec, one, kt, q _ w _ p (LeP.refl w) s (.bl _)⟩
end
end DL

/-! products of ints of up to a hundred million bits together -/
namespace DC
open PySem L2 PySem.Spec PyProof.Rows
def CMulX (i j : Int) : Prop := i.natAbs.log2 + j.natAbs.log2 < 100000000
theorem CMulX.ok {i j : Int} (h : DC.CMulX i j) : IntMulOk i j := by
  have bits : ∀ x : Int, Builtin.Int.intBits x ≤ x.natAbs.log2 + 1 := fun x => by
    unfold Builtin.Int.intBits
    split <;> omega
  have b1 := bits i
  have b2 := bits j
  have h3 : i.natAbs.log2 + j.natAbs.log2 < 100000000 := h
  have line : bitsLine = 134217728 := by decide
  intro both
  rw [Bool.and_eq_true] at both
  have great := both.2
  unfold Builtin.Int.intTooBig at great
  have more := of_decide_eq_true great
  rw [line] at more
  omega
theorem op_mulX {X : Cx} : OpR X (binaryOp .Mult) (rI CMulX fun i j => .int (i * j)) := opI fun _ _ _ _ _ _ _ ok q => mul_int q ok.ok
end DC
namespace DL
open PySem L2
theorem rd_mulX {K : PySem.W.Frag} {i j : Int} {k : D → Prop} (c : DC.CMulX i j) (p : k (.int (i * j))) : RD K (rI DC.CMulX fun i j => .int (i * j)) (.int i) (.int j) k := rd_i2 (fun _ => .int _) c p
theorem log_bits (x : Int) : x.natAbs.log2 ≤ Builtin.Int.intBits x := by
  unfold Builtin.Int.intBits
  split
  · rename_i h
    have : x = 0 := by simpa using h
    subst this
    decide
  · omega
theorem mulX_bits {i j : Int} (h : Builtin.Int.intBits i ≤ 2000000) (g : j.natAbs < 2 ^ 60) : DC.CMulX i j := by
  have a := log_bits i
  have b := PySem.Flt.log2_lt_of (show 0 < 60 by decide) g
  unfold DC.CMulX
  omega
/-- bits of a sum -/
theorem bits_natAbs {x : Int} {n : Nat} (h : x.natAbs < 2 ^ n) : Builtin.Int.intBits x ≤ n := by
  unfold Builtin.Int.intBits
  split
  · exact Nat.zero_le _
  · rename_i z
    have z : x ≠ 0 := by simpa using z
    have nz : x.natAbs ≠ 0 := by omega
    have := (Nat.log2_lt nz).mpr h
    omega
theorem lt_bits (x : Int) : x.natAbs < 2 ^ Builtin.Int.intBits x := by
  unfold Builtin.Int.intBits
  split
  · rename_i h
    have : x = 0 := by simpa using h
    subst this
    decide
  · exact Nat.lt_log2_self
/-- 7 x + y of an x of so many bits -/
theorem bits_lin {x y : Int} (h : Builtin.Int.intBits x ≤ 1048576) (g : y.natAbs < 2 ^ 60) : Builtin.Int.intBits (x * 7 + y) ≤ 1048700 := by
  have a := lt_bits x
  have b : (2 : Nat) ^ Builtin.Int.intBits x ≤ 2 ^ 1048576 := Nat.pow_le_pow_right (by decide) h
  have e : x.natAbs < 2 ^ 1048576 := Nat.lt_of_lt_of_le a b
  refine Nat.le_trans (bits_natAbs (n := 1048580) ?_) (by decide)
  have p : (2 : Nat) ^ 1048580 = 2 ^ 1048576 * 16 := by rw [show 1048580 = 1048576 + 4 by rfl, Nat.pow_add]
  have q : (2 : Nat) ^ 60 ≤ 2 ^ 1048576 := Nat.pow_le_pow_right (by decide) (by decide)
  rw [p]
  generalize (2 : Nat) ^ 1048576 = N at e q
  omega
end DL

/-! own exceptions made with their arguments by name -/
namespace DC
open PySem PySem.Spec PySem.HandSPX
/-- the heap with a bare exception of the class at C, made without arguments, behind it -/
abbrev bare (h : Heap) (C : Addr) : Heap := Heap.push (Heap.push h (W.kdv_tup [])) (excO C h.objs.size)
theorem bare_kept {h : Heap} {C b : Addr} {o : Obj} (e : h.get? b = some o) : (bare h C).get? b = some o := Heap.get?_push_of_some _ (Heap.get?_push_of_some _ e)
theorem bare_last (h : Heap) (C : Addr) : (bare h C).get? (h.objs.size + 1) = some (excO C h.objs.size) := by
  show (Heap.push (Heap.push h _) _).get? _ = _
  heap_get
section
variable {w : World} {A : Around} {R : Result → Shared → Prop} {h : Heap} {g : Array GenState} {d : Drawn} {t : Nat} {os : OsState} {prog : Program}
  {nm q : Str} {C N fI : Addr} {bs bm bmB : List Value} {hd : Bool} {sn : List Str} {sub : List Value} {ab : Bool} {col : Option Bool} {dd : Option Addr} {k0 k1 k2 k3 k5 : Option Value} {B nw ini : String} {kw : List (Str × Value)}
/-- a class made by keywords alone: its `__init__` gets them, beside the bare exception -/
theorem call_kw (F : ExcBaseFacts B nw ini bmB) (same : ∀ X : String, bm.contains (.type X) = bmB.contains (.type X))
    (cls : h.get? C = some (excClassObj nm q C N bs bm hd sn sub ab col dd k0 k1 k2 k3 k5 nw))
    (look : W.Looks (model prog w) h (typeLookup (.ref C) "__init__") (some (.ref fI)))
    (bind : ∀ self, W.Looks (model prog w) h (bindSpecial (.ref fI) self) (.ref fI, [self]))
    (init : codeAny (model prog w) (A.under (.builtin "type.__call__" ⟨[.ref C], kw⟩)) (.call (.ref fI) ⟨[.ref (h.objs.size + 1)], kw⟩) (W.InitBack (h.objs.size + 1) R) ⟨bare h C, g, d, t, os⟩) :
    codeAny (model prog w) A (.call (.ref C) ⟨[], kw⟩) R ⟨h, g, d, t, os⟩ := by
  have mem : ∀ X : String, (Value.ref C :: bm).contains (.type X) = bmB.contains (.type X) := fun X => by rw [List.contains_cons, same]; rfl
  have isB : (Value.ref C :: bm).contains (.type B) = true := (mem B).trans F.hasB
  have noA : (Value.ref C :: bm).contains (.type "AttributeError") = false := (mem _).trans F.noAttr
  have noN : (Value.ref C :: bm).contains (.type "NameError") = false := (mem _).trans F.noName
  have e1 := F.noStar
  have e2 := F.ends
  have check : ∀ {M : Model} {A : Around} {E : Value → Shared → Prop} {P : Unit → Shared → Prop}, P () ⟨h, g, d, t, os⟩ → wpAny M A (checkBuiltinCall nw ⟨[.ref C], kw⟩) P E ⟨h, g, d, t, os⟩ := fun fine => by
    (unfold checkBuiltinCall; simp only [F.newKind, F.newSplit, F.newRow])
    repeat (first | refine wpAny_loadPart_at cls ?_ | (refine wpAny_isSubtype_exc cls ?_; rw [isB]) | refine wpAny_staticBase_exc cls ?_ | refine wpAny_madeBy_exc cls ?_ | simp only [bne_self_eq_false, Bool.false_eq_true, if_false] | wp_step)
    exact fine
  have lay : ∀ {A : Around} {S : Result → Shared → Prop}, S (.ok (.ret (.ref (h.objs.size + 1)))) ⟨bare h C, g, d, t, os⟩ → codeAny (model prog w) A (.builtin nw ⟨[.ref C], kw⟩) S ⟨h, g, d, t, os⟩ := fun {A S} fine => by
    apply codeAny_builtinAt F.entry
    (unfold Builtin.«BaseException.__new__»; apply wpAt_bind)
    change wpAt _ _ _ (stack >>= fun r => _) _ _ _
    apply wpAt_bind
    refine wpAt_stack fun p below => wpAt_of_wpAny ?_
    wp_walk
    (apply wpAt_of_wpAny; rw [F.owner])
    repeat (first | with_reducible refine wpAny_madeHere_exc F.canon cls ?_ | with_reducible refine wpAny_loadPart_at cls ?_ | (with_reducible refine wpAny_isSubtype_exc cls ?_; first | rw [isB] | rw [noA] | rw [noN]) | wp_step)
    change S (.ok (.ret (.ref (Heap.push h (W.kdv_tup [])).objs.size))) _
    (rw [Heap.size_push]; exact fine)
  have whole : ∀ {A : Around} {E : Value → Shared → Prop} {Q : Fin → Shared → Prop},
      codeAny (model prog w) A (.call (.ref fI) ⟨[.ref (h.objs.size + 1)], kw⟩) (fun r s => (∃ v, r = .ok (.ret v) ∧ v = .none ∧ Q (.done (.ret (.ref (h.objs.size + 1)))) s) ∨ ∃ e, r = .error e ∧ E e s) ⟨bare h C, g, d, t, os⟩ →
      wpAny (model prog w) A (Builtin.«type.__call__» ⟨[.ref C], kw⟩) Q E ⟨h, g, d, t, os⟩ := fun {A E Q} go => by
    repeat (first | with_reducible refine wpAny_loadPart_at cls ?_ | with_reducible refine wpAny_madeBy_exc cls ?_ | wp_step)
    apply codeAny_call_builtin_code (Code.quiet_builtin _ F.quiet)
    refine check (lay ?_)
    change wpAny _ _ _ Q E _
    have own : (Value.ref C :: bm).contains (.ref C) = true := by simp
    have look2 := look.keeps fun b o e => bare_kept (C := C) e
    have bind2 := (bind (.ref (h.objs.size + 1))).keeps fun b o e => bare_kept (C := C) e
    unfold isInstance
    repeat (first | with_reducible refine wpAny_loadPart_at (bare_last h C) ?_ | (with_reducible refine wpAny_isSubtype_exc (bare_kept cls) ?_; rw [own]) | wp_step)
    change wpAny _ _ (typeLookup (.ref C) "__init__") _ E _
    apply look2.at
    apply wpAny_holding
    apply wpAny_bind
    apply bind2.at
    apply wpAny_bind
    refine wpAny_call (codeAny_mono go fun r s z => ?_)
    rcases z with ⟨v, rfl, rfl, z⟩ | ⟨e, rfl, z⟩
    · first
        | (apply wpAny_pure; apply wpAny_pure; exact z)
        | (wp_walk; exact z)
    · exact z
  have a1 := tc_lookup
  have a2 := tc_bind (.ref C)
  have a3 : Shared.TypeIs ⟨h, g, d, t, os⟩ (.ref C) "type" := ⟨_, cls, rfl⟩
  apply codeAny_of_tree
  change wpAny _ _ (callAny (.ref C) ⟨[], kw⟩) _ _ _
  repeat (any_goals (first | assumption | with_reducible refine wpAny_loadPart_at cls ?_ | wp_step))
  refine ⟨rfl, codeAny_call_builtin_at (Code.quiet_builtin _ (by decide +kernel)) entry_typeCall (wpAny_check_type_call_sub cls (whole (codeAny_mono init fun r s z => ?_)))⟩
  rcases r with e | f
  · exact .inr ⟨e, rfl, z⟩
  · cases f with
    | ret v => exact .inl ⟨v, rfl, z.1, z.2⟩
    | next => exact z.elim
    | brk => exact z.elim
    | cont => exact z.elim
end
end DC
namespace DC
open PySem L2 PySem.Spec PyProof.Rows
/-- C(k = e, ..), C an own exception class with an own `__init__`, as a value -/
def tOexVK (C : Addr) (m : Nat) (sp : Sp) (ix : List Nat) (tk : TA) : TE := fun σ H Q => tk σ H fun zs H1 => zs.length = m ∧ ∀ a, H1 a = none → sp (.ref a :: kwG ix [] zs) (upd H1 a (exo a C none))
  (fun v H2 => v = .non ∧ ∃ (d : Addr) (fs : List (Str × V)), H2 a = some (exo a C (some d)) ∧ H2 d = some (exd d fs) ∧ H1 d = none ∧ Q (.ref a) H2) fun _ _ _ => False
theorem pe_oexVK {X : Cx} {CX : CXT} {x : Str} {C fI : Addr} {k : Nat} {fd : FuncData} {ps ks : List Str} {sp : Sp} {kws : List Keyword} {tk : TA} {ix : List Nat} {p pos : Pos} (T : OexC X.K C) (iC : PySem.W.findIn X.K (.ref C) "__init__" = some (some (.ref fI))) (tI : PySem.W.typeIn X.K (.ref fI) = some (.type "function"))
    (F1 : FnOk X.prog X.w X.K X.mg X.base CX k fI fd ps sp) (room : Room (k + 1) X.A) (bnd : KBn X.K fd ps 1 ks (kwG ix) (kwG ix)) (hx : Passes CX X (fun _ _ _ => False)) (gl : Gl X x) (gC : X.mg x = some (.ref C)) (more : PK X kws tk)
    (all_ : (backToKw pos (keywordEach kws X.env)).all (·.1.isSome) = true := by rfl) (named : (backToKw pos (keywordEach kws X.env)).filterMap (·.1) = ks := by rfl) (nodbg : (x == ("__debug__" : Str)) = false := by decide)
    (pln : (backToKw pos (keywordEach kws X.env)).any (·.1.isNone) = false := by rfl) :
    PE X (.Call (.Name x p) [] kws pos) (tOexVK C ks.length sp ix tk) := by
  refine ⟨fun pins s σ H Q J wish => ?_⟩
  obtain ⟨_, _, _, _, bm, _, _, _, _, _, _, _, _, _, _, hC, hbm⟩ := T.cls
  refine wpAny_Call_Name_kw (ld_glob J gl gC (PySem.W.callWith_KW0 (h₀ := X.base) J.ok.mod.kin T.kC all_ (thn (more.run pos pins s σ H _ J wish) fun ws s1 ⟨zs, H1, J1, relk, l2, w1⟩ => ⟨J1.kIn, ?_⟩) pln) nodbg)
  rw [named]
  show wpAny (model X.prog X.w) X.A (call (.ref C) [] (List.zip ks ws)) (EP X pins σ Q) X.xe s1
  obtain ⟨hp, g, dr, tk', os⟩ := s1
  have free : H1 (hp.objs.size + 1) = none := J1.hok.fresh (Nat.le_succ _)
  have w2 := w1 (hp.objs.size + 1) free
  have J2 : Inv X pins σ (upd H1 (hp.objs.size + 1) (exo (hp.objs.size + 1) C none)) ⟨(hp.push (PySem.W.kdv_tup [])).push (PySem.HandSPX.excO C hp.objs.size), g, dr, tk', os⟩ :=
    J1.laid (t' := tk') (fun b o kept => Heap.get?_push_of_some _ (Heap.get?_push_of_some _ kept)) (Nat.le_succ _) (exo_ok (by heap_get))
  have r1 : Vals [V.ref (hp.objs.size + 1)] [Value.ref (hp.objs.size + 1)] := .cons rfl .nil
  refine wpAny_call (DC.call_kw F.excBase_ValueError (fun Y => PySem.HandSPX.refsVE_contains Y bm hbm) (J1.kIn _ _ hC) (PySem.W.looks_findIn J1.kIn iC) (fun self => PySem.W.bind_fn J1.kIn self tI)
    (codeAny_mono (F1.run _ X.stack _ _ ⟨[Value.ref (hp.objs.size + 1)], ks.zip ws⟩ (kwG ix [Value.ref (hp.objs.size + 1)] ws) _ _ (fun _ _ _ => False) (room.make C [] (ks.zip ws)) (J2.env0.make C [] (ks.zip ws)) (bnd.to _ [Value.ref (hp.objs.size + 1)] ws J2.kIn rfl (relk.length.symm.trans l2)) (bnd.rel r1 relk) w2) fun r s' got => ?_))
  cases r with
  | error er => exact hx pins σ _ _ er s' J2 got
  | ok fl =>
    cases fl with
    | ret u =>
      obtain ⟨z, H2, J3, rz, ez, d, fs, a1, a2, a3, w3⟩ := J2.after got
      subst ez
      exact ⟨rz, .ref (hp.objs.size + 1), H2, J3, rfl, w3⟩
    | next => exact got.elim
    | brk => exact got.elim
    | cont => exact got.elim
end DC
namespace DL
open PySem L2
section
variable {G : Gx} {ρ : Env} {P : D → Env → Prop} {tk : TA} {CA : Addr} {c f g : Str} {m : Nat} {ix : List Nat}
theorem w_oexVK1 (h : WA G tk ρ fun ds ρ1 => ds.length = m ∧ ∃ y, DC.kwG ix [] ds = [y] ∧ CA = clsAt G.K c ∧ OexC G.K (clsAt G.K c) ∧ NoAttr G.K (clsAt G.K c) f ∧ P (.exv c [(f, y)]) ρ1) : W G (DC.tOexVK CA m (spIni G.K [f]) ix tk) ρ P := fun w σ Q o e q =>
  h w σ _ o e fun vs w1 ds ρ1 ⟨lm, y, ed, eC, oe, na, p⟩ l1 o1 r1 => by
    subst eC
    have rk : RepL G.K w1.S (DC.kwG ix [] vs) (DC.kwG ix [] ds) := RepL.nil.app (r1.picked ix)
    rw [ed] at rk
    obtain ⟨v, ev, rv⟩ := rk.one
    refine ⟨by rw [r1.len]; exact lm, fun a ha => ⟨a, _, v, by rw [ev], oe, na, upd_same, fun dx hdx ne => ⟨rfl, dx, [(f, v)], upd_same, by rw [upd_ne ne]; exact upd_same, ?_, ?_⟩⟩⟩
    · rw [upd_ne ne] at hdx
      exact hdx
    · rw [upd_ne ne] at hdx
      obtain ⟨w2, l2, eH, o2, sa, sd⟩ := exv_new (C := clsAt G.K c) (xs := [(f, v)]) o1 ha hdx ne
      rw [upd_over, ← eH]
      exact q _ w2 _ ρ1 p (l1.trans l2.le) o2 (.exv sa sd (.cons (rv.mono l2.s) .nil))
theorem w_oexVK2 (h : WA G tk ρ fun ds ρ1 => ds.length = m ∧ ∃ y z, DC.kwG ix [] ds = [y, z] ∧ CA = clsAt G.K c ∧ OexC G.K (clsAt G.K c) ∧ NoAttr G.K (clsAt G.K c) f ∧ NoAttr G.K (clsAt G.K c) g ∧ P (.exv c [(g, z), (f, y)]) ρ1) : W G (DC.tOexVK CA m (spIni G.K [f, g]) ix tk) ρ P := fun w σ Q o e q =>
  h w σ _ o e fun vs w1 ds ρ1 ⟨lm, y, z, ed, eC, oe, na, na2, p⟩ l1 o1 r1 => by
    subst eC
    have rk : RepL G.K w1.S (DC.kwG ix [] vs) (DC.kwG ix [] ds) := RepL.nil.app (r1.picked ix)
    rw [ed] at rk
    obtain ⟨v, u, ev, rv, ru⟩ := rk.two
    refine ⟨by rw [r1.len]; exact lm, fun a ha => ⟨a, _, v, u, by rw [ev], oe, na, na2, upd_same, fun dx hdx ne => ⟨rfl, dx, [(g, u), (f, v)], by rw [upd_ne (Ne.symm ne)]; exact upd_same, upd_same, ?_, ?_⟩⟩⟩
    · rw [upd_ne ne] at hdx
      exact hdx
    · rw [upd_ne ne] at hdx
      obtain ⟨w2, l2, eH, o2, sa, sd⟩ := exv_new (C := clsAt G.K c) (xs := [(g, u), (f, v)]) o1 ha hdx ne
      rw [upd_over2 ne, ← eH]
      exact q _ w2 _ ρ1 p (l1.trans l2.le) o2 (.exv sa sd (.cons (ru.mono l2.s) (.cons (rv.mono l2.s) .nil)))
end
section
variable {K : PySem.W.Frag}
theorem inj_ofNd {f : Str → Addr} : ∀ {l : List Str}, (l.map f).Nodup → ∀ {a b : Str}, a ∈ l → b ∈ l → f a = f b → a = b
  | x :: l, nd, a, b, ha, hb, e => by
    obtain ⟨n1, n2⟩ := (List.nodup_cons.mp nd)
    cases List.mem_cons.mp ha with
    | inl h1 =>
      cases List.mem_cons.mp hb with
      | inl h2 => rw [h1, h2]
      | inr h2 =>
        rw [h1] at e
        exact absurd (e ▸ List.mem_map_of_mem h2) n1
    | inr h1 =>
      cases List.mem_cons.mp hb with
      | inl h2 =>
        rw [h2] at e
        exact absurd (e ▸ List.mem_map_of_mem h1) n1
      | inr h2 => exact inj_ofNd n2 h1 h2 e
theorem isMroB_ok {cs : List Str} (h : isMroB K cs = true) : ∀ c ∈ cs, L2.ExcC K (He.ga K c) ∧ PySem.W.kitOne K (.ref (He.ga K c)) (.ref (He.ga K "MarketError")) = some true ∧ PySem.W.kitOne K (.ref (He.ga K c)) (.type "ValueError") = some true ∧ ∀ b ∈ cs, PySem.W.kitOne K (.ref (He.ga K c)) (.ref (He.ga K b)) = some (decide (c = b)) := by
  obtain ⟨h1, h⟩ := (Bool.and_eq_true_iff.mp h)
  obtain ⟨hm, h⟩ := Bool.and_eq_true_iff.mp h
  obtain ⟨nd, hv⟩ := Bool.and_eq_true_iff.mp h
  have nd := of_decide_eq_true nd
  obtain ⟨nm, nd⟩ := List.nodup_cons.mp nd
  have each : ∀ c ∈ cs, isXB K (He.ga K c) = true ∧ (∃ cd, PySem.W.clsIn K (He.ga K c) = some cd ∧ cd.mro = [.ref (He.ga K c), .ref (He.ga K "MarketError"), .type "ValueError", .type "Exception", .type "BaseException", .type "object"]) ∧ ((PySem.W.clsIn K (He.ga K c)).isSome && PySem.W.typeIn K (.ref (He.ga K c)) == some (.type "type")) = true := fun c hc => by
    obtain ⟨a, b⟩ := Bool.and_eq_true_iff.mp (List.all_eq_true.mp h1 c hc)
    obtain ⟨b, d⟩ := Bool.and_eq_true_iff.mp b
    split at b
    · rename_i cd e
      refine ⟨a, ⟨cd, e, beq_iff_eq.mp b⟩, ?_⟩
      rw [e, d]
      rfl
    · cases b
  intro c hc
  obtain ⟨x, ⟨cd, e, mro⟩, t⟩ := each c hc
  have ask : ∀ v, PySem.W.mroIn K (He.ga K c) v = some (([.ref (He.ga K c), .ref (He.ga K "MarketError"), .type "ValueError", .type "Exception", .type "BaseException", .type "object"] : List Value).contains v) := fun v => by
    unfold PySem.W.mroIn
    rw [e, Option.bind_some, mro]
    rfl
  have ne : ∀ {b : Str}, b ∈ cs → He.ga K b ≠ He.ga K "MarketError" := fun hb z => nm (z ▸ List.mem_map_of_mem hb)
  refine ⟨isXB_ok x, ?_, ?_, fun b hb => ?_⟩
  · unfold PySem.W.kitOne
    rw [if_neg (by simpa using ne hc)]
    unfold PySem.W.kitCls
    show (if _ then _ else _) = _
    rw [if_pos hm]
    show PySem.W.mroIn K (He.ga K c) _ = _
    rw [ask]
    simp
  · unfold PySem.W.kitOne
    rw [if_neg (by simp)]
    unfold PySem.W.kitCls
    show (if _ then _ else _) = _
    rw [if_pos hv]
    show PySem.W.mroIn K (He.ga K c) _ = _
    rw [ask]
    simp
  · by_cases z : He.ga K c = He.ga K b
    · have cb : c = b := by
        exact inj_ofNd nd hc hb z
      subst cb
      unfold PySem.W.kitOne
      rw [if_pos (by simp), decide_eq_true rfl]
    · have cb : c ≠ b := fun q => z (by rw [q])
      unfold PySem.W.kitOne
      rw [if_neg (by simpa using z)]
      unfold PySem.W.kitCls
      show (if _ then _ else _) = _
      rw [if_pos (each b hb).2.2]
      show PySem.W.mroIn K (He.ga K c) _ = _
      rw [ask, decide_eq_false cb]
      have z2 : He.ga K b ≠ He.ga K c := fun q => z q.symm
      have z3 := ne hb
      simp [z2, z3]
end
end DL

namespace DL
open PySem PySem.W PySem.Calls PySem.Spec PyProof.Rows HandSHeadRun
/-! ### a head's run, each step asked once -/
section
variable (n0 : Nat) (ann : Option Value) (st : SharedT → Thread → Option (SharedT × Thread))
end
section
variable {tb : String → Option Builtin} {p : Program} {w : World} {n0 : Nat} {ann : Option Value}
end
end DL

namespace K48
open PySem PySem.Spec PyProof.Rows L2 DL
theorem ob_eq (s : PySem.W.SharedT) : ob s = hk.obs s.abs := obsU_eq (HandSHeadRun.getT_eq s)
end K48

namespace K48
open PySem PySem.Spec PyProof.Rows L2 DL
structure Tx (K : PySem.W.Frag) (mg : Str → Option Value) : Prop where
  g__law_source : mg "_law_source" = some (.ref (He.ga K "_law_source"))
  g__law_draw : mg "_law_draw" = some (.ref (He.ga K "_law_draw"))
  g__law_thing : mg "_law_thing" = some (.ref (He.ga K "_law_thing"))
  g__law_by_place : mg "_law_by_place" = some (.ref (He.ga K "_law_by_place"))
  g__law_by_name : mg "_law_by_name" = some (.ref (He.ga K "_law_by_name"))
  g__law_others : mg "_law_others" = some (.ref (He.ga K "_law_others"))
  g__law_others_by_name : mg "_law_others_by_name" = some (.ref (He.ga K "_law_others_by_name"))
  g__law_shared : mg "_law_shared" = some (.ref (He.ga K "_law_shared"))
  g__law_first_kinds : mg "_law_first_kinds" = some (.ref (He.ga K "_law_first_kinds"))
  g__law_last_kinds : mg "_law_last_kinds" = some (.ref (He.ga K "_law_last_kinds"))
  g__law_is : mg "_law_is" = some (.ref (He.ga K "_law_is"))
  g_law : mg "law" = some (.ref (He.ga K "law"))
  g_MarketError : mg "MarketError" = some (.ref (He.ga K "MarketError"))
  g_BadDay : mg "BadDay" = some (.ref (He.ga K "BadDay"))
  g_BadCause : mg "BadCause" = some (.ref (He.ga K "BadCause"))
  g_BadPostings : mg "BadPostings" = some (.ref (He.ga K "BadPostings"))
  g_BadAccount : mg "BadAccount" = some (.ref (He.ga K "BadAccount"))
  g_BadAmount : mg "BadAmount" = some (.ref (He.ga K "BadAmount"))
  g_BadUnit : mg "BadUnit" = some (.ref (He.ga K "BadUnit"))
  g_BadOwner : mg "BadOwner" = some (.ref (He.ga K "BadOwner"))
  g_BadName : mg "BadName" = some (.ref (He.ga K "BadName"))
  g_BadPrice : mg "BadPrice" = some (.ref (He.ga K "BadPrice"))
  g_BadRow : mg "BadRow" = some (.ref (He.ga K "BadRow"))
  g_BadStatement : mg "BadStatement" = some (.ref (He.ga K "BadStatement"))
  g_NotCarried : mg "NotCarried" = some (.ref (He.ga K "NotCarried"))
  g_NotWhole : mg "NotWhole" = some (.ref (He.ga K "NotWhole"))
  g_Unbalanced : mg "Unbalanced" = some (.ref (He.ga K "Unbalanced"))
  g_BadText : mg "BadText" = some (.ref (He.ga K "BadText"))
  g_BadLine : mg "BadLine" = some (.ref (He.ga K "BadLine"))
  g_NothingToUndo : mg "NothingToUndo" = some (.ref (He.ga K "NothingToUndo"))
  g_NothingToRedo : mg "NothingToRedo" = some (.ref (He.ga K "NothingToRedo"))
  g_BadNumber : mg "BadNumber" = some (.ref (He.ga K "BadNumber"))
  g_BadLegs : mg "BadLegs" = some (.ref (He.ga K "BadLegs"))
  g_BadDues : mg "BadDues" = some (.ref (He.ga K "BadDues"))
  g_BadHoldings : mg "BadHoldings" = some (.ref (He.ga K "BadHoldings"))
  g_BadQueues : mg "BadQueues" = some (.ref (He.ga K "BadQueues"))
  g_BadOwners : mg "BadOwners" = some (.ref (He.ga K "BadOwners"))
  g_NoDue : mg "NoDue" = some (.ref (He.ga K "NoDue"))
  g_Duplicate : mg "Duplicate" = some (.ref (He.ga K "Duplicate"))
  g_NotTogether : mg "NotTogether" = some (.ref (He.ga K "NotTogether"))
  g_Settles : mg "Settles" = some (.ref (He.ga K "Settles"))
  g_TooMany : mg "TooMany" = some (.ref (He.ga K "TooMany"))
  g_BadOrder : mg "BadOrder" = some (.ref (He.ga K "BadOrder"))
  g_BadSide : mg "BadSide" = some (.ref (He.ga K "BadSide"))
  g_NameTaken : mg "NameTaken" = some (.ref (He.ga K "NameTaken"))
  g_UnknownOrder : mg "UnknownOrder" = some (.ref (He.ga K "UnknownOrder"))
  g_Crossing : mg "Crossing" = some (.ref (He.ga K "Crossing"))
  g_BadBid : mg "BadBid" = some (.ref (He.ga K "BadBid"))
  g_TooManyBids : mg "TooManyBids" = some (.ref (He.ga K "TooManyBids"))
  g_BidTaken : mg "BidTaken" = some (.ref (He.ga K "BidTaken"))
  g_BothSides : mg "BothSides" = some (.ref (He.ga K "BothSides"))
  g_NoClearing : mg "NoClearing" = some (.ref (He.ga K "NoClearing"))
  g_BadWidth : mg "BadWidth" = some (.ref (He.ga K "BadWidth"))
  g_UnknownBid : mg "UnknownBid" = some (.ref (He.ga K "UnknownBid"))
  g_Cleared : mg "Cleared" = some (.ref (He.ga K "Cleared"))
  g_BadPosition : mg "BadPosition" = some (.ref (He.ga K "BadPosition"))
  g_BadPrices : mg "BadPrices" = some (.ref (He.ga K "BadPrices"))
  g_UnknownUnit : mg "UnknownUnit" = some (.ref (He.ga K "UnknownUnit"))
  g_BadMove : mg "BadMove" = some (.ref (He.ga K "BadMove"))
  g_BadCount : mg "BadCount" = some (.ref (He.ga K "BadCount"))
  g_BadStanding : mg "BadStanding" = some (.ref (He.ga K "BadStanding"))
  g_BadClosing : mg "BadClosing" = some (.ref (He.ga K "BadClosing"))
  g_BadRules : mg "BadRules" = some (.ref (He.ga K "BadRules"))
  g_BadFact : mg "BadFact" = some (.ref (He.ga K "BadFact"))
  g_BadFacts : mg "BadFacts" = some (.ref (He.ga K "BadFacts"))
  g_NoSlip : mg "NoSlip" = some (.ref (He.ga K "NoSlip"))
  g_Filled : mg "Filled" = some (.ref (He.ga K "Filled"))
  g_NoDeed : mg "NoDeed" = some (.ref (He.ga K "NoDeed"))
  g_DayClosed : mg "DayClosed" = some (.ref (He.ga K "DayClosed"))
  g_NoTrade : mg "NoTrade" = some (.ref (He.ga K "NoTrade"))
  g_NotKnown : mg "NotKnown" = some (.ref (He.ga K "NotKnown"))
  g_BadQuestion : mg "BadQuestion" = some (.ref (He.ga K "BadQuestion"))
  g_ManySlips : mg "ManySlips" = some (.ref (He.ga K "ManySlips"))
  g_BadLots : mg "BadLots" = some (.ref (He.ga K "BadLots"))
  g_BadCost : mg "BadCost" = some (.ref (He.ga K "BadCost"))
  g_BadWay : mg "BadWay" = some (.ref (He.ga K "BadWay"))
  g_NotThere : mg "NotThere" = some (.ref (He.ga K "NotThere"))
  g_BadEvent : mg "BadEvent" = some (.ref (He.ga K "BadEvent"))
  g_BadIndex : mg "BadIndex" = some (.ref (He.ga K "BadIndex"))
  g_BadPool : mg "BadPool" = some (.ref (He.ga K "BadPool"))
  g_UnlikeUnits : mg "UnlikeUnits" = some (.ref (He.ga K "UnlikeUnits"))
  g_NoUnit : mg "NoUnit" = some (.ref (He.ga K "NoUnit"))
  g_NoShares : mg "NoShares" = some (.ref (He.ga K "NoShares"))
  g_BadDebt : mg "BadDebt" = some (.ref (He.ga K "BadDebt"))
  g_NoDebtor : mg "NoDebtor" = some (.ref (He.ga K "NoDebtor"))
  g_BadViewer : mg "BadViewer" = some (.ref (He.ga K "BadViewer"))
  g_Hidden : mg "Hidden" = some (.ref (He.ga K "Hidden"))
  n_len : mg "len" = none
  n_isinstance : mg "isinstance" = none
  n_repr : mg "repr" = none
  n_range : mg "range" = none
  n_int : mg "int" = none
  n_ValueError : mg "ValueError" = none
  no_BadDay_given : NoAttr K (He.ga K "BadDay") "given"
  no_BadCause_given : NoAttr K (He.ga K "BadCause") "given"
  no_BadPostings_given : NoAttr K (He.ga K "BadPostings") "given"
  no_BadAccount_given : NoAttr K (He.ga K "BadAccount") "given"
  no_BadAmount_given : NoAttr K (He.ga K "BadAmount") "given"
  no_BadUnit_given : NoAttr K (He.ga K "BadUnit") "given"
  no_BadOwner_given : NoAttr K (He.ga K "BadOwner") "given"
  no_BadName_given : NoAttr K (He.ga K "BadName") "given"
  no_BadPrice_given : NoAttr K (He.ga K "BadPrice") "given"
  no_BadRow_given : NoAttr K (He.ga K "BadRow") "given"
  no_BadStatement_given : NoAttr K (He.ga K "BadStatement") "given"
  no_NotCarried_given : NoAttr K (He.ga K "NotCarried") "given"
  no_NotWhole_given : NoAttr K (He.ga K "NotWhole") "given"
  no_Unbalanced_given : NoAttr K (He.ga K "Unbalanced") "given"
  no_Unbalanced_off : NoAttr K (He.ga K "Unbalanced") "off"
  e_BadText : PySem.W.excIn K (He.ga K "BadText") He.veBase "ValueError.__new__" = true ∧ PySem.W.keepIn K (.ref (He.ga K "BadText")) = true ∧ PySem.W.subIn K (.ref (He.ga K "BadText")) (.type "BaseException") = some true ∧ PySem.W.typeIn K (.ref (He.ga K "BadText")) = some (.type "type")
  no_BadLine_line : NoAttr K (He.ga K "BadLine") "line"
  e_NothingToUndo : PySem.W.excIn K (He.ga K "NothingToUndo") He.veBase "ValueError.__new__" = true ∧ PySem.W.keepIn K (.ref (He.ga K "NothingToUndo")) = true ∧ PySem.W.subIn K (.ref (He.ga K "NothingToUndo")) (.type "BaseException") = some true ∧ PySem.W.typeIn K (.ref (He.ga K "NothingToUndo")) = some (.type "type")
  e_NothingToRedo : PySem.W.excIn K (He.ga K "NothingToRedo") He.veBase "ValueError.__new__" = true ∧ PySem.W.keepIn K (.ref (He.ga K "NothingToRedo")) = true ∧ PySem.W.subIn K (.ref (He.ga K "NothingToRedo")) (.type "BaseException") = some true ∧ PySem.W.typeIn K (.ref (He.ga K "NothingToRedo")) = some (.type "type")
  no_BadNumber_given : NoAttr K (He.ga K "BadNumber") "given"
  no_BadLegs_given : NoAttr K (He.ga K "BadLegs") "given"
  no_BadDues_given : NoAttr K (He.ga K "BadDues") "given"
  no_BadHoldings_given : NoAttr K (He.ga K "BadHoldings") "given"
  no_BadQueues_given : NoAttr K (He.ga K "BadQueues") "given"
  no_BadOwners_given : NoAttr K (He.ga K "BadOwners") "given"
  no_NoDue_given : NoAttr K (He.ga K "NoDue") "given"
  no_Duplicate_given : NoAttr K (He.ga K "Duplicate") "given"
  no_NotTogether_given : NoAttr K (He.ga K "NotTogether") "given"
  no_Settles_given : NoAttr K (He.ga K "Settles") "given"
  no_TooMany_count : NoAttr K (He.ga K "TooMany") "count"
  no_BadOrder_field : NoAttr K (He.ga K "BadOrder") "field"
  no_BadOrder_value : NoAttr K (He.ga K "BadOrder") "value"
  no_BadSide_given : NoAttr K (He.ga K "BadSide") "given"
  no_NameTaken_name : NoAttr K (He.ga K "NameTaken") "name"
  no_UnknownOrder_name : NoAttr K (He.ga K "UnknownOrder") "name"
  no_Crossing_name : NoAttr K (He.ga K "Crossing") "name"
  no_BadBid_given : NoAttr K (He.ga K "BadBid") "given"
  no_TooManyBids_given : NoAttr K (He.ga K "TooManyBids") "given"
  no_BidTaken_given : NoAttr K (He.ga K "BidTaken") "given"
  no_BothSides_given : NoAttr K (He.ga K "BothSides") "given"
  e_NoClearing : PySem.W.excIn K (He.ga K "NoClearing") He.veBase "ValueError.__new__" = true ∧ PySem.W.keepIn K (.ref (He.ga K "NoClearing")) = true ∧ PySem.W.subIn K (.ref (He.ga K "NoClearing")) (.type "BaseException") = some true ∧ PySem.W.typeIn K (.ref (He.ga K "NoClearing")) = some (.type "type")
  no_BadWidth_given : NoAttr K (He.ga K "BadWidth") "given"
  no_UnknownBid_given : NoAttr K (He.ga K "UnknownBid") "given"
  e_Cleared : PySem.W.excIn K (He.ga K "Cleared") He.veBase "ValueError.__new__" = true ∧ PySem.W.keepIn K (.ref (He.ga K "Cleared")) = true ∧ PySem.W.subIn K (.ref (He.ga K "Cleared")) (.type "BaseException") = some true ∧ PySem.W.typeIn K (.ref (He.ga K "Cleared")) = some (.type "type")
  no_BadPosition_given : NoAttr K (He.ga K "BadPosition") "given"
  no_BadPrices_given : NoAttr K (He.ga K "BadPrices") "given"
  no_UnknownUnit_given : NoAttr K (He.ga K "UnknownUnit") "given"
  no_BadMove_given : NoAttr K (He.ga K "BadMove") "given"
  no_BadCount_count : NoAttr K (He.ga K "BadCount") "count"
  no_BadStanding_given : NoAttr K (He.ga K "BadStanding") "given"
  no_BadClosing_given : NoAttr K (He.ga K "BadClosing") "given"
  no_BadRules_given : NoAttr K (He.ga K "BadRules") "given"
  no_BadFact_given : NoAttr K (He.ga K "BadFact") "given"
  no_BadFacts_given : NoAttr K (He.ga K "BadFacts") "given"
  no_NoSlip_given : NoAttr K (He.ga K "NoSlip") "given"
  no_Filled_given : NoAttr K (He.ga K "Filled") "given"
  no_NoDeed_given : NoAttr K (He.ga K "NoDeed") "given"
  no_DayClosed_given : NoAttr K (He.ga K "DayClosed") "given"
  no_NoTrade_given : NoAttr K (He.ga K "NoTrade") "given"
  no_NotKnown_given : NoAttr K (He.ga K "NotKnown") "given"
  no_BadQuestion_given : NoAttr K (He.ga K "BadQuestion") "given"
  no_ManySlips_given : NoAttr K (He.ga K "ManySlips") "given"
  no_BadLots_given : NoAttr K (He.ga K "BadLots") "given"
  no_BadCost_given : NoAttr K (He.ga K "BadCost") "given"
  no_BadWay_given : NoAttr K (He.ga K "BadWay") "given"
  no_NotThere_given : NoAttr K (He.ga K "NotThere") "given"
  no_BadEvent_index : NoAttr K (He.ga K "BadEvent") "index"
  no_BadIndex_given : NoAttr K (He.ga K "BadIndex") "given"
  no_BadPool_field : NoAttr K (He.ga K "BadPool") "field"
  no_BadPool_value : NoAttr K (He.ga K "BadPool") "value"
  no_UnlikeUnits_one : NoAttr K (He.ga K "UnlikeUnits") "one"
  no_UnlikeUnits_other : NoAttr K (He.ga K "UnlikeUnits") "other"
  e_NoUnit : PySem.W.excIn K (He.ga K "NoUnit") He.veBase "ValueError.__new__" = true ∧ PySem.W.keepIn K (.ref (He.ga K "NoUnit")) = true ∧ PySem.W.subIn K (.ref (He.ga K "NoUnit")) (.type "BaseException") = some true ∧ PySem.W.typeIn K (.ref (He.ga K "NoUnit")) = some (.type "type")
  e_NoShares : PySem.W.excIn K (He.ga K "NoShares") He.veBase "ValueError.__new__" = true ∧ PySem.W.keepIn K (.ref (He.ga K "NoShares")) = true ∧ PySem.W.subIn K (.ref (He.ga K "NoShares")) (.type "BaseException") = some true ∧ PySem.W.typeIn K (.ref (He.ga K "NoShares")) = some (.type "type")
  no_BadDebt_given : NoAttr K (He.ga K "BadDebt") "given"
  no_NoDebtor_given : NoAttr K (He.ga K "NoDebtor") "given"
  no_BadViewer_given : NoAttr K (He.ga K "BadViewer") "given"
  no_Hidden_given : NoAttr K (He.ga K "Hidden") "given"
  o_BadDay : OexC K (He.ga K "BadDay")
  i_BadDay : PySem.W.findIn K (.ref (He.ga K "BadDay")) "__init__" = some (some (.ref (He.ma K (He.ga K "BadDay") "__init__")))
  t_BadDay : PySem.W.typeIn K (.ref (He.ma K (He.ga K "BadDay") "__init__")) = some (.type "function")
  x_BadDay : XfC K (He.ga K "BadDay")
  o_BadCause : OexC K (He.ga K "BadCause")
  i_BadCause : PySem.W.findIn K (.ref (He.ga K "BadCause")) "__init__" = some (some (.ref (He.ma K (He.ga K "BadCause") "__init__")))
  t_BadCause : PySem.W.typeIn K (.ref (He.ma K (He.ga K "BadCause") "__init__")) = some (.type "function")
  x_BadCause : XfC K (He.ga K "BadCause")
  o_BadPostings : OexC K (He.ga K "BadPostings")
  i_BadPostings : PySem.W.findIn K (.ref (He.ga K "BadPostings")) "__init__" = some (some (.ref (He.ma K (He.ga K "BadPostings") "__init__")))
  t_BadPostings : PySem.W.typeIn K (.ref (He.ma K (He.ga K "BadPostings") "__init__")) = some (.type "function")
  x_BadPostings : XfC K (He.ga K "BadPostings")
  o_BadAccount : OexC K (He.ga K "BadAccount")
  i_BadAccount : PySem.W.findIn K (.ref (He.ga K "BadAccount")) "__init__" = some (some (.ref (He.ma K (He.ga K "BadAccount") "__init__")))
  t_BadAccount : PySem.W.typeIn K (.ref (He.ma K (He.ga K "BadAccount") "__init__")) = some (.type "function")
  x_BadAccount : XfC K (He.ga K "BadAccount")
  o_BadAmount : OexC K (He.ga K "BadAmount")
  i_BadAmount : PySem.W.findIn K (.ref (He.ga K "BadAmount")) "__init__" = some (some (.ref (He.ma K (He.ga K "BadAmount") "__init__")))
  t_BadAmount : PySem.W.typeIn K (.ref (He.ma K (He.ga K "BadAmount") "__init__")) = some (.type "function")
  x_BadAmount : XfC K (He.ga K "BadAmount")
  o_BadUnit : OexC K (He.ga K "BadUnit")
  i_BadUnit : PySem.W.findIn K (.ref (He.ga K "BadUnit")) "__init__" = some (some (.ref (He.ma K (He.ga K "BadUnit") "__init__")))
  t_BadUnit : PySem.W.typeIn K (.ref (He.ma K (He.ga K "BadUnit") "__init__")) = some (.type "function")
  x_BadUnit : XfC K (He.ga K "BadUnit")
  o_BadOwner : OexC K (He.ga K "BadOwner")
  i_BadOwner : PySem.W.findIn K (.ref (He.ga K "BadOwner")) "__init__" = some (some (.ref (He.ma K (He.ga K "BadOwner") "__init__")))
  t_BadOwner : PySem.W.typeIn K (.ref (He.ma K (He.ga K "BadOwner") "__init__")) = some (.type "function")
  x_BadOwner : XfC K (He.ga K "BadOwner")
  o_BadName : OexC K (He.ga K "BadName")
  i_BadName : PySem.W.findIn K (.ref (He.ga K "BadName")) "__init__" = some (some (.ref (He.ma K (He.ga K "BadName") "__init__")))
  t_BadName : PySem.W.typeIn K (.ref (He.ma K (He.ga K "BadName") "__init__")) = some (.type "function")
  x_BadName : XfC K (He.ga K "BadName")
  o_BadPrice : OexC K (He.ga K "BadPrice")
  i_BadPrice : PySem.W.findIn K (.ref (He.ga K "BadPrice")) "__init__" = some (some (.ref (He.ma K (He.ga K "BadPrice") "__init__")))
  t_BadPrice : PySem.W.typeIn K (.ref (He.ma K (He.ga K "BadPrice") "__init__")) = some (.type "function")
  x_BadPrice : XfC K (He.ga K "BadPrice")
  o_BadRow : OexC K (He.ga K "BadRow")
  i_BadRow : PySem.W.findIn K (.ref (He.ga K "BadRow")) "__init__" = some (some (.ref (He.ma K (He.ga K "BadRow") "__init__")))
  t_BadRow : PySem.W.typeIn K (.ref (He.ma K (He.ga K "BadRow") "__init__")) = some (.type "function")
  x_BadRow : XfC K (He.ga K "BadRow")
  o_BadStatement : OexC K (He.ga K "BadStatement")
  i_BadStatement : PySem.W.findIn K (.ref (He.ga K "BadStatement")) "__init__" = some (some (.ref (He.ma K (He.ga K "BadStatement") "__init__")))
  t_BadStatement : PySem.W.typeIn K (.ref (He.ma K (He.ga K "BadStatement") "__init__")) = some (.type "function")
  x_BadStatement : XfC K (He.ga K "BadStatement")
  o_NotCarried : OexC K (He.ga K "NotCarried")
  i_NotCarried : PySem.W.findIn K (.ref (He.ga K "NotCarried")) "__init__" = some (some (.ref (He.ma K (He.ga K "NotCarried") "__init__")))
  t_NotCarried : PySem.W.typeIn K (.ref (He.ma K (He.ga K "NotCarried") "__init__")) = some (.type "function")
  x_NotCarried : XfC K (He.ga K "NotCarried")
  o_NotWhole : OexC K (He.ga K "NotWhole")
  i_NotWhole : PySem.W.findIn K (.ref (He.ga K "NotWhole")) "__init__" = some (some (.ref (He.ma K (He.ga K "NotWhole") "__init__")))
  t_NotWhole : PySem.W.typeIn K (.ref (He.ma K (He.ga K "NotWhole") "__init__")) = some (.type "function")
  x_NotWhole : XfC K (He.ga K "NotWhole")
  o_Unbalanced : OexC K (He.ga K "Unbalanced")
  i_Unbalanced : PySem.W.findIn K (.ref (He.ga K "Unbalanced")) "__init__" = some (some (.ref (He.ma K (He.ga K "Unbalanced") "__init__")))
  t_Unbalanced : PySem.W.typeIn K (.ref (He.ma K (He.ga K "Unbalanced") "__init__")) = some (.type "function")
  x_Unbalanced : XfC K (He.ga K "Unbalanced")
  o_BadLine : OexC K (He.ga K "BadLine")
  i_BadLine : PySem.W.findIn K (.ref (He.ga K "BadLine")) "__init__" = some (some (.ref (He.ma K (He.ga K "BadLine") "__init__")))
  t_BadLine : PySem.W.typeIn K (.ref (He.ma K (He.ga K "BadLine") "__init__")) = some (.type "function")
  x_BadLine : XfC K (He.ga K "BadLine")
  o_BadNumber : OexC K (He.ga K "BadNumber")
  i_BadNumber : PySem.W.findIn K (.ref (He.ga K "BadNumber")) "__init__" = some (some (.ref (He.ma K (He.ga K "BadNumber") "__init__")))
  t_BadNumber : PySem.W.typeIn K (.ref (He.ma K (He.ga K "BadNumber") "__init__")) = some (.type "function")
  x_BadNumber : XfC K (He.ga K "BadNumber")
  o_BadLegs : OexC K (He.ga K "BadLegs")
  i_BadLegs : PySem.W.findIn K (.ref (He.ga K "BadLegs")) "__init__" = some (some (.ref (He.ma K (He.ga K "BadLegs") "__init__")))
  t_BadLegs : PySem.W.typeIn K (.ref (He.ma K (He.ga K "BadLegs") "__init__")) = some (.type "function")
  x_BadLegs : XfC K (He.ga K "BadLegs")
  o_BadDues : OexC K (He.ga K "BadDues")
  i_BadDues : PySem.W.findIn K (.ref (He.ga K "BadDues")) "__init__" = some (some (.ref (He.ma K (He.ga K "BadDues") "__init__")))
  t_BadDues : PySem.W.typeIn K (.ref (He.ma K (He.ga K "BadDues") "__init__")) = some (.type "function")
  x_BadDues : XfC K (He.ga K "BadDues")
  o_BadHoldings : OexC K (He.ga K "BadHoldings")
  i_BadHoldings : PySem.W.findIn K (.ref (He.ga K "BadHoldings")) "__init__" = some (some (.ref (He.ma K (He.ga K "BadHoldings") "__init__")))
  t_BadHoldings : PySem.W.typeIn K (.ref (He.ma K (He.ga K "BadHoldings") "__init__")) = some (.type "function")
  x_BadHoldings : XfC K (He.ga K "BadHoldings")
  o_BadQueues : OexC K (He.ga K "BadQueues")
  i_BadQueues : PySem.W.findIn K (.ref (He.ga K "BadQueues")) "__init__" = some (some (.ref (He.ma K (He.ga K "BadQueues") "__init__")))
  t_BadQueues : PySem.W.typeIn K (.ref (He.ma K (He.ga K "BadQueues") "__init__")) = some (.type "function")
  x_BadQueues : XfC K (He.ga K "BadQueues")
  o_BadOwners : OexC K (He.ga K "BadOwners")
  i_BadOwners : PySem.W.findIn K (.ref (He.ga K "BadOwners")) "__init__" = some (some (.ref (He.ma K (He.ga K "BadOwners") "__init__")))
  t_BadOwners : PySem.W.typeIn K (.ref (He.ma K (He.ga K "BadOwners") "__init__")) = some (.type "function")
  x_BadOwners : XfC K (He.ga K "BadOwners")
  o_NoDue : OexC K (He.ga K "NoDue")
  i_NoDue : PySem.W.findIn K (.ref (He.ga K "NoDue")) "__init__" = some (some (.ref (He.ma K (He.ga K "NoDue") "__init__")))
  t_NoDue : PySem.W.typeIn K (.ref (He.ma K (He.ga K "NoDue") "__init__")) = some (.type "function")
  x_NoDue : XfC K (He.ga K "NoDue")
  o_Duplicate : OexC K (He.ga K "Duplicate")
  i_Duplicate : PySem.W.findIn K (.ref (He.ga K "Duplicate")) "__init__" = some (some (.ref (He.ma K (He.ga K "Duplicate") "__init__")))
  t_Duplicate : PySem.W.typeIn K (.ref (He.ma K (He.ga K "Duplicate") "__init__")) = some (.type "function")
  x_Duplicate : XfC K (He.ga K "Duplicate")
  o_NotTogether : OexC K (He.ga K "NotTogether")
  i_NotTogether : PySem.W.findIn K (.ref (He.ga K "NotTogether")) "__init__" = some (some (.ref (He.ma K (He.ga K "NotTogether") "__init__")))
  t_NotTogether : PySem.W.typeIn K (.ref (He.ma K (He.ga K "NotTogether") "__init__")) = some (.type "function")
  x_NotTogether : XfC K (He.ga K "NotTogether")
  o_Settles : OexC K (He.ga K "Settles")
  i_Settles : PySem.W.findIn K (.ref (He.ga K "Settles")) "__init__" = some (some (.ref (He.ma K (He.ga K "Settles") "__init__")))
  t_Settles : PySem.W.typeIn K (.ref (He.ma K (He.ga K "Settles") "__init__")) = some (.type "function")
  x_Settles : XfC K (He.ga K "Settles")
  o_TooMany : OexC K (He.ga K "TooMany")
  i_TooMany : PySem.W.findIn K (.ref (He.ga K "TooMany")) "__init__" = some (some (.ref (He.ma K (He.ga K "TooMany") "__init__")))
  t_TooMany : PySem.W.typeIn K (.ref (He.ma K (He.ga K "TooMany") "__init__")) = some (.type "function")
  x_TooMany : XfC K (He.ga K "TooMany")
  o_BadOrder : OexC K (He.ga K "BadOrder")
  i_BadOrder : PySem.W.findIn K (.ref (He.ga K "BadOrder")) "__init__" = some (some (.ref (He.ma K (He.ga K "BadOrder") "__init__")))
  t_BadOrder : PySem.W.typeIn K (.ref (He.ma K (He.ga K "BadOrder") "__init__")) = some (.type "function")
  x_BadOrder : XfC K (He.ga K "BadOrder")
  o_BadSide : OexC K (He.ga K "BadSide")
  i_BadSide : PySem.W.findIn K (.ref (He.ga K "BadSide")) "__init__" = some (some (.ref (He.ma K (He.ga K "BadSide") "__init__")))
  t_BadSide : PySem.W.typeIn K (.ref (He.ma K (He.ga K "BadSide") "__init__")) = some (.type "function")
  x_BadSide : XfC K (He.ga K "BadSide")
  o_NameTaken : OexC K (He.ga K "NameTaken")
  i_NameTaken : PySem.W.findIn K (.ref (He.ga K "NameTaken")) "__init__" = some (some (.ref (He.ma K (He.ga K "NameTaken") "__init__")))
  t_NameTaken : PySem.W.typeIn K (.ref (He.ma K (He.ga K "NameTaken") "__init__")) = some (.type "function")
  x_NameTaken : XfC K (He.ga K "NameTaken")
  o_UnknownOrder : OexC K (He.ga K "UnknownOrder")
  i_UnknownOrder : PySem.W.findIn K (.ref (He.ga K "UnknownOrder")) "__init__" = some (some (.ref (He.ma K (He.ga K "UnknownOrder") "__init__")))
  t_UnknownOrder : PySem.W.typeIn K (.ref (He.ma K (He.ga K "UnknownOrder") "__init__")) = some (.type "function")
  x_UnknownOrder : XfC K (He.ga K "UnknownOrder")
  o_Crossing : OexC K (He.ga K "Crossing")
  i_Crossing : PySem.W.findIn K (.ref (He.ga K "Crossing")) "__init__" = some (some (.ref (He.ma K (He.ga K "Crossing") "__init__")))
  t_Crossing : PySem.W.typeIn K (.ref (He.ma K (He.ga K "Crossing") "__init__")) = some (.type "function")
  x_Crossing : XfC K (He.ga K "Crossing")
  o_BadBid : OexC K (He.ga K "BadBid")
  i_BadBid : PySem.W.findIn K (.ref (He.ga K "BadBid")) "__init__" = some (some (.ref (He.ma K (He.ga K "BadBid") "__init__")))
  t_BadBid : PySem.W.typeIn K (.ref (He.ma K (He.ga K "BadBid") "__init__")) = some (.type "function")
  x_BadBid : XfC K (He.ga K "BadBid")
  o_TooManyBids : OexC K (He.ga K "TooManyBids")
  i_TooManyBids : PySem.W.findIn K (.ref (He.ga K "TooManyBids")) "__init__" = some (some (.ref (He.ma K (He.ga K "TooManyBids") "__init__")))
  t_TooManyBids : PySem.W.typeIn K (.ref (He.ma K (He.ga K "TooManyBids") "__init__")) = some (.type "function")
  x_TooManyBids : XfC K (He.ga K "TooManyBids")
  o_BidTaken : OexC K (He.ga K "BidTaken")
  i_BidTaken : PySem.W.findIn K (.ref (He.ga K "BidTaken")) "__init__" = some (some (.ref (He.ma K (He.ga K "BidTaken") "__init__")))
  t_BidTaken : PySem.W.typeIn K (.ref (He.ma K (He.ga K "BidTaken") "__init__")) = some (.type "function")
  x_BidTaken : XfC K (He.ga K "BidTaken")
  o_BothSides : OexC K (He.ga K "BothSides")
  i_BothSides : PySem.W.findIn K (.ref (He.ga K "BothSides")) "__init__" = some (some (.ref (He.ma K (He.ga K "BothSides") "__init__")))
  t_BothSides : PySem.W.typeIn K (.ref (He.ma K (He.ga K "BothSides") "__init__")) = some (.type "function")
  x_BothSides : XfC K (He.ga K "BothSides")
  o_BadWidth : OexC K (He.ga K "BadWidth")
  i_BadWidth : PySem.W.findIn K (.ref (He.ga K "BadWidth")) "__init__" = some (some (.ref (He.ma K (He.ga K "BadWidth") "__init__")))
  t_BadWidth : PySem.W.typeIn K (.ref (He.ma K (He.ga K "BadWidth") "__init__")) = some (.type "function")
  x_BadWidth : XfC K (He.ga K "BadWidth")
  o_UnknownBid : OexC K (He.ga K "UnknownBid")
  i_UnknownBid : PySem.W.findIn K (.ref (He.ga K "UnknownBid")) "__init__" = some (some (.ref (He.ma K (He.ga K "UnknownBid") "__init__")))
  t_UnknownBid : PySem.W.typeIn K (.ref (He.ma K (He.ga K "UnknownBid") "__init__")) = some (.type "function")
  x_UnknownBid : XfC K (He.ga K "UnknownBid")
  o_BadPosition : OexC K (He.ga K "BadPosition")
  i_BadPosition : PySem.W.findIn K (.ref (He.ga K "BadPosition")) "__init__" = some (some (.ref (He.ma K (He.ga K "BadPosition") "__init__")))
  t_BadPosition : PySem.W.typeIn K (.ref (He.ma K (He.ga K "BadPosition") "__init__")) = some (.type "function")
  x_BadPosition : XfC K (He.ga K "BadPosition")
  o_BadPrices : OexC K (He.ga K "BadPrices")
  i_BadPrices : PySem.W.findIn K (.ref (He.ga K "BadPrices")) "__init__" = some (some (.ref (He.ma K (He.ga K "BadPrices") "__init__")))
  t_BadPrices : PySem.W.typeIn K (.ref (He.ma K (He.ga K "BadPrices") "__init__")) = some (.type "function")
  x_BadPrices : XfC K (He.ga K "BadPrices")
  o_UnknownUnit : OexC K (He.ga K "UnknownUnit")
  i_UnknownUnit : PySem.W.findIn K (.ref (He.ga K "UnknownUnit")) "__init__" = some (some (.ref (He.ma K (He.ga K "UnknownUnit") "__init__")))
  t_UnknownUnit : PySem.W.typeIn K (.ref (He.ma K (He.ga K "UnknownUnit") "__init__")) = some (.type "function")
  x_UnknownUnit : XfC K (He.ga K "UnknownUnit")
  o_BadMove : OexC K (He.ga K "BadMove")
  i_BadMove : PySem.W.findIn K (.ref (He.ga K "BadMove")) "__init__" = some (some (.ref (He.ma K (He.ga K "BadMove") "__init__")))
  t_BadMove : PySem.W.typeIn K (.ref (He.ma K (He.ga K "BadMove") "__init__")) = some (.type "function")
  x_BadMove : XfC K (He.ga K "BadMove")
  o_BadCount : OexC K (He.ga K "BadCount")
  i_BadCount : PySem.W.findIn K (.ref (He.ga K "BadCount")) "__init__" = some (some (.ref (He.ma K (He.ga K "BadCount") "__init__")))
  t_BadCount : PySem.W.typeIn K (.ref (He.ma K (He.ga K "BadCount") "__init__")) = some (.type "function")
  x_BadCount : XfC K (He.ga K "BadCount")
  o_BadStanding : OexC K (He.ga K "BadStanding")
  i_BadStanding : PySem.W.findIn K (.ref (He.ga K "BadStanding")) "__init__" = some (some (.ref (He.ma K (He.ga K "BadStanding") "__init__")))
  t_BadStanding : PySem.W.typeIn K (.ref (He.ma K (He.ga K "BadStanding") "__init__")) = some (.type "function")
  x_BadStanding : XfC K (He.ga K "BadStanding")
  o_BadClosing : OexC K (He.ga K "BadClosing")
  i_BadClosing : PySem.W.findIn K (.ref (He.ga K "BadClosing")) "__init__" = some (some (.ref (He.ma K (He.ga K "BadClosing") "__init__")))
  t_BadClosing : PySem.W.typeIn K (.ref (He.ma K (He.ga K "BadClosing") "__init__")) = some (.type "function")
  x_BadClosing : XfC K (He.ga K "BadClosing")
  o_BadRules : OexC K (He.ga K "BadRules")
  i_BadRules : PySem.W.findIn K (.ref (He.ga K "BadRules")) "__init__" = some (some (.ref (He.ma K (He.ga K "BadRules") "__init__")))
  t_BadRules : PySem.W.typeIn K (.ref (He.ma K (He.ga K "BadRules") "__init__")) = some (.type "function")
  x_BadRules : XfC K (He.ga K "BadRules")
  o_BadFact : OexC K (He.ga K "BadFact")
  i_BadFact : PySem.W.findIn K (.ref (He.ga K "BadFact")) "__init__" = some (some (.ref (He.ma K (He.ga K "BadFact") "__init__")))
  t_BadFact : PySem.W.typeIn K (.ref (He.ma K (He.ga K "BadFact") "__init__")) = some (.type "function")
  x_BadFact : XfC K (He.ga K "BadFact")
  o_BadFacts : OexC K (He.ga K "BadFacts")
  i_BadFacts : PySem.W.findIn K (.ref (He.ga K "BadFacts")) "__init__" = some (some (.ref (He.ma K (He.ga K "BadFacts") "__init__")))
  t_BadFacts : PySem.W.typeIn K (.ref (He.ma K (He.ga K "BadFacts") "__init__")) = some (.type "function")
  x_BadFacts : XfC K (He.ga K "BadFacts")
  o_NoSlip : OexC K (He.ga K "NoSlip")
  i_NoSlip : PySem.W.findIn K (.ref (He.ga K "NoSlip")) "__init__" = some (some (.ref (He.ma K (He.ga K "NoSlip") "__init__")))
  t_NoSlip : PySem.W.typeIn K (.ref (He.ma K (He.ga K "NoSlip") "__init__")) = some (.type "function")
  x_NoSlip : XfC K (He.ga K "NoSlip")
  o_Filled : OexC K (He.ga K "Filled")
  i_Filled : PySem.W.findIn K (.ref (He.ga K "Filled")) "__init__" = some (some (.ref (He.ma K (He.ga K "Filled") "__init__")))
  t_Filled : PySem.W.typeIn K (.ref (He.ma K (He.ga K "Filled") "__init__")) = some (.type "function")
  x_Filled : XfC K (He.ga K "Filled")
  o_NoDeed : OexC K (He.ga K "NoDeed")
  i_NoDeed : PySem.W.findIn K (.ref (He.ga K "NoDeed")) "__init__" = some (some (.ref (He.ma K (He.ga K "NoDeed") "__init__")))
  t_NoDeed : PySem.W.typeIn K (.ref (He.ma K (He.ga K "NoDeed") "__init__")) = some (.type "function")
  x_NoDeed : XfC K (He.ga K "NoDeed")
  o_DayClosed : OexC K (He.ga K "DayClosed")
  i_DayClosed : PySem.W.findIn K (.ref (He.ga K "DayClosed")) "__init__" = some (some (.ref (He.ma K (He.ga K "DayClosed") "__init__")))
  t_DayClosed : PySem.W.typeIn K (.ref (He.ma K (He.ga K "DayClosed") "__init__")) = some (.type "function")
  x_DayClosed : XfC K (He.ga K "DayClosed")
  o_NoTrade : OexC K (He.ga K "NoTrade")
  i_NoTrade : PySem.W.findIn K (.ref (He.ga K "NoTrade")) "__init__" = some (some (.ref (He.ma K (He.ga K "NoTrade") "__init__")))
  t_NoTrade : PySem.W.typeIn K (.ref (He.ma K (He.ga K "NoTrade") "__init__")) = some (.type "function")
  x_NoTrade : XfC K (He.ga K "NoTrade")
  o_NotKnown : OexC K (He.ga K "NotKnown")
  i_NotKnown : PySem.W.findIn K (.ref (He.ga K "NotKnown")) "__init__" = some (some (.ref (He.ma K (He.ga K "NotKnown") "__init__")))
  t_NotKnown : PySem.W.typeIn K (.ref (He.ma K (He.ga K "NotKnown") "__init__")) = some (.type "function")
  x_NotKnown : XfC K (He.ga K "NotKnown")
  o_BadQuestion : OexC K (He.ga K "BadQuestion")
  i_BadQuestion : PySem.W.findIn K (.ref (He.ga K "BadQuestion")) "__init__" = some (some (.ref (He.ma K (He.ga K "BadQuestion") "__init__")))
  t_BadQuestion : PySem.W.typeIn K (.ref (He.ma K (He.ga K "BadQuestion") "__init__")) = some (.type "function")
  x_BadQuestion : XfC K (He.ga K "BadQuestion")
  o_ManySlips : OexC K (He.ga K "ManySlips")
  i_ManySlips : PySem.W.findIn K (.ref (He.ga K "ManySlips")) "__init__" = some (some (.ref (He.ma K (He.ga K "ManySlips") "__init__")))
  t_ManySlips : PySem.W.typeIn K (.ref (He.ma K (He.ga K "ManySlips") "__init__")) = some (.type "function")
  x_ManySlips : XfC K (He.ga K "ManySlips")
  o_BadLots : OexC K (He.ga K "BadLots")
  i_BadLots : PySem.W.findIn K (.ref (He.ga K "BadLots")) "__init__" = some (some (.ref (He.ma K (He.ga K "BadLots") "__init__")))
  t_BadLots : PySem.W.typeIn K (.ref (He.ma K (He.ga K "BadLots") "__init__")) = some (.type "function")
  x_BadLots : XfC K (He.ga K "BadLots")
  o_BadCost : OexC K (He.ga K "BadCost")
  i_BadCost : PySem.W.findIn K (.ref (He.ga K "BadCost")) "__init__" = some (some (.ref (He.ma K (He.ga K "BadCost") "__init__")))
  t_BadCost : PySem.W.typeIn K (.ref (He.ma K (He.ga K "BadCost") "__init__")) = some (.type "function")
  x_BadCost : XfC K (He.ga K "BadCost")
  o_BadWay : OexC K (He.ga K "BadWay")
  i_BadWay : PySem.W.findIn K (.ref (He.ga K "BadWay")) "__init__" = some (some (.ref (He.ma K (He.ga K "BadWay") "__init__")))
  t_BadWay : PySem.W.typeIn K (.ref (He.ma K (He.ga K "BadWay") "__init__")) = some (.type "function")
  x_BadWay : XfC K (He.ga K "BadWay")
  o_NotThere : OexC K (He.ga K "NotThere")
  i_NotThere : PySem.W.findIn K (.ref (He.ga K "NotThere")) "__init__" = some (some (.ref (He.ma K (He.ga K "NotThere") "__init__")))
  t_NotThere : PySem.W.typeIn K (.ref (He.ma K (He.ga K "NotThere") "__init__")) = some (.type "function")
  x_NotThere : XfC K (He.ga K "NotThere")
  o_BadEvent : OexC K (He.ga K "BadEvent")
  i_BadEvent : PySem.W.findIn K (.ref (He.ga K "BadEvent")) "__init__" = some (some (.ref (He.ma K (He.ga K "BadEvent") "__init__")))
  t_BadEvent : PySem.W.typeIn K (.ref (He.ma K (He.ga K "BadEvent") "__init__")) = some (.type "function")
  x_BadEvent : XfC K (He.ga K "BadEvent")
  o_BadIndex : OexC K (He.ga K "BadIndex")
  i_BadIndex : PySem.W.findIn K (.ref (He.ga K "BadIndex")) "__init__" = some (some (.ref (He.ma K (He.ga K "BadIndex") "__init__")))
  t_BadIndex : PySem.W.typeIn K (.ref (He.ma K (He.ga K "BadIndex") "__init__")) = some (.type "function")
  x_BadIndex : XfC K (He.ga K "BadIndex")
  o_BadPool : OexC K (He.ga K "BadPool")
  i_BadPool : PySem.W.findIn K (.ref (He.ga K "BadPool")) "__init__" = some (some (.ref (He.ma K (He.ga K "BadPool") "__init__")))
  t_BadPool : PySem.W.typeIn K (.ref (He.ma K (He.ga K "BadPool") "__init__")) = some (.type "function")
  x_BadPool : XfC K (He.ga K "BadPool")
  o_UnlikeUnits : OexC K (He.ga K "UnlikeUnits")
  i_UnlikeUnits : PySem.W.findIn K (.ref (He.ga K "UnlikeUnits")) "__init__" = some (some (.ref (He.ma K (He.ga K "UnlikeUnits") "__init__")))
  t_UnlikeUnits : PySem.W.typeIn K (.ref (He.ma K (He.ga K "UnlikeUnits") "__init__")) = some (.type "function")
  x_UnlikeUnits : XfC K (He.ga K "UnlikeUnits")
  o_BadDebt : OexC K (He.ga K "BadDebt")
  i_BadDebt : PySem.W.findIn K (.ref (He.ga K "BadDebt")) "__init__" = some (some (.ref (He.ma K (He.ga K "BadDebt") "__init__")))
  t_BadDebt : PySem.W.typeIn K (.ref (He.ma K (He.ga K "BadDebt") "__init__")) = some (.type "function")
  x_BadDebt : XfC K (He.ga K "BadDebt")
  o_NoDebtor : OexC K (He.ga K "NoDebtor")
  i_NoDebtor : PySem.W.findIn K (.ref (He.ga K "NoDebtor")) "__init__" = some (some (.ref (He.ma K (He.ga K "NoDebtor") "__init__")))
  t_NoDebtor : PySem.W.typeIn K (.ref (He.ma K (He.ga K "NoDebtor") "__init__")) = some (.type "function")
  x_NoDebtor : XfC K (He.ga K "NoDebtor")
  o_BadViewer : OexC K (He.ga K "BadViewer")
  i_BadViewer : PySem.W.findIn K (.ref (He.ga K "BadViewer")) "__init__" = some (some (.ref (He.ma K (He.ga K "BadViewer") "__init__")))
  t_BadViewer : PySem.W.typeIn K (.ref (He.ma K (He.ga K "BadViewer") "__init__")) = some (.type "function")
  x_BadViewer : XfC K (He.ga K "BadViewer")
  o_Hidden : OexC K (He.ga K "Hidden")
  i_Hidden : PySem.W.findIn K (.ref (He.ga K "Hidden")) "__init__" = some (some (.ref (He.ma K (He.ga K "Hidden") "__init__")))
  t_Hidden : PySem.W.typeIn K (.ref (He.ma K (He.ga K "Hidden") "__init__")) = some (.type "function")
  x_Hidden : XfC K (He.ga K "Hidden")
  isall : ∀ c ∈ (((["BadDay", "BadCause", "BadPostings", "BadAccount", "BadAmount", "BadUnit", "BadOwner", "BadName", "BadPrice", "BadRow", "BadStatement", "NotCarried", "NotWhole", "Unbalanced", "BadText", "BadLine", "NothingToUndo", "NothingToRedo", "BadNumber", "BadLegs", "BadDues", "BadHoldings", "BadQueues", "BadOwners", "NoDue", "Duplicate", "NotTogether", "Settles", "TooMany", "BadOrder"] : List Str) ++ (["BadSide", "NameTaken", "UnknownOrder", "Crossing", "BadBid", "TooManyBids", "BidTaken", "BothSides", "NoClearing", "BadWidth", "UnknownBid", "Cleared", "BadPosition", "BadPrices", "UnknownUnit", "BadMove", "BadCount", "BadStanding", "BadClosing", "BadRules", "BadFact", "BadFacts", "NoSlip", "Filled", "NoDeed", "DayClosed", "NoTrade", "NotKnown", "BadQuestion", "ManySlips"] : List Str) ++ (["BadLots", "BadCost", "BadWay", "NotThere", "BadEvent", "BadIndex", "BadPool", "UnlikeUnits", "NoUnit", "NoShares", "BadDebt", "NoDebtor", "BadViewer", "Hidden"] : List Str)) : List Str), L2.ExcC K (He.ga K c) ∧ PySem.W.kitOne K (.ref (He.ga K c)) (.ref (He.ga K "MarketError")) = some true ∧ PySem.W.kitOne K (.ref (He.ga K c)) (.type "ValueError") = some true ∧ ∀ b ∈ (((["BadDay", "BadCause", "BadPostings", "BadAccount", "BadAmount", "BadUnit", "BadOwner", "BadName", "BadPrice", "BadRow", "BadStatement", "NotCarried", "NotWhole", "Unbalanced", "BadText", "BadLine", "NothingToUndo", "NothingToRedo", "BadNumber", "BadLegs", "BadDues", "BadHoldings", "BadQueues", "BadOwners", "NoDue", "Duplicate", "NotTogether", "Settles", "TooMany", "BadOrder"] : List Str) ++ (["BadSide", "NameTaken", "UnknownOrder", "Crossing", "BadBid", "TooManyBids", "BidTaken", "BothSides", "NoClearing", "BadWidth", "UnknownBid", "Cleared", "BadPosition", "BadPrices", "UnknownUnit", "BadMove", "BadCount", "BadStanding", "BadClosing", "BadRules", "BadFact", "BadFacts", "NoSlip", "Filled", "NoDeed", "DayClosed", "NoTrade", "NotKnown", "BadQuestion", "ManySlips"] : List Str) ++ (["BadLots", "BadCost", "BadWay", "NotThere", "BadEvent", "BadIndex", "BadPool", "UnlikeUnits", "NoUnit", "NoShares", "BadDebt", "NoDebtor", "BadViewer", "Hidden"] : List Str)) : List Str), PySem.W.kitOne K (.ref (He.ga K c)) (.ref (He.ga K b)) = some (decide (c = b))
  sm : SmK K
  d_BadDay_init : ∃ fd, FunD K "__init__" "BadDay.__init__" (defArgs s_BadDay_init) (defBody s_BadDay_init) (defScope s_BadDay_init) [] [] (He.ma K (He.ga K "BadDay") "__init__") fd
  d_BadCause_init : ∃ fd, FunD K "__init__" "BadCause.__init__" (defArgs s_BadCause_init) (defBody s_BadCause_init) (defScope s_BadCause_init) [] [] (He.ma K (He.ga K "BadCause") "__init__") fd
  d_BadPostings_init : ∃ fd, FunD K "__init__" "BadPostings.__init__" (defArgs s_BadPostings_init) (defBody s_BadPostings_init) (defScope s_BadPostings_init) [] [] (He.ma K (He.ga K "BadPostings") "__init__") fd
  d_BadAccount_init : ∃ fd, FunD K "__init__" "BadAccount.__init__" (defArgs s_BadAccount_init) (defBody s_BadAccount_init) (defScope s_BadAccount_init) [] [] (He.ma K (He.ga K "BadAccount") "__init__") fd
  d_BadAmount_init : ∃ fd, FunD K "__init__" "BadAmount.__init__" (defArgs s_BadAmount_init) (defBody s_BadAmount_init) (defScope s_BadAmount_init) [] [] (He.ma K (He.ga K "BadAmount") "__init__") fd
  d_BadUnit_init : ∃ fd, FunD K "__init__" "BadUnit.__init__" (defArgs s_BadUnit_init) (defBody s_BadUnit_init) (defScope s_BadUnit_init) [] [] (He.ma K (He.ga K "BadUnit") "__init__") fd
  d_BadOwner_init : ∃ fd, FunD K "__init__" "BadOwner.__init__" (defArgs s_BadOwner_init) (defBody s_BadOwner_init) (defScope s_BadOwner_init) [] [] (He.ma K (He.ga K "BadOwner") "__init__") fd
  d_BadName_init : ∃ fd, FunD K "__init__" "BadName.__init__" (defArgs s_BadName_init) (defBody s_BadName_init) (defScope s_BadName_init) [] [] (He.ma K (He.ga K "BadName") "__init__") fd
  d_BadPrice_init : ∃ fd, FunD K "__init__" "BadPrice.__init__" (defArgs s_BadPrice_init) (defBody s_BadPrice_init) (defScope s_BadPrice_init) [] [] (He.ma K (He.ga K "BadPrice") "__init__") fd
  d_BadRow_init : ∃ fd, FunD K "__init__" "BadRow.__init__" (defArgs s_BadRow_init) (defBody s_BadRow_init) (defScope s_BadRow_init) [] [] (He.ma K (He.ga K "BadRow") "__init__") fd
  d_BadStatement_init : ∃ fd, FunD K "__init__" "BadStatement.__init__" (defArgs s_BadStatement_init) (defBody s_BadStatement_init) (defScope s_BadStatement_init) [] [] (He.ma K (He.ga K "BadStatement") "__init__") fd
  d_NotCarried_init : ∃ fd, FunD K "__init__" "NotCarried.__init__" (defArgs s_NotCarried_init) (defBody s_NotCarried_init) (defScope s_NotCarried_init) [] [] (He.ma K (He.ga K "NotCarried") "__init__") fd
  d_NotWhole_init : ∃ fd, FunD K "__init__" "NotWhole.__init__" (defArgs s_NotWhole_init) (defBody s_NotWhole_init) (defScope s_NotWhole_init) [] [] (He.ma K (He.ga K "NotWhole") "__init__") fd
  d_Unbalanced_init : ∃ fd, FunD K "__init__" "Unbalanced.__init__" (defArgs s_Unbalanced_init) (defBody s_Unbalanced_init) (defScope s_Unbalanced_init) [] [] (He.ma K (He.ga K "Unbalanced") "__init__") fd
  d_BadLine_init : ∃ fd, FunD K "__init__" "BadLine.__init__" (defArgs s_BadLine_init) (defBody s_BadLine_init) (defScope s_BadLine_init) [] [] (He.ma K (He.ga K "BadLine") "__init__") fd
  d_BadNumber_init : ∃ fd, FunD K "__init__" "BadNumber.__init__" (defArgs s_BadNumber_init) (defBody s_BadNumber_init) (defScope s_BadNumber_init) [] [] (He.ma K (He.ga K "BadNumber") "__init__") fd
  d_BadLegs_init : ∃ fd, FunD K "__init__" "BadLegs.__init__" (defArgs s_BadLegs_init) (defBody s_BadLegs_init) (defScope s_BadLegs_init) [] [] (He.ma K (He.ga K "BadLegs") "__init__") fd
  d_BadDues_init : ∃ fd, FunD K "__init__" "BadDues.__init__" (defArgs s_BadDues_init) (defBody s_BadDues_init) (defScope s_BadDues_init) [] [] (He.ma K (He.ga K "BadDues") "__init__") fd
  d_BadHoldings_init : ∃ fd, FunD K "__init__" "BadHoldings.__init__" (defArgs s_BadHoldings_init) (defBody s_BadHoldings_init) (defScope s_BadHoldings_init) [] [] (He.ma K (He.ga K "BadHoldings") "__init__") fd
  d_BadQueues_init : ∃ fd, FunD K "__init__" "BadQueues.__init__" (defArgs s_BadQueues_init) (defBody s_BadQueues_init) (defScope s_BadQueues_init) [] [] (He.ma K (He.ga K "BadQueues") "__init__") fd
  d_BadOwners_init : ∃ fd, FunD K "__init__" "BadOwners.__init__" (defArgs s_BadOwners_init) (defBody s_BadOwners_init) (defScope s_BadOwners_init) [] [] (He.ma K (He.ga K "BadOwners") "__init__") fd
  d_NoDue_init : ∃ fd, FunD K "__init__" "NoDue.__init__" (defArgs s_NoDue_init) (defBody s_NoDue_init) (defScope s_NoDue_init) [] [] (He.ma K (He.ga K "NoDue") "__init__") fd
  d_Duplicate_init : ∃ fd, FunD K "__init__" "Duplicate.__init__" (defArgs s_Duplicate_init) (defBody s_Duplicate_init) (defScope s_Duplicate_init) [] [] (He.ma K (He.ga K "Duplicate") "__init__") fd
  d_NotTogether_init : ∃ fd, FunD K "__init__" "NotTogether.__init__" (defArgs s_NotTogether_init) (defBody s_NotTogether_init) (defScope s_NotTogether_init) [] [] (He.ma K (He.ga K "NotTogether") "__init__") fd
  d_Settles_init : ∃ fd, FunD K "__init__" "Settles.__init__" (defArgs s_Settles_init) (defBody s_Settles_init) (defScope s_Settles_init) [] [] (He.ma K (He.ga K "Settles") "__init__") fd
  d_TooMany_init : ∃ fd, FunD K "__init__" "TooMany.__init__" (defArgs s_TooMany_init) (defBody s_TooMany_init) (defScope s_TooMany_init) [] [] (He.ma K (He.ga K "TooMany") "__init__") fd
  d_BadOrder_init : ∃ fd, FunD K "__init__" "BadOrder.__init__" (defArgs s_BadOrder_init) (defBody s_BadOrder_init) (defScope s_BadOrder_init) [] [] (He.ma K (He.ga K "BadOrder") "__init__") fd
  d_BadSide_init : ∃ fd, FunD K "__init__" "BadSide.__init__" (defArgs s_BadSide_init) (defBody s_BadSide_init) (defScope s_BadSide_init) [] [] (He.ma K (He.ga K "BadSide") "__init__") fd
  d_NameTaken_init : ∃ fd, FunD K "__init__" "NameTaken.__init__" (defArgs s_NameTaken_init) (defBody s_NameTaken_init) (defScope s_NameTaken_init) [] [] (He.ma K (He.ga K "NameTaken") "__init__") fd
  d_UnknownOrder_init : ∃ fd, FunD K "__init__" "UnknownOrder.__init__" (defArgs s_UnknownOrder_init) (defBody s_UnknownOrder_init) (defScope s_UnknownOrder_init) [] [] (He.ma K (He.ga K "UnknownOrder") "__init__") fd
  d_Crossing_init : ∃ fd, FunD K "__init__" "Crossing.__init__" (defArgs s_Crossing_init) (defBody s_Crossing_init) (defScope s_Crossing_init) [] [] (He.ma K (He.ga K "Crossing") "__init__") fd
  d_BadBid_init : ∃ fd, FunD K "__init__" "BadBid.__init__" (defArgs s_BadBid_init) (defBody s_BadBid_init) (defScope s_BadBid_init) [] [] (He.ma K (He.ga K "BadBid") "__init__") fd
  d_TooManyBids_init : ∃ fd, FunD K "__init__" "TooManyBids.__init__" (defArgs s_TooManyBids_init) (defBody s_TooManyBids_init) (defScope s_TooManyBids_init) [] [] (He.ma K (He.ga K "TooManyBids") "__init__") fd
  d_BidTaken_init : ∃ fd, FunD K "__init__" "BidTaken.__init__" (defArgs s_BidTaken_init) (defBody s_BidTaken_init) (defScope s_BidTaken_init) [] [] (He.ma K (He.ga K "BidTaken") "__init__") fd
  d_BothSides_init : ∃ fd, FunD K "__init__" "BothSides.__init__" (defArgs s_BothSides_init) (defBody s_BothSides_init) (defScope s_BothSides_init) [] [] (He.ma K (He.ga K "BothSides") "__init__") fd
  d_BadWidth_init : ∃ fd, FunD K "__init__" "BadWidth.__init__" (defArgs s_BadWidth_init) (defBody s_BadWidth_init) (defScope s_BadWidth_init) [] [] (He.ma K (He.ga K "BadWidth") "__init__") fd
  d_UnknownBid_init : ∃ fd, FunD K "__init__" "UnknownBid.__init__" (defArgs s_UnknownBid_init) (defBody s_UnknownBid_init) (defScope s_UnknownBid_init) [] [] (He.ma K (He.ga K "UnknownBid") "__init__") fd
  d_BadPosition_init : ∃ fd, FunD K "__init__" "BadPosition.__init__" (defArgs s_BadPosition_init) (defBody s_BadPosition_init) (defScope s_BadPosition_init) [] [] (He.ma K (He.ga K "BadPosition") "__init__") fd
  d_BadPrices_init : ∃ fd, FunD K "__init__" "BadPrices.__init__" (defArgs s_BadPrices_init) (defBody s_BadPrices_init) (defScope s_BadPrices_init) [] [] (He.ma K (He.ga K "BadPrices") "__init__") fd
  d_UnknownUnit_init : ∃ fd, FunD K "__init__" "UnknownUnit.__init__" (defArgs s_UnknownUnit_init) (defBody s_UnknownUnit_init) (defScope s_UnknownUnit_init) [] [] (He.ma K (He.ga K "UnknownUnit") "__init__") fd
  d_BadMove_init : ∃ fd, FunD K "__init__" "BadMove.__init__" (defArgs s_BadMove_init) (defBody s_BadMove_init) (defScope s_BadMove_init) [] [] (He.ma K (He.ga K "BadMove") "__init__") fd
  d_BadCount_init : ∃ fd, FunD K "__init__" "BadCount.__init__" (defArgs s_BadCount_init) (defBody s_BadCount_init) (defScope s_BadCount_init) [] [] (He.ma K (He.ga K "BadCount") "__init__") fd
  d_BadStanding_init : ∃ fd, FunD K "__init__" "BadStanding.__init__" (defArgs s_BadStanding_init) (defBody s_BadStanding_init) (defScope s_BadStanding_init) [] [] (He.ma K (He.ga K "BadStanding") "__init__") fd
  d_BadClosing_init : ∃ fd, FunD K "__init__" "BadClosing.__init__" (defArgs s_BadClosing_init) (defBody s_BadClosing_init) (defScope s_BadClosing_init) [] [] (He.ma K (He.ga K "BadClosing") "__init__") fd
  d_BadRules_init : ∃ fd, FunD K "__init__" "BadRules.__init__" (defArgs s_BadRules_init) (defBody s_BadRules_init) (defScope s_BadRules_init) [] [] (He.ma K (He.ga K "BadRules") "__init__") fd
  d_BadFact_init : ∃ fd, FunD K "__init__" "BadFact.__init__" (defArgs s_BadFact_init) (defBody s_BadFact_init) (defScope s_BadFact_init) [] [] (He.ma K (He.ga K "BadFact") "__init__") fd
  d_BadFacts_init : ∃ fd, FunD K "__init__" "BadFacts.__init__" (defArgs s_BadFacts_init) (defBody s_BadFacts_init) (defScope s_BadFacts_init) [] [] (He.ma K (He.ga K "BadFacts") "__init__") fd
  d_NoSlip_init : ∃ fd, FunD K "__init__" "NoSlip.__init__" (defArgs s_NoSlip_init) (defBody s_NoSlip_init) (defScope s_NoSlip_init) [] [] (He.ma K (He.ga K "NoSlip") "__init__") fd
  d_Filled_init : ∃ fd, FunD K "__init__" "Filled.__init__" (defArgs s_Filled_init) (defBody s_Filled_init) (defScope s_Filled_init) [] [] (He.ma K (He.ga K "Filled") "__init__") fd
  d_NoDeed_init : ∃ fd, FunD K "__init__" "NoDeed.__init__" (defArgs s_NoDeed_init) (defBody s_NoDeed_init) (defScope s_NoDeed_init) [] [] (He.ma K (He.ga K "NoDeed") "__init__") fd
  d_DayClosed_init : ∃ fd, FunD K "__init__" "DayClosed.__init__" (defArgs s_DayClosed_init) (defBody s_DayClosed_init) (defScope s_DayClosed_init) [] [] (He.ma K (He.ga K "DayClosed") "__init__") fd
  d_NoTrade_init : ∃ fd, FunD K "__init__" "NoTrade.__init__" (defArgs s_NoTrade_init) (defBody s_NoTrade_init) (defScope s_NoTrade_init) [] [] (He.ma K (He.ga K "NoTrade") "__init__") fd
  d_NotKnown_init : ∃ fd, FunD K "__init__" "NotKnown.__init__" (defArgs s_NotKnown_init) (defBody s_NotKnown_init) (defScope s_NotKnown_init) [] [] (He.ma K (He.ga K "NotKnown") "__init__") fd
  d_BadQuestion_init : ∃ fd, FunD K "__init__" "BadQuestion.__init__" (defArgs s_BadQuestion_init) (defBody s_BadQuestion_init) (defScope s_BadQuestion_init) [] [] (He.ma K (He.ga K "BadQuestion") "__init__") fd
  d_ManySlips_init : ∃ fd, FunD K "__init__" "ManySlips.__init__" (defArgs s_ManySlips_init) (defBody s_ManySlips_init) (defScope s_ManySlips_init) [] [] (He.ma K (He.ga K "ManySlips") "__init__") fd
  d_BadLots_init : ∃ fd, FunD K "__init__" "BadLots.__init__" (defArgs s_BadLots_init) (defBody s_BadLots_init) (defScope s_BadLots_init) [] [] (He.ma K (He.ga K "BadLots") "__init__") fd
  d_BadCost_init : ∃ fd, FunD K "__init__" "BadCost.__init__" (defArgs s_BadCost_init) (defBody s_BadCost_init) (defScope s_BadCost_init) [] [] (He.ma K (He.ga K "BadCost") "__init__") fd
  d_BadWay_init : ∃ fd, FunD K "__init__" "BadWay.__init__" (defArgs s_BadWay_init) (defBody s_BadWay_init) (defScope s_BadWay_init) [] [] (He.ma K (He.ga K "BadWay") "__init__") fd
  d_NotThere_init : ∃ fd, FunD K "__init__" "NotThere.__init__" (defArgs s_NotThere_init) (defBody s_NotThere_init) (defScope s_NotThere_init) [] [] (He.ma K (He.ga K "NotThere") "__init__") fd
  d_BadEvent_init : ∃ fd, FunD K "__init__" "BadEvent.__init__" (defArgs s_BadEvent_init) (defBody s_BadEvent_init) (defScope s_BadEvent_init) [] [] (He.ma K (He.ga K "BadEvent") "__init__") fd
  d_BadIndex_init : ∃ fd, FunD K "__init__" "BadIndex.__init__" (defArgs s_BadIndex_init) (defBody s_BadIndex_init) (defScope s_BadIndex_init) [] [] (He.ma K (He.ga K "BadIndex") "__init__") fd
  d_BadPool_init : ∃ fd, FunD K "__init__" "BadPool.__init__" (defArgs s_BadPool_init) (defBody s_BadPool_init) (defScope s_BadPool_init) [] [] (He.ma K (He.ga K "BadPool") "__init__") fd
  d_UnlikeUnits_init : ∃ fd, FunD K "__init__" "UnlikeUnits.__init__" (defArgs s_UnlikeUnits_init) (defBody s_UnlikeUnits_init) (defScope s_UnlikeUnits_init) [] [] (He.ma K (He.ga K "UnlikeUnits") "__init__") fd
  d_BadDebt_init : ∃ fd, FunD K "__init__" "BadDebt.__init__" (defArgs s_BadDebt_init) (defBody s_BadDebt_init) (defScope s_BadDebt_init) [] [] (He.ma K (He.ga K "BadDebt") "__init__") fd
  d_NoDebtor_init : ∃ fd, FunD K "__init__" "NoDebtor.__init__" (defArgs s_NoDebtor_init) (defBody s_NoDebtor_init) (defScope s_NoDebtor_init) [] [] (He.ma K (He.ga K "NoDebtor") "__init__") fd
  d_BadViewer_init : ∃ fd, FunD K "__init__" "BadViewer.__init__" (defArgs s_BadViewer_init) (defBody s_BadViewer_init) (defScope s_BadViewer_init) [] [] (He.ma K (He.ga K "BadViewer") "__init__") fd
  d_Hidden_init : ∃ fd, FunD K "__init__" "Hidden.__init__" (defArgs s_Hidden_init) (defBody s_Hidden_init) (defScope s_Hidden_init) [] [] (He.ma K (He.ga K "Hidden") "__init__") fd
  d_Llaw_source : ∃ fd, FunD K "_law_source" "_law_source" (defArgs s_Llaw_source) (defBody s_Llaw_source) (defScope s_Llaw_source) [] [] (He.ga K "_law_source") fd
  d_Llaw_draw : ∃ fd, FunD K "_law_draw" "_law_draw" (defArgs s_Llaw_draw) (defBody s_Llaw_draw) (defScope s_Llaw_draw) [] [] (He.ga K "_law_draw") fd
  d_Llaw_thing : ∃ fd, FunD K "_law_thing" "_law_thing" (defArgs s_Llaw_thing) (defBody s_Llaw_thing) (defScope s_Llaw_thing) [] [] (He.ga K "_law_thing") fd
  d_Llaw_by_place : ∃ fd, FunD K "_law_by_place" "_law_by_place" (defArgs s_Llaw_by_place) (defBody s_Llaw_by_place) (defScope s_Llaw_by_place) [] [] (He.ga K "_law_by_place") fd
  d_Llaw_by_name : ∃ fd, FunD K "_law_by_name" "_law_by_name" (defArgs s_Llaw_by_name) (defBody s_Llaw_by_name) (defScope s_Llaw_by_name) [] [] (He.ga K "_law_by_name") fd
  d_Llaw_others : ∃ fd, FunD K "_law_others" "_law_others" (defArgs s_Llaw_others) (defBody s_Llaw_others) (defScope s_Llaw_others) [] [] (He.ga K "_law_others") fd
  d_Llaw_others_by_name : ∃ fd, FunD K "_law_others_by_name" "_law_others_by_name" (defArgs s_Llaw_others_by_name) (defBody s_Llaw_others_by_name) (defScope s_Llaw_others_by_name) [] [] (He.ga K "_law_others_by_name") fd
  d_Llaw_shared : ∃ fd, FunD K "_law_shared" "_law_shared" (defArgs s_Llaw_shared) (defBody s_Llaw_shared) (defScope s_Llaw_shared) [] [] (He.ga K "_law_shared") fd
  d_Llaw_first_kinds : ∃ fd, FunD K "_law_first_kinds" "_law_first_kinds" (defArgs s_Llaw_first_kinds) (defBody s_Llaw_first_kinds) (defScope s_Llaw_first_kinds) [] [] (He.ga K "_law_first_kinds") fd
  d_Llaw_last_kinds : ∃ fd, FunD K "_law_last_kinds" "_law_last_kinds" (defArgs s_Llaw_last_kinds) (defBody s_Llaw_last_kinds) (defScope s_Llaw_last_kinds) [] [] (He.ga K "_law_last_kinds") fd
  d_Llaw_is : ∃ fd, FunD K "_law_is" "_law_is" (defArgs s_Llaw_is) (defBody s_Llaw_is) (defScope s_Llaw_is) [] [] (He.ga K "_law_is") fd
  d_Flaw : ∃ fd, FunD K "law" "law" (defArgs s_Flaw) (defBody s_Flaw) (defScope s_Flaw) [] [] (He.ga K "law") fd
  out : ∀ p ∈ csOf K, K.lookup p.2 = none
theorem tx_of {K : PySem.W.Frag} {mg : Str → Option Value} {w : World} {h : Heap} (X : K.In h) (G : h.Ns mainGlobals mg) (y0 : SaysT fa fn ex h K) : Tx K mg := by
  have y : SaysS fa fn ex K := y0.s
  have c : He5.SaysA fa fn K := y.d
  have m : ex K = true := y.more
  obtain ⟨e0, m⟩ := Bool.and_eq_true_iff.mp m
  obtain ⟨e1, m⟩ := Bool.and_eq_true_iff.mp m
  obtain ⟨e2, m⟩ := Bool.and_eq_true_iff.mp m
  obtain ⟨e3, m⟩ := Bool.and_eq_true_iff.mp m
  obtain ⟨e4, m⟩ := Bool.and_eq_true_iff.mp m
  obtain ⟨e5, m⟩ := Bool.and_eq_true_iff.mp m
  obtain ⟨e6, m⟩ := Bool.and_eq_true_iff.mp m
  obtain ⟨e7, m⟩ := Bool.and_eq_true_iff.mp m
  obtain ⟨e8, m⟩ := Bool.and_eq_true_iff.mp m
  obtain ⟨e9, m⟩ := Bool.and_eq_true_iff.mp m
  obtain ⟨e10, m⟩ := Bool.and_eq_true_iff.mp m
  obtain ⟨e11, m⟩ := Bool.and_eq_true_iff.mp m
  obtain ⟨e12, m⟩ := Bool.and_eq_true_iff.mp m
  obtain ⟨e13, m⟩ := Bool.and_eq_true_iff.mp m
  obtain ⟨e14, m⟩ := Bool.and_eq_true_iff.mp m
  obtain ⟨e15, m⟩ := Bool.and_eq_true_iff.mp m
  obtain ⟨e16, m⟩ := Bool.and_eq_true_iff.mp m
  obtain ⟨e17, m⟩ := Bool.and_eq_true_iff.mp m
  obtain ⟨e18, m⟩ := Bool.and_eq_true_iff.mp m
  obtain ⟨e19, m⟩ := Bool.and_eq_true_iff.mp m
  obtain ⟨e20, m⟩ := Bool.and_eq_true_iff.mp m
  obtain ⟨e21, m⟩ := Bool.and_eq_true_iff.mp m
  obtain ⟨e22, m⟩ := Bool.and_eq_true_iff.mp m
  obtain ⟨e23, m⟩ := Bool.and_eq_true_iff.mp m
  obtain ⟨e24, m⟩ := Bool.and_eq_true_iff.mp m
  obtain ⟨e25, m⟩ := Bool.and_eq_true_iff.mp m
  obtain ⟨e26, m⟩ := Bool.and_eq_true_iff.mp m
  obtain ⟨e27, m⟩ := Bool.and_eq_true_iff.mp m
  obtain ⟨e28, m⟩ := Bool.and_eq_true_iff.mp m
  obtain ⟨e29, m⟩ := Bool.and_eq_true_iff.mp m
  obtain ⟨e30, m⟩ := Bool.and_eq_true_iff.mp m
  obtain ⟨e31, m⟩ := Bool.and_eq_true_iff.mp m
  obtain ⟨e32, m⟩ := Bool.and_eq_true_iff.mp m
  obtain ⟨e33, m⟩ := Bool.and_eq_true_iff.mp m
  obtain ⟨e34, m⟩ := Bool.and_eq_true_iff.mp m
  obtain ⟨e35, m⟩ := Bool.and_eq_true_iff.mp m
  obtain ⟨e36, m⟩ := Bool.and_eq_true_iff.mp m
  obtain ⟨e37, m⟩ := Bool.and_eq_true_iff.mp m
  obtain ⟨e38, m⟩ := Bool.and_eq_true_iff.mp m
  obtain ⟨e39, m⟩ := Bool.and_eq_true_iff.mp m
  obtain ⟨e40, m⟩ := Bool.and_eq_true_iff.mp m
  obtain ⟨e41, m⟩ := Bool.and_eq_true_iff.mp m
  obtain ⟨e42, m⟩ := Bool.and_eq_true_iff.mp m
  obtain ⟨e43, m⟩ := Bool.and_eq_true_iff.mp m
  obtain ⟨e44, m⟩ := Bool.and_eq_true_iff.mp m
  obtain ⟨e45, m⟩ := Bool.and_eq_true_iff.mp m
  obtain ⟨e46, m⟩ := Bool.and_eq_true_iff.mp m
  obtain ⟨e47, m⟩ := Bool.and_eq_true_iff.mp m
  obtain ⟨e48, m⟩ := Bool.and_eq_true_iff.mp m
  obtain ⟨e49, m⟩ := Bool.and_eq_true_iff.mp m
  obtain ⟨e50, m⟩ := Bool.and_eq_true_iff.mp m
  obtain ⟨e51, m⟩ := Bool.and_eq_true_iff.mp m
  obtain ⟨e52, m⟩ := Bool.and_eq_true_iff.mp m
  obtain ⟨e53, m⟩ := Bool.and_eq_true_iff.mp m
  obtain ⟨e54, m⟩ := Bool.and_eq_true_iff.mp m
  obtain ⟨e55, m⟩ := Bool.and_eq_true_iff.mp m
  obtain ⟨e56, m⟩ := Bool.and_eq_true_iff.mp m
  obtain ⟨e57, m⟩ := Bool.and_eq_true_iff.mp m
  obtain ⟨e58, m⟩ := Bool.and_eq_true_iff.mp m
  obtain ⟨e59, m⟩ := Bool.and_eq_true_iff.mp m
  obtain ⟨e60, m⟩ := Bool.and_eq_true_iff.mp m
  obtain ⟨e61, m⟩ := Bool.and_eq_true_iff.mp m
  obtain ⟨e62, m⟩ := Bool.and_eq_true_iff.mp m
  obtain ⟨e63, m⟩ := Bool.and_eq_true_iff.mp m
  obtain ⟨e64, m⟩ := Bool.and_eq_true_iff.mp m
  obtain ⟨e65, m⟩ := Bool.and_eq_true_iff.mp m
  obtain ⟨e66, m⟩ := Bool.and_eq_true_iff.mp m
  obtain ⟨e67, m⟩ := Bool.and_eq_true_iff.mp m
  obtain ⟨e68, m⟩ := Bool.and_eq_true_iff.mp m
  obtain ⟨e69, m⟩ := Bool.and_eq_true_iff.mp m
  obtain ⟨e70, m⟩ := Bool.and_eq_true_iff.mp m
  obtain ⟨e71, m⟩ := Bool.and_eq_true_iff.mp m
  obtain ⟨e72, m⟩ := Bool.and_eq_true_iff.mp m
  obtain ⟨e73, m⟩ := Bool.and_eq_true_iff.mp m
  obtain ⟨e74, m⟩ := Bool.and_eq_true_iff.mp m
  obtain ⟨e75, m⟩ := Bool.and_eq_true_iff.mp m
  obtain ⟨e76, m⟩ := Bool.and_eq_true_iff.mp m
  obtain ⟨e77, m⟩ := Bool.and_eq_true_iff.mp m
  obtain ⟨e78, m⟩ := Bool.and_eq_true_iff.mp m
  obtain ⟨e79, m⟩ := Bool.and_eq_true_iff.mp m
  obtain ⟨e80, m⟩ := Bool.and_eq_true_iff.mp m
  obtain ⟨e81, m⟩ := Bool.and_eq_true_iff.mp m
  obtain ⟨e82, m⟩ := Bool.and_eq_true_iff.mp m
  obtain ⟨e83, m⟩ := Bool.and_eq_true_iff.mp m
  obtain ⟨e84, m⟩ := Bool.and_eq_true_iff.mp m
  obtain ⟨e85, m⟩ := Bool.and_eq_true_iff.mp m
  obtain ⟨e86, m⟩ := Bool.and_eq_true_iff.mp m
  obtain ⟨e87, m⟩ := Bool.and_eq_true_iff.mp m
  obtain ⟨e88, m⟩ := Bool.and_eq_true_iff.mp m
  obtain ⟨e89, m⟩ := Bool.and_eq_true_iff.mp m
  obtain ⟨e90, m⟩ := Bool.and_eq_true_iff.mp m
  obtain ⟨e91, m⟩ := Bool.and_eq_true_iff.mp m
  obtain ⟨e92, m⟩ := Bool.and_eq_true_iff.mp m
  obtain ⟨e93, m⟩ := Bool.and_eq_true_iff.mp m
  obtain ⟨e94, m⟩ := Bool.and_eq_true_iff.mp m
  obtain ⟨e95, m⟩ := Bool.and_eq_true_iff.mp m
  obtain ⟨e96, m⟩ := Bool.and_eq_true_iff.mp m
  obtain ⟨e97, m⟩ := Bool.and_eq_true_iff.mp m
  obtain ⟨e98, m⟩ := Bool.and_eq_true_iff.mp m
  obtain ⟨e99, m⟩ := Bool.and_eq_true_iff.mp m
  obtain ⟨e100, m⟩ := Bool.and_eq_true_iff.mp m
  obtain ⟨e101, m⟩ := Bool.and_eq_true_iff.mp m
  obtain ⟨e102, m⟩ := Bool.and_eq_true_iff.mp m
  obtain ⟨e103, m⟩ := Bool.and_eq_true_iff.mp m
  obtain ⟨e104, m⟩ := Bool.and_eq_true_iff.mp m
  obtain ⟨e105, m⟩ := Bool.and_eq_true_iff.mp m
  obtain ⟨e106, m⟩ := Bool.and_eq_true_iff.mp m
  obtain ⟨e107, m⟩ := Bool.and_eq_true_iff.mp m
  obtain ⟨e108, m⟩ := Bool.and_eq_true_iff.mp m
  obtain ⟨e109, m⟩ := Bool.and_eq_true_iff.mp m
  obtain ⟨e110, m⟩ := Bool.and_eq_true_iff.mp m
  obtain ⟨e111, m⟩ := Bool.and_eq_true_iff.mp m
  obtain ⟨e112, m⟩ := Bool.and_eq_true_iff.mp m
  obtain ⟨e113, m⟩ := Bool.and_eq_true_iff.mp m
  obtain ⟨e114, m⟩ := Bool.and_eq_true_iff.mp m
  obtain ⟨e115, m⟩ := Bool.and_eq_true_iff.mp m
  obtain ⟨e116, m⟩ := Bool.and_eq_true_iff.mp m
  obtain ⟨e117, m⟩ := Bool.and_eq_true_iff.mp m
  obtain ⟨e118, m⟩ := Bool.and_eq_true_iff.mp m
  obtain ⟨e119, m⟩ := Bool.and_eq_true_iff.mp m
  obtain ⟨e120, m⟩ := Bool.and_eq_true_iff.mp m
  obtain ⟨e121, m⟩ := Bool.and_eq_true_iff.mp m
  obtain ⟨e122, m⟩ := Bool.and_eq_true_iff.mp m
  obtain ⟨e123, m⟩ := Bool.and_eq_true_iff.mp m
  obtain ⟨e124, m⟩ := Bool.and_eq_true_iff.mp m
  obtain ⟨e125, m⟩ := Bool.and_eq_true_iff.mp m
  obtain ⟨e126, m⟩ := Bool.and_eq_true_iff.mp m
  obtain ⟨e127, m⟩ := Bool.and_eq_true_iff.mp m
  obtain ⟨e128, m⟩ := Bool.and_eq_true_iff.mp m
  obtain ⟨e129, m⟩ := Bool.and_eq_true_iff.mp m
  obtain ⟨e130, m⟩ := Bool.and_eq_true_iff.mp m
  obtain ⟨e131, m⟩ := Bool.and_eq_true_iff.mp m
  obtain ⟨e132, m⟩ := Bool.and_eq_true_iff.mp m
  obtain ⟨e133, m⟩ := Bool.and_eq_true_iff.mp m
  obtain ⟨e134, m⟩ := Bool.and_eq_true_iff.mp m
  obtain ⟨e135, m⟩ := Bool.and_eq_true_iff.mp m
  obtain ⟨e136, m⟩ := Bool.and_eq_true_iff.mp m
  obtain ⟨e137, m⟩ := Bool.and_eq_true_iff.mp m
  obtain ⟨e138, m⟩ := Bool.and_eq_true_iff.mp m
  obtain ⟨e139, m⟩ := Bool.and_eq_true_iff.mp m
  obtain ⟨e140, m⟩ := Bool.and_eq_true_iff.mp m
  obtain ⟨e141, m⟩ := Bool.and_eq_true_iff.mp m
  obtain ⟨e142, m⟩ := Bool.and_eq_true_iff.mp m
  obtain ⟨e143, m⟩ := Bool.and_eq_true_iff.mp m
  obtain ⟨e144, m⟩ := Bool.and_eq_true_iff.mp m
  obtain ⟨e145, m⟩ := Bool.and_eq_true_iff.mp m
  obtain ⟨e146, m⟩ := Bool.and_eq_true_iff.mp m
  obtain ⟨e147, m⟩ := Bool.and_eq_true_iff.mp m
  obtain ⟨e148, m⟩ := Bool.and_eq_true_iff.mp m
  obtain ⟨e149, m⟩ := Bool.and_eq_true_iff.mp m
  obtain ⟨e150, m⟩ := Bool.and_eq_true_iff.mp m
  obtain ⟨e151, m⟩ := Bool.and_eq_true_iff.mp m
  obtain ⟨e152, m⟩ := Bool.and_eq_true_iff.mp m
  obtain ⟨e153, m⟩ := Bool.and_eq_true_iff.mp m
  obtain ⟨e154, m⟩ := Bool.and_eq_true_iff.mp m
  obtain ⟨e155, m⟩ := Bool.and_eq_true_iff.mp m
  obtain ⟨e156, m⟩ := Bool.and_eq_true_iff.mp m
  obtain ⟨e157, m⟩ := Bool.and_eq_true_iff.mp m
  obtain ⟨e158, m⟩ := Bool.and_eq_true_iff.mp m
  obtain ⟨e159, m⟩ := Bool.and_eq_true_iff.mp m
  obtain ⟨e160, m⟩ := Bool.and_eq_true_iff.mp m
  obtain ⟨e161, m⟩ := Bool.and_eq_true_iff.mp m
  obtain ⟨e162, m⟩ := Bool.and_eq_true_iff.mp m
  obtain ⟨e163, m⟩ := Bool.and_eq_true_iff.mp m
  obtain ⟨e164, m⟩ := Bool.and_eq_true_iff.mp m
  obtain ⟨e165, m⟩ := Bool.and_eq_true_iff.mp m
  obtain ⟨e166, m⟩ := Bool.and_eq_true_iff.mp m
  obtain ⟨e167, m⟩ := Bool.and_eq_true_iff.mp m
  obtain ⟨e168, m⟩ := Bool.and_eq_true_iff.mp m
  obtain ⟨e169, m⟩ := Bool.and_eq_true_iff.mp m
  obtain ⟨e170, m⟩ := Bool.and_eq_true_iff.mp m
  obtain ⟨e171, m⟩ := Bool.and_eq_true_iff.mp m
  obtain ⟨e172, m⟩ := Bool.and_eq_true_iff.mp m
  obtain ⟨e173, m⟩ := Bool.and_eq_true_iff.mp m
  obtain ⟨e174, m⟩ := Bool.and_eq_true_iff.mp m
  obtain ⟨e175, m⟩ := Bool.and_eq_true_iff.mp m
  obtain ⟨e176, m⟩ := Bool.and_eq_true_iff.mp m
  obtain ⟨e177, m⟩ := Bool.and_eq_true_iff.mp m
  obtain ⟨e178, m⟩ := Bool.and_eq_true_iff.mp m
  obtain ⟨e179, m⟩ := Bool.and_eq_true_iff.mp m
  obtain ⟨e180, m⟩ := Bool.and_eq_true_iff.mp m
  obtain ⟨e181, m⟩ := Bool.and_eq_true_iff.mp m
  obtain ⟨e182, m⟩ := Bool.and_eq_true_iff.mp m
  obtain ⟨e183, m⟩ := Bool.and_eq_true_iff.mp m
  obtain ⟨e184, m⟩ := Bool.and_eq_true_iff.mp m
  obtain ⟨e185, m⟩ := Bool.and_eq_true_iff.mp m
  obtain ⟨e186, m⟩ := Bool.and_eq_true_iff.mp m
  obtain ⟨e187, m⟩ := Bool.and_eq_true_iff.mp m
  obtain ⟨e188, m⟩ := Bool.and_eq_true_iff.mp m
  obtain ⟨e189, m⟩ := Bool.and_eq_true_iff.mp m
  obtain ⟨e190, m⟩ := Bool.and_eq_true_iff.mp m
  obtain ⟨e191, m⟩ := Bool.and_eq_true_iff.mp m
  obtain ⟨e192, m⟩ := Bool.and_eq_true_iff.mp m
  obtain ⟨e193, m⟩ := Bool.and_eq_true_iff.mp m
  obtain ⟨e194, m⟩ := Bool.and_eq_true_iff.mp m
  obtain ⟨e195, m⟩ := Bool.and_eq_true_iff.mp m
  obtain ⟨e196, m⟩ := Bool.and_eq_true_iff.mp m
  obtain ⟨e197, m⟩ := Bool.and_eq_true_iff.mp m
  obtain ⟨e198, m⟩ := Bool.and_eq_true_iff.mp m
  obtain ⟨e199, m⟩ := Bool.and_eq_true_iff.mp m
  obtain ⟨e200, m⟩ := Bool.and_eq_true_iff.mp m
  obtain ⟨e201, m⟩ := Bool.and_eq_true_iff.mp m
  obtain ⟨e202, m⟩ := Bool.and_eq_true_iff.mp m
  exact ⟨He.glo_ok X G (c.fact 0 (f := .glo "_law_source") rfl),
    He.glo_ok X G (c.fact 1 (f := .glo "_law_draw") rfl),
    He.glo_ok X G (c.fact 2 (f := .glo "_law_thing") rfl),
    He.glo_ok X G (c.fact 3 (f := .glo "_law_by_place") rfl),
    He.glo_ok X G (c.fact 4 (f := .glo "_law_by_name") rfl),
    He.glo_ok X G (c.fact 5 (f := .glo "_law_others") rfl),
    He.glo_ok X G (c.fact 6 (f := .glo "_law_others_by_name") rfl),
    He.glo_ok X G (c.fact 7 (f := .glo "_law_shared") rfl),
    He.glo_ok X G (c.fact 8 (f := .glo "_law_first_kinds") rfl),
    He.glo_ok X G (c.fact 9 (f := .glo "_law_last_kinds") rfl),
    He.glo_ok X G (c.fact 10 (f := .glo "_law_is") rfl),
    He.glo_ok X G (c.fact 11 (f := .glo "law") rfl),
    He.glo_ok X G (c.fact 12 (f := .glo "MarketError") rfl),
    He.glo_ok X G (c.fact 13 (f := .glo "BadDay") rfl),
    He.glo_ok X G (c.fact 14 (f := .glo "BadCause") rfl),
    He.glo_ok X G (c.fact 15 (f := .glo "BadPostings") rfl),
    He.glo_ok X G (c.fact 16 (f := .glo "BadAccount") rfl),
    He.glo_ok X G (c.fact 17 (f := .glo "BadAmount") rfl),
    He.glo_ok X G (c.fact 18 (f := .glo "BadUnit") rfl),
    He.glo_ok X G (c.fact 19 (f := .glo "BadOwner") rfl),
    He.glo_ok X G (c.fact 20 (f := .glo "BadName") rfl),
    He.glo_ok X G (c.fact 21 (f := .glo "BadPrice") rfl),
    He.glo_ok X G (c.fact 22 (f := .glo "BadRow") rfl),
    He.glo_ok X G (c.fact 23 (f := .glo "BadStatement") rfl),
    He.glo_ok X G (c.fact 24 (f := .glo "NotCarried") rfl),
    He.glo_ok X G (c.fact 25 (f := .glo "NotWhole") rfl),
    He.glo_ok X G (c.fact 26 (f := .glo "Unbalanced") rfl),
    He.glo_ok X G (c.fact 27 (f := .glo "BadText") rfl),
    He.glo_ok X G (c.fact 28 (f := .glo "BadLine") rfl),
    He.glo_ok X G (c.fact 29 (f := .glo "NothingToUndo") rfl),
    He.glo_ok X G (c.fact 30 (f := .glo "NothingToRedo") rfl),
    He.glo_ok X G (c.fact 31 (f := .glo "BadNumber") rfl),
    He.glo_ok X G (c.fact 32 (f := .glo "BadLegs") rfl),
    He.glo_ok X G (c.fact 33 (f := .glo "BadDues") rfl),
    He.glo_ok X G (c.fact 34 (f := .glo "BadHoldings") rfl),
    He.glo_ok X G (c.fact 35 (f := .glo "BadQueues") rfl),
    He.glo_ok X G (c.fact 36 (f := .glo "BadOwners") rfl),
    He.glo_ok X G (c.fact 37 (f := .glo "NoDue") rfl),
    He.glo_ok X G (c.fact 38 (f := .glo "Duplicate") rfl),
    He.glo_ok X G (c.fact 39 (f := .glo "NotTogether") rfl),
    He.glo_ok X G (c.fact 40 (f := .glo "Settles") rfl),
    He.glo_ok X G (c.fact 41 (f := .glo "TooMany") rfl),
    He.glo_ok X G (c.fact 42 (f := .glo "BadOrder") rfl),
    He.glo_ok X G (c.fact 43 (f := .glo "BadSide") rfl),
    He.glo_ok X G (c.fact 44 (f := .glo "NameTaken") rfl),
    He.glo_ok X G (c.fact 45 (f := .glo "UnknownOrder") rfl),
    He.glo_ok X G (c.fact 46 (f := .glo "Crossing") rfl),
    He.glo_ok X G (c.fact 47 (f := .glo "BadBid") rfl),
    He.glo_ok X G (c.fact 48 (f := .glo "TooManyBids") rfl),
    He.glo_ok X G (c.fact 49 (f := .glo "BidTaken") rfl),
    He.glo_ok X G (c.fact 50 (f := .glo "BothSides") rfl),
    He.glo_ok X G (c.fact 51 (f := .glo "NoClearing") rfl),
    He.glo_ok X G (c.fact 52 (f := .glo "BadWidth") rfl),
    He.glo_ok X G (c.fact 53 (f := .glo "UnknownBid") rfl),
    He.glo_ok X G (c.fact 54 (f := .glo "Cleared") rfl),
    He.glo_ok X G (c.fact 55 (f := .glo "BadPosition") rfl),
    He.glo_ok X G (c.fact 56 (f := .glo "BadPrices") rfl),
    He.glo_ok X G (c.fact 57 (f := .glo "UnknownUnit") rfl),
    He.glo_ok X G (c.fact 58 (f := .glo "BadMove") rfl),
    He.glo_ok X G (c.fact 59 (f := .glo "BadCount") rfl),
    He.glo_ok X G (c.fact 60 (f := .glo "BadStanding") rfl),
    He.glo_ok X G (c.fact 61 (f := .glo "BadClosing") rfl),
    He.glo_ok X G (c.fact 62 (f := .glo "BadRules") rfl),
    He.glo_ok X G (c.fact 63 (f := .glo "BadFact") rfl),
    He.glo_ok X G (c.fact 64 (f := .glo "BadFacts") rfl),
    He.glo_ok X G (c.fact 65 (f := .glo "NoSlip") rfl),
    He.glo_ok X G (c.fact 66 (f := .glo "Filled") rfl),
    He.glo_ok X G (c.fact 67 (f := .glo "NoDeed") rfl),
    He.glo_ok X G (c.fact 68 (f := .glo "DayClosed") rfl),
    He.glo_ok X G (c.fact 69 (f := .glo "NoTrade") rfl),
    He.glo_ok X G (c.fact 70 (f := .glo "NotKnown") rfl),
    He.glo_ok X G (c.fact 71 (f := .glo "BadQuestion") rfl),
    He.glo_ok X G (c.fact 72 (f := .glo "ManySlips") rfl),
    He.glo_ok X G (c.fact 73 (f := .glo "BadLots") rfl),
    He.glo_ok X G (c.fact 74 (f := .glo "BadCost") rfl),
    He.glo_ok X G (c.fact 75 (f := .glo "BadWay") rfl),
    He.glo_ok X G (c.fact 76 (f := .glo "NotThere") rfl),
    He.glo_ok X G (c.fact 77 (f := .glo "BadEvent") rfl),
    He.glo_ok X G (c.fact 78 (f := .glo "BadIndex") rfl),
    He.glo_ok X G (c.fact 79 (f := .glo "BadPool") rfl),
    He.glo_ok X G (c.fact 80 (f := .glo "UnlikeUnits") rfl),
    He.glo_ok X G (c.fact 81 (f := .glo "NoUnit") rfl),
    He.glo_ok X G (c.fact 82 (f := .glo "NoShares") rfl),
    He.glo_ok X G (c.fact 83 (f := .glo "BadDebt") rfl),
    He.glo_ok X G (c.fact 84 (f := .glo "NoDebtor") rfl),
    He.glo_ok X G (c.fact 85 (f := .glo "BadViewer") rfl),
    He.glo_ok X G (c.fact 86 (f := .glo "Hidden") rfl),
    He.free_ok X G (c.fact 87 (f := .free "len") rfl),
    He.free_ok X G (c.fact 88 (f := .free "isinstance") rfl),
    He.free_ok X G (c.fact 89 (f := .free "repr") rfl),
    He.free_ok X G (c.fact 90 (f := .free "range") rfl),
    He.free_ok X G (c.fact 91 (f := .free "int") rfl),
    He.free_ok X G (c.fact 92 (f := .free "ValueError") rfl),
    He.noat_ok (c.fact 93 (f := .noat "BadDay" "given") rfl),
    He.noat_ok (c.fact 94 (f := .noat "BadCause" "given") rfl),
    He.noat_ok (c.fact 95 (f := .noat "BadPostings" "given") rfl),
    He.noat_ok (c.fact 96 (f := .noat "BadAccount" "given") rfl),
    He.noat_ok (c.fact 97 (f := .noat "BadAmount" "given") rfl),
    He.noat_ok (c.fact 98 (f := .noat "BadUnit" "given") rfl),
    He.noat_ok (c.fact 99 (f := .noat "BadOwner" "given") rfl),
    He.noat_ok (c.fact 100 (f := .noat "BadName" "given") rfl),
    He.noat_ok (c.fact 101 (f := .noat "BadPrice" "given") rfl),
    He.noat_ok (c.fact 102 (f := .noat "BadRow" "given") rfl),
    He.noat_ok (c.fact 103 (f := .noat "BadStatement" "given") rfl),
    He.noat_ok (c.fact 104 (f := .noat "NotCarried" "given") rfl),
    He.noat_ok (c.fact 105 (f := .noat "NotWhole" "given") rfl),
    He.noat_ok (c.fact 106 (f := .noat "Unbalanced" "given") rfl),
    He.noat_ok (c.fact 107 (f := .noat "Unbalanced" "off") rfl),
    He.exc_ok (c.fact 108 (f := .exc "BadText") rfl),
    He.noat_ok (c.fact 109 (f := .noat "BadLine" "line") rfl),
    He.exc_ok (c.fact 110 (f := .exc "NothingToUndo") rfl),
    He.exc_ok (c.fact 111 (f := .exc "NothingToRedo") rfl),
    He.noat_ok (c.fact 112 (f := .noat "BadNumber" "given") rfl),
    He.noat_ok (c.fact 113 (f := .noat "BadLegs" "given") rfl),
    He.noat_ok (c.fact 114 (f := .noat "BadDues" "given") rfl),
    He.noat_ok (c.fact 115 (f := .noat "BadHoldings" "given") rfl),
    He.noat_ok (c.fact 116 (f := .noat "BadQueues" "given") rfl),
    He.noat_ok (c.fact 117 (f := .noat "BadOwners" "given") rfl),
    He.noat_ok (c.fact 118 (f := .noat "NoDue" "given") rfl),
    He.noat_ok (c.fact 119 (f := .noat "Duplicate" "given") rfl),
    He.noat_ok (c.fact 120 (f := .noat "NotTogether" "given") rfl),
    He.noat_ok (c.fact 121 (f := .noat "Settles" "given") rfl),
    He.noat_ok (c.fact 122 (f := .noat "TooMany" "count") rfl),
    He.noat_ok (c.fact 123 (f := .noat "BadOrder" "field") rfl),
    He.noat_ok (c.fact 124 (f := .noat "BadOrder" "value") rfl),
    He.noat_ok (c.fact 125 (f := .noat "BadSide" "given") rfl),
    He.noat_ok (c.fact 126 (f := .noat "NameTaken" "name") rfl),
    He.noat_ok (c.fact 127 (f := .noat "UnknownOrder" "name") rfl),
    He.noat_ok (c.fact 128 (f := .noat "Crossing" "name") rfl),
    He.noat_ok (c.fact 129 (f := .noat "BadBid" "given") rfl),
    He.noat_ok (c.fact 130 (f := .noat "TooManyBids" "given") rfl),
    He.noat_ok (c.fact 131 (f := .noat "BidTaken" "given") rfl),
    He.noat_ok (c.fact 132 (f := .noat "BothSides" "given") rfl),
    He.exc_ok (c.fact 133 (f := .exc "NoClearing") rfl),
    He.noat_ok (c.fact 134 (f := .noat "BadWidth" "given") rfl),
    He.noat_ok (c.fact 135 (f := .noat "UnknownBid" "given") rfl),
    He.exc_ok (c.fact 136 (f := .exc "Cleared") rfl),
    He.noat_ok (c.fact 137 (f := .noat "BadPosition" "given") rfl),
    He.noat_ok (c.fact 138 (f := .noat "BadPrices" "given") rfl),
    He.noat_ok (c.fact 139 (f := .noat "UnknownUnit" "given") rfl),
    He.noat_ok (c.fact 140 (f := .noat "BadMove" "given") rfl),
    He.noat_ok (c.fact 141 (f := .noat "BadCount" "count") rfl),
    He.noat_ok (c.fact 142 (f := .noat "BadStanding" "given") rfl),
    He.noat_ok (c.fact 143 (f := .noat "BadClosing" "given") rfl),
    He.noat_ok (c.fact 144 (f := .noat "BadRules" "given") rfl),
    He.noat_ok (c.fact 145 (f := .noat "BadFact" "given") rfl),
    He.noat_ok (c.fact 146 (f := .noat "BadFacts" "given") rfl),
    He.noat_ok (c.fact 147 (f := .noat "NoSlip" "given") rfl),
    He.noat_ok (c.fact 148 (f := .noat "Filled" "given") rfl),
    He.noat_ok (c.fact 149 (f := .noat "NoDeed" "given") rfl),
    He.noat_ok (c.fact 150 (f := .noat "DayClosed" "given") rfl),
    He.noat_ok (c.fact 151 (f := .noat "NoTrade" "given") rfl),
    He.noat_ok (c.fact 152 (f := .noat "NotKnown" "given") rfl),
    He.noat_ok (c.fact 153 (f := .noat "BadQuestion" "given") rfl),
    He.noat_ok (c.fact 154 (f := .noat "ManySlips" "given") rfl),
    He.noat_ok (c.fact 155 (f := .noat "BadLots" "given") rfl),
    He.noat_ok (c.fact 156 (f := .noat "BadCost" "given") rfl),
    He.noat_ok (c.fact 157 (f := .noat "BadWay" "given") rfl),
    He.noat_ok (c.fact 158 (f := .noat "NotThere" "given") rfl),
    He.noat_ok (c.fact 159 (f := .noat "BadEvent" "index") rfl),
    He.noat_ok (c.fact 160 (f := .noat "BadIndex" "given") rfl),
    He.noat_ok (c.fact 161 (f := .noat "BadPool" "field") rfl),
    He.noat_ok (c.fact 162 (f := .noat "BadPool" "value") rfl),
    He.noat_ok (c.fact 163 (f := .noat "UnlikeUnits" "one") rfl),
    He.noat_ok (c.fact 164 (f := .noat "UnlikeUnits" "other") rfl),
    He.exc_ok (c.fact 165 (f := .exc "NoUnit") rfl),
    He.exc_ok (c.fact 166 (f := .exc "NoShares") rfl),
    He.noat_ok (c.fact 167 (f := .noat "BadDebt" "given") rfl),
    He.noat_ok (c.fact 168 (f := .noat "NoDebtor" "given") rfl),
    He.noat_ok (c.fact 169 (f := .noat "BadViewer" "given") rfl),
    He.noat_ok (c.fact 170 (f := .noat "Hidden" "given") rfl),
    oexB_ok e0,
    (iniB_ok e1).1,
    (iniB_ok e1).2,
    xfB_ok e2,
    oexB_ok e3,
    (iniB_ok e4).1,
    (iniB_ok e4).2,
    xfB_ok e5,
    oexB_ok e6,
    (iniB_ok e7).1,
    (iniB_ok e7).2,
    xfB_ok e8,
    oexB_ok e9,
    (iniB_ok e10).1,
    (iniB_ok e10).2,
    xfB_ok e11,
    oexB_ok e12,
    (iniB_ok e13).1,
    (iniB_ok e13).2,
    xfB_ok e14,
    oexB_ok e15,
    (iniB_ok e16).1,
    (iniB_ok e16).2,
    xfB_ok e17,
    oexB_ok e18,
    (iniB_ok e19).1,
    (iniB_ok e19).2,
    xfB_ok e20,
    oexB_ok e21,
    (iniB_ok e22).1,
    (iniB_ok e22).2,
    xfB_ok e23,
    oexB_ok e24,
    (iniB_ok e25).1,
    (iniB_ok e25).2,
    xfB_ok e26,
    oexB_ok e27,
    (iniB_ok e28).1,
    (iniB_ok e28).2,
    xfB_ok e29,
    oexB_ok e30,
    (iniB_ok e31).1,
    (iniB_ok e31).2,
    xfB_ok e32,
    oexB_ok e33,
    (iniB_ok e34).1,
    (iniB_ok e34).2,
    xfB_ok e35,
    oexB_ok e36,
    (iniB_ok e37).1,
    (iniB_ok e37).2,
    xfB_ok e38,
    oexB_ok e39,
    (iniB_ok e40).1,
    (iniB_ok e40).2,
    xfB_ok e41,
    oexB_ok e42,
    (iniB_ok e43).1,
    (iniB_ok e43).2,
    xfB_ok e44,
    oexB_ok e45,
    (iniB_ok e46).1,
    (iniB_ok e46).2,
    xfB_ok e47,
    oexB_ok e48,
    (iniB_ok e49).1,
    (iniB_ok e49).2,
    xfB_ok e50,
    oexB_ok e51,
    (iniB_ok e52).1,
    (iniB_ok e52).2,
    xfB_ok e53,
    oexB_ok e54,
    (iniB_ok e55).1,
    (iniB_ok e55).2,
    xfB_ok e56,
    oexB_ok e57,
    (iniB_ok e58).1,
    (iniB_ok e58).2,
    xfB_ok e59,
    oexB_ok e60,
    (iniB_ok e61).1,
    (iniB_ok e61).2,
    xfB_ok e62,
    oexB_ok e63,
    (iniB_ok e64).1,
    (iniB_ok e64).2,
    xfB_ok e65,
    oexB_ok e66,
    (iniB_ok e67).1,
    (iniB_ok e67).2,
    xfB_ok e68,
    oexB_ok e69,
    (iniB_ok e70).1,
    (iniB_ok e70).2,
    xfB_ok e71,
    oexB_ok e72,
    (iniB_ok e73).1,
    (iniB_ok e73).2,
    xfB_ok e74,
    oexB_ok e75,
    (iniB_ok e76).1,
    (iniB_ok e76).2,
    xfB_ok e77,
    oexB_ok e78,
    (iniB_ok e79).1,
    (iniB_ok e79).2,
    xfB_ok e80,
    oexB_ok e81,
    (iniB_ok e82).1,
    (iniB_ok e82).2,
    xfB_ok e83,
    oexB_ok e84,
    (iniB_ok e85).1,
    (iniB_ok e85).2,
    xfB_ok e86,
    oexB_ok e87,
    (iniB_ok e88).1,
    (iniB_ok e88).2,
    xfB_ok e89,
    oexB_ok e90,
    (iniB_ok e91).1,
    (iniB_ok e91).2,
    xfB_ok e92,
    oexB_ok e93,
    (iniB_ok e94).1,
    (iniB_ok e94).2,
    xfB_ok e95,
    oexB_ok e96,
    (iniB_ok e97).1,
    (iniB_ok e97).2,
    xfB_ok e98,
    oexB_ok e99,
    (iniB_ok e100).1,
    (iniB_ok e100).2,
    xfB_ok e101,
    oexB_ok e102,
    (iniB_ok e103).1,
    (iniB_ok e103).2,
    xfB_ok e104,
    oexB_ok e105,
    (iniB_ok e106).1,
    (iniB_ok e106).2,
    xfB_ok e107,
    oexB_ok e108,
    (iniB_ok e109).1,
    (iniB_ok e109).2,
    xfB_ok e110,
    oexB_ok e111,
    (iniB_ok e112).1,
    (iniB_ok e112).2,
    xfB_ok e113,
    oexB_ok e114,
    (iniB_ok e115).1,
    (iniB_ok e115).2,
    xfB_ok e116,
    oexB_ok e117,
    (iniB_ok e118).1,
    (iniB_ok e118).2,
    xfB_ok e119,
    oexB_ok e120,
    (iniB_ok e121).1,
    (iniB_ok e121).2,
    xfB_ok e122,
    oexB_ok e123,
    (iniB_ok e124).1,
    (iniB_ok e124).2,
    xfB_ok e125,
    oexB_ok e126,
    (iniB_ok e127).1,
    (iniB_ok e127).2,
    xfB_ok e128,
    oexB_ok e129,
    (iniB_ok e130).1,
    (iniB_ok e130).2,
    xfB_ok e131,
    oexB_ok e132,
    (iniB_ok e133).1,
    (iniB_ok e133).2,
    xfB_ok e134,
    oexB_ok e135,
    (iniB_ok e136).1,
    (iniB_ok e136).2,
    xfB_ok e137,
    oexB_ok e138,
    (iniB_ok e139).1,
    (iniB_ok e139).2,
    xfB_ok e140,
    oexB_ok e141,
    (iniB_ok e142).1,
    (iniB_ok e142).2,
    xfB_ok e143,
    oexB_ok e144,
    (iniB_ok e145).1,
    (iniB_ok e145).2,
    xfB_ok e146,
    oexB_ok e147,
    (iniB_ok e148).1,
    (iniB_ok e148).2,
    xfB_ok e149,
    oexB_ok e150,
    (iniB_ok e151).1,
    (iniB_ok e151).2,
    xfB_ok e152,
    oexB_ok e153,
    (iniB_ok e154).1,
    (iniB_ok e154).2,
    xfB_ok e155,
    oexB_ok e156,
    (iniB_ok e157).1,
    (iniB_ok e157).2,
    xfB_ok e158,
    oexB_ok e159,
    (iniB_ok e160).1,
    (iniB_ok e160).2,
    xfB_ok e161,
    oexB_ok e162,
    (iniB_ok e163).1,
    (iniB_ok e163).2,
    xfB_ok e164,
    oexB_ok e165,
    (iniB_ok e166).1,
    (iniB_ok e166).2,
    xfB_ok e167,
    oexB_ok e168,
    (iniB_ok e169).1,
    (iniB_ok e169).2,
    xfB_ok e170,
    oexB_ok e171,
    (iniB_ok e172).1,
    (iniB_ok e172).2,
    xfB_ok e173,
    oexB_ok e174,
    (iniB_ok e175).1,
    (iniB_ok e175).2,
    xfB_ok e176,
    oexB_ok e177,
    (iniB_ok e178).1,
    (iniB_ok e178).2,
    xfB_ok e179,
    oexB_ok e180,
    (iniB_ok e181).1,
    (iniB_ok e181).2,
    xfB_ok e182,
    oexB_ok e183,
    (iniB_ok e184).1,
    (iniB_ok e184).2,
    xfB_ok e185,
    oexB_ok e186,
    (iniB_ok e187).1,
    (iniB_ok e187).2,
    xfB_ok e188,
    oexB_ok e189,
    (iniB_ok e190).1,
    (iniB_ok e190).2,
    xfB_ok e191,
    oexB_ok e192,
    (iniB_ok e193).1,
    (iniB_ok e193).2,
    xfB_ok e194,
    oexB_ok e195,
    (iniB_ok e196).1,
    (iniB_ok e196).2,
    xfB_ok e197,
    oexB_ok e198,
    (iniB_ok e199).1,
    (iniB_ok e199).2,
    xfB_ok e200,
    isMroB_ok e201,
    smB_ok e202,
    c.def_ 0 (d := dd_BadDay_init) rfl,
    c.def_ 1 (d := dd_BadCause_init) rfl,
    c.def_ 2 (d := dd_BadPostings_init) rfl,
    c.def_ 3 (d := dd_BadAccount_init) rfl,
    c.def_ 4 (d := dd_BadAmount_init) rfl,
    c.def_ 5 (d := dd_BadUnit_init) rfl,
    c.def_ 6 (d := dd_BadOwner_init) rfl,
    c.def_ 7 (d := dd_BadName_init) rfl,
    c.def_ 8 (d := dd_BadPrice_init) rfl,
    c.def_ 9 (d := dd_BadRow_init) rfl,
    c.def_ 10 (d := dd_BadStatement_init) rfl,
    c.def_ 11 (d := dd_NotCarried_init) rfl,
    c.def_ 12 (d := dd_NotWhole_init) rfl,
    c.def_ 13 (d := dd_Unbalanced_init) rfl,
    c.def_ 14 (d := dd_BadLine_init) rfl,
    c.def_ 15 (d := dd_BadNumber_init) rfl,
    c.def_ 16 (d := dd_BadLegs_init) rfl,
    c.def_ 17 (d := dd_BadDues_init) rfl,
    c.def_ 18 (d := dd_BadHoldings_init) rfl,
    c.def_ 19 (d := dd_BadQueues_init) rfl,
    c.def_ 20 (d := dd_BadOwners_init) rfl,
    c.def_ 21 (d := dd_NoDue_init) rfl,
    c.def_ 22 (d := dd_Duplicate_init) rfl,
    c.def_ 23 (d := dd_NotTogether_init) rfl,
    c.def_ 24 (d := dd_Settles_init) rfl,
    c.def_ 25 (d := dd_TooMany_init) rfl,
    c.def_ 26 (d := dd_BadOrder_init) rfl,
    c.def_ 27 (d := dd_BadSide_init) rfl,
    c.def_ 28 (d := dd_NameTaken_init) rfl,
    c.def_ 29 (d := dd_UnknownOrder_init) rfl,
    c.def_ 30 (d := dd_Crossing_init) rfl,
    c.def_ 31 (d := dd_BadBid_init) rfl,
    c.def_ 32 (d := dd_TooManyBids_init) rfl,
    c.def_ 33 (d := dd_BidTaken_init) rfl,
    c.def_ 34 (d := dd_BothSides_init) rfl,
    c.def_ 35 (d := dd_BadWidth_init) rfl,
    c.def_ 36 (d := dd_UnknownBid_init) rfl,
    c.def_ 37 (d := dd_BadPosition_init) rfl,
    c.def_ 38 (d := dd_BadPrices_init) rfl,
    c.def_ 39 (d := dd_UnknownUnit_init) rfl,
    c.def_ 40 (d := dd_BadMove_init) rfl,
    c.def_ 41 (d := dd_BadCount_init) rfl,
    c.def_ 42 (d := dd_BadStanding_init) rfl,
    c.def_ 43 (d := dd_BadClosing_init) rfl,
    c.def_ 44 (d := dd_BadRules_init) rfl,
    c.def_ 45 (d := dd_BadFact_init) rfl,
    c.def_ 46 (d := dd_BadFacts_init) rfl,
    c.def_ 47 (d := dd_NoSlip_init) rfl,
    c.def_ 48 (d := dd_Filled_init) rfl,
    c.def_ 49 (d := dd_NoDeed_init) rfl,
    c.def_ 50 (d := dd_DayClosed_init) rfl,
    c.def_ 51 (d := dd_NoTrade_init) rfl,
    c.def_ 52 (d := dd_NotKnown_init) rfl,
    c.def_ 53 (d := dd_BadQuestion_init) rfl,
    c.def_ 54 (d := dd_ManySlips_init) rfl,
    c.def_ 55 (d := dd_BadLots_init) rfl,
    c.def_ 56 (d := dd_BadCost_init) rfl,
    c.def_ 57 (d := dd_BadWay_init) rfl,
    c.def_ 58 (d := dd_NotThere_init) rfl,
    c.def_ 59 (d := dd_BadEvent_init) rfl,
    c.def_ 60 (d := dd_BadIndex_init) rfl,
    c.def_ 61 (d := dd_BadPool_init) rfl,
    c.def_ 62 (d := dd_UnlikeUnits_init) rfl,
    c.def_ 63 (d := dd_BadDebt_init) rfl,
    c.def_ 64 (d := dd_NoDebtor_init) rfl,
    c.def_ 65 (d := dd_BadViewer_init) rfl,
    c.def_ 66 (d := dd_Hidden_init) rfl,
    c.def_ 67 (d := dd_Llaw_source) rfl,
    c.def_ 68 (d := dd_Llaw_draw) rfl,
    c.def_ 69 (d := dd_Llaw_thing) rfl,
    c.def_ 70 (d := dd_Llaw_by_place) rfl,
    c.def_ 71 (d := dd_Llaw_by_name) rfl,
    c.def_ 72 (d := dd_Llaw_others) rfl,
    c.def_ 73 (d := dd_Llaw_others_by_name) rfl,
    c.def_ 74 (d := dd_Llaw_shared) rfl,
    c.def_ 75 (d := dd_Llaw_first_kinds) rfl,
    c.def_ 76 (d := dd_Llaw_last_kinds) rfl,
    c.def_ 77 (d := dd_Llaw_is) rfl,
    c.def_ 78 (d := dd_Flaw) rfl,
    y0.out⟩
end K48

namespace DL
open PySem.Spec PySem PyProof.Rows L2
/-! ### texts of plain signs, numerals, words and lines -/
theorem sg_len (x : Str) : x.length = (sg x).length := TL.len_tl x
theorem sg_app (x y : Str) : sg (x ++ y) = sg x ++ sg y := TL.tl_append x y
/-- a text of plain signs, not too long -/
def okT (n : Nat) (x : Str) : Prop := x.length ≤ n ∧ ∀ c ∈ sg x, c < 128
theorem okT.str {n : Nat} {x : Str} (h : okT n x) : PyData.strOk x = true := Array.all_eq_true_iff_forall_mem.mpr fun c hc => decide_eq_true (by have := h.2 c (Array.mem_toList_iff.mpr hc); omega)
theorem okT.up {n k : Nat} {x : Str} (h : okT n x) (l : n ≤ k) : okT k x := ⟨Nat.le_trans h.1 l, h.2⟩
theorem okT.app {n k : Nat} {x y : Str} (h : okT n x) (g : okT k y) : okT (n + k) (x ++ y) := by
  refine ⟨by rw [sg_len, sg_app, List.length_append, ← sg_len, ← sg_len]; exact Nat.add_le_add h.1 g.1, fun c hc => ?_⟩
  rw [sg_app] at hc
  exact (List.mem_append.mp hc).elim (h.2 c) (g.2 c)
theorem okT.cut {n : Nat} {x : Str} (h : okT n x) (lo hi : Option Int) : okT n (cutS x lo hi) := by
  refine ⟨Nat.le_trans (cutS_length x lo hi) h.1, fun c hc => h.2 c ?_⟩
  unfold cutS at hc
  exact List.mem_of_mem_drop (List.mem_of_mem_take hc)
section
variable {K : PySem.W.Frag} {k : D → Prop} {a b : Str}
end
/-- a text of one plain sign -/
structure Sep (z : Str) (c : Nat) : Prop where
  one : sg z = [c]
  kind : z.cps.all (· < 256) = true
  ne : (z.length == 0) = false
end DL

namespace DL
open PySem L2 PySem.Spec PyProof.Rows
/-! ### == of data without truth values: the same data -/
def leafN : D → Bool
  | .non => true
  | .int _ => true
  | .str x => PyData.strOk x
  | _ => false
/-- plain data of a depth -/
def plN : Nat → D → Bool
  | n + 1, .tup ds => ds.all (plN n)
  | n + 1, .lst ds => ds.all (plN n)
  | _, d => leafN d
theorem pys_ok {n : Nat} (h : ∀ d : D, plN n d = true → ∃ p, d.py = some p ∧ p.canLay0 = true ∧ p.depth ≤ n) : ∀ ds : List D, (∀ d ∈ ds, plN n d = true) → ∃ ps, D.pys ds = some ps ∧ PyData.canLayAll0 ps = true ∧ PyData.depthAll ps ≤ n
  | [], _ => ⟨[], rfl, rfl, Nat.zero_le _⟩
  | d :: r, a => by
    obtain ⟨p, h1, h2, h3⟩ := h d (a d List.mem_cons_self)
    obtain ⟨ps, i1, i2, i3⟩ := pys_ok h r fun x hx => a x (List.mem_cons_of_mem _ hx)
    refine ⟨p :: ps, ?_, ?_, ?_⟩
    · unfold D.pys
      rw [h1, i1]
      rfl
    · unfold PyData.canLayAll0
      rw [h2, i2]
      rfl
    · unfold PyData.depthAll
      omega
theorem plN_py : ∀ (n : Nat) (d : D), plN n d = true → ∃ p, d.py = some p ∧ p.canLay0 = true ∧ p.depth ≤ n
  | 0, d, h => by
    cases d <;> first | cases h | skip
    · exact ⟨.none, rfl, rfl, Nat.zero_le _⟩
    · exact ⟨.int _, rfl, rfl, Nat.zero_le _⟩
    · exact ⟨.str _, rfl, h, Nat.zero_le _⟩
  | n + 1, d, h => by
    cases d <;> first | cases h | skip
    · exact ⟨.none, rfl, rfl, Nat.zero_le _⟩
    · exact ⟨.int _, rfl, rfl, Nat.zero_le _⟩
    · exact ⟨.str _, rfl, h, Nat.zero_le _⟩
    · rename_i ds
      obtain ⟨ps, i1, i2, i3⟩ := pys_ok (plN_py n) ds (List.all_eq_true.mp h)
      refine ⟨.tuple ps, by unfold D.py; rw [i1]; rfl, i2, ?_⟩
      show PyData.depthAll ps + 1 ≤ n + 1
      omega
    · rename_i ds
      obtain ⟨ps, i1, i2, i3⟩ := pys_ok (plN_py n) ds (List.all_eq_true.mp h)
      refine ⟨.list ps, by unfold D.py; rw [i1]; rfl, i2, ?_⟩
      show PyData.depthAll ps + 1 ≤ n + 1
      omega
theorem pys_cons {d : D} {r : List D} {ps : List PyData} (h : D.pys (d :: r) = some ps) : ∃ p qs, d.py = some p ∧ D.pys r = some qs ∧ ps = p :: qs := by
  unfold D.pys at h
  split at h
  · rename_i p e
    obtain ⟨qs, h1, h2⟩ := Option.map_eq_some_iff.mp h
    exact ⟨p, qs, e, h1, h2.symm⟩
  · cases h
theorem eqvs_iff {n : Nat} (h : ∀ (x y : D) (p q : PyData), plN n x = true → plN n y = true → x.py = some p → y.py = some q → (PyData.eqv p q = true ↔ x = y)) : ∀ (xs ys : List D) (ps qs : List PyData), (∀ d ∈ xs, plN n d = true) → (∀ d ∈ ys, plN n d = true) → D.pys xs = some ps → D.pys ys = some qs → (PyData.eqvAll ps qs = true ↔ xs = ys)
  | [], [], ps, qs, _, _, e1, e2 => by
    cases e1
    cases e2
    simp [PyData.eqvAll]
  | [], y :: ys, ps, qs, _, _, e1, e2 => by
    obtain ⟨p, r, _, _, rfl⟩ := pys_cons e2
    cases e1
    simp [PyData.eqvAll]
  | x :: xs, [], ps, qs, _, _, e1, e2 => by
    obtain ⟨p, r, _, _, rfl⟩ := pys_cons e1
    cases e2
    simp [PyData.eqvAll]
  | x :: xs, y :: ys, ps, qs, a, b, e1, e2 => by
    obtain ⟨p, r, f1, f2, rfl⟩ := pys_cons e1
    obtain ⟨q, t, g1, g2, rfl⟩ := pys_cons e2
    have i1 := h x y p q (a x List.mem_cons_self) (b y List.mem_cons_self) f1 g1
    have i2 := eqvs_iff h xs ys r t (fun d hd => a d (List.mem_cons_of_mem _ hd)) (fun d hd => b d (List.mem_cons_of_mem _ hd)) f2 g2
    unfold PyData.eqvAll
    rw [Bool.and_eq_true, i1, i2, List.cons.injEq]
theorem plN_eqv : ∀ (n : Nat) (x y : D) (p q : PyData), plN n x = true → plN n y = true → x.py = some p → y.py = some q → (PyData.eqv p q = true ↔ x = y)
  | 0, x, y, p, q, hx, hy, e1, e2 => by
    cases x <;> first | cases hx | skip
    all_goals cases y <;> first | cases hy | skip
    all_goals cases (Option.some.inj e1)
    all_goals cases (Option.some.inj e2)
    all_goals simp [PyData.eqv]
  | n + 1, x, y, p, q, hx, hy, e1, e2 => by
    have tl : ∀ (ds : List D) (p : PyData), (D.tup ds).py = some p → ∃ ps, D.pys ds = some ps ∧ p = .tuple ps := fun ds p e => by
      obtain ⟨ps, h1, h2⟩ := Option.map_eq_some_iff.mp (show (D.pys ds).map PyData.tuple = some p from e)
      exact ⟨ps, h1, h2.symm⟩
    have ll : ∀ (ds : List D) (p : PyData), (D.lst ds).py = some p → ∃ ps, D.pys ds = some ps ∧ p = .list ps := fun ds p e => by
      obtain ⟨ps, h1, h2⟩ := Option.map_eq_some_iff.mp (show (D.pys ds).map PyData.list = some p from e)
      exact ⟨ps, h1, h2.symm⟩
    cases x <;> first | cases hx | skip
    all_goals cases y <;> first | cases hy | skip
    all_goals first
      | (obtain ⟨ps, a1, rfl⟩ := tl _ _ e1)
      | (obtain ⟨ps, a1, rfl⟩ := ll _ _ e1)
      | (cases (Option.some.inj e1))
    all_goals first
      | (obtain ⟨qs, a2, rfl⟩ := tl _ _ e2)
      | (obtain ⟨qs, a2, rfl⟩ := ll _ _ e2)
      | (cases (Option.some.inj e2))
    all_goals first
      | (simp [PyData.eqv]; done)
      | (rename_i xs ys
         have i := eqvs_iff (plN_eqv n) xs ys ps qs (List.all_eq_true.mp hx) (List.all_eq_true.mp hy) a1 a2
         unfold PyData.eqv
         rw [i]
         simp)
section
variable {K : PySem.W.Frag} {k : D → Prop} {x y : D}
theorem rd_eqPd {n : Nat} (hx : plN n x = true) (hy : plN n y = true) (hn : n ≤ 64) (p : ∀ b, (b = true ↔ x = y) → k (.bl b)) : RD K (rEqD K) x y k := by
  obtain ⟨px, h1, h2, h3⟩ := plN_py n x hx
  obtain ⟨py, g1, g2, g3⟩ := plN_py n y hy
  exact rd_eqD h1 g1 (by unfold SeqAt.shaped; rw [h2, decide_eq_true (show px.depth ≤ 64 by omega)]; rfl) (by unfold SeqAt.shaped; rw [g2, decide_eq_true (show py.depth ≤ 64 by omega)]; rfl) (p _ (plN_eqv n x y px py hx hy h1 g1))
theorem rd_eqP {n : Nat} (hx : plN n x = true) (hy : plN n y = true) (hn : n ≤ 64) (p : ∀ b, (b = true ↔ x = y) → k (.bl b)) : RD K (rEqA K) x y k := rd_eqL (rd_eqPd hx hy hn p)
end
end DL

namespace DL
open PySem L2 PySem.Spec PyProof.Rows
section
variable {G : Gx} {ρ : Env} {t : TA} {PI_ : List D → Env → Prop}
end
end DL

namespace DC
open PySem.Spec PySem PyProof.Rows L2
end DC
namespace DL
open PySem L2
theorem fm_some {α β : Type} (f : α → β) (ps : List α) : (ps.filterMap fun p => some (f p)) = ps.map f := by
  rw [← List.filterMap_eq_map]
  rfl
theorem fm_if {α β : Type} (c : α → Bool) (f : α → β) (ps : List α) : (ps.filterMap fun p => if c p = true then some (f p) else none) = (ps.filter c).map f := by
  induction ps with
  | nil => rfl
  | cons p r ih =>
    by_cases h : c p = true
    · rw [List.filterMap_cons, if_pos h, List.filter_cons_of_pos h, List.map_cons, ih]
    · rw [List.filterMap_cons, if_neg h, List.filter_cons_of_neg h, ih]
section
variable {G : Gx} {ρ : Env} {v : Nat} {tt : TT} {tk tv te0 : TE} {wi : TI} {P : D → Env → Prop} {ps : List Int} {c : Int → Bool} {g : Int → Int}
end
end DL
namespace DL
open PySem L2
section
variable {α : Type} {G : Gx} {ρ : Env} {v u : Nat} {tt : TT} {te : TE} {wi : TI} {P : D → Env → Prop} {f : α → Option D} {xs : List α}
def TurnA (G : Gx) (tt : TT) (te : TE) (o : Option D) (ρ' : Env) : Prop := WT G.nox tt ρ' fun b ρ4 => ρ4 = ρ' ∧ if b = true then W G.nox te ρ' fun y ρ5 => ρ5 = ρ' ∧ o = some y else o = none
theorem turnA_ok {i : Nat} {a : α} {ρ' : Env} {ws : List Nat} (mx : mixE (inL ws) 0 ρ ρ' = ρ) (ha : xs[i]? = some a) (t : TurnA G tt te (f a) ρ') :
    WT G.nox tt ρ' fun b ρ4 => if b = true then W G.nox te ρ4 fun y ρ5 => ((xs.take i).filterMap f ++ [y] = (xs.take (i + 1)).filterMap f ∧ mixE (inL ws) 0 ρ ρ5 = ρ) else ((xs.take i).filterMap f = (xs.take (i + 1)).filterMap f ∧ mixE (inL ws) 0 ρ ρ4 = ρ) := by
  refine WT.imp t fun b ρ4 h4 => ?_
  obtain ⟨rfl, h4⟩ := h4
  cases b with
  | true =>
    rw [if_pos rfl] at h4 ⊢
    refine h4.imp fun z ρ5 h5 => ?_
    obtain ⟨rfl, h5⟩ := h5
    exact ⟨by rw [filterMap_step ha, h5], mx⟩
  | false =>
    rw [if_neg Bool.false_ne_true] at h4 ⊢
    exact ⟨by rw [filterMap_step ha, h4, List.append_nil], mx⟩
/-- over a list of things told by r -/
theorem w_lcA {r : α → D} (hv : v ∉ G.px) (n : NameOk v ρ) (h : WI G wi ρ fun ds ρ1 => ρ1 = ρ ∧ ds = xs.map r ∧ xs.length ≤ 90000 ∧ (∀ a ∈ xs, TurnA G tt te (f a) (inE v ρ (r a))) ∧ P (.lst (xs.filterMap f)) ρ) :
    W G (tLc wi (gName v) tt te [v]) ρ P := by
  refine w_lc (sl := [v]) (fun i hi hm => hv (by rw [List.mem_singleton] at hm; rw [← hm]; exact hi)) (fun j hj => hj) fun w σ R o e q => h w σ R o e fun J w1 ds ρ1 hh => ?_
  obtain ⟨rfl, rfl, hl, ht, hp⟩ := hh
  refine q J w1 _ _ ⟨by rw [List.length_map]; exact hl, fun i acc ρ' => acc = (xs.take i).filterMap f ∧ ρ' = ρ1, ⟨by simp, rfl⟩, ?_, ?_⟩
  · rintro i d acc ρ2 hd ⟨rfl, rfl⟩
    rw [List.getElem?_map] at hd
    obtain ⟨a, ha, rfl⟩ := Option.map_eq_some_iff.mp hd
    exact wg_name hv (by simp) (turnA_ok (mix_in n) ha (ht a (List.mem_of_getElem? ha)))
  · rintro acc ρ2 ⟨rfl, rfl⟩
    rw [List.length_map]
    rw [List.take_length]
    exact hp
end
end DL

namespace DC
open PySem.Spec PySem PyProof.Rows L2
section
variable {X : Cx} {i : Nat} {y : Str} {py p1 p2 : Pos} {kx vx tgt iter : Expr} {tests : List Expr} {scp : Scope} {own : List (Str × Nat)} {wi : TI} {g : TG} {tt : TT} {tk tv : TE}
end
end DC

namespace DL
open PySem L2 PySem.Spec PyProof.Rows
section
variable {G : Gx} {ρ : Env} {t : TA} {PI_ : List D → Env → Prop}
end
end DL

namespace DC
open PySem.Spec PySem PyProof.Rows L2
section
variable {kx vx t0 i0 t1 i1 : Expr} {c0 c1 : List Expr} {scope : Scope} {pos : Pos}
abbrev two (kx vx t0 i0 t1 i1 : Expr) (c0 c1 : List Expr) (scope : Scope) (pos : Pos) : Expr := .DictComp kx vx [⟨t0, i0, c0, 0⟩, ⟨t1, i1, c1, 0⟩] scope pos
end
section
variable {prog : Program} {w : World} {A : Around} {R : Result → Shared → Prop} {s : Shared} {e t : Expr} {d : Nat} {p : Pos} {cs : List Expr} {more : Sem Fin → Sem Fin} {it acc : Value} {env : PySem.Env}
/-- what a turn may end with -/
abbrev Ends (e : Expr) (d : Nat) (it acc : Value) (env : PySem.Env) (R : Result → Shared → Prop) (I : Nat → Shared → Prop) (n : Nat) : Fin → Shared → Prop := fun f s' => match f with
  | .done r => R (.ok r) s'
  | .again c => c = .compLoop e d it acc env ∧ ∃ m, m < n ∧ I m s'
end
end DC
namespace DC
open PySem.Spec PySem PyProof.Rows L2
/-- what the slots of a tell, those of b tell too -/
def Und (a b : L2.St) : Prop := a.length = b.length ∧ ∀ (j : Nat) v, a[j]? = some (some v) → b[j]? = some (some v)
theorem Und.refl (a : L2.St) : Und a a := ⟨rfl, fun _ _ h => h⟩
theorem Und.trans {a b c : L2.St} (h : Und a b) (k : Und b c) : Und a c := ⟨h.1.trans k.1, fun j v z => k.2 j v (h.2 j v z)⟩
theorem Und.wiped {a b : L2.St} {vs : List Nat} (h : wipe b vs = wipe a vs) : Und (wipe a vs) b := ⟨by rw [← h, wipe_length], fun j v z => by rw [← h] at z; exact (wipe_some z).1⟩
theorem Und.wipe {b : L2.St} {vs : List Nat} : Und (wipe b vs) b := Und.wiped rfl
theorem Und.less {a b : L2.St} {vs vs1 : List Nat} (h : Und (L2.wipe a vs) b) (sub : ∀ i ∈ vs1, i ∈ vs) : Und (L2.wipe a vs) (L2.wipe b vs1) := ⟨by rw [h.1, wipe_length], fun j v z => by
  rw [wipe_out fun m => (wipe_some z).2 (sub j m)]
  exact h.2 j v z⟩
section
variable {kx vx t0 i0 t1 i1 : Expr} {c0 c1 : List Expr} {scope : Scope} {pos : Pos} {Y : Cx}
end
end DC

namespace DC
open PySem.Spec PySem PyProof.Rows L2
section
variable {X : Cx} {kx vx t0 i0 t1 i1 : Expr} {c0 c1 : List Expr} {scope : Scope} {pos : Pos} {own : List (Str × Nat)} {vs1 : List Nat} {wi wi1 : TI} {g g1 : TG} {tt tt1 : TT} {tk tv : TE}
end
end DC

namespace DL
open PySem L2
/-! ### comprehensions with two walks, over anything -/
/-- what is gathered -/
structure Sink (K : PySem.W.Frag) where
  A : Type
  B : Type
  ob : B → HO
  hard : ∀ b, Hard (ob b)
  len : A → Nat
  rep : Hp → B → A → Prop
  mono : ∀ {S S' : Hp} {b : B} {a : A}, Ex S S' → rep S b a → rep S' b a
  b0 : B
  a0 : A
  l0 : len a0 = 0
  r0 : ∀ S, rep S b0 a0
  out : A → M
  own : ∀ {S H : Hp} {p : Addr} {b : B} {a : A}, S p = none → H p = some (ob b) → rep S b a → OwnR K S H (.ref p) (out a) [p]
section
variable {G : Gx} {ρ : Env} {te tk tv : TE}
end
section
variable {G : Gx} {ρ : Env} {PI_ : List D → Env → Prop}
end
/-- alike but for the names vs -/
def Same (vs : List Nat) (ρ ρ' : Env) : Prop := ρ'.length = ρ.length ∧ ∀ j, j ∉ vs → ρ'[j]? = ρ[j]?
section
variable {A α β : Type}
end
end DL
namespace DL
open PySem L2
section
variable {α β : Type} {G : Gx} {ρ : Env} {vs vs1 sl sl1 : List Nat} {wi wi1 : TI} {g g1 : TG} {tt tt1 : TT} {Z : Sink G.K} {put : Addr → (Hp → Prop) → St → Hp → Prop} {PO : M → Env → Prop} {xs : List α} {r : α → D} {ys : α → List β} {r1 : α → β → D} {stp : α → β → Z.A → Z.A}
end
end DL

namespace DL
open PySem L2
theorem Same.set {vs : List Nat} {ρ ρ' : Env} {v : Nat} {x : Option M} (h : Same vs ρ ρ') (hv : v ∈ vs) : Same vs ρ (ρ'.set v x) := ⟨List.length_set.trans h.1, fun j hj => by
  rw [List.getElem?_set_ne fun z => hj (by rw [← z]; exact hv)]
  exact h.2 j hj⟩
section
variable {α β : Type} {G : Gx} {ρ : Env} {vs vs1 sl sl1 : List Nat} {wi wi1 : TI} {g g1 : TG} {tt tt1 : TT} {te tk tv : TE} {P : D → Env → Prop} {xs : List α} {r : α → D} {ys : α → List β} {r1 : α → β → D}
end
end DL

namespace DL
open PySem L2
end DL

/-! text * int -/
namespace DC
open PySem L2 PySem.Spec PyProof.Rows
end DC
namespace DL
open PySem L2
end DL

namespace DC
open PySem L2 PySem.Spec PyProof.Rows
section
variable {M : Model} {A : Around} {E : Value → Shared → Prop} {s : Shared} {env : PySem.Env}
end
end DC
namespace DL
open PySem L2 PySem.Spec PyProof.Rows
section
variable {G : Gx} {ρ : Env} {t : TA} {tk : TE} {PI_ : List D → Env → Prop}
end
end DL

namespace DL
open PySem L2 PySem.Spec PyProof.Rows
/-! ### list(range(i, j, c)) -/
/-- n integers from i on, c apart -/
def stepV (i c : Int) (n : Nat) : List V := (List.range n).map fun m => V.int (i + (m : Nat) * c)
end DL

namespace DL
open PySem L2 PySem.Spec PyProof.Rows
end DL

namespace K48
open PySem PySem.Spec PyProof.Rows L2 DL
variable {prg : Program} {wd : World} {K : PySem.W.Frag} {mg : Str → Option Value} {bs : Heap}
local macro_rules | `(tactic| walk_at "px") => `(tactic| first | exact List.not_mem_nil | (show _ ∉ ([0] : List Nat); decide) | (show _ ∉ ([] : List Nat); decide) | fail)
local macro_rules | `(tactic| walk_at "s") => `(tactic| with_reducible first
  | refine ws_seq ?_ | refine ws_if ?_ | refine ws_next ?_ | refine ws_ret ?_ | refine ws_retN ?_ | refine ws_asg (by walk_at "px") ?_ | refine ws_par (by walk_at "px") (by walk_at "px") ?_
  | refine w_var (by with_unfolding_all rfl) ?_ | refine w_int ?_ | refine w_bl ?_ | refine w_non ?_ | refine w_str ?_ | refine w_dnew ?_ | refine w_ty ?_
  | refine w_op ?_ | refine w_un ?_ | refine w_fld ?_ | refine w_xf ?_ | refine wt_test ?_ | refine wt_B ?_ | refine wt_yes ?_ | refine wt_and ?_ | refine wt_or ?_ | refine wt_not ?_ | refine w_andV ?_ | refine w_orV ?_ | refine w_notV ?_ | refine w_ifE ?_ | refine w_chain ?_
  | refine wa_nil ?_ | refine wa_cons ?_ | refine w_tup ?_ | refine w_lst ?_ | refine w_slice ?_ | refine w_dget ?_ | refine w_dget2 ?_ | refine w_dget1 ?_ | refine wp_no ?_ | refine wp_int ?_
  | refine w_cd repL_nil ?_ | refine w_md repL_nil ?_ | refine w_mk repL_nil ?_ | refine w_co repL_nil ⟨_, by with_unfolding_all rfl⟩ ?_ | refine w_call ?_
  | refine rd_add ?_ | refine rd_sub ?_ | refine rd_lt ?_ | refine rd_le ?_ | refine rd_gt ?_ | refine rd_ge ?_ | refine rd_ltS ?_ | refine rd_leS ?_ | refine rd_gtS ?_ | refine rd_geS ?_ | refine rd_isN ?_ | refine rd_notN ?_ | refine rd_eqAI ?_ | refine rd_neAI ?_ | refine rd_eqAS ?_ | refine rd_neAS ?_
  | refine wg_tup rfl ?_ | refine wgs_cons ?_ | refine wg_name (by walk_at "px") (by simp) ?_ | refine wgs_nil ?_
  | refine ru_neg ?_ | refine ⟨(by show List.length _ ≤ 100000; simp; try omega), ?_⟩
  | refine rc_abs ?_ | refine rc_int1 ?_ | refine rc_min2 ?_ | refine rc_max2 ?_
  | refine ⟨_, rfl, ?_⟩ | fail)
local macro_rules | `(tactic| walk_at "go") => `(tactic| repeat' walk_at "s")
local macro_rules | `(tactic| walk_at "args") => `(tactic| repeat' (with_reducible first | refine wa_cons ?_ | refine wa_nil ?_ | refine w_int ?_ | refine w_bl ?_ | refine w_non ?_ | refine w_str ?_ | refine w_dnew ?_ | refine w_tup ?_ | refine w_lst ?_ | refine w_un ?_ | refine ru_neg ?_ | refine w_var (by with_unfolding_all rfl) ?_ | refine ⟨(by show List.length _ ≤ 100000; simp; try omega), ?_⟩ | fail))
local macro_rules | `(tactic| walk_at "e") => `(tactic| with_reducible first
  | refine w_var (by with_unfolding_all rfl) ?_ | refine w_int ?_ | refine w_bl ?_ | refine w_non ?_ | refine w_str ?_ | refine w_dnew ?_ | refine w_ty ?_
  | refine w_op ?_ | refine w_un ?_ | refine w_fld ?_ | refine w_xf ?_ | refine wt_test ?_ | refine wt_B ?_ | refine wt_yes ?_ | refine wt_and ?_ | refine wt_or ?_ | refine wt_not ?_ | refine w_andV ?_ | refine w_orV ?_ | refine w_notV ?_ | refine w_ifE ?_ | refine w_chain ?_
  | refine wa_nil ?_ | refine wa_cons ?_ | refine w_tup ?_ | refine w_lst ?_ | refine w_slice ?_ | refine w_dget ?_ | refine w_dget2 ?_ | refine w_dget1 ?_ | refine wp_no ?_ | refine wp_int ?_
  | refine w_cd repL_nil ?_ | refine w_md repL_nil ?_ | refine w_mk repL_nil ?_ | refine w_co repL_nil ⟨_, by with_unfolding_all rfl⟩ ?_ | refine w_call ?_
  | refine rd_add ?_ | refine rd_sub ?_ | refine rd_lt ?_ | refine rd_le ?_ | refine rd_gt ?_ | refine rd_ge ?_ | refine rd_ltS ?_ | refine rd_leS ?_ | refine rd_gtS ?_ | refine rd_geS ?_ | refine rd_isN ?_ | refine rd_notN ?_ | refine rd_eqAI ?_ | refine rd_neAI ?_ | refine rd_eqAS ?_ | refine rd_neAS ?_
  | refine wg_tup rfl ?_ | refine wgs_cons ?_ | refine wg_name (by walk_at "px") (by simp) ?_ | refine wgs_nil ?_
  | refine ru_neg ?_ | refine ⟨(by show List.length _ ≤ 100000; simp; try omega), ?_⟩
  | refine rc_abs ?_ | refine rc_int1 ?_ | refine rc_min2 ?_ | refine rc_max2 ?_
  | refine ⟨_, rfl, ?_⟩ | fail)
local macro_rules | `(tactic| walk_at "ex") => `(tactic| repeat' walk_at "e")
local macro_rules | `(tactic| walk_at "a_") => `(tactic| (show WS _ _ _ _; (with_reducible try refine ws_seq ?_); with_reducible refine ws_asg (by walk_at "px") ?_; walk_at "ex"))
local macro_rules | `(tactic| walk_at "i_") => `(tactic| (show WS _ _ _ _; (with_reducible try refine ws_seq ?_); with_reducible refine ws_if ?_; walk_at "ex"))
local macro_rules | `(tactic| walk_at "d_") => `(tactic| (show WS _ _ _ _; (with_reducible try refine ws_seq ?_); with_reducible refine ws_drop ?_; walk_at "ex"))
local macro_rules | `(tactic| walk_at "r_") => `(tactic| (show WS _ _ _ _; with_reducible refine ws_ret ?_; walk_at "ex"))
local macro_rules | `(tactic| walk_at "v_") => `(tactic| refine w_var (by with_unfolding_all rfl) ?_)

theorem sc_BadDay_init : FnScope ["self", "given"] ["self", "given"] (defScope s_BadDay_init) := ⟨rfl, rfl, rfl, by decide +kernel, rfl, by decide +kernel, by decide +kernel⟩
theorem ok_BadDay_init (T : Tx K mg) (tb : ∀ p ∈ csOf K, LamX.TabB bs mg p.1 p.2) : ∃ fd, FnOk prg wd K mg bs (L2.CX prg wd) 1 (He.ma K (He.ga K "BadDay") "__init__") fd ["self", "given"] (spIni K ["given"]) ∧ L2.Binds K fd ["self", "given"] [] ∧ L2.KBn K fd ["self", "given"] 1 ["given"] (DC.kwG [0]) (DC.kwG [0]) := by
  obtain ⟨fd, F0⟩ := T.d_BadDay_init
  refine ⟨fd, F0.ok sc_BadDay_init (fun vs H Q E h => ?_) (fun cdv A outer s H vs Q E hr h => ?_), F0.bindsN fun _ _ _ _ _ _ us hl => match us, hl with | [_, _], _ => rfl, DC.kbN F0 1 ["given"] [0] (fun _ _ _ _ _ _ us ws h1 h2 => match us, ws, h1, h2 with | [_], [_], _, _ => rfl)⟩
  · obtain ⟨a, C, y, rfl, _⟩ := h
    rfl
  · refine ⟨_, PSs.nox (pss_one (ps_ost (f := "given") (pv 0) (pv 1))), ?_⟩
    obtain ⟨a, C, y, rfl, oc, no, hH, q⟩ := h
    exact ⟨_, rfl, _, rfl, a, C, rfl, oc, no, .inl ⟨hH, q⟩⟩
theorem sc_BadCause_init : FnScope ["self", "given"] ["self", "given"] (defScope s_BadCause_init) := ⟨rfl, rfl, rfl, by decide +kernel, rfl, by decide +kernel, by decide +kernel⟩
theorem ok_BadCause_init (T : Tx K mg) (tb : ∀ p ∈ csOf K, LamX.TabB bs mg p.1 p.2) : ∃ fd, FnOk prg wd K mg bs (L2.CX prg wd) 1 (He.ma K (He.ga K "BadCause") "__init__") fd ["self", "given"] (spIni K ["given"]) ∧ L2.Binds K fd ["self", "given"] [] ∧ L2.KBn K fd ["self", "given"] 1 ["given"] (DC.kwG [0]) (DC.kwG [0]) := by
  obtain ⟨fd, F0⟩ := T.d_BadCause_init
  refine ⟨fd, F0.ok sc_BadCause_init (fun vs H Q E h => ?_) (fun cdv A outer s H vs Q E hr h => ?_), F0.bindsN fun _ _ _ _ _ _ us hl => match us, hl with | [_, _], _ => rfl, DC.kbN F0 1 ["given"] [0] (fun _ _ _ _ _ _ us ws h1 h2 => match us, ws, h1, h2 with | [_], [_], _, _ => rfl)⟩
  · obtain ⟨a, C, y, rfl, _⟩ := h
    rfl
  · refine ⟨_, PSs.nox (pss_one (ps_ost (f := "given") (pv 0) (pv 1))), ?_⟩
    obtain ⟨a, C, y, rfl, oc, no, hH, q⟩ := h
    exact ⟨_, rfl, _, rfl, a, C, rfl, oc, no, .inl ⟨hH, q⟩⟩
theorem sc_BadPostings_init : FnScope ["self", "given"] ["self", "given"] (defScope s_BadPostings_init) := ⟨rfl, rfl, rfl, by decide +kernel, rfl, by decide +kernel, by decide +kernel⟩
theorem ok_BadPostings_init (T : Tx K mg) (tb : ∀ p ∈ csOf K, LamX.TabB bs mg p.1 p.2) : ∃ fd, FnOk prg wd K mg bs (L2.CX prg wd) 1 (He.ma K (He.ga K "BadPostings") "__init__") fd ["self", "given"] (spIni K ["given"]) ∧ L2.Binds K fd ["self", "given"] [] ∧ L2.KBn K fd ["self", "given"] 1 ["given"] (DC.kwG [0]) (DC.kwG [0]) := by
  obtain ⟨fd, F0⟩ := T.d_BadPostings_init
  refine ⟨fd, F0.ok sc_BadPostings_init (fun vs H Q E h => ?_) (fun cdv A outer s H vs Q E hr h => ?_), F0.bindsN fun _ _ _ _ _ _ us hl => match us, hl with | [_, _], _ => rfl, DC.kbN F0 1 ["given"] [0] (fun _ _ _ _ _ _ us ws h1 h2 => match us, ws, h1, h2 with | [_], [_], _, _ => rfl)⟩
  · obtain ⟨a, C, y, rfl, _⟩ := h
    rfl
  · refine ⟨_, PSs.nox (pss_one (ps_ost (f := "given") (pv 0) (pv 1))), ?_⟩
    obtain ⟨a, C, y, rfl, oc, no, hH, q⟩ := h
    exact ⟨_, rfl, _, rfl, a, C, rfl, oc, no, .inl ⟨hH, q⟩⟩
theorem sc_BadAccount_init : FnScope ["self", "given"] ["self", "given"] (defScope s_BadAccount_init) := ⟨rfl, rfl, rfl, by decide +kernel, rfl, by decide +kernel, by decide +kernel⟩
theorem ok_BadAccount_init (T : Tx K mg) (tb : ∀ p ∈ csOf K, LamX.TabB bs mg p.1 p.2) : ∃ fd, FnOk prg wd K mg bs (L2.CX prg wd) 1 (He.ma K (He.ga K "BadAccount") "__init__") fd ["self", "given"] (spIni K ["given"]) ∧ L2.Binds K fd ["self", "given"] [] ∧ L2.KBn K fd ["self", "given"] 1 ["given"] (DC.kwG [0]) (DC.kwG [0]) := by
  obtain ⟨fd, F0⟩ := T.d_BadAccount_init
  refine ⟨fd, F0.ok sc_BadAccount_init (fun vs H Q E h => ?_) (fun cdv A outer s H vs Q E hr h => ?_), F0.bindsN fun _ _ _ _ _ _ us hl => match us, hl with | [_, _], _ => rfl, DC.kbN F0 1 ["given"] [0] (fun _ _ _ _ _ _ us ws h1 h2 => match us, ws, h1, h2 with | [_], [_], _, _ => rfl)⟩
  · obtain ⟨a, C, y, rfl, _⟩ := h
    rfl
  · refine ⟨_, PSs.nox (pss_one (ps_ost (f := "given") (pv 0) (pv 1))), ?_⟩
    obtain ⟨a, C, y, rfl, oc, no, hH, q⟩ := h
    exact ⟨_, rfl, _, rfl, a, C, rfl, oc, no, .inl ⟨hH, q⟩⟩
theorem sc_BadAmount_init : FnScope ["self", "given"] ["self", "given"] (defScope s_BadAmount_init) := ⟨rfl, rfl, rfl, by decide +kernel, rfl, by decide +kernel, by decide +kernel⟩
theorem ok_BadAmount_init (T : Tx K mg) (tb : ∀ p ∈ csOf K, LamX.TabB bs mg p.1 p.2) : ∃ fd, FnOk prg wd K mg bs (L2.CX prg wd) 1 (He.ma K (He.ga K "BadAmount") "__init__") fd ["self", "given"] (spIni K ["given"]) ∧ L2.Binds K fd ["self", "given"] [] ∧ L2.KBn K fd ["self", "given"] 1 ["given"] (DC.kwG [0]) (DC.kwG [0]) := by
  obtain ⟨fd, F0⟩ := T.d_BadAmount_init
  refine ⟨fd, F0.ok sc_BadAmount_init (fun vs H Q E h => ?_) (fun cdv A outer s H vs Q E hr h => ?_), F0.bindsN fun _ _ _ _ _ _ us hl => match us, hl with | [_, _], _ => rfl, DC.kbN F0 1 ["given"] [0] (fun _ _ _ _ _ _ us ws h1 h2 => match us, ws, h1, h2 with | [_], [_], _, _ => rfl)⟩
  · obtain ⟨a, C, y, rfl, _⟩ := h
    rfl
  · refine ⟨_, PSs.nox (pss_one (ps_ost (f := "given") (pv 0) (pv 1))), ?_⟩
    obtain ⟨a, C, y, rfl, oc, no, hH, q⟩ := h
    exact ⟨_, rfl, _, rfl, a, C, rfl, oc, no, .inl ⟨hH, q⟩⟩
theorem sc_BadUnit_init : FnScope ["self", "given"] ["self", "given"] (defScope s_BadUnit_init) := ⟨rfl, rfl, rfl, by decide +kernel, rfl, by decide +kernel, by decide +kernel⟩
theorem ok_BadUnit_init (T : Tx K mg) (tb : ∀ p ∈ csOf K, LamX.TabB bs mg p.1 p.2) : ∃ fd, FnOk prg wd K mg bs (L2.CX prg wd) 1 (He.ma K (He.ga K "BadUnit") "__init__") fd ["self", "given"] (spIni K ["given"]) ∧ L2.Binds K fd ["self", "given"] [] ∧ L2.KBn K fd ["self", "given"] 1 ["given"] (DC.kwG [0]) (DC.kwG [0]) := by
  obtain ⟨fd, F0⟩ := T.d_BadUnit_init
  refine ⟨fd, F0.ok sc_BadUnit_init (fun vs H Q E h => ?_) (fun cdv A outer s H vs Q E hr h => ?_), F0.bindsN fun _ _ _ _ _ _ us hl => match us, hl with | [_, _], _ => rfl, DC.kbN F0 1 ["given"] [0] (fun _ _ _ _ _ _ us ws h1 h2 => match us, ws, h1, h2 with | [_], [_], _, _ => rfl)⟩
  · obtain ⟨a, C, y, rfl, _⟩ := h
    rfl
  · refine ⟨_, PSs.nox (pss_one (ps_ost (f := "given") (pv 0) (pv 1))), ?_⟩
    obtain ⟨a, C, y, rfl, oc, no, hH, q⟩ := h
    exact ⟨_, rfl, _, rfl, a, C, rfl, oc, no, .inl ⟨hH, q⟩⟩
theorem sc_BadOwner_init : FnScope ["self", "given"] ["self", "given"] (defScope s_BadOwner_init) := ⟨rfl, rfl, rfl, by decide +kernel, rfl, by decide +kernel, by decide +kernel⟩
theorem ok_BadOwner_init (T : Tx K mg) (tb : ∀ p ∈ csOf K, LamX.TabB bs mg p.1 p.2) : ∃ fd, FnOk prg wd K mg bs (L2.CX prg wd) 1 (He.ma K (He.ga K "BadOwner") "__init__") fd ["self", "given"] (spIni K ["given"]) ∧ L2.Binds K fd ["self", "given"] [] ∧ L2.KBn K fd ["self", "given"] 1 ["given"] (DC.kwG [0]) (DC.kwG [0]) := by
  obtain ⟨fd, F0⟩ := T.d_BadOwner_init
  refine ⟨fd, F0.ok sc_BadOwner_init (fun vs H Q E h => ?_) (fun cdv A outer s H vs Q E hr h => ?_), F0.bindsN fun _ _ _ _ _ _ us hl => match us, hl with | [_, _], _ => rfl, DC.kbN F0 1 ["given"] [0] (fun _ _ _ _ _ _ us ws h1 h2 => match us, ws, h1, h2 with | [_], [_], _, _ => rfl)⟩
  · obtain ⟨a, C, y, rfl, _⟩ := h
    rfl
  · refine ⟨_, PSs.nox (pss_one (ps_ost (f := "given") (pv 0) (pv 1))), ?_⟩
    obtain ⟨a, C, y, rfl, oc, no, hH, q⟩ := h
    exact ⟨_, rfl, _, rfl, a, C, rfl, oc, no, .inl ⟨hH, q⟩⟩
theorem sc_BadName_init : FnScope ["self", "given"] ["self", "given"] (defScope s_BadName_init) := ⟨rfl, rfl, rfl, by decide +kernel, rfl, by decide +kernel, by decide +kernel⟩
theorem ok_BadName_init (T : Tx K mg) (tb : ∀ p ∈ csOf K, LamX.TabB bs mg p.1 p.2) : ∃ fd, FnOk prg wd K mg bs (L2.CX prg wd) 1 (He.ma K (He.ga K "BadName") "__init__") fd ["self", "given"] (spIni K ["given"]) ∧ L2.Binds K fd ["self", "given"] [] ∧ L2.KBn K fd ["self", "given"] 1 ["given"] (DC.kwG [0]) (DC.kwG [0]) := by
  obtain ⟨fd, F0⟩ := T.d_BadName_init
  refine ⟨fd, F0.ok sc_BadName_init (fun vs H Q E h => ?_) (fun cdv A outer s H vs Q E hr h => ?_), F0.bindsN fun _ _ _ _ _ _ us hl => match us, hl with | [_, _], _ => rfl, DC.kbN F0 1 ["given"] [0] (fun _ _ _ _ _ _ us ws h1 h2 => match us, ws, h1, h2 with | [_], [_], _, _ => rfl)⟩
  · obtain ⟨a, C, y, rfl, _⟩ := h
    rfl
  · refine ⟨_, PSs.nox (pss_one (ps_ost (f := "given") (pv 0) (pv 1))), ?_⟩
    obtain ⟨a, C, y, rfl, oc, no, hH, q⟩ := h
    exact ⟨_, rfl, _, rfl, a, C, rfl, oc, no, .inl ⟨hH, q⟩⟩
theorem sc_BadPrice_init : FnScope ["self", "given"] ["self", "given"] (defScope s_BadPrice_init) := ⟨rfl, rfl, rfl, by decide +kernel, rfl, by decide +kernel, by decide +kernel⟩
theorem ok_BadPrice_init (T : Tx K mg) (tb : ∀ p ∈ csOf K, LamX.TabB bs mg p.1 p.2) : ∃ fd, FnOk prg wd K mg bs (L2.CX prg wd) 1 (He.ma K (He.ga K "BadPrice") "__init__") fd ["self", "given"] (spIni K ["given"]) ∧ L2.Binds K fd ["self", "given"] [] ∧ L2.KBn K fd ["self", "given"] 1 ["given"] (DC.kwG [0]) (DC.kwG [0]) := by
  obtain ⟨fd, F0⟩ := T.d_BadPrice_init
  refine ⟨fd, F0.ok sc_BadPrice_init (fun vs H Q E h => ?_) (fun cdv A outer s H vs Q E hr h => ?_), F0.bindsN fun _ _ _ _ _ _ us hl => match us, hl with | [_, _], _ => rfl, DC.kbN F0 1 ["given"] [0] (fun _ _ _ _ _ _ us ws h1 h2 => match us, ws, h1, h2 with | [_], [_], _, _ => rfl)⟩
  · obtain ⟨a, C, y, rfl, _⟩ := h
    rfl
  · refine ⟨_, PSs.nox (pss_one (ps_ost (f := "given") (pv 0) (pv 1))), ?_⟩
    obtain ⟨a, C, y, rfl, oc, no, hH, q⟩ := h
    exact ⟨_, rfl, _, rfl, a, C, rfl, oc, no, .inl ⟨hH, q⟩⟩
theorem sc_BadRow_init : FnScope ["self", "given"] ["self", "given"] (defScope s_BadRow_init) := ⟨rfl, rfl, rfl, by decide +kernel, rfl, by decide +kernel, by decide +kernel⟩
theorem ok_BadRow_init (T : Tx K mg) (tb : ∀ p ∈ csOf K, LamX.TabB bs mg p.1 p.2) : ∃ fd, FnOk prg wd K mg bs (L2.CX prg wd) 1 (He.ma K (He.ga K "BadRow") "__init__") fd ["self", "given"] (spIni K ["given"]) ∧ L2.Binds K fd ["self", "given"] [] ∧ L2.KBn K fd ["self", "given"] 1 ["given"] (DC.kwG [0]) (DC.kwG [0]) := by
  obtain ⟨fd, F0⟩ := T.d_BadRow_init
  refine ⟨fd, F0.ok sc_BadRow_init (fun vs H Q E h => ?_) (fun cdv A outer s H vs Q E hr h => ?_), F0.bindsN fun _ _ _ _ _ _ us hl => match us, hl with | [_, _], _ => rfl, DC.kbN F0 1 ["given"] [0] (fun _ _ _ _ _ _ us ws h1 h2 => match us, ws, h1, h2 with | [_], [_], _, _ => rfl)⟩
  · obtain ⟨a, C, y, rfl, _⟩ := h
    rfl
  · refine ⟨_, PSs.nox (pss_one (ps_ost (f := "given") (pv 0) (pv 1))), ?_⟩
    obtain ⟨a, C, y, rfl, oc, no, hH, q⟩ := h
    exact ⟨_, rfl, _, rfl, a, C, rfl, oc, no, .inl ⟨hH, q⟩⟩
theorem sc_BadStatement_init : FnScope ["self", "given"] ["self", "given"] (defScope s_BadStatement_init) := ⟨rfl, rfl, rfl, by decide +kernel, rfl, by decide +kernel, by decide +kernel⟩
theorem ok_BadStatement_init (T : Tx K mg) (tb : ∀ p ∈ csOf K, LamX.TabB bs mg p.1 p.2) : ∃ fd, FnOk prg wd K mg bs (L2.CX prg wd) 1 (He.ma K (He.ga K "BadStatement") "__init__") fd ["self", "given"] (spIni K ["given"]) ∧ L2.Binds K fd ["self", "given"] [] ∧ L2.KBn K fd ["self", "given"] 1 ["given"] (DC.kwG [0]) (DC.kwG [0]) := by
  obtain ⟨fd, F0⟩ := T.d_BadStatement_init
  refine ⟨fd, F0.ok sc_BadStatement_init (fun vs H Q E h => ?_) (fun cdv A outer s H vs Q E hr h => ?_), F0.bindsN fun _ _ _ _ _ _ us hl => match us, hl with | [_, _], _ => rfl, DC.kbN F0 1 ["given"] [0] (fun _ _ _ _ _ _ us ws h1 h2 => match us, ws, h1, h2 with | [_], [_], _, _ => rfl)⟩
  · obtain ⟨a, C, y, rfl, _⟩ := h
    rfl
  · refine ⟨_, PSs.nox (pss_one (ps_ost (f := "given") (pv 0) (pv 1))), ?_⟩
    obtain ⟨a, C, y, rfl, oc, no, hH, q⟩ := h
    exact ⟨_, rfl, _, rfl, a, C, rfl, oc, no, .inl ⟨hH, q⟩⟩
theorem sc_NotCarried_init : FnScope ["self", "given"] ["self", "given"] (defScope s_NotCarried_init) := ⟨rfl, rfl, rfl, by decide +kernel, rfl, by decide +kernel, by decide +kernel⟩
theorem ok_NotCarried_init (T : Tx K mg) (tb : ∀ p ∈ csOf K, LamX.TabB bs mg p.1 p.2) : ∃ fd, FnOk prg wd K mg bs (L2.CX prg wd) 1 (He.ma K (He.ga K "NotCarried") "__init__") fd ["self", "given"] (spIni K ["given"]) ∧ L2.Binds K fd ["self", "given"] [] ∧ L2.KBn K fd ["self", "given"] 1 ["given"] (DC.kwG [0]) (DC.kwG [0]) := by
  obtain ⟨fd, F0⟩ := T.d_NotCarried_init
  refine ⟨fd, F0.ok sc_NotCarried_init (fun vs H Q E h => ?_) (fun cdv A outer s H vs Q E hr h => ?_), F0.bindsN fun _ _ _ _ _ _ us hl => match us, hl with | [_, _], _ => rfl, DC.kbN F0 1 ["given"] [0] (fun _ _ _ _ _ _ us ws h1 h2 => match us, ws, h1, h2 with | [_], [_], _, _ => rfl)⟩
  · obtain ⟨a, C, y, rfl, _⟩ := h
    rfl
  · refine ⟨_, PSs.nox (pss_one (ps_ost (f := "given") (pv 0) (pv 1))), ?_⟩
    obtain ⟨a, C, y, rfl, oc, no, hH, q⟩ := h
    exact ⟨_, rfl, _, rfl, a, C, rfl, oc, no, .inl ⟨hH, q⟩⟩
theorem sc_NotWhole_init : FnScope ["self", "given"] ["self", "given"] (defScope s_NotWhole_init) := ⟨rfl, rfl, rfl, by decide +kernel, rfl, by decide +kernel, by decide +kernel⟩
theorem ok_NotWhole_init (T : Tx K mg) (tb : ∀ p ∈ csOf K, LamX.TabB bs mg p.1 p.2) : ∃ fd, FnOk prg wd K mg bs (L2.CX prg wd) 1 (He.ma K (He.ga K "NotWhole") "__init__") fd ["self", "given"] (spIni K ["given"]) ∧ L2.Binds K fd ["self", "given"] [] ∧ L2.KBn K fd ["self", "given"] 1 ["given"] (DC.kwG [0]) (DC.kwG [0]) := by
  obtain ⟨fd, F0⟩ := T.d_NotWhole_init
  refine ⟨fd, F0.ok sc_NotWhole_init (fun vs H Q E h => ?_) (fun cdv A outer s H vs Q E hr h => ?_), F0.bindsN fun _ _ _ _ _ _ us hl => match us, hl with | [_, _], _ => rfl, DC.kbN F0 1 ["given"] [0] (fun _ _ _ _ _ _ us ws h1 h2 => match us, ws, h1, h2 with | [_], [_], _, _ => rfl)⟩
  · obtain ⟨a, C, y, rfl, _⟩ := h
    rfl
  · refine ⟨_, PSs.nox (pss_one (ps_ost (f := "given") (pv 0) (pv 1))), ?_⟩
    obtain ⟨a, C, y, rfl, oc, no, hH, q⟩ := h
    exact ⟨_, rfl, _, rfl, a, C, rfl, oc, no, .inl ⟨hH, q⟩⟩
theorem sc_Unbalanced_init : FnScope ["self", "given", "off"] ["self", "given", "off"] (defScope s_Unbalanced_init) := ⟨rfl, rfl, rfl, by decide +kernel, rfl, by decide +kernel, by decide +kernel⟩
theorem ok_Unbalanced_init (T : Tx K mg) (tb : ∀ p ∈ csOf K, LamX.TabB bs mg p.1 p.2) : ∃ fd, FnOk prg wd K mg bs (L2.CX prg wd) 1 (He.ma K (He.ga K "Unbalanced") "__init__") fd ["self", "given", "off"] (spIni K ["given", "off"]) ∧ L2.Binds K fd ["self", "given", "off"] [] ∧ L2.KBn K fd ["self", "given", "off"] 1 ["off", "given"] (DC.kwG [1, 0]) (DC.kwG [1, 0]) := by
  obtain ⟨fd, F0⟩ := T.d_Unbalanced_init
  refine ⟨fd, F0.ok sc_Unbalanced_init (fun vs H Q E h => ?_) (fun cdv A outer s H vs Q E hr h => ?_), F0.bindsN fun _ _ _ _ _ _ us hl => match us, hl with | [_, _, _], _ => rfl, DC.kbN F0 1 ["off", "given"] [1, 0] (fun _ _ _ _ _ _ us ws h1 h2 => match us, ws, h1, h2 with | [_], [_, _], _, _ => rfl)⟩
  · obtain ⟨a, C, y, z, rfl, _⟩ := h
    rfl
  · refine ⟨_, PSs.nox (pss_cons (ps_ost (f := "given") (pv 0) (pv 1)) (pss_one (ps_ost (f := "off") (pv 0) (pv 2)))), ?_⟩
    obtain ⟨a, C, y, z, rfl, oc, no, no2, hH, q⟩ := h
    refine ⟨_, rfl, _, rfl, a, C, rfl, oc, no, .inl ⟨hH, fun dx n ne => ⟨_, rfl, _, rfl, a, C, rfl, oc, no2, .inr ⟨dx, [("given", y)], upd_same, ?_, ?_, ?_⟩⟩⟩⟩
    · rw [upd_ne ne]
      exact upd_same
    · show 1 ≤ 900
      decide
    · exact q dx n ne
theorem sc_BadLine_init : FnScope ["self", "line"] ["self", "line"] (defScope s_BadLine_init) := ⟨rfl, rfl, rfl, by decide +kernel, rfl, by decide +kernel, by decide +kernel⟩
theorem ok_BadLine_init (T : Tx K mg) (tb : ∀ p ∈ csOf K, LamX.TabB bs mg p.1 p.2) : ∃ fd, FnOk prg wd K mg bs (L2.CX prg wd) 1 (He.ma K (He.ga K "BadLine") "__init__") fd ["self", "line"] (spIni K ["line"]) ∧ L2.Binds K fd ["self", "line"] [] ∧ L2.KBn K fd ["self", "line"] 1 ["line"] (DC.kwG [0]) (DC.kwG [0]) := by
  obtain ⟨fd, F0⟩ := T.d_BadLine_init
  refine ⟨fd, F0.ok sc_BadLine_init (fun vs H Q E h => ?_) (fun cdv A outer s H vs Q E hr h => ?_), F0.bindsN fun _ _ _ _ _ _ us hl => match us, hl with | [_, _], _ => rfl, DC.kbN F0 1 ["line"] [0] (fun _ _ _ _ _ _ us ws h1 h2 => match us, ws, h1, h2 with | [_], [_], _, _ => rfl)⟩
  · obtain ⟨a, C, y, rfl, _⟩ := h
    rfl
  · refine ⟨_, PSs.nox (pss_one (ps_ost (f := "line") (pv 0) (pv 1))), ?_⟩
    obtain ⟨a, C, y, rfl, oc, no, hH, q⟩ := h
    exact ⟨_, rfl, _, rfl, a, C, rfl, oc, no, .inl ⟨hH, q⟩⟩
theorem sc_BadNumber_init : FnScope ["self", "given"] ["self", "given"] (defScope s_BadNumber_init) := ⟨rfl, rfl, rfl, by decide +kernel, rfl, by decide +kernel, by decide +kernel⟩
theorem ok_BadNumber_init (T : Tx K mg) (tb : ∀ p ∈ csOf K, LamX.TabB bs mg p.1 p.2) : ∃ fd, FnOk prg wd K mg bs (L2.CX prg wd) 1 (He.ma K (He.ga K "BadNumber") "__init__") fd ["self", "given"] (spIni K ["given"]) ∧ L2.Binds K fd ["self", "given"] [] ∧ L2.KBn K fd ["self", "given"] 1 ["given"] (DC.kwG [0]) (DC.kwG [0]) := by
  obtain ⟨fd, F0⟩ := T.d_BadNumber_init
  refine ⟨fd, F0.ok sc_BadNumber_init (fun vs H Q E h => ?_) (fun cdv A outer s H vs Q E hr h => ?_), F0.bindsN fun _ _ _ _ _ _ us hl => match us, hl with | [_, _], _ => rfl, DC.kbN F0 1 ["given"] [0] (fun _ _ _ _ _ _ us ws h1 h2 => match us, ws, h1, h2 with | [_], [_], _, _ => rfl)⟩
  · obtain ⟨a, C, y, rfl, _⟩ := h
    rfl
  · refine ⟨_, PSs.nox (pss_one (ps_ost (f := "given") (pv 0) (pv 1))), ?_⟩
    obtain ⟨a, C, y, rfl, oc, no, hH, q⟩ := h
    exact ⟨_, rfl, _, rfl, a, C, rfl, oc, no, .inl ⟨hH, q⟩⟩
theorem sc_BadLegs_init : FnScope ["self", "given"] ["self", "given"] (defScope s_BadLegs_init) := ⟨rfl, rfl, rfl, by decide +kernel, rfl, by decide +kernel, by decide +kernel⟩
theorem ok_BadLegs_init (T : Tx K mg) (tb : ∀ p ∈ csOf K, LamX.TabB bs mg p.1 p.2) : ∃ fd, FnOk prg wd K mg bs (L2.CX prg wd) 1 (He.ma K (He.ga K "BadLegs") "__init__") fd ["self", "given"] (spIni K ["given"]) ∧ L2.Binds K fd ["self", "given"] [] ∧ L2.KBn K fd ["self", "given"] 1 ["given"] (DC.kwG [0]) (DC.kwG [0]) := by
  obtain ⟨fd, F0⟩ := T.d_BadLegs_init
  refine ⟨fd, F0.ok sc_BadLegs_init (fun vs H Q E h => ?_) (fun cdv A outer s H vs Q E hr h => ?_), F0.bindsN fun _ _ _ _ _ _ us hl => match us, hl with | [_, _], _ => rfl, DC.kbN F0 1 ["given"] [0] (fun _ _ _ _ _ _ us ws h1 h2 => match us, ws, h1, h2 with | [_], [_], _, _ => rfl)⟩
  · obtain ⟨a, C, y, rfl, _⟩ := h
    rfl
  · refine ⟨_, PSs.nox (pss_one (ps_ost (f := "given") (pv 0) (pv 1))), ?_⟩
    obtain ⟨a, C, y, rfl, oc, no, hH, q⟩ := h
    exact ⟨_, rfl, _, rfl, a, C, rfl, oc, no, .inl ⟨hH, q⟩⟩
theorem sc_BadDues_init : FnScope ["self", "given"] ["self", "given"] (defScope s_BadDues_init) := ⟨rfl, rfl, rfl, by decide +kernel, rfl, by decide +kernel, by decide +kernel⟩
theorem ok_BadDues_init (T : Tx K mg) (tb : ∀ p ∈ csOf K, LamX.TabB bs mg p.1 p.2) : ∃ fd, FnOk prg wd K mg bs (L2.CX prg wd) 1 (He.ma K (He.ga K "BadDues") "__init__") fd ["self", "given"] (spIni K ["given"]) ∧ L2.Binds K fd ["self", "given"] [] ∧ L2.KBn K fd ["self", "given"] 1 ["given"] (DC.kwG [0]) (DC.kwG [0]) := by
  obtain ⟨fd, F0⟩ := T.d_BadDues_init
  refine ⟨fd, F0.ok sc_BadDues_init (fun vs H Q E h => ?_) (fun cdv A outer s H vs Q E hr h => ?_), F0.bindsN fun _ _ _ _ _ _ us hl => match us, hl with | [_, _], _ => rfl, DC.kbN F0 1 ["given"] [0] (fun _ _ _ _ _ _ us ws h1 h2 => match us, ws, h1, h2 with | [_], [_], _, _ => rfl)⟩
  · obtain ⟨a, C, y, rfl, _⟩ := h
    rfl
  · refine ⟨_, PSs.nox (pss_one (ps_ost (f := "given") (pv 0) (pv 1))), ?_⟩
    obtain ⟨a, C, y, rfl, oc, no, hH, q⟩ := h
    exact ⟨_, rfl, _, rfl, a, C, rfl, oc, no, .inl ⟨hH, q⟩⟩
theorem sc_BadHoldings_init : FnScope ["self", "given"] ["self", "given"] (defScope s_BadHoldings_init) := ⟨rfl, rfl, rfl, by decide +kernel, rfl, by decide +kernel, by decide +kernel⟩
theorem ok_BadHoldings_init (T : Tx K mg) (tb : ∀ p ∈ csOf K, LamX.TabB bs mg p.1 p.2) : ∃ fd, FnOk prg wd K mg bs (L2.CX prg wd) 1 (He.ma K (He.ga K "BadHoldings") "__init__") fd ["self", "given"] (spIni K ["given"]) ∧ L2.Binds K fd ["self", "given"] [] ∧ L2.KBn K fd ["self", "given"] 1 ["given"] (DC.kwG [0]) (DC.kwG [0]) := by
  obtain ⟨fd, F0⟩ := T.d_BadHoldings_init
  refine ⟨fd, F0.ok sc_BadHoldings_init (fun vs H Q E h => ?_) (fun cdv A outer s H vs Q E hr h => ?_), F0.bindsN fun _ _ _ _ _ _ us hl => match us, hl with | [_, _], _ => rfl, DC.kbN F0 1 ["given"] [0] (fun _ _ _ _ _ _ us ws h1 h2 => match us, ws, h1, h2 with | [_], [_], _, _ => rfl)⟩
  · obtain ⟨a, C, y, rfl, _⟩ := h
    rfl
  · refine ⟨_, PSs.nox (pss_one (ps_ost (f := "given") (pv 0) (pv 1))), ?_⟩
    obtain ⟨a, C, y, rfl, oc, no, hH, q⟩ := h
    exact ⟨_, rfl, _, rfl, a, C, rfl, oc, no, .inl ⟨hH, q⟩⟩
theorem sc_BadQueues_init : FnScope ["self", "given"] ["self", "given"] (defScope s_BadQueues_init) := ⟨rfl, rfl, rfl, by decide +kernel, rfl, by decide +kernel, by decide +kernel⟩
theorem ok_BadQueues_init (T : Tx K mg) (tb : ∀ p ∈ csOf K, LamX.TabB bs mg p.1 p.2) : ∃ fd, FnOk prg wd K mg bs (L2.CX prg wd) 1 (He.ma K (He.ga K "BadQueues") "__init__") fd ["self", "given"] (spIni K ["given"]) ∧ L2.Binds K fd ["self", "given"] [] ∧ L2.KBn K fd ["self", "given"] 1 ["given"] (DC.kwG [0]) (DC.kwG [0]) := by
  obtain ⟨fd, F0⟩ := T.d_BadQueues_init
  refine ⟨fd, F0.ok sc_BadQueues_init (fun vs H Q E h => ?_) (fun cdv A outer s H vs Q E hr h => ?_), F0.bindsN fun _ _ _ _ _ _ us hl => match us, hl with | [_, _], _ => rfl, DC.kbN F0 1 ["given"] [0] (fun _ _ _ _ _ _ us ws h1 h2 => match us, ws, h1, h2 with | [_], [_], _, _ => rfl)⟩
  · obtain ⟨a, C, y, rfl, _⟩ := h
    rfl
  · refine ⟨_, PSs.nox (pss_one (ps_ost (f := "given") (pv 0) (pv 1))), ?_⟩
    obtain ⟨a, C, y, rfl, oc, no, hH, q⟩ := h
    exact ⟨_, rfl, _, rfl, a, C, rfl, oc, no, .inl ⟨hH, q⟩⟩
theorem sc_BadOwners_init : FnScope ["self", "given"] ["self", "given"] (defScope s_BadOwners_init) := ⟨rfl, rfl, rfl, by decide +kernel, rfl, by decide +kernel, by decide +kernel⟩
theorem ok_BadOwners_init (T : Tx K mg) (tb : ∀ p ∈ csOf K, LamX.TabB bs mg p.1 p.2) : ∃ fd, FnOk prg wd K mg bs (L2.CX prg wd) 1 (He.ma K (He.ga K "BadOwners") "__init__") fd ["self", "given"] (spIni K ["given"]) ∧ L2.Binds K fd ["self", "given"] [] ∧ L2.KBn K fd ["self", "given"] 1 ["given"] (DC.kwG [0]) (DC.kwG [0]) := by
  obtain ⟨fd, F0⟩ := T.d_BadOwners_init
  refine ⟨fd, F0.ok sc_BadOwners_init (fun vs H Q E h => ?_) (fun cdv A outer s H vs Q E hr h => ?_), F0.bindsN fun _ _ _ _ _ _ us hl => match us, hl with | [_, _], _ => rfl, DC.kbN F0 1 ["given"] [0] (fun _ _ _ _ _ _ us ws h1 h2 => match us, ws, h1, h2 with | [_], [_], _, _ => rfl)⟩
  · obtain ⟨a, C, y, rfl, _⟩ := h
    rfl
  · refine ⟨_, PSs.nox (pss_one (ps_ost (f := "given") (pv 0) (pv 1))), ?_⟩
    obtain ⟨a, C, y, rfl, oc, no, hH, q⟩ := h
    exact ⟨_, rfl, _, rfl, a, C, rfl, oc, no, .inl ⟨hH, q⟩⟩
theorem sc_NoDue_init : FnScope ["self", "given"] ["self", "given"] (defScope s_NoDue_init) := ⟨rfl, rfl, rfl, by decide +kernel, rfl, by decide +kernel, by decide +kernel⟩
theorem ok_NoDue_init (T : Tx K mg) (tb : ∀ p ∈ csOf K, LamX.TabB bs mg p.1 p.2) : ∃ fd, FnOk prg wd K mg bs (L2.CX prg wd) 1 (He.ma K (He.ga K "NoDue") "__init__") fd ["self", "given"] (spIni K ["given"]) ∧ L2.Binds K fd ["self", "given"] [] ∧ L2.KBn K fd ["self", "given"] 1 ["given"] (DC.kwG [0]) (DC.kwG [0]) := by
  obtain ⟨fd, F0⟩ := T.d_NoDue_init
  refine ⟨fd, F0.ok sc_NoDue_init (fun vs H Q E h => ?_) (fun cdv A outer s H vs Q E hr h => ?_), F0.bindsN fun _ _ _ _ _ _ us hl => match us, hl with | [_, _], _ => rfl, DC.kbN F0 1 ["given"] [0] (fun _ _ _ _ _ _ us ws h1 h2 => match us, ws, h1, h2 with | [_], [_], _, _ => rfl)⟩
  · obtain ⟨a, C, y, rfl, _⟩ := h
    rfl
  · refine ⟨_, PSs.nox (pss_one (ps_ost (f := "given") (pv 0) (pv 1))), ?_⟩
    obtain ⟨a, C, y, rfl, oc, no, hH, q⟩ := h
    exact ⟨_, rfl, _, rfl, a, C, rfl, oc, no, .inl ⟨hH, q⟩⟩
theorem sc_Duplicate_init : FnScope ["self", "given"] ["self", "given"] (defScope s_Duplicate_init) := ⟨rfl, rfl, rfl, by decide +kernel, rfl, by decide +kernel, by decide +kernel⟩
theorem ok_Duplicate_init (T : Tx K mg) (tb : ∀ p ∈ csOf K, LamX.TabB bs mg p.1 p.2) : ∃ fd, FnOk prg wd K mg bs (L2.CX prg wd) 1 (He.ma K (He.ga K "Duplicate") "__init__") fd ["self", "given"] (spIni K ["given"]) ∧ L2.Binds K fd ["self", "given"] [] ∧ L2.KBn K fd ["self", "given"] 1 ["given"] (DC.kwG [0]) (DC.kwG [0]) := by
  obtain ⟨fd, F0⟩ := T.d_Duplicate_init
  refine ⟨fd, F0.ok sc_Duplicate_init (fun vs H Q E h => ?_) (fun cdv A outer s H vs Q E hr h => ?_), F0.bindsN fun _ _ _ _ _ _ us hl => match us, hl with | [_, _], _ => rfl, DC.kbN F0 1 ["given"] [0] (fun _ _ _ _ _ _ us ws h1 h2 => match us, ws, h1, h2 with | [_], [_], _, _ => rfl)⟩
  · obtain ⟨a, C, y, rfl, _⟩ := h
    rfl
  · refine ⟨_, PSs.nox (pss_one (ps_ost (f := "given") (pv 0) (pv 1))), ?_⟩
    obtain ⟨a, C, y, rfl, oc, no, hH, q⟩ := h
    exact ⟨_, rfl, _, rfl, a, C, rfl, oc, no, .inl ⟨hH, q⟩⟩
theorem sc_NotTogether_init : FnScope ["self", "given"] ["self", "given"] (defScope s_NotTogether_init) := ⟨rfl, rfl, rfl, by decide +kernel, rfl, by decide +kernel, by decide +kernel⟩
theorem ok_NotTogether_init (T : Tx K mg) (tb : ∀ p ∈ csOf K, LamX.TabB bs mg p.1 p.2) : ∃ fd, FnOk prg wd K mg bs (L2.CX prg wd) 1 (He.ma K (He.ga K "NotTogether") "__init__") fd ["self", "given"] (spIni K ["given"]) ∧ L2.Binds K fd ["self", "given"] [] ∧ L2.KBn K fd ["self", "given"] 1 ["given"] (DC.kwG [0]) (DC.kwG [0]) := by
  obtain ⟨fd, F0⟩ := T.d_NotTogether_init
  refine ⟨fd, F0.ok sc_NotTogether_init (fun vs H Q E h => ?_) (fun cdv A outer s H vs Q E hr h => ?_), F0.bindsN fun _ _ _ _ _ _ us hl => match us, hl with | [_, _], _ => rfl, DC.kbN F0 1 ["given"] [0] (fun _ _ _ _ _ _ us ws h1 h2 => match us, ws, h1, h2 with | [_], [_], _, _ => rfl)⟩
  · obtain ⟨a, C, y, rfl, _⟩ := h
    rfl
  · refine ⟨_, PSs.nox (pss_one (ps_ost (f := "given") (pv 0) (pv 1))), ?_⟩
    obtain ⟨a, C, y, rfl, oc, no, hH, q⟩ := h
    exact ⟨_, rfl, _, rfl, a, C, rfl, oc, no, .inl ⟨hH, q⟩⟩
theorem sc_Settles_init : FnScope ["self", "given"] ["self", "given"] (defScope s_Settles_init) := ⟨rfl, rfl, rfl, by decide +kernel, rfl, by decide +kernel, by decide +kernel⟩
theorem ok_Settles_init (T : Tx K mg) (tb : ∀ p ∈ csOf K, LamX.TabB bs mg p.1 p.2) : ∃ fd, FnOk prg wd K mg bs (L2.CX prg wd) 1 (He.ma K (He.ga K "Settles") "__init__") fd ["self", "given"] (spIni K ["given"]) ∧ L2.Binds K fd ["self", "given"] [] ∧ L2.KBn K fd ["self", "given"] 1 ["given"] (DC.kwG [0]) (DC.kwG [0]) := by
  obtain ⟨fd, F0⟩ := T.d_Settles_init
  refine ⟨fd, F0.ok sc_Settles_init (fun vs H Q E h => ?_) (fun cdv A outer s H vs Q E hr h => ?_), F0.bindsN fun _ _ _ _ _ _ us hl => match us, hl with | [_, _], _ => rfl, DC.kbN F0 1 ["given"] [0] (fun _ _ _ _ _ _ us ws h1 h2 => match us, ws, h1, h2 with | [_], [_], _, _ => rfl)⟩
  · obtain ⟨a, C, y, rfl, _⟩ := h
    rfl
  · refine ⟨_, PSs.nox (pss_one (ps_ost (f := "given") (pv 0) (pv 1))), ?_⟩
    obtain ⟨a, C, y, rfl, oc, no, hH, q⟩ := h
    exact ⟨_, rfl, _, rfl, a, C, rfl, oc, no, .inl ⟨hH, q⟩⟩
theorem sc_TooMany_init : FnScope ["self", "count"] ["self", "count"] (defScope s_TooMany_init) := ⟨rfl, rfl, rfl, by decide +kernel, rfl, by decide +kernel, by decide +kernel⟩
theorem ok_TooMany_init (T : Tx K mg) (tb : ∀ p ∈ csOf K, LamX.TabB bs mg p.1 p.2) : ∃ fd, FnOk prg wd K mg bs (L2.CX prg wd) 1 (He.ma K (He.ga K "TooMany") "__init__") fd ["self", "count"] (spIni K ["count"]) ∧ L2.Binds K fd ["self", "count"] [] ∧ L2.KBn K fd ["self", "count"] 1 ["count"] (DC.kwG [0]) (DC.kwG [0]) := by
  obtain ⟨fd, F0⟩ := T.d_TooMany_init
  refine ⟨fd, F0.ok sc_TooMany_init (fun vs H Q E h => ?_) (fun cdv A outer s H vs Q E hr h => ?_), F0.bindsN fun _ _ _ _ _ _ us hl => match us, hl with | [_, _], _ => rfl, DC.kbN F0 1 ["count"] [0] (fun _ _ _ _ _ _ us ws h1 h2 => match us, ws, h1, h2 with | [_], [_], _, _ => rfl)⟩
  · obtain ⟨a, C, y, rfl, _⟩ := h
    rfl
  · refine ⟨_, PSs.nox (pss_one (ps_ost (f := "count") (pv 0) (pv 1))), ?_⟩
    obtain ⟨a, C, y, rfl, oc, no, hH, q⟩ := h
    exact ⟨_, rfl, _, rfl, a, C, rfl, oc, no, .inl ⟨hH, q⟩⟩
theorem sc_BadOrder_init : FnScope ["self", "field", "value"] ["self", "field", "value"] (defScope s_BadOrder_init) := ⟨rfl, rfl, rfl, by decide +kernel, rfl, by decide +kernel, by decide +kernel⟩
theorem ok_BadOrder_init (T : Tx K mg) (tb : ∀ p ∈ csOf K, LamX.TabB bs mg p.1 p.2) : ∃ fd, FnOk prg wd K mg bs (L2.CX prg wd) 1 (He.ma K (He.ga K "BadOrder") "__init__") fd ["self", "field", "value"] (spIni K ["field", "value"]) ∧ L2.Binds K fd ["self", "field", "value"] [] ∧ L2.KBn K fd ["self", "field", "value"] 1 ["value", "field"] (DC.kwG [1, 0]) (DC.kwG [1, 0]) := by
  obtain ⟨fd, F0⟩ := T.d_BadOrder_init
  refine ⟨fd, F0.ok sc_BadOrder_init (fun vs H Q E h => ?_) (fun cdv A outer s H vs Q E hr h => ?_), F0.bindsN fun _ _ _ _ _ _ us hl => match us, hl with | [_, _, _], _ => rfl, DC.kbN F0 1 ["value", "field"] [1, 0] (fun _ _ _ _ _ _ us ws h1 h2 => match us, ws, h1, h2 with | [_], [_, _], _, _ => rfl)⟩
  · obtain ⟨a, C, y, z, rfl, _⟩ := h
    rfl
  · refine ⟨_, PSs.nox (pss_cons (ps_ost (f := "field") (pv 0) (pv 1)) (pss_one (ps_ost (f := "value") (pv 0) (pv 2)))), ?_⟩
    obtain ⟨a, C, y, z, rfl, oc, no, no2, hH, q⟩ := h
    refine ⟨_, rfl, _, rfl, a, C, rfl, oc, no, .inl ⟨hH, fun dx n ne => ⟨_, rfl, _, rfl, a, C, rfl, oc, no2, .inr ⟨dx, [("field", y)], upd_same, ?_, ?_, ?_⟩⟩⟩⟩
    · rw [upd_ne ne]
      exact upd_same
    · show 1 ≤ 900
      decide
    · exact q dx n ne
theorem sc_BadSide_init : FnScope ["self", "given"] ["self", "given"] (defScope s_BadSide_init) := ⟨rfl, rfl, rfl, by decide +kernel, rfl, by decide +kernel, by decide +kernel⟩
theorem ok_BadSide_init (T : Tx K mg) (tb : ∀ p ∈ csOf K, LamX.TabB bs mg p.1 p.2) : ∃ fd, FnOk prg wd K mg bs (L2.CX prg wd) 1 (He.ma K (He.ga K "BadSide") "__init__") fd ["self", "given"] (spIni K ["given"]) ∧ L2.Binds K fd ["self", "given"] [] ∧ L2.KBn K fd ["self", "given"] 1 ["given"] (DC.kwG [0]) (DC.kwG [0]) := by
  obtain ⟨fd, F0⟩ := T.d_BadSide_init
  refine ⟨fd, F0.ok sc_BadSide_init (fun vs H Q E h => ?_) (fun cdv A outer s H vs Q E hr h => ?_), F0.bindsN fun _ _ _ _ _ _ us hl => match us, hl with | [_, _], _ => rfl, DC.kbN F0 1 ["given"] [0] (fun _ _ _ _ _ _ us ws h1 h2 => match us, ws, h1, h2 with | [_], [_], _, _ => rfl)⟩
  · obtain ⟨a, C, y, rfl, _⟩ := h
    rfl
  · refine ⟨_, PSs.nox (pss_one (ps_ost (f := "given") (pv 0) (pv 1))), ?_⟩
    obtain ⟨a, C, y, rfl, oc, no, hH, q⟩ := h
    exact ⟨_, rfl, _, rfl, a, C, rfl, oc, no, .inl ⟨hH, q⟩⟩
theorem sc_NameTaken_init : FnScope ["self", "name"] ["self", "name"] (defScope s_NameTaken_init) := ⟨rfl, rfl, rfl, by decide +kernel, rfl, by decide +kernel, by decide +kernel⟩
theorem ok_NameTaken_init (T : Tx K mg) (tb : ∀ p ∈ csOf K, LamX.TabB bs mg p.1 p.2) : ∃ fd, FnOk prg wd K mg bs (L2.CX prg wd) 1 (He.ma K (He.ga K "NameTaken") "__init__") fd ["self", "name"] (spIni K ["name"]) ∧ L2.Binds K fd ["self", "name"] [] ∧ L2.KBn K fd ["self", "name"] 1 ["name"] (DC.kwG [0]) (DC.kwG [0]) := by
  obtain ⟨fd, F0⟩ := T.d_NameTaken_init
  refine ⟨fd, F0.ok sc_NameTaken_init (fun vs H Q E h => ?_) (fun cdv A outer s H vs Q E hr h => ?_), F0.bindsN fun _ _ _ _ _ _ us hl => match us, hl with | [_, _], _ => rfl, DC.kbN F0 1 ["name"] [0] (fun _ _ _ _ _ _ us ws h1 h2 => match us, ws, h1, h2 with | [_], [_], _, _ => rfl)⟩
  · obtain ⟨a, C, y, rfl, _⟩ := h
    rfl
  · refine ⟨_, PSs.nox (pss_one (ps_ost (f := "name") (pv 0) (pv 1))), ?_⟩
    obtain ⟨a, C, y, rfl, oc, no, hH, q⟩ := h
    exact ⟨_, rfl, _, rfl, a, C, rfl, oc, no, .inl ⟨hH, q⟩⟩
theorem sc_UnknownOrder_init : FnScope ["self", "name"] ["self", "name"] (defScope s_UnknownOrder_init) := ⟨rfl, rfl, rfl, by decide +kernel, rfl, by decide +kernel, by decide +kernel⟩
theorem ok_UnknownOrder_init (T : Tx K mg) (tb : ∀ p ∈ csOf K, LamX.TabB bs mg p.1 p.2) : ∃ fd, FnOk prg wd K mg bs (L2.CX prg wd) 1 (He.ma K (He.ga K "UnknownOrder") "__init__") fd ["self", "name"] (spIni K ["name"]) ∧ L2.Binds K fd ["self", "name"] [] ∧ L2.KBn K fd ["self", "name"] 1 ["name"] (DC.kwG [0]) (DC.kwG [0]) := by
  obtain ⟨fd, F0⟩ := T.d_UnknownOrder_init
  refine ⟨fd, F0.ok sc_UnknownOrder_init (fun vs H Q E h => ?_) (fun cdv A outer s H vs Q E hr h => ?_), F0.bindsN fun _ _ _ _ _ _ us hl => match us, hl with | [_, _], _ => rfl, DC.kbN F0 1 ["name"] [0] (fun _ _ _ _ _ _ us ws h1 h2 => match us, ws, h1, h2 with | [_], [_], _, _ => rfl)⟩
  · obtain ⟨a, C, y, rfl, _⟩ := h
    rfl
  · refine ⟨_, PSs.nox (pss_one (ps_ost (f := "name") (pv 0) (pv 1))), ?_⟩
    obtain ⟨a, C, y, rfl, oc, no, hH, q⟩ := h
    exact ⟨_, rfl, _, rfl, a, C, rfl, oc, no, .inl ⟨hH, q⟩⟩
theorem sc_Crossing_init : FnScope ["self", "name"] ["self", "name"] (defScope s_Crossing_init) := ⟨rfl, rfl, rfl, by decide +kernel, rfl, by decide +kernel, by decide +kernel⟩
theorem ok_Crossing_init (T : Tx K mg) (tb : ∀ p ∈ csOf K, LamX.TabB bs mg p.1 p.2) : ∃ fd, FnOk prg wd K mg bs (L2.CX prg wd) 1 (He.ma K (He.ga K "Crossing") "__init__") fd ["self", "name"] (spIni K ["name"]) ∧ L2.Binds K fd ["self", "name"] [] ∧ L2.KBn K fd ["self", "name"] 1 ["name"] (DC.kwG [0]) (DC.kwG [0]) := by
  obtain ⟨fd, F0⟩ := T.d_Crossing_init
  refine ⟨fd, F0.ok sc_Crossing_init (fun vs H Q E h => ?_) (fun cdv A outer s H vs Q E hr h => ?_), F0.bindsN fun _ _ _ _ _ _ us hl => match us, hl with | [_, _], _ => rfl, DC.kbN F0 1 ["name"] [0] (fun _ _ _ _ _ _ us ws h1 h2 => match us, ws, h1, h2 with | [_], [_], _, _ => rfl)⟩
  · obtain ⟨a, C, y, rfl, _⟩ := h
    rfl
  · refine ⟨_, PSs.nox (pss_one (ps_ost (f := "name") (pv 0) (pv 1))), ?_⟩
    obtain ⟨a, C, y, rfl, oc, no, hH, q⟩ := h
    exact ⟨_, rfl, _, rfl, a, C, rfl, oc, no, .inl ⟨hH, q⟩⟩
theorem sc_BadBid_init : FnScope ["self", "given"] ["self", "given"] (defScope s_BadBid_init) := ⟨rfl, rfl, rfl, by decide +kernel, rfl, by decide +kernel, by decide +kernel⟩
theorem ok_BadBid_init (T : Tx K mg) (tb : ∀ p ∈ csOf K, LamX.TabB bs mg p.1 p.2) : ∃ fd, FnOk prg wd K mg bs (L2.CX prg wd) 1 (He.ma K (He.ga K "BadBid") "__init__") fd ["self", "given"] (spIni K ["given"]) ∧ L2.Binds K fd ["self", "given"] [] ∧ L2.KBn K fd ["self", "given"] 1 ["given"] (DC.kwG [0]) (DC.kwG [0]) := by
  obtain ⟨fd, F0⟩ := T.d_BadBid_init
  refine ⟨fd, F0.ok sc_BadBid_init (fun vs H Q E h => ?_) (fun cdv A outer s H vs Q E hr h => ?_), F0.bindsN fun _ _ _ _ _ _ us hl => match us, hl with | [_, _], _ => rfl, DC.kbN F0 1 ["given"] [0] (fun _ _ _ _ _ _ us ws h1 h2 => match us, ws, h1, h2 with | [_], [_], _, _ => rfl)⟩
  · obtain ⟨a, C, y, rfl, _⟩ := h
    rfl
  · refine ⟨_, PSs.nox (pss_one (ps_ost (f := "given") (pv 0) (pv 1))), ?_⟩
    obtain ⟨a, C, y, rfl, oc, no, hH, q⟩ := h
    exact ⟨_, rfl, _, rfl, a, C, rfl, oc, no, .inl ⟨hH, q⟩⟩
theorem sc_TooManyBids_init : FnScope ["self", "given"] ["self", "given"] (defScope s_TooManyBids_init) := ⟨rfl, rfl, rfl, by decide +kernel, rfl, by decide +kernel, by decide +kernel⟩
theorem ok_TooManyBids_init (T : Tx K mg) (tb : ∀ p ∈ csOf K, LamX.TabB bs mg p.1 p.2) : ∃ fd, FnOk prg wd K mg bs (L2.CX prg wd) 1 (He.ma K (He.ga K "TooManyBids") "__init__") fd ["self", "given"] (spIni K ["given"]) ∧ L2.Binds K fd ["self", "given"] [] ∧ L2.KBn K fd ["self", "given"] 1 ["given"] (DC.kwG [0]) (DC.kwG [0]) := by
  obtain ⟨fd, F0⟩ := T.d_TooManyBids_init
  refine ⟨fd, F0.ok sc_TooManyBids_init (fun vs H Q E h => ?_) (fun cdv A outer s H vs Q E hr h => ?_), F0.bindsN fun _ _ _ _ _ _ us hl => match us, hl with | [_, _], _ => rfl, DC.kbN F0 1 ["given"] [0] (fun _ _ _ _ _ _ us ws h1 h2 => match us, ws, h1, h2 with | [_], [_], _, _ => rfl)⟩
  · obtain ⟨a, C, y, rfl, _⟩ := h
    rfl
  · refine ⟨_, PSs.nox (pss_one (ps_ost (f := "given") (pv 0) (pv 1))), ?_⟩
    obtain ⟨a, C, y, rfl, oc, no, hH, q⟩ := h
    exact ⟨_, rfl, _, rfl, a, C, rfl, oc, no, .inl ⟨hH, q⟩⟩
theorem sc_BidTaken_init : FnScope ["self", "given"] ["self", "given"] (defScope s_BidTaken_init) := ⟨rfl, rfl, rfl, by decide +kernel, rfl, by decide +kernel, by decide +kernel⟩
theorem ok_BidTaken_init (T : Tx K mg) (tb : ∀ p ∈ csOf K, LamX.TabB bs mg p.1 p.2) : ∃ fd, FnOk prg wd K mg bs (L2.CX prg wd) 1 (He.ma K (He.ga K "BidTaken") "__init__") fd ["self", "given"] (spIni K ["given"]) ∧ L2.Binds K fd ["self", "given"] [] ∧ L2.KBn K fd ["self", "given"] 1 ["given"] (DC.kwG [0]) (DC.kwG [0]) := by
  obtain ⟨fd, F0⟩ := T.d_BidTaken_init
  refine ⟨fd, F0.ok sc_BidTaken_init (fun vs H Q E h => ?_) (fun cdv A outer s H vs Q E hr h => ?_), F0.bindsN fun _ _ _ _ _ _ us hl => match us, hl with | [_, _], _ => rfl, DC.kbN F0 1 ["given"] [0] (fun _ _ _ _ _ _ us ws h1 h2 => match us, ws, h1, h2 with | [_], [_], _, _ => rfl)⟩
  · obtain ⟨a, C, y, rfl, _⟩ := h
    rfl
  · refine ⟨_, PSs.nox (pss_one (ps_ost (f := "given") (pv 0) (pv 1))), ?_⟩
    obtain ⟨a, C, y, rfl, oc, no, hH, q⟩ := h
    exact ⟨_, rfl, _, rfl, a, C, rfl, oc, no, .inl ⟨hH, q⟩⟩
theorem sc_BothSides_init : FnScope ["self", "given"] ["self", "given"] (defScope s_BothSides_init) := ⟨rfl, rfl, rfl, by decide +kernel, rfl, by decide +kernel, by decide +kernel⟩
theorem ok_BothSides_init (T : Tx K mg) (tb : ∀ p ∈ csOf K, LamX.TabB bs mg p.1 p.2) : ∃ fd, FnOk prg wd K mg bs (L2.CX prg wd) 1 (He.ma K (He.ga K "BothSides") "__init__") fd ["self", "given"] (spIni K ["given"]) ∧ L2.Binds K fd ["self", "given"] [] ∧ L2.KBn K fd ["self", "given"] 1 ["given"] (DC.kwG [0]) (DC.kwG [0]) := by
  obtain ⟨fd, F0⟩ := T.d_BothSides_init
  refine ⟨fd, F0.ok sc_BothSides_init (fun vs H Q E h => ?_) (fun cdv A outer s H vs Q E hr h => ?_), F0.bindsN fun _ _ _ _ _ _ us hl => match us, hl with | [_, _], _ => rfl, DC.kbN F0 1 ["given"] [0] (fun _ _ _ _ _ _ us ws h1 h2 => match us, ws, h1, h2 with | [_], [_], _, _ => rfl)⟩
  · obtain ⟨a, C, y, rfl, _⟩ := h
    rfl
  · refine ⟨_, PSs.nox (pss_one (ps_ost (f := "given") (pv 0) (pv 1))), ?_⟩
    obtain ⟨a, C, y, rfl, oc, no, hH, q⟩ := h
    exact ⟨_, rfl, _, rfl, a, C, rfl, oc, no, .inl ⟨hH, q⟩⟩
theorem sc_BadWidth_init : FnScope ["self", "given"] ["self", "given"] (defScope s_BadWidth_init) := ⟨rfl, rfl, rfl, by decide +kernel, rfl, by decide +kernel, by decide +kernel⟩
theorem ok_BadWidth_init (T : Tx K mg) (tb : ∀ p ∈ csOf K, LamX.TabB bs mg p.1 p.2) : ∃ fd, FnOk prg wd K mg bs (L2.CX prg wd) 1 (He.ma K (He.ga K "BadWidth") "__init__") fd ["self", "given"] (spIni K ["given"]) ∧ L2.Binds K fd ["self", "given"] [] ∧ L2.KBn K fd ["self", "given"] 1 ["given"] (DC.kwG [0]) (DC.kwG [0]) := by
  obtain ⟨fd, F0⟩ := T.d_BadWidth_init
  refine ⟨fd, F0.ok sc_BadWidth_init (fun vs H Q E h => ?_) (fun cdv A outer s H vs Q E hr h => ?_), F0.bindsN fun _ _ _ _ _ _ us hl => match us, hl with | [_, _], _ => rfl, DC.kbN F0 1 ["given"] [0] (fun _ _ _ _ _ _ us ws h1 h2 => match us, ws, h1, h2 with | [_], [_], _, _ => rfl)⟩
  · obtain ⟨a, C, y, rfl, _⟩ := h
    rfl
  · refine ⟨_, PSs.nox (pss_one (ps_ost (f := "given") (pv 0) (pv 1))), ?_⟩
    obtain ⟨a, C, y, rfl, oc, no, hH, q⟩ := h
    exact ⟨_, rfl, _, rfl, a, C, rfl, oc, no, .inl ⟨hH, q⟩⟩
theorem sc_UnknownBid_init : FnScope ["self", "given"] ["self", "given"] (defScope s_UnknownBid_init) := ⟨rfl, rfl, rfl, by decide +kernel, rfl, by decide +kernel, by decide +kernel⟩
theorem ok_UnknownBid_init (T : Tx K mg) (tb : ∀ p ∈ csOf K, LamX.TabB bs mg p.1 p.2) : ∃ fd, FnOk prg wd K mg bs (L2.CX prg wd) 1 (He.ma K (He.ga K "UnknownBid") "__init__") fd ["self", "given"] (spIni K ["given"]) ∧ L2.Binds K fd ["self", "given"] [] ∧ L2.KBn K fd ["self", "given"] 1 ["given"] (DC.kwG [0]) (DC.kwG [0]) := by
  obtain ⟨fd, F0⟩ := T.d_UnknownBid_init
  refine ⟨fd, F0.ok sc_UnknownBid_init (fun vs H Q E h => ?_) (fun cdv A outer s H vs Q E hr h => ?_), F0.bindsN fun _ _ _ _ _ _ us hl => match us, hl with | [_, _], _ => rfl, DC.kbN F0 1 ["given"] [0] (fun _ _ _ _ _ _ us ws h1 h2 => match us, ws, h1, h2 with | [_], [_], _, _ => rfl)⟩
  · obtain ⟨a, C, y, rfl, _⟩ := h
    rfl
  · refine ⟨_, PSs.nox (pss_one (ps_ost (f := "given") (pv 0) (pv 1))), ?_⟩
    obtain ⟨a, C, y, rfl, oc, no, hH, q⟩ := h
    exact ⟨_, rfl, _, rfl, a, C, rfl, oc, no, .inl ⟨hH, q⟩⟩
theorem sc_BadPosition_init : FnScope ["self", "given"] ["self", "given"] (defScope s_BadPosition_init) := ⟨rfl, rfl, rfl, by decide +kernel, rfl, by decide +kernel, by decide +kernel⟩
theorem ok_BadPosition_init (T : Tx K mg) (tb : ∀ p ∈ csOf K, LamX.TabB bs mg p.1 p.2) : ∃ fd, FnOk prg wd K mg bs (L2.CX prg wd) 1 (He.ma K (He.ga K "BadPosition") "__init__") fd ["self", "given"] (spIni K ["given"]) ∧ L2.Binds K fd ["self", "given"] [] ∧ L2.KBn K fd ["self", "given"] 1 ["given"] (DC.kwG [0]) (DC.kwG [0]) := by
  obtain ⟨fd, F0⟩ := T.d_BadPosition_init
  refine ⟨fd, F0.ok sc_BadPosition_init (fun vs H Q E h => ?_) (fun cdv A outer s H vs Q E hr h => ?_), F0.bindsN fun _ _ _ _ _ _ us hl => match us, hl with | [_, _], _ => rfl, DC.kbN F0 1 ["given"] [0] (fun _ _ _ _ _ _ us ws h1 h2 => match us, ws, h1, h2 with | [_], [_], _, _ => rfl)⟩
  · obtain ⟨a, C, y, rfl, _⟩ := h
    rfl
  · refine ⟨_, PSs.nox (pss_one (ps_ost (f := "given") (pv 0) (pv 1))), ?_⟩
    obtain ⟨a, C, y, rfl, oc, no, hH, q⟩ := h
    exact ⟨_, rfl, _, rfl, a, C, rfl, oc, no, .inl ⟨hH, q⟩⟩
theorem sc_BadPrices_init : FnScope ["self", "given"] ["self", "given"] (defScope s_BadPrices_init) := ⟨rfl, rfl, rfl, by decide +kernel, rfl, by decide +kernel, by decide +kernel⟩
theorem ok_BadPrices_init (T : Tx K mg) (tb : ∀ p ∈ csOf K, LamX.TabB bs mg p.1 p.2) : ∃ fd, FnOk prg wd K mg bs (L2.CX prg wd) 1 (He.ma K (He.ga K "BadPrices") "__init__") fd ["self", "given"] (spIni K ["given"]) ∧ L2.Binds K fd ["self", "given"] [] ∧ L2.KBn K fd ["self", "given"] 1 ["given"] (DC.kwG [0]) (DC.kwG [0]) := by
  obtain ⟨fd, F0⟩ := T.d_BadPrices_init
  refine ⟨fd, F0.ok sc_BadPrices_init (fun vs H Q E h => ?_) (fun cdv A outer s H vs Q E hr h => ?_), F0.bindsN fun _ _ _ _ _ _ us hl => match us, hl with | [_, _], _ => rfl, DC.kbN F0 1 ["given"] [0] (fun _ _ _ _ _ _ us ws h1 h2 => match us, ws, h1, h2 with | [_], [_], _, _ => rfl)⟩
  · obtain ⟨a, C, y, rfl, _⟩ := h
    rfl
  · refine ⟨_, PSs.nox (pss_one (ps_ost (f := "given") (pv 0) (pv 1))), ?_⟩
    obtain ⟨a, C, y, rfl, oc, no, hH, q⟩ := h
    exact ⟨_, rfl, _, rfl, a, C, rfl, oc, no, .inl ⟨hH, q⟩⟩
theorem sc_UnknownUnit_init : FnScope ["self", "given"] ["self", "given"] (defScope s_UnknownUnit_init) := ⟨rfl, rfl, rfl, by decide +kernel, rfl, by decide +kernel, by decide +kernel⟩
theorem ok_UnknownUnit_init (T : Tx K mg) (tb : ∀ p ∈ csOf K, LamX.TabB bs mg p.1 p.2) : ∃ fd, FnOk prg wd K mg bs (L2.CX prg wd) 1 (He.ma K (He.ga K "UnknownUnit") "__init__") fd ["self", "given"] (spIni K ["given"]) ∧ L2.Binds K fd ["self", "given"] [] ∧ L2.KBn K fd ["self", "given"] 1 ["given"] (DC.kwG [0]) (DC.kwG [0]) := by
  obtain ⟨fd, F0⟩ := T.d_UnknownUnit_init
  refine ⟨fd, F0.ok sc_UnknownUnit_init (fun vs H Q E h => ?_) (fun cdv A outer s H vs Q E hr h => ?_), F0.bindsN fun _ _ _ _ _ _ us hl => match us, hl with | [_, _], _ => rfl, DC.kbN F0 1 ["given"] [0] (fun _ _ _ _ _ _ us ws h1 h2 => match us, ws, h1, h2 with | [_], [_], _, _ => rfl)⟩
  · obtain ⟨a, C, y, rfl, _⟩ := h
    rfl
  · refine ⟨_, PSs.nox (pss_one (ps_ost (f := "given") (pv 0) (pv 1))), ?_⟩
    obtain ⟨a, C, y, rfl, oc, no, hH, q⟩ := h
    exact ⟨_, rfl, _, rfl, a, C, rfl, oc, no, .inl ⟨hH, q⟩⟩
theorem sc_BadMove_init : FnScope ["self", "given"] ["self", "given"] (defScope s_BadMove_init) := ⟨rfl, rfl, rfl, by decide +kernel, rfl, by decide +kernel, by decide +kernel⟩
theorem ok_BadMove_init (T : Tx K mg) (tb : ∀ p ∈ csOf K, LamX.TabB bs mg p.1 p.2) : ∃ fd, FnOk prg wd K mg bs (L2.CX prg wd) 1 (He.ma K (He.ga K "BadMove") "__init__") fd ["self", "given"] (spIni K ["given"]) ∧ L2.Binds K fd ["self", "given"] [] ∧ L2.KBn K fd ["self", "given"] 1 ["given"] (DC.kwG [0]) (DC.kwG [0]) := by
  obtain ⟨fd, F0⟩ := T.d_BadMove_init
  refine ⟨fd, F0.ok sc_BadMove_init (fun vs H Q E h => ?_) (fun cdv A outer s H vs Q E hr h => ?_), F0.bindsN fun _ _ _ _ _ _ us hl => match us, hl with | [_, _], _ => rfl, DC.kbN F0 1 ["given"] [0] (fun _ _ _ _ _ _ us ws h1 h2 => match us, ws, h1, h2 with | [_], [_], _, _ => rfl)⟩
  · obtain ⟨a, C, y, rfl, _⟩ := h
    rfl
  · refine ⟨_, PSs.nox (pss_one (ps_ost (f := "given") (pv 0) (pv 1))), ?_⟩
    obtain ⟨a, C, y, rfl, oc, no, hH, q⟩ := h
    exact ⟨_, rfl, _, rfl, a, C, rfl, oc, no, .inl ⟨hH, q⟩⟩
theorem sc_BadCount_init : FnScope ["self", "count"] ["self", "count"] (defScope s_BadCount_init) := ⟨rfl, rfl, rfl, by decide +kernel, rfl, by decide +kernel, by decide +kernel⟩
theorem ok_BadCount_init (T : Tx K mg) (tb : ∀ p ∈ csOf K, LamX.TabB bs mg p.1 p.2) : ∃ fd, FnOk prg wd K mg bs (L2.CX prg wd) 1 (He.ma K (He.ga K "BadCount") "__init__") fd ["self", "count"] (spIni K ["count"]) ∧ L2.Binds K fd ["self", "count"] [] ∧ L2.KBn K fd ["self", "count"] 1 ["count"] (DC.kwG [0]) (DC.kwG [0]) := by
  obtain ⟨fd, F0⟩ := T.d_BadCount_init
  refine ⟨fd, F0.ok sc_BadCount_init (fun vs H Q E h => ?_) (fun cdv A outer s H vs Q E hr h => ?_), F0.bindsN fun _ _ _ _ _ _ us hl => match us, hl with | [_, _], _ => rfl, DC.kbN F0 1 ["count"] [0] (fun _ _ _ _ _ _ us ws h1 h2 => match us, ws, h1, h2 with | [_], [_], _, _ => rfl)⟩
  · obtain ⟨a, C, y, rfl, _⟩ := h
    rfl
  · refine ⟨_, PSs.nox (pss_one (ps_ost (f := "count") (pv 0) (pv 1))), ?_⟩
    obtain ⟨a, C, y, rfl, oc, no, hH, q⟩ := h
    exact ⟨_, rfl, _, rfl, a, C, rfl, oc, no, .inl ⟨hH, q⟩⟩
theorem sc_BadStanding_init : FnScope ["self", "given"] ["self", "given"] (defScope s_BadStanding_init) := ⟨rfl, rfl, rfl, by decide +kernel, rfl, by decide +kernel, by decide +kernel⟩
theorem ok_BadStanding_init (T : Tx K mg) (tb : ∀ p ∈ csOf K, LamX.TabB bs mg p.1 p.2) : ∃ fd, FnOk prg wd K mg bs (L2.CX prg wd) 1 (He.ma K (He.ga K "BadStanding") "__init__") fd ["self", "given"] (spIni K ["given"]) ∧ L2.Binds K fd ["self", "given"] [] ∧ L2.KBn K fd ["self", "given"] 1 ["given"] (DC.kwG [0]) (DC.kwG [0]) := by
  obtain ⟨fd, F0⟩ := T.d_BadStanding_init
  refine ⟨fd, F0.ok sc_BadStanding_init (fun vs H Q E h => ?_) (fun cdv A outer s H vs Q E hr h => ?_), F0.bindsN fun _ _ _ _ _ _ us hl => match us, hl with | [_, _], _ => rfl, DC.kbN F0 1 ["given"] [0] (fun _ _ _ _ _ _ us ws h1 h2 => match us, ws, h1, h2 with | [_], [_], _, _ => rfl)⟩
  · obtain ⟨a, C, y, rfl, _⟩ := h
    rfl
  · refine ⟨_, PSs.nox (pss_one (ps_ost (f := "given") (pv 0) (pv 1))), ?_⟩
    obtain ⟨a, C, y, rfl, oc, no, hH, q⟩ := h
    exact ⟨_, rfl, _, rfl, a, C, rfl, oc, no, .inl ⟨hH, q⟩⟩
theorem sc_BadClosing_init : FnScope ["self", "given"] ["self", "given"] (defScope s_BadClosing_init) := ⟨rfl, rfl, rfl, by decide +kernel, rfl, by decide +kernel, by decide +kernel⟩
theorem ok_BadClosing_init (T : Tx K mg) (tb : ∀ p ∈ csOf K, LamX.TabB bs mg p.1 p.2) : ∃ fd, FnOk prg wd K mg bs (L2.CX prg wd) 1 (He.ma K (He.ga K "BadClosing") "__init__") fd ["self", "given"] (spIni K ["given"]) ∧ L2.Binds K fd ["self", "given"] [] ∧ L2.KBn K fd ["self", "given"] 1 ["given"] (DC.kwG [0]) (DC.kwG [0]) := by
  obtain ⟨fd, F0⟩ := T.d_BadClosing_init
  refine ⟨fd, F0.ok sc_BadClosing_init (fun vs H Q E h => ?_) (fun cdv A outer s H vs Q E hr h => ?_), F0.bindsN fun _ _ _ _ _ _ us hl => match us, hl with | [_, _], _ => rfl, DC.kbN F0 1 ["given"] [0] (fun _ _ _ _ _ _ us ws h1 h2 => match us, ws, h1, h2 with | [_], [_], _, _ => rfl)⟩
  · obtain ⟨a, C, y, rfl, _⟩ := h
    rfl
  · refine ⟨_, PSs.nox (pss_one (ps_ost (f := "given") (pv 0) (pv 1))), ?_⟩
    obtain ⟨a, C, y, rfl, oc, no, hH, q⟩ := h
    exact ⟨_, rfl, _, rfl, a, C, rfl, oc, no, .inl ⟨hH, q⟩⟩
theorem sc_BadRules_init : FnScope ["self", "given"] ["self", "given"] (defScope s_BadRules_init) := ⟨rfl, rfl, rfl, by decide +kernel, rfl, by decide +kernel, by decide +kernel⟩
theorem ok_BadRules_init (T : Tx K mg) (tb : ∀ p ∈ csOf K, LamX.TabB bs mg p.1 p.2) : ∃ fd, FnOk prg wd K mg bs (L2.CX prg wd) 1 (He.ma K (He.ga K "BadRules") "__init__") fd ["self", "given"] (spIni K ["given"]) ∧ L2.Binds K fd ["self", "given"] [] ∧ L2.KBn K fd ["self", "given"] 1 ["given"] (DC.kwG [0]) (DC.kwG [0]) := by
  obtain ⟨fd, F0⟩ := T.d_BadRules_init
  refine ⟨fd, F0.ok sc_BadRules_init (fun vs H Q E h => ?_) (fun cdv A outer s H vs Q E hr h => ?_), F0.bindsN fun _ _ _ _ _ _ us hl => match us, hl with | [_, _], _ => rfl, DC.kbN F0 1 ["given"] [0] (fun _ _ _ _ _ _ us ws h1 h2 => match us, ws, h1, h2 with | [_], [_], _, _ => rfl)⟩
  · obtain ⟨a, C, y, rfl, _⟩ := h
    rfl
  · refine ⟨_, PSs.nox (pss_one (ps_ost (f := "given") (pv 0) (pv 1))), ?_⟩
    obtain ⟨a, C, y, rfl, oc, no, hH, q⟩ := h
    exact ⟨_, rfl, _, rfl, a, C, rfl, oc, no, .inl ⟨hH, q⟩⟩
theorem sc_BadFact_init : FnScope ["self", "given"] ["self", "given"] (defScope s_BadFact_init) := ⟨rfl, rfl, rfl, by decide +kernel, rfl, by decide +kernel, by decide +kernel⟩
theorem ok_BadFact_init (T : Tx K mg) (tb : ∀ p ∈ csOf K, LamX.TabB bs mg p.1 p.2) : ∃ fd, FnOk prg wd K mg bs (L2.CX prg wd) 1 (He.ma K (He.ga K "BadFact") "__init__") fd ["self", "given"] (spIni K ["given"]) ∧ L2.Binds K fd ["self", "given"] [] ∧ L2.KBn K fd ["self", "given"] 1 ["given"] (DC.kwG [0]) (DC.kwG [0]) := by
  obtain ⟨fd, F0⟩ := T.d_BadFact_init
  refine ⟨fd, F0.ok sc_BadFact_init (fun vs H Q E h => ?_) (fun cdv A outer s H vs Q E hr h => ?_), F0.bindsN fun _ _ _ _ _ _ us hl => match us, hl with | [_, _], _ => rfl, DC.kbN F0 1 ["given"] [0] (fun _ _ _ _ _ _ us ws h1 h2 => match us, ws, h1, h2 with | [_], [_], _, _ => rfl)⟩
  · obtain ⟨a, C, y, rfl, _⟩ := h
    rfl
  · refine ⟨_, PSs.nox (pss_one (ps_ost (f := "given") (pv 0) (pv 1))), ?_⟩
    obtain ⟨a, C, y, rfl, oc, no, hH, q⟩ := h
    exact ⟨_, rfl, _, rfl, a, C, rfl, oc, no, .inl ⟨hH, q⟩⟩
theorem sc_BadFacts_init : FnScope ["self", "given"] ["self", "given"] (defScope s_BadFacts_init) := ⟨rfl, rfl, rfl, by decide +kernel, rfl, by decide +kernel, by decide +kernel⟩
theorem ok_BadFacts_init (T : Tx K mg) (tb : ∀ p ∈ csOf K, LamX.TabB bs mg p.1 p.2) : ∃ fd, FnOk prg wd K mg bs (L2.CX prg wd) 1 (He.ma K (He.ga K "BadFacts") "__init__") fd ["self", "given"] (spIni K ["given"]) ∧ L2.Binds K fd ["self", "given"] [] ∧ L2.KBn K fd ["self", "given"] 1 ["given"] (DC.kwG [0]) (DC.kwG [0]) := by
  obtain ⟨fd, F0⟩ := T.d_BadFacts_init
  refine ⟨fd, F0.ok sc_BadFacts_init (fun vs H Q E h => ?_) (fun cdv A outer s H vs Q E hr h => ?_), F0.bindsN fun _ _ _ _ _ _ us hl => match us, hl with | [_, _], _ => rfl, DC.kbN F0 1 ["given"] [0] (fun _ _ _ _ _ _ us ws h1 h2 => match us, ws, h1, h2 with | [_], [_], _, _ => rfl)⟩
  · obtain ⟨a, C, y, rfl, _⟩ := h
    rfl
  · refine ⟨_, PSs.nox (pss_one (ps_ost (f := "given") (pv 0) (pv 1))), ?_⟩
    obtain ⟨a, C, y, rfl, oc, no, hH, q⟩ := h
    exact ⟨_, rfl, _, rfl, a, C, rfl, oc, no, .inl ⟨hH, q⟩⟩
theorem sc_NoSlip_init : FnScope ["self", "given"] ["self", "given"] (defScope s_NoSlip_init) := ⟨rfl, rfl, rfl, by decide +kernel, rfl, by decide +kernel, by decide +kernel⟩
theorem ok_NoSlip_init (T : Tx K mg) (tb : ∀ p ∈ csOf K, LamX.TabB bs mg p.1 p.2) : ∃ fd, FnOk prg wd K mg bs (L2.CX prg wd) 1 (He.ma K (He.ga K "NoSlip") "__init__") fd ["self", "given"] (spIni K ["given"]) ∧ L2.Binds K fd ["self", "given"] [] ∧ L2.KBn K fd ["self", "given"] 1 ["given"] (DC.kwG [0]) (DC.kwG [0]) := by
  obtain ⟨fd, F0⟩ := T.d_NoSlip_init
  refine ⟨fd, F0.ok sc_NoSlip_init (fun vs H Q E h => ?_) (fun cdv A outer s H vs Q E hr h => ?_), F0.bindsN fun _ _ _ _ _ _ us hl => match us, hl with | [_, _], _ => rfl, DC.kbN F0 1 ["given"] [0] (fun _ _ _ _ _ _ us ws h1 h2 => match us, ws, h1, h2 with | [_], [_], _, _ => rfl)⟩
  · obtain ⟨a, C, y, rfl, _⟩ := h
    rfl
  · refine ⟨_, PSs.nox (pss_one (ps_ost (f := "given") (pv 0) (pv 1))), ?_⟩
    obtain ⟨a, C, y, rfl, oc, no, hH, q⟩ := h
    exact ⟨_, rfl, _, rfl, a, C, rfl, oc, no, .inl ⟨hH, q⟩⟩
theorem sc_Filled_init : FnScope ["self", "given"] ["self", "given"] (defScope s_Filled_init) := ⟨rfl, rfl, rfl, by decide +kernel, rfl, by decide +kernel, by decide +kernel⟩
theorem ok_Filled_init (T : Tx K mg) (tb : ∀ p ∈ csOf K, LamX.TabB bs mg p.1 p.2) : ∃ fd, FnOk prg wd K mg bs (L2.CX prg wd) 1 (He.ma K (He.ga K "Filled") "__init__") fd ["self", "given"] (spIni K ["given"]) ∧ L2.Binds K fd ["self", "given"] [] ∧ L2.KBn K fd ["self", "given"] 1 ["given"] (DC.kwG [0]) (DC.kwG [0]) := by
  obtain ⟨fd, F0⟩ := T.d_Filled_init
  refine ⟨fd, F0.ok sc_Filled_init (fun vs H Q E h => ?_) (fun cdv A outer s H vs Q E hr h => ?_), F0.bindsN fun _ _ _ _ _ _ us hl => match us, hl with | [_, _], _ => rfl, DC.kbN F0 1 ["given"] [0] (fun _ _ _ _ _ _ us ws h1 h2 => match us, ws, h1, h2 with | [_], [_], _, _ => rfl)⟩
  · obtain ⟨a, C, y, rfl, _⟩ := h
    rfl
  · refine ⟨_, PSs.nox (pss_one (ps_ost (f := "given") (pv 0) (pv 1))), ?_⟩
    obtain ⟨a, C, y, rfl, oc, no, hH, q⟩ := h
    exact ⟨_, rfl, _, rfl, a, C, rfl, oc, no, .inl ⟨hH, q⟩⟩
theorem sc_NoDeed_init : FnScope ["self", "given"] ["self", "given"] (defScope s_NoDeed_init) := ⟨rfl, rfl, rfl, by decide +kernel, rfl, by decide +kernel, by decide +kernel⟩
theorem ok_NoDeed_init (T : Tx K mg) (tb : ∀ p ∈ csOf K, LamX.TabB bs mg p.1 p.2) : ∃ fd, FnOk prg wd K mg bs (L2.CX prg wd) 1 (He.ma K (He.ga K "NoDeed") "__init__") fd ["self", "given"] (spIni K ["given"]) ∧ L2.Binds K fd ["self", "given"] [] ∧ L2.KBn K fd ["self", "given"] 1 ["given"] (DC.kwG [0]) (DC.kwG [0]) := by
  obtain ⟨fd, F0⟩ := T.d_NoDeed_init
  refine ⟨fd, F0.ok sc_NoDeed_init (fun vs H Q E h => ?_) (fun cdv A outer s H vs Q E hr h => ?_), F0.bindsN fun _ _ _ _ _ _ us hl => match us, hl with | [_, _], _ => rfl, DC.kbN F0 1 ["given"] [0] (fun _ _ _ _ _ _ us ws h1 h2 => match us, ws, h1, h2 with | [_], [_], _, _ => rfl)⟩
  · obtain ⟨a, C, y, rfl, _⟩ := h
    rfl
  · refine ⟨_, PSs.nox (pss_one (ps_ost (f := "given") (pv 0) (pv 1))), ?_⟩
    obtain ⟨a, C, y, rfl, oc, no, hH, q⟩ := h
    exact ⟨_, rfl, _, rfl, a, C, rfl, oc, no, .inl ⟨hH, q⟩⟩
theorem sc_DayClosed_init : FnScope ["self", "given"] ["self", "given"] (defScope s_DayClosed_init) := ⟨rfl, rfl, rfl, by decide +kernel, rfl, by decide +kernel, by decide +kernel⟩
theorem ok_DayClosed_init (T : Tx K mg) (tb : ∀ p ∈ csOf K, LamX.TabB bs mg p.1 p.2) : ∃ fd, FnOk prg wd K mg bs (L2.CX prg wd) 1 (He.ma K (He.ga K "DayClosed") "__init__") fd ["self", "given"] (spIni K ["given"]) ∧ L2.Binds K fd ["self", "given"] [] ∧ L2.KBn K fd ["self", "given"] 1 ["given"] (DC.kwG [0]) (DC.kwG [0]) := by
  obtain ⟨fd, F0⟩ := T.d_DayClosed_init
  refine ⟨fd, F0.ok sc_DayClosed_init (fun vs H Q E h => ?_) (fun cdv A outer s H vs Q E hr h => ?_), F0.bindsN fun _ _ _ _ _ _ us hl => match us, hl with | [_, _], _ => rfl, DC.kbN F0 1 ["given"] [0] (fun _ _ _ _ _ _ us ws h1 h2 => match us, ws, h1, h2 with | [_], [_], _, _ => rfl)⟩
  · obtain ⟨a, C, y, rfl, _⟩ := h
    rfl
  · refine ⟨_, PSs.nox (pss_one (ps_ost (f := "given") (pv 0) (pv 1))), ?_⟩
    obtain ⟨a, C, y, rfl, oc, no, hH, q⟩ := h
    exact ⟨_, rfl, _, rfl, a, C, rfl, oc, no, .inl ⟨hH, q⟩⟩
theorem sc_NoTrade_init : FnScope ["self", "given"] ["self", "given"] (defScope s_NoTrade_init) := ⟨rfl, rfl, rfl, by decide +kernel, rfl, by decide +kernel, by decide +kernel⟩
theorem ok_NoTrade_init (T : Tx K mg) (tb : ∀ p ∈ csOf K, LamX.TabB bs mg p.1 p.2) : ∃ fd, FnOk prg wd K mg bs (L2.CX prg wd) 1 (He.ma K (He.ga K "NoTrade") "__init__") fd ["self", "given"] (spIni K ["given"]) ∧ L2.Binds K fd ["self", "given"] [] ∧ L2.KBn K fd ["self", "given"] 1 ["given"] (DC.kwG [0]) (DC.kwG [0]) := by
  obtain ⟨fd, F0⟩ := T.d_NoTrade_init
  refine ⟨fd, F0.ok sc_NoTrade_init (fun vs H Q E h => ?_) (fun cdv A outer s H vs Q E hr h => ?_), F0.bindsN fun _ _ _ _ _ _ us hl => match us, hl with | [_, _], _ => rfl, DC.kbN F0 1 ["given"] [0] (fun _ _ _ _ _ _ us ws h1 h2 => match us, ws, h1, h2 with | [_], [_], _, _ => rfl)⟩
  · obtain ⟨a, C, y, rfl, _⟩ := h
    rfl
  · refine ⟨_, PSs.nox (pss_one (ps_ost (f := "given") (pv 0) (pv 1))), ?_⟩
    obtain ⟨a, C, y, rfl, oc, no, hH, q⟩ := h
    exact ⟨_, rfl, _, rfl, a, C, rfl, oc, no, .inl ⟨hH, q⟩⟩
theorem sc_NotKnown_init : FnScope ["self", "given"] ["self", "given"] (defScope s_NotKnown_init) := ⟨rfl, rfl, rfl, by decide +kernel, rfl, by decide +kernel, by decide +kernel⟩
theorem ok_NotKnown_init (T : Tx K mg) (tb : ∀ p ∈ csOf K, LamX.TabB bs mg p.1 p.2) : ∃ fd, FnOk prg wd K mg bs (L2.CX prg wd) 1 (He.ma K (He.ga K "NotKnown") "__init__") fd ["self", "given"] (spIni K ["given"]) ∧ L2.Binds K fd ["self", "given"] [] ∧ L2.KBn K fd ["self", "given"] 1 ["given"] (DC.kwG [0]) (DC.kwG [0]) := by
  obtain ⟨fd, F0⟩ := T.d_NotKnown_init
  refine ⟨fd, F0.ok sc_NotKnown_init (fun vs H Q E h => ?_) (fun cdv A outer s H vs Q E hr h => ?_), F0.bindsN fun _ _ _ _ _ _ us hl => match us, hl with | [_, _], _ => rfl, DC.kbN F0 1 ["given"] [0] (fun _ _ _ _ _ _ us ws h1 h2 => match us, ws, h1, h2 with | [_], [_], _, _ => rfl)⟩
  · obtain ⟨a, C, y, rfl, _⟩ := h
    rfl
  · refine ⟨_, PSs.nox (pss_one (ps_ost (f := "given") (pv 0) (pv 1))), ?_⟩
    obtain ⟨a, C, y, rfl, oc, no, hH, q⟩ := h
    exact ⟨_, rfl, _, rfl, a, C, rfl, oc, no, .inl ⟨hH, q⟩⟩
theorem sc_BadQuestion_init : FnScope ["self", "given"] ["self", "given"] (defScope s_BadQuestion_init) := ⟨rfl, rfl, rfl, by decide +kernel, rfl, by decide +kernel, by decide +kernel⟩
theorem ok_BadQuestion_init (T : Tx K mg) (tb : ∀ p ∈ csOf K, LamX.TabB bs mg p.1 p.2) : ∃ fd, FnOk prg wd K mg bs (L2.CX prg wd) 1 (He.ma K (He.ga K "BadQuestion") "__init__") fd ["self", "given"] (spIni K ["given"]) ∧ L2.Binds K fd ["self", "given"] [] ∧ L2.KBn K fd ["self", "given"] 1 ["given"] (DC.kwG [0]) (DC.kwG [0]) := by
  obtain ⟨fd, F0⟩ := T.d_BadQuestion_init
  refine ⟨fd, F0.ok sc_BadQuestion_init (fun vs H Q E h => ?_) (fun cdv A outer s H vs Q E hr h => ?_), F0.bindsN fun _ _ _ _ _ _ us hl => match us, hl with | [_, _], _ => rfl, DC.kbN F0 1 ["given"] [0] (fun _ _ _ _ _ _ us ws h1 h2 => match us, ws, h1, h2 with | [_], [_], _, _ => rfl)⟩
  · obtain ⟨a, C, y, rfl, _⟩ := h
    rfl
  · refine ⟨_, PSs.nox (pss_one (ps_ost (f := "given") (pv 0) (pv 1))), ?_⟩
    obtain ⟨a, C, y, rfl, oc, no, hH, q⟩ := h
    exact ⟨_, rfl, _, rfl, a, C, rfl, oc, no, .inl ⟨hH, q⟩⟩
theorem sc_ManySlips_init : FnScope ["self", "given"] ["self", "given"] (defScope s_ManySlips_init) := ⟨rfl, rfl, rfl, by decide +kernel, rfl, by decide +kernel, by decide +kernel⟩
theorem ok_ManySlips_init (T : Tx K mg) (tb : ∀ p ∈ csOf K, LamX.TabB bs mg p.1 p.2) : ∃ fd, FnOk prg wd K mg bs (L2.CX prg wd) 1 (He.ma K (He.ga K "ManySlips") "__init__") fd ["self", "given"] (spIni K ["given"]) ∧ L2.Binds K fd ["self", "given"] [] ∧ L2.KBn K fd ["self", "given"] 1 ["given"] (DC.kwG [0]) (DC.kwG [0]) := by
  obtain ⟨fd, F0⟩ := T.d_ManySlips_init
  refine ⟨fd, F0.ok sc_ManySlips_init (fun vs H Q E h => ?_) (fun cdv A outer s H vs Q E hr h => ?_), F0.bindsN fun _ _ _ _ _ _ us hl => match us, hl with | [_, _], _ => rfl, DC.kbN F0 1 ["given"] [0] (fun _ _ _ _ _ _ us ws h1 h2 => match us, ws, h1, h2 with | [_], [_], _, _ => rfl)⟩
  · obtain ⟨a, C, y, rfl, _⟩ := h
    rfl
  · refine ⟨_, PSs.nox (pss_one (ps_ost (f := "given") (pv 0) (pv 1))), ?_⟩
    obtain ⟨a, C, y, rfl, oc, no, hH, q⟩ := h
    exact ⟨_, rfl, _, rfl, a, C, rfl, oc, no, .inl ⟨hH, q⟩⟩
theorem sc_BadLots_init : FnScope ["self", "given"] ["self", "given"] (defScope s_BadLots_init) := ⟨rfl, rfl, rfl, by decide +kernel, rfl, by decide +kernel, by decide +kernel⟩
theorem ok_BadLots_init (T : Tx K mg) (tb : ∀ p ∈ csOf K, LamX.TabB bs mg p.1 p.2) : ∃ fd, FnOk prg wd K mg bs (L2.CX prg wd) 1 (He.ma K (He.ga K "BadLots") "__init__") fd ["self", "given"] (spIni K ["given"]) ∧ L2.Binds K fd ["self", "given"] [] ∧ L2.KBn K fd ["self", "given"] 1 ["given"] (DC.kwG [0]) (DC.kwG [0]) := by
  obtain ⟨fd, F0⟩ := T.d_BadLots_init
  refine ⟨fd, F0.ok sc_BadLots_init (fun vs H Q E h => ?_) (fun cdv A outer s H vs Q E hr h => ?_), F0.bindsN fun _ _ _ _ _ _ us hl => match us, hl with | [_, _], _ => rfl, DC.kbN F0 1 ["given"] [0] (fun _ _ _ _ _ _ us ws h1 h2 => match us, ws, h1, h2 with | [_], [_], _, _ => rfl)⟩
  · obtain ⟨a, C, y, rfl, _⟩ := h
    rfl
  · refine ⟨_, PSs.nox (pss_one (ps_ost (f := "given") (pv 0) (pv 1))), ?_⟩
    obtain ⟨a, C, y, rfl, oc, no, hH, q⟩ := h
    exact ⟨_, rfl, _, rfl, a, C, rfl, oc, no, .inl ⟨hH, q⟩⟩
theorem sc_BadCost_init : FnScope ["self", "given"] ["self", "given"] (defScope s_BadCost_init) := ⟨rfl, rfl, rfl, by decide +kernel, rfl, by decide +kernel, by decide +kernel⟩
theorem ok_BadCost_init (T : Tx K mg) (tb : ∀ p ∈ csOf K, LamX.TabB bs mg p.1 p.2) : ∃ fd, FnOk prg wd K mg bs (L2.CX prg wd) 1 (He.ma K (He.ga K "BadCost") "__init__") fd ["self", "given"] (spIni K ["given"]) ∧ L2.Binds K fd ["self", "given"] [] ∧ L2.KBn K fd ["self", "given"] 1 ["given"] (DC.kwG [0]) (DC.kwG [0]) := by
  obtain ⟨fd, F0⟩ := T.d_BadCost_init
  refine ⟨fd, F0.ok sc_BadCost_init (fun vs H Q E h => ?_) (fun cdv A outer s H vs Q E hr h => ?_), F0.bindsN fun _ _ _ _ _ _ us hl => match us, hl with | [_, _], _ => rfl, DC.kbN F0 1 ["given"] [0] (fun _ _ _ _ _ _ us ws h1 h2 => match us, ws, h1, h2 with | [_], [_], _, _ => rfl)⟩
  · obtain ⟨a, C, y, rfl, _⟩ := h
    rfl
  · refine ⟨_, PSs.nox (pss_one (ps_ost (f := "given") (pv 0) (pv 1))), ?_⟩
    obtain ⟨a, C, y, rfl, oc, no, hH, q⟩ := h
    exact ⟨_, rfl, _, rfl, a, C, rfl, oc, no, .inl ⟨hH, q⟩⟩
theorem sc_BadWay_init : FnScope ["self", "given"] ["self", "given"] (defScope s_BadWay_init) := ⟨rfl, rfl, rfl, by decide +kernel, rfl, by decide +kernel, by decide +kernel⟩
theorem ok_BadWay_init (T : Tx K mg) (tb : ∀ p ∈ csOf K, LamX.TabB bs mg p.1 p.2) : ∃ fd, FnOk prg wd K mg bs (L2.CX prg wd) 1 (He.ma K (He.ga K "BadWay") "__init__") fd ["self", "given"] (spIni K ["given"]) ∧ L2.Binds K fd ["self", "given"] [] ∧ L2.KBn K fd ["self", "given"] 1 ["given"] (DC.kwG [0]) (DC.kwG [0]) := by
  obtain ⟨fd, F0⟩ := T.d_BadWay_init
  refine ⟨fd, F0.ok sc_BadWay_init (fun vs H Q E h => ?_) (fun cdv A outer s H vs Q E hr h => ?_), F0.bindsN fun _ _ _ _ _ _ us hl => match us, hl with | [_, _], _ => rfl, DC.kbN F0 1 ["given"] [0] (fun _ _ _ _ _ _ us ws h1 h2 => match us, ws, h1, h2 with | [_], [_], _, _ => rfl)⟩
  · obtain ⟨a, C, y, rfl, _⟩ := h
    rfl
  · refine ⟨_, PSs.nox (pss_one (ps_ost (f := "given") (pv 0) (pv 1))), ?_⟩
    obtain ⟨a, C, y, rfl, oc, no, hH, q⟩ := h
    exact ⟨_, rfl, _, rfl, a, C, rfl, oc, no, .inl ⟨hH, q⟩⟩
theorem sc_NotThere_init : FnScope ["self", "given"] ["self", "given"] (defScope s_NotThere_init) := ⟨rfl, rfl, rfl, by decide +kernel, rfl, by decide +kernel, by decide +kernel⟩
theorem ok_NotThere_init (T : Tx K mg) (tb : ∀ p ∈ csOf K, LamX.TabB bs mg p.1 p.2) : ∃ fd, FnOk prg wd K mg bs (L2.CX prg wd) 1 (He.ma K (He.ga K "NotThere") "__init__") fd ["self", "given"] (spIni K ["given"]) ∧ L2.Binds K fd ["self", "given"] [] ∧ L2.KBn K fd ["self", "given"] 1 ["given"] (DC.kwG [0]) (DC.kwG [0]) := by
  obtain ⟨fd, F0⟩ := T.d_NotThere_init
  refine ⟨fd, F0.ok sc_NotThere_init (fun vs H Q E h => ?_) (fun cdv A outer s H vs Q E hr h => ?_), F0.bindsN fun _ _ _ _ _ _ us hl => match us, hl with | [_, _], _ => rfl, DC.kbN F0 1 ["given"] [0] (fun _ _ _ _ _ _ us ws h1 h2 => match us, ws, h1, h2 with | [_], [_], _, _ => rfl)⟩
  · obtain ⟨a, C, y, rfl, _⟩ := h
    rfl
  · refine ⟨_, PSs.nox (pss_one (ps_ost (f := "given") (pv 0) (pv 1))), ?_⟩
    obtain ⟨a, C, y, rfl, oc, no, hH, q⟩ := h
    exact ⟨_, rfl, _, rfl, a, C, rfl, oc, no, .inl ⟨hH, q⟩⟩
theorem sc_BadEvent_init : FnScope ["self", "index"] ["self", "index"] (defScope s_BadEvent_init) := ⟨rfl, rfl, rfl, by decide +kernel, rfl, by decide +kernel, by decide +kernel⟩
theorem ok_BadEvent_init (T : Tx K mg) (tb : ∀ p ∈ csOf K, LamX.TabB bs mg p.1 p.2) : ∃ fd, FnOk prg wd K mg bs (L2.CX prg wd) 1 (He.ma K (He.ga K "BadEvent") "__init__") fd ["self", "index"] (spIni K ["index"]) ∧ L2.Binds K fd ["self", "index"] [] ∧ L2.KBn K fd ["self", "index"] 1 ["index"] (DC.kwG [0]) (DC.kwG [0]) := by
  obtain ⟨fd, F0⟩ := T.d_BadEvent_init
  refine ⟨fd, F0.ok sc_BadEvent_init (fun vs H Q E h => ?_) (fun cdv A outer s H vs Q E hr h => ?_), F0.bindsN fun _ _ _ _ _ _ us hl => match us, hl with | [_, _], _ => rfl, DC.kbN F0 1 ["index"] [0] (fun _ _ _ _ _ _ us ws h1 h2 => match us, ws, h1, h2 with | [_], [_], _, _ => rfl)⟩
  · obtain ⟨a, C, y, rfl, _⟩ := h
    rfl
  · refine ⟨_, PSs.nox (pss_one (ps_ost (f := "index") (pv 0) (pv 1))), ?_⟩
    obtain ⟨a, C, y, rfl, oc, no, hH, q⟩ := h
    exact ⟨_, rfl, _, rfl, a, C, rfl, oc, no, .inl ⟨hH, q⟩⟩
theorem sc_BadIndex_init : FnScope ["self", "given"] ["self", "given"] (defScope s_BadIndex_init) := ⟨rfl, rfl, rfl, by decide +kernel, rfl, by decide +kernel, by decide +kernel⟩
theorem ok_BadIndex_init (T : Tx K mg) (tb : ∀ p ∈ csOf K, LamX.TabB bs mg p.1 p.2) : ∃ fd, FnOk prg wd K mg bs (L2.CX prg wd) 1 (He.ma K (He.ga K "BadIndex") "__init__") fd ["self", "given"] (spIni K ["given"]) ∧ L2.Binds K fd ["self", "given"] [] ∧ L2.KBn K fd ["self", "given"] 1 ["given"] (DC.kwG [0]) (DC.kwG [0]) := by
  obtain ⟨fd, F0⟩ := T.d_BadIndex_init
  refine ⟨fd, F0.ok sc_BadIndex_init (fun vs H Q E h => ?_) (fun cdv A outer s H vs Q E hr h => ?_), F0.bindsN fun _ _ _ _ _ _ us hl => match us, hl with | [_, _], _ => rfl, DC.kbN F0 1 ["given"] [0] (fun _ _ _ _ _ _ us ws h1 h2 => match us, ws, h1, h2 with | [_], [_], _, _ => rfl)⟩
  · obtain ⟨a, C, y, rfl, _⟩ := h
    rfl
  · refine ⟨_, PSs.nox (pss_one (ps_ost (f := "given") (pv 0) (pv 1))), ?_⟩
    obtain ⟨a, C, y, rfl, oc, no, hH, q⟩ := h
    exact ⟨_, rfl, _, rfl, a, C, rfl, oc, no, .inl ⟨hH, q⟩⟩
theorem sc_BadPool_init : FnScope ["self", "field", "value"] ["self", "field", "value"] (defScope s_BadPool_init) := ⟨rfl, rfl, rfl, by decide +kernel, rfl, by decide +kernel, by decide +kernel⟩
theorem ok_BadPool_init (T : Tx K mg) (tb : ∀ p ∈ csOf K, LamX.TabB bs mg p.1 p.2) : ∃ fd, FnOk prg wd K mg bs (L2.CX prg wd) 1 (He.ma K (He.ga K "BadPool") "__init__") fd ["self", "field", "value"] (spIni K ["field", "value"]) ∧ L2.Binds K fd ["self", "field", "value"] [] ∧ L2.KBn K fd ["self", "field", "value"] 1 ["value", "field"] (DC.kwG [1, 0]) (DC.kwG [1, 0]) := by
  obtain ⟨fd, F0⟩ := T.d_BadPool_init
  refine ⟨fd, F0.ok sc_BadPool_init (fun vs H Q E h => ?_) (fun cdv A outer s H vs Q E hr h => ?_), F0.bindsN fun _ _ _ _ _ _ us hl => match us, hl with | [_, _, _], _ => rfl, DC.kbN F0 1 ["value", "field"] [1, 0] (fun _ _ _ _ _ _ us ws h1 h2 => match us, ws, h1, h2 with | [_], [_, _], _, _ => rfl)⟩
  · obtain ⟨a, C, y, z, rfl, _⟩ := h
    rfl
  · refine ⟨_, PSs.nox (pss_cons (ps_ost (f := "field") (pv 0) (pv 1)) (pss_one (ps_ost (f := "value") (pv 0) (pv 2)))), ?_⟩
    obtain ⟨a, C, y, z, rfl, oc, no, no2, hH, q⟩ := h
    refine ⟨_, rfl, _, rfl, a, C, rfl, oc, no, .inl ⟨hH, fun dx n ne => ⟨_, rfl, _, rfl, a, C, rfl, oc, no2, .inr ⟨dx, [("field", y)], upd_same, ?_, ?_, ?_⟩⟩⟩⟩
    · rw [upd_ne ne]
      exact upd_same
    · show 1 ≤ 900
      decide
    · exact q dx n ne
theorem sc_UnlikeUnits_init : FnScope ["self", "one", "other"] ["self", "one", "other"] (defScope s_UnlikeUnits_init) := ⟨rfl, rfl, rfl, by decide +kernel, rfl, by decide +kernel, by decide +kernel⟩
theorem ok_UnlikeUnits_init (T : Tx K mg) (tb : ∀ p ∈ csOf K, LamX.TabB bs mg p.1 p.2) : ∃ fd, FnOk prg wd K mg bs (L2.CX prg wd) 1 (He.ma K (He.ga K "UnlikeUnits") "__init__") fd ["self", "one", "other"] (spIni K ["one", "other"]) ∧ L2.Binds K fd ["self", "one", "other"] [] ∧ L2.KBn K fd ["self", "one", "other"] 1 ["other", "one"] (DC.kwG [1, 0]) (DC.kwG [1, 0]) := by
  obtain ⟨fd, F0⟩ := T.d_UnlikeUnits_init
  refine ⟨fd, F0.ok sc_UnlikeUnits_init (fun vs H Q E h => ?_) (fun cdv A outer s H vs Q E hr h => ?_), F0.bindsN fun _ _ _ _ _ _ us hl => match us, hl with | [_, _, _], _ => rfl, DC.kbN F0 1 ["other", "one"] [1, 0] (fun _ _ _ _ _ _ us ws h1 h2 => match us, ws, h1, h2 with | [_], [_, _], _, _ => rfl)⟩
  · obtain ⟨a, C, y, z, rfl, _⟩ := h
    rfl
  · refine ⟨_, PSs.nox (pss_cons (ps_ost (f := "one") (pv 0) (pv 1)) (pss_one (ps_ost (f := "other") (pv 0) (pv 2)))), ?_⟩
    obtain ⟨a, C, y, z, rfl, oc, no, no2, hH, q⟩ := h
    refine ⟨_, rfl, _, rfl, a, C, rfl, oc, no, .inl ⟨hH, fun dx n ne => ⟨_, rfl, _, rfl, a, C, rfl, oc, no2, .inr ⟨dx, [("one", y)], upd_same, ?_, ?_, ?_⟩⟩⟩⟩
    · rw [upd_ne ne]
      exact upd_same
    · show 1 ≤ 900
      decide
    · exact q dx n ne
theorem sc_BadDebt_init : FnScope ["self", "given"] ["self", "given"] (defScope s_BadDebt_init) := ⟨rfl, rfl, rfl, by decide +kernel, rfl, by decide +kernel, by decide +kernel⟩
theorem ok_BadDebt_init (T : Tx K mg) (tb : ∀ p ∈ csOf K, LamX.TabB bs mg p.1 p.2) : ∃ fd, FnOk prg wd K mg bs (L2.CX prg wd) 1 (He.ma K (He.ga K "BadDebt") "__init__") fd ["self", "given"] (spIni K ["given"]) ∧ L2.Binds K fd ["self", "given"] [] ∧ L2.KBn K fd ["self", "given"] 1 ["given"] (DC.kwG [0]) (DC.kwG [0]) := by
  obtain ⟨fd, F0⟩ := T.d_BadDebt_init
  refine ⟨fd, F0.ok sc_BadDebt_init (fun vs H Q E h => ?_) (fun cdv A outer s H vs Q E hr h => ?_), F0.bindsN fun _ _ _ _ _ _ us hl => match us, hl with | [_, _], _ => rfl, DC.kbN F0 1 ["given"] [0] (fun _ _ _ _ _ _ us ws h1 h2 => match us, ws, h1, h2 with | [_], [_], _, _ => rfl)⟩
  · obtain ⟨a, C, y, rfl, _⟩ := h
    rfl
  · refine ⟨_, PSs.nox (pss_one (ps_ost (f := "given") (pv 0) (pv 1))), ?_⟩
    obtain ⟨a, C, y, rfl, oc, no, hH, q⟩ := h
    exact ⟨_, rfl, _, rfl, a, C, rfl, oc, no, .inl ⟨hH, q⟩⟩
theorem sc_NoDebtor_init : FnScope ["self", "given"] ["self", "given"] (defScope s_NoDebtor_init) := ⟨rfl, rfl, rfl, by decide +kernel, rfl, by decide +kernel, by decide +kernel⟩
theorem ok_NoDebtor_init (T : Tx K mg) (tb : ∀ p ∈ csOf K, LamX.TabB bs mg p.1 p.2) : ∃ fd, FnOk prg wd K mg bs (L2.CX prg wd) 1 (He.ma K (He.ga K "NoDebtor") "__init__") fd ["self", "given"] (spIni K ["given"]) ∧ L2.Binds K fd ["self", "given"] [] ∧ L2.KBn K fd ["self", "given"] 1 ["given"] (DC.kwG [0]) (DC.kwG [0]) := by
  obtain ⟨fd, F0⟩ := T.d_NoDebtor_init
  refine ⟨fd, F0.ok sc_NoDebtor_init (fun vs H Q E h => ?_) (fun cdv A outer s H vs Q E hr h => ?_), F0.bindsN fun _ _ _ _ _ _ us hl => match us, hl with | [_, _], _ => rfl, DC.kbN F0 1 ["given"] [0] (fun _ _ _ _ _ _ us ws h1 h2 => match us, ws, h1, h2 with | [_], [_], _, _ => rfl)⟩
  · obtain ⟨a, C, y, rfl, _⟩ := h
    rfl
  · refine ⟨_, PSs.nox (pss_one (ps_ost (f := "given") (pv 0) (pv 1))), ?_⟩
    obtain ⟨a, C, y, rfl, oc, no, hH, q⟩ := h
    exact ⟨_, rfl, _, rfl, a, C, rfl, oc, no, .inl ⟨hH, q⟩⟩
theorem sc_BadViewer_init : FnScope ["self", "given"] ["self", "given"] (defScope s_BadViewer_init) := ⟨rfl, rfl, rfl, by decide +kernel, rfl, by decide +kernel, by decide +kernel⟩
theorem ok_BadViewer_init (T : Tx K mg) (tb : ∀ p ∈ csOf K, LamX.TabB bs mg p.1 p.2) : ∃ fd, FnOk prg wd K mg bs (L2.CX prg wd) 1 (He.ma K (He.ga K "BadViewer") "__init__") fd ["self", "given"] (spIni K ["given"]) ∧ L2.Binds K fd ["self", "given"] [] ∧ L2.KBn K fd ["self", "given"] 1 ["given"] (DC.kwG [0]) (DC.kwG [0]) := by
  obtain ⟨fd, F0⟩ := T.d_BadViewer_init
  refine ⟨fd, F0.ok sc_BadViewer_init (fun vs H Q E h => ?_) (fun cdv A outer s H vs Q E hr h => ?_), F0.bindsN fun _ _ _ _ _ _ us hl => match us, hl with | [_, _], _ => rfl, DC.kbN F0 1 ["given"] [0] (fun _ _ _ _ _ _ us ws h1 h2 => match us, ws, h1, h2 with | [_], [_], _, _ => rfl)⟩
  · obtain ⟨a, C, y, rfl, _⟩ := h
    rfl
  · refine ⟨_, PSs.nox (pss_one (ps_ost (f := "given") (pv 0) (pv 1))), ?_⟩
    obtain ⟨a, C, y, rfl, oc, no, hH, q⟩ := h
    exact ⟨_, rfl, _, rfl, a, C, rfl, oc, no, .inl ⟨hH, q⟩⟩
theorem sc_Hidden_init : FnScope ["self", "given"] ["self", "given"] (defScope s_Hidden_init) := ⟨rfl, rfl, rfl, by decide +kernel, rfl, by decide +kernel, by decide +kernel⟩
theorem ok_Hidden_init (T : Tx K mg) (tb : ∀ p ∈ csOf K, LamX.TabB bs mg p.1 p.2) : ∃ fd, FnOk prg wd K mg bs (L2.CX prg wd) 1 (He.ma K (He.ga K "Hidden") "__init__") fd ["self", "given"] (spIni K ["given"]) ∧ L2.Binds K fd ["self", "given"] [] ∧ L2.KBn K fd ["self", "given"] 1 ["given"] (DC.kwG [0]) (DC.kwG [0]) := by
  obtain ⟨fd, F0⟩ := T.d_Hidden_init
  refine ⟨fd, F0.ok sc_Hidden_init (fun vs H Q E h => ?_) (fun cdv A outer s H vs Q E hr h => ?_), F0.bindsN fun _ _ _ _ _ _ us hl => match us, hl with | [_, _], _ => rfl, DC.kbN F0 1 ["given"] [0] (fun _ _ _ _ _ _ us ws h1 h2 => match us, ws, h1, h2 with | [_], [_], _, _ => rfl)⟩
  · obtain ⟨a, C, y, rfl, _⟩ := h
    rfl
  · refine ⟨_, PSs.nox (pss_one (ps_ost (f := "given") (pv 0) (pv 1))), ?_⟩
    obtain ⟨a, C, y, rfl, oc, no, hH, q⟩ := h
    exact ⟨_, rfl, _, rfl, a, C, rfl, oc, no, .inl ⟨hH, q⟩⟩
/-- a law's source: the cell, what is left of it, the count of draws (n at most) -/
structure SrcP (n : Nat) (m : M) (b0 b1 b2 : Int) : Prop where
  eq : m = .lst ([D.int b0, .int b1, .int b2].map .sh)
  bits : Builtin.Int.intBits b0 ≤ 1048576
  t0 : 0 ≤ b2
  t1 : b2 ≤ n
def SrcM (n : Nat) (m : M) : Prop := ∃ b0 b1 b2, SrcP n m b0 b1 b2
theorem SrcM.up {n k : Nat} {m : M} (h : SrcM n m) (l : n ≤ k) : SrcM k m := by
  obtain ⟨a, b, c, p⟩ := h
  exact ⟨a, b, c, p.eq, p.bits, p.t0, by have := p.t1; omega⟩
def c_Llaw_source : CD := ⟨fun ds k => ∃ z, ds = [.int z] ∧ Builtin.Int.intBits z ≤ 1048576 ∧ ∀ m, SrcM 0 m → k (.ret m), by
  rintro ds k k' h ⟨z, e, g, q⟩
  exact ⟨z, e, g, fun m hm => h _ (q m hm)⟩⟩
theorem sc_Llaw_source : FnScope ["cell"] ["cell"] (defScope s_Llaw_source) := ⟨rfl, rfl, rfl, by decide +kernel, rfl, by decide +kernel, by decide +kernel⟩
theorem ok_Llaw_source (T : Tx K mg) (tb : ∀ p ∈ csOf K, LamX.TabB bs mg p.1 p.2) : ∃ fd, DC.FnG prg wd K mg bs (L2.CX prg wd) 1 (He.ga K "_law_source") fd ["cell"] (toSp K 1 c_Llaw_source.con) ∧ L2.Binds K fd ["cell"] [] ∧ PySem.W.keepIn K (.ref (He.ga K "_law_source")) = true := by
  obtain ⟨fd, F0⟩ := T.d_Llaw_source
  refine ⟨fd, def_D (N := ["cell"]) F0 sc_Llaw_source rfl ?_, F0.bindsN fun _ _ _ _ _ _ us hl => match us, hl with | [_], _ => rfl, F0.kp⟩
  intro cdv A fr s H E ds kk gd room hc hl
  have hu := room.units
  have hu7 := room70 room
  have sc := sc_Llaw_source
  refine ⟨_, (pss_one (ps_ret (pe_lst (pa_cons (pv 0) (pa_cons (pv 0) (pa_cons pe_int pa_nil)))))), ?_⟩
  try dsimp only [L2.cxOf]
  obtain ⟨z, rfl, g, q⟩ := hc
  refine ws_retO ?_
  refine wo_lst ?_
  walk_at "args"
  exact q _ ⟨z, z, 0, rfl, g, by decide, by decide⟩
theorem p18 : CPowW 10 18 := ⟨by decide, by decide⟩
theorem cube {x : Int} (h : Builtin.Int.intBits x ≤ 2000000) : CPowW x 3 := by
  refine ⟨by decide, ?_⟩
  have : (2 : Int) ^ 27 = 134217728 := by decide
  omega
def c_Llaw_draw : CO := ⟨fun m ds k => ∃ (n : Nat) (many : Int), SrcM n m ∧ ds = [.int many] ∧ 0 < many ∧ many < 2 ^ 60 ∧ n ≤ 1000000 ∧ ∀ (r : Int) m', 0 ≤ r → r < many → SrcM (n + 1) m' → k (.ret (.sh (.int r))) m', by
  rintro m ds k k' h ⟨n, many, b, e2, g1, g2, g3, q⟩
  exact ⟨n, many, b, e2, g1, g2, g3, fun r m' a b c => h _ _ (q r m' a b c)⟩⟩
theorem sc_Llaw_draw : FnScope ["source", "limit", "mixed", "digit"] ["source", "limit"] (defScope s_Llaw_draw) := ⟨rfl, rfl, rfl, by decide +kernel, rfl, by decide +kernel, by decide +kernel⟩
theorem ok_Llaw_draw (T : Tx K mg) (tb : ∀ p ∈ csOf K, LamX.TabB bs mg p.1 p.2) : ∃ fd, DC.FnG prg wd K mg bs (L2.CX prg wd) 1 (He.ga K "_law_draw") fd ["source", "limit"] (toSp K 2 c_Llaw_draw.con) ∧ L2.Binds K fd ["source", "limit"] [] ∧ PySem.W.keepIn K (.ref (He.ga K "_law_draw")) = true := by
  obtain ⟨fd, F0⟩ := T.d_Llaw_draw
  refine ⟨fd, def_O (N := ["source", "limit", "mixed", "digit"]) F0 sc_Llaw_draw rfl ?_, F0.bindsN fun _ _ _ _ _ _ us hl => match us, hl with | [_, _], _ => rfl, F0.kp⟩
  intro cdv A fr s H E v0 m0 ds kk gd room hc hl
  have hu := room.units
  have hu7 := room70 room
  have sc := sc_Llaw_draw
  refine ⟨_, (pss_cons (ps_asg (pe_op o_add (pe_ix ix_seq (pv 0) pe_int (fun _ _ => rfl)) pe_int) (pg_sub (pv 0) pe_int set_list))
  (pss_cons (ps_if (pt_cmpR o_ge (pe_ix ix_seq (pv 0) pe_int (fun _ _ => rfl)) (pe_op o_pow pe_int pe_int) (nomark _)) (pss_cons (ps_set (i := 3) sc.nd rfl (Or.inl rfl) (pe_op op_mod (pe_callTy call_int1 (by rfl) T.n_int (by decide +kernel) (pa_cons (pe_ix ix_seq (pv 0) pe_int (fun _ _ => rfl)) pa_nil)) (pv 1)))
    (pss_cons (ps_asg (pe_op op_fdivW (pe_ix ix_seq (pv 0) pe_int (fun _ _ => rfl)) (pv 1)) (pg_sub (pv 0) pe_int set_list))
    (pss_one (ps_ret (pv 3))))) pss_nil)
  (pss_cons (ps_set (i := 2) sc.nd rfl (Or.inl rfl) (pe_op op_mod (pe_callTy call_int1 (by rfl) T.n_int (by decide +kernel) (pa_cons (pe_op o_pow (pe_callTy call_int1 (by rfl) T.n_int (by decide +kernel) (pa_cons (pe_op o_add (pe_op o_add (pe_op DC.op_mulX (pe_callTy call_int1 (by rfl) T.n_int (by decide +kernel) (pa_cons (pe_ix ix_seq (pv 0) pe_int (fun _ _ => rfl)) pa_nil)) pe_int) (pe_op o_mul (pe_ix ix_seq (pv 0) pe_int (fun _ _ => rfl)) pe_int)) pe_int) pa_nil)) pe_int) pa_nil)) pe_int))
  (pss_cons (ps_set (i := 2) sc.nd rfl (Or.inl rfl) (pe_op op_mod (pe_callTy call_int1 (by rfl) T.n_int (by decide +kernel) (pa_cons (pe_op o_pow (pe_callTy call_int1 (by rfl) T.n_int (by decide +kernel) (pa_cons (pe_op o_add (pv 2) (pe_op o_mul (pe_op o_mul (pe_ix ix_seq (pv 0) pe_int (fun _ _ => rfl)) (pe_ix ix_seq (pv 0) pe_int (fun _ _ => rfl))) pe_int)) pa_nil)) pe_int) pa_nil)) pe_int))
  (pss_one (ps_ret (pe_op op_mod (pe_op op_fdivW (pv 2) pe_int) (pv 1)))))))), ?_⟩
  try dsimp only [L2.cxOf]
  obtain ⟨n, many, ⟨b0, b1, b2, sp⟩, rfl, g1, g2, g3, q⟩ := hc
  obtain ⟨rfl, bits, t0, t1⟩ := sp
  refine ws_seq ?_
  refine ws_setO ⟨_, rfl⟩ ?_
  refine w_view (i := 0) (d := .lst [.int b0, .int b1, .int b2]) rfl frz_lst ?_
  walk_at "ex"
  refine rd_ixL (.lst _) rfl ?_
  walk_at "ex"
  refine ⟨rfl, ⟨_, rfl⟩, ?_⟩
  walk_at "ex"
  refine ⟨[.int b0, .int b1, .int b2], 2, 2, rfl, rfl, rfl, ?_⟩
  show WS _ _ _ _
  refine ws_seq ?_
  refine ws_if ?_
  refine wt_test ?_
  refine w_view (i := 0) (d := .lst [.int b0, .int b1, .int (b2 + 1)]) rfl frz_lst ?_
  walk_at "ex"
  refine rd_ixL (.lst _) rfl ?_
  walk_at "ex"
  refine rd_pow p18 ?_
  walk_at "ex"
  refine ⟨rfl, _, rfl, ?_⟩
  refine if_dec (fun c => ?_) (fun c => ?_)
  · refine ws_seq ?_
    refine ws_asg (by walk_at "px") ?_
    refine w_view (i := 0) (d := .lst [.int b0, .int b1, .int (b2 + 1)]) rfl frz_lst ?_
    walk_at "ex"
    refine rd_ixL (.lst _) rfl ?_
    walk_at "ex"
    refine rd_mod g1 ?_
    refine ⟨rfl, ?_⟩
    show WS _ _ _ _
    refine ws_seq ?_
    refine ws_setO ⟨_, rfl⟩ ?_
    refine w_view (i := 0) (d := .lst [.int b0, .int b1, .int (b2 + 1)]) rfl frz_lst ?_
    walk_at "ex"
    refine rd_ixL (.lst _) rfl ?_
    walk_at "ex"
    refine rd_div (wide_div (b := 61) g1 (by omega) (by decide) (by decide)) ?_
    refine ⟨rfl, ⟨_, rfl⟩, ?_⟩
    walk_at "ex"
    refine ⟨[.int b0, .int b1, .int (b2 + 1)], 1, 1, rfl, rfl, rfl, ?_⟩
    show WS _ _ _ _
    refine ws_ret ?_
    walk_at "ex"
    exact q _ _ (Int.emod_nonneg _ (by omega)) (Int.emod_lt_of_pos _ g1) ⟨b0, b1 / many, b2 + 1, rfl, bits, by omega, by omega⟩
  refine ws_next ?_
  show WS _ _ _ _
  refine ws_seq ?_
  refine ws_asg (by walk_at "px") ?_
  refine w_view (i := 0) (d := .lst [.int b0, .int b1, .int (b2 + 1)]) rfl frz_lst ?_
  walk_at "ex"
  refine rd_ixL (.lst _) rfl ?_
  walk_at "ex"
  refine rd_mulX (mulX_bits (by omega) (by decide)) ?_
  walk_at "ex"
  refine rd_ixL (.lst _) rfl ?_
  walk_at "ex"
  refine rd_mul (cmulW (a := 40) (b := 40) (by omega) (by decide) (by decide)) ?_
  walk_at "ex"
  refine rd_pow (cube ?_) ?_
  · rw [Int.add_assoc]
    exact Nat.le_trans (bits_lin bits (by omega)) (by decide)
  walk_at "ex"
  refine rd_mod (by decide) ?_
  generalize hone : (b0 * 7 + (b2 + 1) * 71161 + 12011) ^ (3 : Int).toNat % 2147483647 = one
  have u0 : 0 ≤ one := by rw [← hone]; exact Int.emod_nonneg _ (by decide)
  have u1 : one < 2147483647 := by rw [← hone]; exact Int.emod_lt_of_pos _ (by decide)
  clear hone
  refine ⟨rfl, ?_⟩
  show WS _ _ _ _
  refine ws_seq ?_
  refine ws_asg (by walk_at "px") ?_
  refine w_view (i := 0) (d := .lst [.int b0, .int b1, .int (b2 + 1)]) rfl frz_lst ?_
  walk_at "ex"
  refine rd_ixL (.lst _) rfl ?_
  walk_at "ex"
  refine rd_ixL (.lst _) rfl ?_
  refine rd_mul (cmulW (a := 40) (b := 40) (by omega) (by omega) (by decide)) ?_
  walk_at "ex"
  have sq : 0 ≤ (b2 + 1) * (b2 + 1) ∧ (b2 + 1) * (b2 + 1) ≤ 1000001 * 1000001 := ⟨Int.mul_nonneg (by omega) (by omega), Int.mul_le_mul (by omega) (by omega) (by omega) (by decide)⟩
  generalize (b2 + 1) * (b2 + 1) = s2 at sq
  refine rd_mul (cmulW (a := 60) (b := 40) (by omega) (by omega) (by decide)) ?_
  walk_at "ex"
  refine rd_pow (cube (Nat.le_trans (bits_natAbs (n := 100) (by omega)) (by decide))) ?_
  walk_at "ex"
  refine rd_mod (by decide) ?_
  refine ⟨rfl, ?_⟩
  show WS _ _ _ _
  refine ws_ret ?_
  walk_at "ex"
  refine rd_div (wide_div (b := 7) (by decide) (by decide) (by decide) (by decide)) ?_
  walk_at "ex"
  refine rd_mod g1 ?_
  exact ⟨_, rfl, q _ _ (Int.emod_nonneg _ (by omega)) (Int.emod_lt_of_pos _ g1) ⟨b0, b1, b2 + 1, rfl, bits, by omega, by omega⟩⟩
end K48

namespace K48
open PySem PySem.Spec PyProof.Rows L2 DL
variable {prg : Program} {wd : World} {K : PySem.W.Frag} {mg : Str → Option Value} {bs : Heap}
local macro_rules | `(tactic| walk_at "px") => `(tactic| first | exact List.not_mem_nil | (show _ ∉ ([0] : List Nat); decide) | (show _ ∉ ([] : List Nat); decide) | fail)
local macro_rules | `(tactic| walk_at "s") => `(tactic| with_reducible first
  | refine ws_seq ?_ | refine ws_if ?_ | refine ws_next ?_ | refine ws_ret ?_ | refine ws_retN ?_ | refine ws_asg (by walk_at "px") ?_ | refine ws_par (by walk_at "px") (by walk_at "px") ?_
  | refine w_var (by with_unfolding_all rfl) ?_ | refine w_int ?_ | refine w_bl ?_ | refine w_non ?_ | refine w_str ?_ | refine w_dnew ?_ | refine w_ty ?_
  | refine w_op ?_ | refine w_un ?_ | refine w_fld ?_ | refine w_xf ?_ | refine wt_test ?_ | refine wt_B ?_ | refine wt_yes ?_ | refine wt_and ?_ | refine wt_or ?_ | refine wt_not ?_ | refine w_andV ?_ | refine w_orV ?_ | refine w_notV ?_ | refine w_ifE ?_ | refine w_chain ?_
  | refine wa_nil ?_ | refine wa_cons ?_ | refine w_tup ?_ | refine w_lst ?_ | refine w_slice ?_ | refine w_dget ?_ | refine w_dget2 ?_ | refine w_dget1 ?_ | refine wp_no ?_ | refine wp_int ?_
  | refine w_cd repL_nil ?_ | refine w_md repL_nil ?_ | refine w_mk repL_nil ?_ | refine w_co repL_nil ⟨_, by with_unfolding_all rfl⟩ ?_ | refine w_call ?_
  | refine rd_add ?_ | refine rd_sub ?_ | refine rd_lt ?_ | refine rd_le ?_ | refine rd_gt ?_ | refine rd_ge ?_ | refine rd_ltS ?_ | refine rd_leS ?_ | refine rd_gtS ?_ | refine rd_geS ?_ | refine rd_isN ?_ | refine rd_notN ?_ | refine rd_eqAI ?_ | refine rd_neAI ?_ | refine rd_eqAS ?_ | refine rd_neAS ?_
  | refine wg_tup rfl ?_ | refine wgs_cons ?_ | refine wg_name (by walk_at "px") (by simp) ?_ | refine wgs_nil ?_
  | refine ru_neg ?_ | refine ⟨(by show List.length _ ≤ 100000; simp; try omega), ?_⟩
  | refine rc_abs ?_ | refine rc_int1 ?_ | refine rc_min2 ?_ | refine rc_max2 ?_
  | refine ⟨_, rfl, ?_⟩ | fail)
local macro_rules | `(tactic| walk_at "go") => `(tactic| repeat' walk_at "s")
local macro_rules | `(tactic| walk_at "args") => `(tactic| repeat' (with_reducible first | refine wa_cons ?_ | refine wa_nil ?_ | refine w_int ?_ | refine w_bl ?_ | refine w_non ?_ | refine w_str ?_ | refine w_dnew ?_ | refine w_tup ?_ | refine w_lst ?_ | refine w_un ?_ | refine ru_neg ?_ | refine w_var (by with_unfolding_all rfl) ?_ | refine ⟨(by show List.length _ ≤ 100000; simp; try omega), ?_⟩ | fail))
local macro_rules | `(tactic| walk_at "e") => `(tactic| with_reducible first
  | refine w_var (by with_unfolding_all rfl) ?_ | refine w_int ?_ | refine w_bl ?_ | refine w_non ?_ | refine w_str ?_ | refine w_dnew ?_ | refine w_ty ?_
  | refine w_op ?_ | refine w_un ?_ | refine w_fld ?_ | refine w_xf ?_ | refine wt_test ?_ | refine wt_B ?_ | refine wt_yes ?_ | refine wt_and ?_ | refine wt_or ?_ | refine wt_not ?_ | refine w_andV ?_ | refine w_orV ?_ | refine w_notV ?_ | refine w_ifE ?_ | refine w_chain ?_
  | refine wa_nil ?_ | refine wa_cons ?_ | refine w_tup ?_ | refine w_lst ?_ | refine w_slice ?_ | refine w_dget ?_ | refine w_dget2 ?_ | refine w_dget1 ?_ | refine wp_no ?_ | refine wp_int ?_
  | refine w_cd repL_nil ?_ | refine w_md repL_nil ?_ | refine w_mk repL_nil ?_ | refine w_co repL_nil ⟨_, by with_unfolding_all rfl⟩ ?_ | refine w_call ?_
  | refine rd_add ?_ | refine rd_sub ?_ | refine rd_lt ?_ | refine rd_le ?_ | refine rd_gt ?_ | refine rd_ge ?_ | refine rd_ltS ?_ | refine rd_leS ?_ | refine rd_gtS ?_ | refine rd_geS ?_ | refine rd_isN ?_ | refine rd_notN ?_ | refine rd_eqAI ?_ | refine rd_neAI ?_ | refine rd_eqAS ?_ | refine rd_neAS ?_
  | refine wg_tup rfl ?_ | refine wgs_cons ?_ | refine wg_name (by walk_at "px") (by simp) ?_ | refine wgs_nil ?_
  | refine ru_neg ?_ | refine ⟨(by show List.length _ ≤ 100000; simp; try omega), ?_⟩
  | refine rc_abs ?_ | refine rc_int1 ?_ | refine rc_min2 ?_ | refine rc_max2 ?_
  | refine ⟨_, rfl, ?_⟩ | fail)
local macro_rules | `(tactic| walk_at "ex") => `(tactic| repeat' walk_at "e")
local macro_rules | `(tactic| walk_at "a_") => `(tactic| (show WS _ _ _ _; (with_reducible try refine ws_seq ?_); with_reducible refine ws_asg (by walk_at "px") ?_; walk_at "ex"))
local macro_rules | `(tactic| walk_at "i_") => `(tactic| (show WS _ _ _ _; (with_reducible try refine ws_seq ?_); with_reducible refine ws_if ?_; walk_at "ex"))
local macro_rules | `(tactic| walk_at "d_") => `(tactic| (show WS _ _ _ _; (with_reducible try refine ws_seq ?_); with_reducible refine ws_drop ?_; walk_at "ex"))
local macro_rules | `(tactic| walk_at "r_") => `(tactic| (show WS _ _ _ _; with_reducible refine ws_ret ?_; walk_at "ex"))
local macro_rules | `(tactic| walk_at "v_") => `(tactic| refine w_var (by with_unfolding_all rfl) ?_)

theorem rd_pick {K : PySem.W.Frag} {k : D → Prop} {ds : List D} {b : Int} (P : D → Prop) (h0 : 0 ≤ b) (h1 : b < ds.length) (ty : ∀ y ∈ ds, P y) (q : ∀ it, P it → k it) : RD K (rIx K) (.lst ds) (.int b) k := by
  obtain ⟨j, rfl⟩ : ∃ j : Nat, b = (j : Int) := ⟨b.toNat, by omega⟩
  have hj : j < ds.length := by omega
  exact rd_ixL (.lst _) (atI_nat (List.getElem?_eq_getElem hj)) (q _ (ty _ (List.getElem_mem hj)))
def shC (d : D) : Bool := match d.pyR with
  | some p => p.showable && (decide (p.depth ≤ 2) && decide (p.shown.length ≤ 200))
  | none => false
theorem shC_ok {d : D} (h : shC d = true) : Shw d 2 200 := by
  unfold shC at h
  split at h
  · rename_i p e
    obtain ⟨a, h⟩ := Bool.and_eq_true_iff.mp h
    obtain ⟨b, c⟩ := Bool.and_eq_true_iff.mp h
    exact ⟨p, e, a, of_decide_eq_true b, of_decide_eq_true c⟩
  · cases h

abbrev Sh (v : D) : Prop := Shw v 2 200
def c_Llaw_thing : CO := ⟨fun m ds k => ∃ n, SrcM n m ∧ ds = [] ∧ n ≤ 900000 ∧ ∀ d m', Sh d → SrcM (n + 1) m' → k (.ret (.sh d)) m', by
  rintro m ds k k' h ⟨n, b, e, g, q⟩
  exact ⟨n, b, e, g, fun d m' a b => h _ _ (q d m' a b)⟩⟩
theorem sc_Llaw_thing : FnScope ["source", "menu"] ["source"] (defScope s_Llaw_thing) := ⟨rfl, rfl, rfl, by decide +kernel, rfl, by decide +kernel, by decide +kernel⟩
theorem ok_Llaw_thing (T : Tx K mg) (tb : ∀ p ∈ csOf K, LamX.TabB bs mg p.1 p.2) : ∃ fd, DC.FnG prg wd K mg bs (L2.CX prg wd) 2 (He.ga K "_law_thing") fd ["source"] (toSp K 1 c_Llaw_thing.con) ∧ L2.Binds K fd ["source"] [] ∧ PySem.W.keepIn K (.ref (He.ga K "_law_thing")) = true := by
  obtain ⟨fd, F0⟩ := T.d_Llaw_thing
  obtain ⟨_, F_Llaw_draw, b_Llaw_draw, k_Llaw_draw⟩ := ok_Llaw_draw (prg := prg) (wd := wd) (bs := bs) T tb
  refine ⟨fd, def_O (N := ["source", "menu"]) F0 sc_Llaw_thing rfl ?_, F0.bindsN fun _ _ _ _ _ _ us hl => match us, hl with | [_], _ => rfl, F0.kp⟩
  intro cdv A fr s H E v0 m0 ds kk gd room hc hl
  have hu := room.units
  have hu7 := room70 room
  have sc := sc_Llaw_thing
  refine ⟨_, (pss_cons (ps_set (i := 1) sc.nd rfl (Or.inl rfl) (pe_lst (pa_cons pe_non (pa_cons pe_bl (pa_cons pe_bl (pa_cons pe_int (pa_cons pe_int (pa_cons (pe_un un_neg pe_int) (pa_cons (pe_op o_pow pe_int pe_int) (pa_cons pe_str (pa_cons pe_str (pa_cons pe_str (pa_cons (pe_lst pa_nil) (pa_cons (pe_lst (pa_cons pe_int (pa_cons pe_str pa_nil))) (pa_cons (pe_tup pa_nil) (pa_cons (pe_tup (pa_cons pe_non (pa_cons pe_bl pa_nil))) (pa_cons pe_dnewK (pa_cons (pe_disp (pps_cons pe_str (pe_lst (pa_cons pe_int pa_nil)) pps_nil) rfl rfl (fun z => nomatch z) (by decide)) pa_nil))))))))))))))))))
  (pss_cons (ps_set (i := 1) sc.nd rfl (Or.inl rfl) (pe_op o_add (pv 1) (pe_lst (pa_cons (pe_tup (pa_cons pe_str (pa_cons pe_str (pa_cons pe_str pa_nil)))) (pa_cons (pe_lst (pa_cons (pe_lst (pa_cons pe_int pa_nil)) (pa_cons (pe_tup (pa_cons pe_int pa_nil)) pa_nil))) (pa_cons (pe_disp (pps_cons pe_int pe_non pps_nil) rfl rfl (fun z => nomatch z) (by decide)) (pa_cons (pe_tup (pa_cons pe_int pa_nil)) pa_nil)))))))
  (pss_one (ps_ret (pe_ix ix_seq (pv 1) (DC.pe_callG F_Llaw_draw gd (room.mono (by decide)) (by rfl) T.g__law_draw k_Llaw_draw b_Llaw_draw .nil (fun σ => passAt (takes_of rfl rfl rfl rfl) σ) (pa_cons (pv 0) (pa_cons (pe_callB o_lenA (by rfl) T.n_len (by decide +kernel) (pa_cons (pv 1) pa_nil)) pa_nil))) (fun _ _ => rfl)))))), ?_⟩
  try dsimp only [L2.cxOf]
  obtain ⟨n, sm, rfl, g, q⟩ := hc
  refine ws_seq ?_
  refine ws_asg (by walk_at "px") ?_
  walk_at "ex"
  refine rd_pow ⟨by decide, by decide⟩ ?_
  walk_at "ex"
  refine w_frz ?_
  refine wo_disp ?_
  refine w_str ?_
  refine ⟨.inr "a", rfl, ?_⟩
  walk_at "ex"
  refine ⟨by show 1 ≤ 15; decide, _, frz_dic, ?_⟩
  walk_at "ex"
  show WS _ _ _ _
  refine ws_seq ?_
  refine ws_asg (by walk_at "px") ?_
  walk_at "ex"
  refine w_frz ?_
  refine wo_disp ?_
  refine w_int ?_
  refine ⟨.inl 1, rfl, ?_⟩
  walk_at "ex"
  refine ⟨by show 1 ≤ 15; decide, _, frz_dic, ?_⟩
  walk_at "ex"
  refine rd_addL (.lst _) (.lst _) (by decide) ?_
  show WS _ _ _ _
  refine ws_ret ?_
  walk_at "ex"
  refine rc_lenAL (.lst _) ?_
  walk_at "ex"
  refine ⟨rfl, n, 20, sm, rfl, by omega, by omega, by omega, fun u m1 u0 u1 s1 => ⟨_, .sh _, ?_⟩⟩
  refine rd_pick Sh u0 (by show u < 20; exact u1) (fun y hy => ?_) fun it hit => ?_
  · rcases List.mem_append.mp hy with hy | hy
    · simp only [List.mem_cons, List.not_mem_nil, or_false] at hy
      rcases hy with rfl | rfl | rfl | rfl | rfl | rfl | rfl | rfl | rfl | rfl | rfl | rfl | rfl | rfl | rfl | rfl <;> exact shC_ok (by decide +kernel)
    · simp only [List.mem_cons, List.not_mem_nil, or_false] at hy
      rcases hy with rfl | rfl | rfl | rfl <;> exact shC_ok (by decide +kernel)
  exact ⟨_, rfl, q it m1 hit s1⟩
end K48

namespace K48
open PySem PySem.Spec PyProof.Rows L2 DL
variable {prg : Program} {wd : World} {K : PySem.W.Frag} {mg : Str → Option Value} {bs : Heap}
local macro_rules | `(tactic| walk_at "px") => `(tactic| first | exact List.not_mem_nil | (show _ ∉ ([0] : List Nat); decide) | (show _ ∉ ([] : List Nat); decide) | fail)
local macro_rules | `(tactic| walk_at "s") => `(tactic| with_reducible first
  | refine ws_seq ?_ | refine ws_if ?_ | refine ws_next ?_ | refine ws_ret ?_ | refine ws_retN ?_ | refine ws_asg (by walk_at "px") ?_ | refine ws_par (by walk_at "px") (by walk_at "px") ?_
  | refine w_var (by with_unfolding_all rfl) ?_ | refine w_int ?_ | refine w_bl ?_ | refine w_non ?_ | refine w_str ?_ | refine w_dnew ?_ | refine w_ty ?_
  | refine w_op ?_ | refine w_un ?_ | refine w_fld ?_ | refine w_xf ?_ | refine wt_test ?_ | refine wt_B ?_ | refine wt_yes ?_ | refine wt_and ?_ | refine wt_or ?_ | refine wt_not ?_ | refine w_andV ?_ | refine w_orV ?_ | refine w_notV ?_ | refine w_ifE ?_ | refine w_chain ?_
  | refine wa_nil ?_ | refine wa_cons ?_ | refine w_tup ?_ | refine w_lst ?_ | refine w_slice ?_ | refine w_dget ?_ | refine w_dget2 ?_ | refine w_dget1 ?_ | refine wp_no ?_ | refine wp_int ?_
  | refine w_cd repL_nil ?_ | refine w_md repL_nil ?_ | refine w_mk repL_nil ?_ | refine w_co repL_nil ⟨_, by with_unfolding_all rfl⟩ ?_ | refine w_call ?_
  | refine rd_add ?_ | refine rd_sub ?_ | refine rd_lt ?_ | refine rd_le ?_ | refine rd_gt ?_ | refine rd_ge ?_ | refine rd_ltS ?_ | refine rd_leS ?_ | refine rd_gtS ?_ | refine rd_geS ?_ | refine rd_isN ?_ | refine rd_notN ?_ | refine rd_eqAI ?_ | refine rd_neAI ?_ | refine rd_eqAS ?_ | refine rd_neAS ?_
  | refine wg_tup rfl ?_ | refine wgs_cons ?_ | refine wg_name (by walk_at "px") (by simp) ?_ | refine wgs_nil ?_
  | refine ru_neg ?_ | refine ⟨(by show List.length _ ≤ 100000; simp; try omega), ?_⟩
  | refine rc_abs ?_ | refine rc_int1 ?_ | refine rc_min2 ?_ | refine rc_max2 ?_
  | refine ⟨_, rfl, ?_⟩ | fail)
local macro_rules | `(tactic| walk_at "go") => `(tactic| repeat' walk_at "s")
local macro_rules | `(tactic| walk_at "args") => `(tactic| repeat' (with_reducible first | refine wa_cons ?_ | refine wa_nil ?_ | refine w_int ?_ | refine w_bl ?_ | refine w_non ?_ | refine w_str ?_ | refine w_dnew ?_ | refine w_tup ?_ | refine w_lst ?_ | refine w_un ?_ | refine ru_neg ?_ | refine w_var (by with_unfolding_all rfl) ?_ | refine ⟨(by show List.length _ ≤ 100000; simp; try omega), ?_⟩ | fail))
local macro_rules | `(tactic| walk_at "e") => `(tactic| with_reducible first
  | refine w_var (by with_unfolding_all rfl) ?_ | refine w_int ?_ | refine w_bl ?_ | refine w_non ?_ | refine w_str ?_ | refine w_dnew ?_ | refine w_ty ?_
  | refine w_op ?_ | refine w_un ?_ | refine w_fld ?_ | refine w_xf ?_ | refine wt_test ?_ | refine wt_B ?_ | refine wt_yes ?_ | refine wt_and ?_ | refine wt_or ?_ | refine wt_not ?_ | refine w_andV ?_ | refine w_orV ?_ | refine w_notV ?_ | refine w_ifE ?_ | refine w_chain ?_
  | refine wa_nil ?_ | refine wa_cons ?_ | refine w_tup ?_ | refine w_lst ?_ | refine w_slice ?_ | refine w_dget ?_ | refine w_dget2 ?_ | refine w_dget1 ?_ | refine wp_no ?_ | refine wp_int ?_
  | refine w_cd repL_nil ?_ | refine w_md repL_nil ?_ | refine w_mk repL_nil ?_ | refine w_co repL_nil ⟨_, by with_unfolding_all rfl⟩ ?_ | refine w_call ?_
  | refine rd_add ?_ | refine rd_sub ?_ | refine rd_lt ?_ | refine rd_le ?_ | refine rd_gt ?_ | refine rd_ge ?_ | refine rd_ltS ?_ | refine rd_leS ?_ | refine rd_gtS ?_ | refine rd_geS ?_ | refine rd_isN ?_ | refine rd_notN ?_ | refine rd_eqAI ?_ | refine rd_neAI ?_ | refine rd_eqAS ?_ | refine rd_neAS ?_
  | refine wg_tup rfl ?_ | refine wgs_cons ?_ | refine wg_name (by walk_at "px") (by simp) ?_ | refine wgs_nil ?_
  | refine ru_neg ?_ | refine ⟨(by show List.length _ ≤ 100000; simp; try omega), ?_⟩
  | refine rc_abs ?_ | refine rc_int1 ?_ | refine rc_min2 ?_ | refine rc_max2 ?_
  | refine ⟨_, rfl, ?_⟩ | fail)
local macro_rules | `(tactic| walk_at "ex") => `(tactic| repeat' walk_at "e")
local macro_rules | `(tactic| walk_at "a_") => `(tactic| (show WS _ _ _ _; (with_reducible try refine ws_seq ?_); with_reducible refine ws_asg (by walk_at "px") ?_; walk_at "ex"))
local macro_rules | `(tactic| walk_at "i_") => `(tactic| (show WS _ _ _ _; (with_reducible try refine ws_seq ?_); with_reducible refine ws_if ?_; walk_at "ex"))
local macro_rules | `(tactic| walk_at "d_") => `(tactic| (show WS _ _ _ _; (with_reducible try refine ws_seq ?_); with_reducible refine ws_drop ?_; walk_at "ex"))
local macro_rules | `(tactic| walk_at "r_") => `(tactic| (show WS _ _ _ _; with_reducible refine ws_ret ?_; walk_at "ex"))
local macro_rules | `(tactic| walk_at "v_") => `(tactic| refine w_var (by with_unfolding_all rfl) ?_)

abbrev placeL : List Str := (["BadWidth", "UnknownBid", "BadBid", "TooManyBids", "BidTaken", "BothSides", "BadClosing", "BadMove", "BadStanding", "BadNumber", "BadLegs", "BadDues", "BadHoldings", "BadQueues", "BadOwners", "NoDue", "Duplicate", "NotTogether", "Settles", "BadRules", "BadFact", "BadFacts", "NoSlip", "Filled", "NoDeed", "DayClosed", "NoTrade", "NotKnown", "BadQuestion", "ManySlips"] : List Str) ++ (["BadLots", "BadCost", "BadWay", "NotThere", "BadIndex", "BadSide", "BadPosition", "BadPrices", "UnknownUnit", "BadDebt", "NoDebtor", "BadViewer", "Hidden"] : List Str)
def placeD (t : D) : List D := placeL.map fun c => .exv c [("given", t)]
def c_Llaw_by_place : CD := ⟨fun ds k => ∃ t, ds = [t] ∧ k (.ret (.sh (.lst (placeD t)))), by
  rintro ds k k' h ⟨t, e, q⟩
  exact ⟨t, e, h _ q⟩⟩
theorem sc_Llaw_by_place : FnScope ["thing", "found"] ["thing"] (defScope s_Llaw_by_place) := ⟨rfl, rfl, rfl, by decide +kernel, rfl, by decide +kernel, by decide +kernel⟩
theorem ok_Llaw_by_place (T : Tx K mg) (tb : ∀ p ∈ csOf K, LamX.TabB bs mg p.1 p.2) : ∃ fd, DC.FnG prg wd K mg bs (L2.CX prg wd) 3 (He.ga K "_law_by_place") fd ["thing"] (toSp K 1 c_Llaw_by_place.con) ∧ L2.Binds K fd ["thing"] [] ∧ PySem.W.keepIn K (.ref (He.ga K "_law_by_place")) = true := by
  obtain ⟨fd, F0⟩ := T.d_Llaw_by_place
  obtain ⟨_, F_BadBid_init, b_BadBid_init, kb_BadBid_init_1_given⟩ := ok_BadBid_init (prg := prg) (wd := wd) (bs := bs) T tb
  obtain ⟨_, F_BadClosing_init, b_BadClosing_init, kb_BadClosing_init_1_given⟩ := ok_BadClosing_init (prg := prg) (wd := wd) (bs := bs) T tb
  obtain ⟨_, F_BadCost_init, b_BadCost_init, kb_BadCost_init_1_given⟩ := ok_BadCost_init (prg := prg) (wd := wd) (bs := bs) T tb
  obtain ⟨_, F_BadDebt_init, b_BadDebt_init, kb_BadDebt_init_1_given⟩ := ok_BadDebt_init (prg := prg) (wd := wd) (bs := bs) T tb
  obtain ⟨_, F_BadDues_init, b_BadDues_init, kb_BadDues_init_1_given⟩ := ok_BadDues_init (prg := prg) (wd := wd) (bs := bs) T tb
  obtain ⟨_, F_BadFact_init, b_BadFact_init, kb_BadFact_init_1_given⟩ := ok_BadFact_init (prg := prg) (wd := wd) (bs := bs) T tb
  obtain ⟨_, F_BadFacts_init, b_BadFacts_init, kb_BadFacts_init_1_given⟩ := ok_BadFacts_init (prg := prg) (wd := wd) (bs := bs) T tb
  obtain ⟨_, F_BadHoldings_init, b_BadHoldings_init, kb_BadHoldings_init_1_given⟩ := ok_BadHoldings_init (prg := prg) (wd := wd) (bs := bs) T tb
  obtain ⟨_, F_BadIndex_init, b_BadIndex_init, kb_BadIndex_init_1_given⟩ := ok_BadIndex_init (prg := prg) (wd := wd) (bs := bs) T tb
  obtain ⟨_, F_BadLegs_init, b_BadLegs_init, kb_BadLegs_init_1_given⟩ := ok_BadLegs_init (prg := prg) (wd := wd) (bs := bs) T tb
  obtain ⟨_, F_BadLots_init, b_BadLots_init, kb_BadLots_init_1_given⟩ := ok_BadLots_init (prg := prg) (wd := wd) (bs := bs) T tb
  obtain ⟨_, F_BadMove_init, b_BadMove_init, kb_BadMove_init_1_given⟩ := ok_BadMove_init (prg := prg) (wd := wd) (bs := bs) T tb
  obtain ⟨_, F_BadNumber_init, b_BadNumber_init, kb_BadNumber_init_1_given⟩ := ok_BadNumber_init (prg := prg) (wd := wd) (bs := bs) T tb
  obtain ⟨_, F_BadOwners_init, b_BadOwners_init, kb_BadOwners_init_1_given⟩ := ok_BadOwners_init (prg := prg) (wd := wd) (bs := bs) T tb
  obtain ⟨_, F_BadPosition_init, b_BadPosition_init, kb_BadPosition_init_1_given⟩ := ok_BadPosition_init (prg := prg) (wd := wd) (bs := bs) T tb
  obtain ⟨_, F_BadPrices_init, b_BadPrices_init, kb_BadPrices_init_1_given⟩ := ok_BadPrices_init (prg := prg) (wd := wd) (bs := bs) T tb
  obtain ⟨_, F_BadQuestion_init, b_BadQuestion_init, kb_BadQuestion_init_1_given⟩ := ok_BadQuestion_init (prg := prg) (wd := wd) (bs := bs) T tb
  obtain ⟨_, F_BadQueues_init, b_BadQueues_init, kb_BadQueues_init_1_given⟩ := ok_BadQueues_init (prg := prg) (wd := wd) (bs := bs) T tb
  obtain ⟨_, F_BadRules_init, b_BadRules_init, kb_BadRules_init_1_given⟩ := ok_BadRules_init (prg := prg) (wd := wd) (bs := bs) T tb
  obtain ⟨_, F_BadSide_init, b_BadSide_init, kb_BadSide_init_1_given⟩ := ok_BadSide_init (prg := prg) (wd := wd) (bs := bs) T tb
  obtain ⟨_, F_BadStanding_init, b_BadStanding_init, kb_BadStanding_init_1_given⟩ := ok_BadStanding_init (prg := prg) (wd := wd) (bs := bs) T tb
  obtain ⟨_, F_BadViewer_init, b_BadViewer_init, kb_BadViewer_init_1_given⟩ := ok_BadViewer_init (prg := prg) (wd := wd) (bs := bs) T tb
  obtain ⟨_, F_BadWay_init, b_BadWay_init, kb_BadWay_init_1_given⟩ := ok_BadWay_init (prg := prg) (wd := wd) (bs := bs) T tb
  obtain ⟨_, F_BadWidth_init, b_BadWidth_init, kb_BadWidth_init_1_given⟩ := ok_BadWidth_init (prg := prg) (wd := wd) (bs := bs) T tb
  obtain ⟨_, F_BidTaken_init, b_BidTaken_init, kb_BidTaken_init_1_given⟩ := ok_BidTaken_init (prg := prg) (wd := wd) (bs := bs) T tb
  obtain ⟨_, F_BothSides_init, b_BothSides_init, kb_BothSides_init_1_given⟩ := ok_BothSides_init (prg := prg) (wd := wd) (bs := bs) T tb
  obtain ⟨_, F_DayClosed_init, b_DayClosed_init, kb_DayClosed_init_1_given⟩ := ok_DayClosed_init (prg := prg) (wd := wd) (bs := bs) T tb
  obtain ⟨_, F_Duplicate_init, b_Duplicate_init, kb_Duplicate_init_1_given⟩ := ok_Duplicate_init (prg := prg) (wd := wd) (bs := bs) T tb
  obtain ⟨_, F_Filled_init, b_Filled_init, kb_Filled_init_1_given⟩ := ok_Filled_init (prg := prg) (wd := wd) (bs := bs) T tb
  obtain ⟨_, F_Hidden_init, b_Hidden_init, kb_Hidden_init_1_given⟩ := ok_Hidden_init (prg := prg) (wd := wd) (bs := bs) T tb
  obtain ⟨_, F_ManySlips_init, b_ManySlips_init, kb_ManySlips_init_1_given⟩ := ok_ManySlips_init (prg := prg) (wd := wd) (bs := bs) T tb
  obtain ⟨_, F_NoDebtor_init, b_NoDebtor_init, kb_NoDebtor_init_1_given⟩ := ok_NoDebtor_init (prg := prg) (wd := wd) (bs := bs) T tb
  obtain ⟨_, F_NoDeed_init, b_NoDeed_init, kb_NoDeed_init_1_given⟩ := ok_NoDeed_init (prg := prg) (wd := wd) (bs := bs) T tb
  obtain ⟨_, F_NoDue_init, b_NoDue_init, kb_NoDue_init_1_given⟩ := ok_NoDue_init (prg := prg) (wd := wd) (bs := bs) T tb
  obtain ⟨_, F_NoSlip_init, b_NoSlip_init, kb_NoSlip_init_1_given⟩ := ok_NoSlip_init (prg := prg) (wd := wd) (bs := bs) T tb
  obtain ⟨_, F_NoTrade_init, b_NoTrade_init, kb_NoTrade_init_1_given⟩ := ok_NoTrade_init (prg := prg) (wd := wd) (bs := bs) T tb
  obtain ⟨_, F_NotKnown_init, b_NotKnown_init, kb_NotKnown_init_1_given⟩ := ok_NotKnown_init (prg := prg) (wd := wd) (bs := bs) T tb
  obtain ⟨_, F_NotThere_init, b_NotThere_init, kb_NotThere_init_1_given⟩ := ok_NotThere_init (prg := prg) (wd := wd) (bs := bs) T tb
  obtain ⟨_, F_NotTogether_init, b_NotTogether_init, kb_NotTogether_init_1_given⟩ := ok_NotTogether_init (prg := prg) (wd := wd) (bs := bs) T tb
  obtain ⟨_, F_Settles_init, b_Settles_init, kb_Settles_init_1_given⟩ := ok_Settles_init (prg := prg) (wd := wd) (bs := bs) T tb
  obtain ⟨_, F_TooManyBids_init, b_TooManyBids_init, kb_TooManyBids_init_1_given⟩ := ok_TooManyBids_init (prg := prg) (wd := wd) (bs := bs) T tb
  obtain ⟨_, F_UnknownBid_init, b_UnknownBid_init, kb_UnknownBid_init_1_given⟩ := ok_UnknownBid_init (prg := prg) (wd := wd) (bs := bs) T tb
  obtain ⟨_, F_UnknownUnit_init, b_UnknownUnit_init, kb_UnknownUnit_init_1_given⟩ := ok_UnknownUnit_init (prg := prg) (wd := wd) (bs := bs) T tb
  refine ⟨fd, def_D (N := ["thing", "found"]) F0 sc_Llaw_by_place rfl ?_, F0.bindsN fun _ _ _ _ _ _ us hl => match us, hl with | [_], _ => rfl, F0.kp⟩
  intro cdv A fr s H E ds kk gd room hc hl
  have hu := room.units
  have hu7 := room70 room
  have sc := sc_Llaw_by_place
  refine ⟨_, (pss_cons (ps_set (i := 1) sc.nd rfl (Or.inl rfl) (pe_lst (pa_cons (DC.pe_oexV T.o_BadWidth T.i_BadWidth T.t_BadWidth F_BadWidth_init (room.mono (by decide)) b_BadWidth_init passL (by rfl) T.g_BadWidth (pa_cons (pv 0) pa_nil)) (pa_cons (DC.pe_oexV T.o_UnknownBid T.i_UnknownBid T.t_UnknownBid F_UnknownBid_init (room.mono (by decide)) b_UnknownBid_init passL (by rfl) T.g_UnknownBid (pa_cons (pv 0) pa_nil)) (pa_cons (DC.pe_oexV T.o_BadBid T.i_BadBid T.t_BadBid F_BadBid_init (room.mono (by decide)) b_BadBid_init passL (by rfl) T.g_BadBid (pa_cons (pv 0) pa_nil)) (pa_cons (DC.pe_oexV T.o_TooManyBids T.i_TooManyBids T.t_TooManyBids F_TooManyBids_init (room.mono (by decide)) b_TooManyBids_init passL (by rfl) T.g_TooManyBids (pa_cons (pv 0) pa_nil)) (pa_cons (DC.pe_oexV T.o_BidTaken T.i_BidTaken T.t_BidTaken F_BidTaken_init (room.mono (by decide)) b_BidTaken_init passL (by rfl) T.g_BidTaken (pa_cons (pv 0) pa_nil)) pa_nil)))))))
  (pss_cons (ps_set (i := 1) sc.nd rfl (Or.inl rfl) (pe_op o_add (pv 1) (pe_lst (pa_cons (DC.pe_oexV T.o_BothSides T.i_BothSides T.t_BothSides F_BothSides_init (room.mono (by decide)) b_BothSides_init passL (by rfl) T.g_BothSides (pa_cons (pv 0) pa_nil)) (pa_cons (DC.pe_oexV T.o_BadClosing T.i_BadClosing T.t_BadClosing F_BadClosing_init (room.mono (by decide)) b_BadClosing_init passL (by rfl) T.g_BadClosing (pa_cons (pv 0) pa_nil)) (pa_cons (DC.pe_oexV T.o_BadMove T.i_BadMove T.t_BadMove F_BadMove_init (room.mono (by decide)) b_BadMove_init passL (by rfl) T.g_BadMove (pa_cons (pv 0) pa_nil)) (pa_cons (DC.pe_oexV T.o_BadStanding T.i_BadStanding T.t_BadStanding F_BadStanding_init (room.mono (by decide)) b_BadStanding_init passL (by rfl) T.g_BadStanding (pa_cons (pv 0) pa_nil)) (pa_cons (DC.pe_oexV T.o_BadNumber T.i_BadNumber T.t_BadNumber F_BadNumber_init (room.mono (by decide)) b_BadNumber_init passL (by rfl) T.g_BadNumber (pa_cons (pv 0) pa_nil)) pa_nil))))))))
  (pss_cons (ps_set (i := 1) sc.nd rfl (Or.inl rfl) (pe_op o_add (pv 1) (pe_lst (pa_cons (DC.pe_oexV T.o_BadLegs T.i_BadLegs T.t_BadLegs F_BadLegs_init (room.mono (by decide)) b_BadLegs_init passL (by rfl) T.g_BadLegs (pa_cons (pv 0) pa_nil)) (pa_cons (DC.pe_oexV T.o_BadDues T.i_BadDues T.t_BadDues F_BadDues_init (room.mono (by decide)) b_BadDues_init passL (by rfl) T.g_BadDues (pa_cons (pv 0) pa_nil)) (pa_cons (DC.pe_oexV T.o_BadHoldings T.i_BadHoldings T.t_BadHoldings F_BadHoldings_init (room.mono (by decide)) b_BadHoldings_init passL (by rfl) T.g_BadHoldings (pa_cons (pv 0) pa_nil)) (pa_cons (DC.pe_oexV T.o_BadQueues T.i_BadQueues T.t_BadQueues F_BadQueues_init (room.mono (by decide)) b_BadQueues_init passL (by rfl) T.g_BadQueues (pa_cons (pv 0) pa_nil)) (pa_cons (DC.pe_oexV T.o_BadOwners T.i_BadOwners T.t_BadOwners F_BadOwners_init (room.mono (by decide)) b_BadOwners_init passL (by rfl) T.g_BadOwners (pa_cons (pv 0) pa_nil)) pa_nil))))))))
  (pss_cons (ps_set (i := 1) sc.nd rfl (Or.inl rfl) (pe_op o_add (pv 1) (pe_lst (pa_cons (DC.pe_oexV T.o_NoDue T.i_NoDue T.t_NoDue F_NoDue_init (room.mono (by decide)) b_NoDue_init passL (by rfl) T.g_NoDue (pa_cons (pv 0) pa_nil)) (pa_cons (DC.pe_oexV T.o_Duplicate T.i_Duplicate T.t_Duplicate F_Duplicate_init (room.mono (by decide)) b_Duplicate_init passL (by rfl) T.g_Duplicate (pa_cons (pv 0) pa_nil)) (pa_cons (DC.pe_oexV T.o_NotTogether T.i_NotTogether T.t_NotTogether F_NotTogether_init (room.mono (by decide)) b_NotTogether_init passL (by rfl) T.g_NotTogether (pa_cons (pv 0) pa_nil)) (pa_cons (DC.pe_oexV T.o_Settles T.i_Settles T.t_Settles F_Settles_init (room.mono (by decide)) b_Settles_init passL (by rfl) T.g_Settles (pa_cons (pv 0) pa_nil)) (pa_cons (DC.pe_oexV T.o_BadRules T.i_BadRules T.t_BadRules F_BadRules_init (room.mono (by decide)) b_BadRules_init passL (by rfl) T.g_BadRules (pa_cons (pv 0) pa_nil)) pa_nil))))))))
  (pss_cons (ps_set (i := 1) sc.nd rfl (Or.inl rfl) (pe_op o_add (pv 1) (pe_lst (pa_cons (DC.pe_oexV T.o_BadFact T.i_BadFact T.t_BadFact F_BadFact_init (room.mono (by decide)) b_BadFact_init passL (by rfl) T.g_BadFact (pa_cons (pv 0) pa_nil)) (pa_cons (DC.pe_oexV T.o_BadFacts T.i_BadFacts T.t_BadFacts F_BadFacts_init (room.mono (by decide)) b_BadFacts_init passL (by rfl) T.g_BadFacts (pa_cons (pv 0) pa_nil)) (pa_cons (DC.pe_oexV T.o_NoSlip T.i_NoSlip T.t_NoSlip F_NoSlip_init (room.mono (by decide)) b_NoSlip_init passL (by rfl) T.g_NoSlip (pa_cons (pv 0) pa_nil)) (pa_cons (DC.pe_oexV T.o_Filled T.i_Filled T.t_Filled F_Filled_init (room.mono (by decide)) b_Filled_init passL (by rfl) T.g_Filled (pa_cons (pv 0) pa_nil)) (pa_cons (DC.pe_oexV T.o_NoDeed T.i_NoDeed T.t_NoDeed F_NoDeed_init (room.mono (by decide)) b_NoDeed_init passL (by rfl) T.g_NoDeed (pa_cons (pv 0) pa_nil)) (pa_cons (DC.pe_oexV T.o_DayClosed T.i_DayClosed T.t_DayClosed F_DayClosed_init (room.mono (by decide)) b_DayClosed_init passL (by rfl) T.g_DayClosed (pa_cons (pv 0) pa_nil)) pa_nil)))))))))
  (pss_cons (ps_set (i := 1) sc.nd rfl (Or.inl rfl) (pe_op o_add (pv 1) (pe_lst (pa_cons (DC.pe_oexV T.o_NoTrade T.i_NoTrade T.t_NoTrade F_NoTrade_init (room.mono (by decide)) b_NoTrade_init passL (by rfl) T.g_NoTrade (pa_cons (pv 0) pa_nil)) (pa_cons (DC.pe_oexV T.o_NotKnown T.i_NotKnown T.t_NotKnown F_NotKnown_init (room.mono (by decide)) b_NotKnown_init passL (by rfl) T.g_NotKnown (pa_cons (pv 0) pa_nil)) (pa_cons (DC.pe_oexV T.o_BadQuestion T.i_BadQuestion T.t_BadQuestion F_BadQuestion_init (room.mono (by decide)) b_BadQuestion_init passL (by rfl) T.g_BadQuestion (pa_cons (pv 0) pa_nil)) (pa_cons (DC.pe_oexV T.o_ManySlips T.i_ManySlips T.t_ManySlips F_ManySlips_init (room.mono (by decide)) b_ManySlips_init passL (by rfl) T.g_ManySlips (pa_cons (pv 0) pa_nil)) (pa_cons (DC.pe_oexV T.o_BadLots T.i_BadLots T.t_BadLots F_BadLots_init (room.mono (by decide)) b_BadLots_init passL (by rfl) T.g_BadLots (pa_cons (pv 0) pa_nil)) pa_nil))))))))
  (pss_cons (ps_set (i := 1) sc.nd rfl (Or.inl rfl) (pe_op o_add (pv 1) (pe_lst (pa_cons (DC.pe_oexV T.o_BadCost T.i_BadCost T.t_BadCost F_BadCost_init (room.mono (by decide)) b_BadCost_init passL (by rfl) T.g_BadCost (pa_cons (pv 0) pa_nil)) (pa_cons (DC.pe_oexV T.o_BadWay T.i_BadWay T.t_BadWay F_BadWay_init (room.mono (by decide)) b_BadWay_init passL (by rfl) T.g_BadWay (pa_cons (pv 0) pa_nil)) (pa_cons (DC.pe_oexV T.o_NotThere T.i_NotThere T.t_NotThere F_NotThere_init (room.mono (by decide)) b_NotThere_init passL (by rfl) T.g_NotThere (pa_cons (pv 0) pa_nil)) (pa_cons (DC.pe_oexV T.o_BadIndex T.i_BadIndex T.t_BadIndex F_BadIndex_init (room.mono (by decide)) b_BadIndex_init passL (by rfl) T.g_BadIndex (pa_cons (pv 0) pa_nil)) (pa_cons (DC.pe_oexV T.o_BadSide T.i_BadSide T.t_BadSide F_BadSide_init (room.mono (by decide)) b_BadSide_init passL (by rfl) T.g_BadSide (pa_cons (pv 0) pa_nil)) pa_nil))))))))
  (pss_cons (ps_set (i := 1) sc.nd rfl (Or.inl rfl) (pe_op o_add (pv 1) (pe_lst (pa_cons (DC.pe_oexV T.o_BadPosition T.i_BadPosition T.t_BadPosition F_BadPosition_init (room.mono (by decide)) b_BadPosition_init passL (by rfl) T.g_BadPosition (pa_cons (pv 0) pa_nil)) (pa_cons (DC.pe_oexV T.o_BadPrices T.i_BadPrices T.t_BadPrices F_BadPrices_init (room.mono (by decide)) b_BadPrices_init passL (by rfl) T.g_BadPrices (pa_cons (pv 0) pa_nil)) (pa_cons (DC.pe_oexV T.o_UnknownUnit T.i_UnknownUnit T.t_UnknownUnit F_UnknownUnit_init (room.mono (by decide)) b_UnknownUnit_init passL (by rfl) T.g_UnknownUnit (pa_cons (pv 0) pa_nil)) (pa_cons (DC.pe_oexV T.o_BadDebt T.i_BadDebt T.t_BadDebt F_BadDebt_init (room.mono (by decide)) b_BadDebt_init passL (by rfl) T.g_BadDebt (pa_cons (pv 0) pa_nil)) (pa_cons (DC.pe_oexV T.o_NoDebtor T.i_NoDebtor T.t_NoDebtor F_NoDebtor_init (room.mono (by decide)) b_NoDebtor_init passL (by rfl) T.g_NoDebtor (pa_cons (pv 0) pa_nil)) pa_nil))))))))
  (pss_cons (ps_set (i := 1) sc.nd rfl (Or.inl rfl) (pe_op o_add (pv 1) (pe_lst (pa_cons (DC.pe_oexV T.o_BadViewer T.i_BadViewer T.t_BadViewer F_BadViewer_init (room.mono (by decide)) b_BadViewer_init passL (by rfl) T.g_BadViewer (pa_cons (pv 0) pa_nil)) (pa_cons (DC.pe_oexV T.o_Hidden T.i_Hidden T.t_Hidden F_Hidden_init (room.mono (by decide)) b_Hidden_init passL (by rfl) T.g_Hidden (pa_cons (pv 0) pa_nil)) pa_nil)))))
  (pss_one (ps_ret (pv 1)))))))))))), ?_⟩
  try dsimp only [L2.cxOf]
  obtain ⟨t, rfl, q⟩ := hc
  refine ws_seq ?_
  refine ws_asg (by walk_at "px") ?_
  walk_at "ex"
  refine w_oexV1 (c := "BadWidth") (f := "given") ?_
  walk_at "ex"
  refine ⟨rfl, T.o_BadWidth, T.no_BadWidth_given, ?_⟩
  walk_at "ex"
  refine w_oexV1 (c := "UnknownBid") (f := "given") ?_
  walk_at "ex"
  refine ⟨rfl, T.o_UnknownBid, T.no_UnknownBid_given, ?_⟩
  walk_at "ex"
  refine w_oexV1 (c := "BadBid") (f := "given") ?_
  walk_at "ex"
  refine ⟨rfl, T.o_BadBid, T.no_BadBid_given, ?_⟩
  walk_at "ex"
  refine w_oexV1 (c := "TooManyBids") (f := "given") ?_
  walk_at "ex"
  refine ⟨rfl, T.o_TooManyBids, T.no_TooManyBids_given, ?_⟩
  walk_at "ex"
  refine w_oexV1 (c := "BidTaken") (f := "given") ?_
  walk_at "ex"
  refine ⟨rfl, T.o_BidTaken, T.no_BidTaken_given, ?_⟩
  walk_at "ex"
  show WS _ _ _ _
  refine ws_seq ?_
  refine ws_asg (by walk_at "px") ?_
  walk_at "ex"
  refine w_oexV1 (c := "BothSides") (f := "given") ?_
  walk_at "ex"
  refine ⟨rfl, T.o_BothSides, T.no_BothSides_given, ?_⟩
  walk_at "ex"
  refine w_oexV1 (c := "BadClosing") (f := "given") ?_
  walk_at "ex"
  refine ⟨rfl, T.o_BadClosing, T.no_BadClosing_given, ?_⟩
  walk_at "ex"
  refine w_oexV1 (c := "BadMove") (f := "given") ?_
  walk_at "ex"
  refine ⟨rfl, T.o_BadMove, T.no_BadMove_given, ?_⟩
  walk_at "ex"
  refine w_oexV1 (c := "BadStanding") (f := "given") ?_
  walk_at "ex"
  refine ⟨rfl, T.o_BadStanding, T.no_BadStanding_given, ?_⟩
  walk_at "ex"
  refine w_oexV1 (c := "BadNumber") (f := "given") ?_
  walk_at "ex"
  refine ⟨rfl, T.o_BadNumber, T.no_BadNumber_given, ?_⟩
  walk_at "ex"
  refine rd_addL (.lst _) (.lst _) (by show 5 + 5 ≤ 100000; decide) ?_
  show WS _ _ _ _
  refine ws_seq ?_
  refine ws_asg (by walk_at "px") ?_
  walk_at "ex"
  refine w_oexV1 (c := "BadLegs") (f := "given") ?_
  walk_at "ex"
  refine ⟨rfl, T.o_BadLegs, T.no_BadLegs_given, ?_⟩
  walk_at "ex"
  refine w_oexV1 (c := "BadDues") (f := "given") ?_
  walk_at "ex"
  refine ⟨rfl, T.o_BadDues, T.no_BadDues_given, ?_⟩
  walk_at "ex"
  refine w_oexV1 (c := "BadHoldings") (f := "given") ?_
  walk_at "ex"
  refine ⟨rfl, T.o_BadHoldings, T.no_BadHoldings_given, ?_⟩
  walk_at "ex"
  refine w_oexV1 (c := "BadQueues") (f := "given") ?_
  walk_at "ex"
  refine ⟨rfl, T.o_BadQueues, T.no_BadQueues_given, ?_⟩
  walk_at "ex"
  refine w_oexV1 (c := "BadOwners") (f := "given") ?_
  walk_at "ex"
  refine ⟨rfl, T.o_BadOwners, T.no_BadOwners_given, ?_⟩
  walk_at "ex"
  refine rd_addL (.lst _) (.lst _) (by show 10 + 5 ≤ 100000; decide) ?_
  show WS _ _ _ _
  refine ws_seq ?_
  refine ws_asg (by walk_at "px") ?_
  walk_at "ex"
  refine w_oexV1 (c := "NoDue") (f := "given") ?_
  walk_at "ex"
  refine ⟨rfl, T.o_NoDue, T.no_NoDue_given, ?_⟩
  walk_at "ex"
  refine w_oexV1 (c := "Duplicate") (f := "given") ?_
  walk_at "ex"
  refine ⟨rfl, T.o_Duplicate, T.no_Duplicate_given, ?_⟩
  walk_at "ex"
  refine w_oexV1 (c := "NotTogether") (f := "given") ?_
  walk_at "ex"
  refine ⟨rfl, T.o_NotTogether, T.no_NotTogether_given, ?_⟩
  walk_at "ex"
  refine w_oexV1 (c := "Settles") (f := "given") ?_
  walk_at "ex"
  refine ⟨rfl, T.o_Settles, T.no_Settles_given, ?_⟩
  walk_at "ex"
  refine w_oexV1 (c := "BadRules") (f := "given") ?_
  walk_at "ex"
  refine ⟨rfl, T.o_BadRules, T.no_BadRules_given, ?_⟩
  walk_at "ex"
  refine rd_addL (.lst _) (.lst _) (by show 15 + 5 ≤ 100000; decide) ?_
  show WS _ _ _ _
  refine ws_seq ?_
  refine ws_asg (by walk_at "px") ?_
  walk_at "ex"
  refine w_oexV1 (c := "BadFact") (f := "given") ?_
  walk_at "ex"
  refine ⟨rfl, T.o_BadFact, T.no_BadFact_given, ?_⟩
  walk_at "ex"
  refine w_oexV1 (c := "BadFacts") (f := "given") ?_
  walk_at "ex"
  refine ⟨rfl, T.o_BadFacts, T.no_BadFacts_given, ?_⟩
  walk_at "ex"
  refine w_oexV1 (c := "NoSlip") (f := "given") ?_
  walk_at "ex"
  refine ⟨rfl, T.o_NoSlip, T.no_NoSlip_given, ?_⟩
  walk_at "ex"
  refine w_oexV1 (c := "Filled") (f := "given") ?_
  walk_at "ex"
  refine ⟨rfl, T.o_Filled, T.no_Filled_given, ?_⟩
  walk_at "ex"
  refine w_oexV1 (c := "NoDeed") (f := "given") ?_
  walk_at "ex"
  refine ⟨rfl, T.o_NoDeed, T.no_NoDeed_given, ?_⟩
  walk_at "ex"
  refine w_oexV1 (c := "DayClosed") (f := "given") ?_
  walk_at "ex"
  refine ⟨rfl, T.o_DayClosed, T.no_DayClosed_given, ?_⟩
  walk_at "ex"
  refine rd_addL (.lst _) (.lst _) (by show 20 + 6 ≤ 100000; decide) ?_
  show WS _ _ _ _
  refine ws_seq ?_
  refine ws_asg (by walk_at "px") ?_
  walk_at "ex"
  refine w_oexV1 (c := "NoTrade") (f := "given") ?_
  walk_at "ex"
  refine ⟨rfl, T.o_NoTrade, T.no_NoTrade_given, ?_⟩
  walk_at "ex"
  refine w_oexV1 (c := "NotKnown") (f := "given") ?_
  walk_at "ex"
  refine ⟨rfl, T.o_NotKnown, T.no_NotKnown_given, ?_⟩
  walk_at "ex"
  refine w_oexV1 (c := "BadQuestion") (f := "given") ?_
  walk_at "ex"
  refine ⟨rfl, T.o_BadQuestion, T.no_BadQuestion_given, ?_⟩
  walk_at "ex"
  refine w_oexV1 (c := "ManySlips") (f := "given") ?_
  walk_at "ex"
  refine ⟨rfl, T.o_ManySlips, T.no_ManySlips_given, ?_⟩
  walk_at "ex"
  refine w_oexV1 (c := "BadLots") (f := "given") ?_
  walk_at "ex"
  refine ⟨rfl, T.o_BadLots, T.no_BadLots_given, ?_⟩
  walk_at "ex"
  refine rd_addL (.lst _) (.lst _) (by show 26 + 5 ≤ 100000; decide) ?_
  show WS _ _ _ _
  refine ws_seq ?_
  refine ws_asg (by walk_at "px") ?_
  walk_at "ex"
  refine w_oexV1 (c := "BadCost") (f := "given") ?_
  walk_at "ex"
  refine ⟨rfl, T.o_BadCost, T.no_BadCost_given, ?_⟩
  walk_at "ex"
  refine w_oexV1 (c := "BadWay") (f := "given") ?_
  walk_at "ex"
  refine ⟨rfl, T.o_BadWay, T.no_BadWay_given, ?_⟩
  walk_at "ex"
  refine w_oexV1 (c := "NotThere") (f := "given") ?_
  walk_at "ex"
  refine ⟨rfl, T.o_NotThere, T.no_NotThere_given, ?_⟩
  walk_at "ex"
  refine w_oexV1 (c := "BadIndex") (f := "given") ?_
  walk_at "ex"
  refine ⟨rfl, T.o_BadIndex, T.no_BadIndex_given, ?_⟩
  walk_at "ex"
  refine w_oexV1 (c := "BadSide") (f := "given") ?_
  walk_at "ex"
  refine ⟨rfl, T.o_BadSide, T.no_BadSide_given, ?_⟩
  walk_at "ex"
  refine rd_addL (.lst _) (.lst _) (by show 31 + 5 ≤ 100000; decide) ?_
  show WS _ _ _ _
  refine ws_seq ?_
  refine ws_asg (by walk_at "px") ?_
  walk_at "ex"
  refine w_oexV1 (c := "BadPosition") (f := "given") ?_
  walk_at "ex"
  refine ⟨rfl, T.o_BadPosition, T.no_BadPosition_given, ?_⟩
  walk_at "ex"
  refine w_oexV1 (c := "BadPrices") (f := "given") ?_
  walk_at "ex"
  refine ⟨rfl, T.o_BadPrices, T.no_BadPrices_given, ?_⟩
  walk_at "ex"
  refine w_oexV1 (c := "UnknownUnit") (f := "given") ?_
  walk_at "ex"
  refine ⟨rfl, T.o_UnknownUnit, T.no_UnknownUnit_given, ?_⟩
  walk_at "ex"
  refine w_oexV1 (c := "BadDebt") (f := "given") ?_
  walk_at "ex"
  refine ⟨rfl, T.o_BadDebt, T.no_BadDebt_given, ?_⟩
  walk_at "ex"
  refine w_oexV1 (c := "NoDebtor") (f := "given") ?_
  walk_at "ex"
  refine ⟨rfl, T.o_NoDebtor, T.no_NoDebtor_given, ?_⟩
  walk_at "ex"
  refine rd_addL (.lst _) (.lst _) (by show 36 + 5 ≤ 100000; decide) ?_
  show WS _ _ _ _
  refine ws_seq ?_
  refine ws_asg (by walk_at "px") ?_
  walk_at "ex"
  refine w_oexV1 (c := "BadViewer") (f := "given") ?_
  walk_at "ex"
  refine ⟨rfl, T.o_BadViewer, T.no_BadViewer_given, ?_⟩
  walk_at "ex"
  refine w_oexV1 (c := "Hidden") (f := "given") ?_
  walk_at "ex"
  refine ⟨rfl, T.o_Hidden, T.no_Hidden_given, ?_⟩
  walk_at "ex"
  refine rd_addL (.lst _) (.lst _) (by show 41 + 2 ≤ 100000; decide) ?_
  show WS _ _ _ _
  refine ws_ret ?_
  walk_at "ex"
  exact q
end K48

namespace K48
open PySem PySem.Spec PyProof.Rows L2 DL
variable {prg : Program} {wd : World} {K : PySem.W.Frag} {mg : Str → Option Value} {bs : Heap}
local macro_rules | `(tactic| walk_at "px") => `(tactic| first | exact List.not_mem_nil | (show _ ∉ ([0] : List Nat); decide) | (show _ ∉ ([] : List Nat); decide) | fail)
local macro_rules | `(tactic| walk_at "s") => `(tactic| with_reducible first
  | refine ws_seq ?_ | refine ws_if ?_ | refine ws_next ?_ | refine ws_ret ?_ | refine ws_retN ?_ | refine ws_asg (by walk_at "px") ?_ | refine ws_par (by walk_at "px") (by walk_at "px") ?_
  | refine w_var (by with_unfolding_all rfl) ?_ | refine w_int ?_ | refine w_bl ?_ | refine w_non ?_ | refine w_str ?_ | refine w_dnew ?_ | refine w_ty ?_
  | refine w_op ?_ | refine w_un ?_ | refine w_fld ?_ | refine w_xf ?_ | refine wt_test ?_ | refine wt_B ?_ | refine wt_yes ?_ | refine wt_and ?_ | refine wt_or ?_ | refine wt_not ?_ | refine w_andV ?_ | refine w_orV ?_ | refine w_notV ?_ | refine w_ifE ?_ | refine w_chain ?_
  | refine wa_nil ?_ | refine wa_cons ?_ | refine w_tup ?_ | refine w_lst ?_ | refine w_slice ?_ | refine w_dget ?_ | refine w_dget2 ?_ | refine w_dget1 ?_ | refine wp_no ?_ | refine wp_int ?_
  | refine w_cd repL_nil ?_ | refine w_md repL_nil ?_ | refine w_mk repL_nil ?_ | refine w_co repL_nil ⟨_, by with_unfolding_all rfl⟩ ?_ | refine w_call ?_
  | refine rd_add ?_ | refine rd_sub ?_ | refine rd_lt ?_ | refine rd_le ?_ | refine rd_gt ?_ | refine rd_ge ?_ | refine rd_ltS ?_ | refine rd_leS ?_ | refine rd_gtS ?_ | refine rd_geS ?_ | refine rd_isN ?_ | refine rd_notN ?_ | refine rd_eqAI ?_ | refine rd_neAI ?_ | refine rd_eqAS ?_ | refine rd_neAS ?_
  | refine wg_tup rfl ?_ | refine wgs_cons ?_ | refine wg_name (by walk_at "px") (by simp) ?_ | refine wgs_nil ?_
  | refine ru_neg ?_ | refine ⟨(by show List.length _ ≤ 100000; simp; try omega), ?_⟩
  | refine rc_abs ?_ | refine rc_int1 ?_ | refine rc_min2 ?_ | refine rc_max2 ?_
  | refine ⟨_, rfl, ?_⟩ | fail)
local macro_rules | `(tactic| walk_at "go") => `(tactic| repeat' walk_at "s")
local macro_rules | `(tactic| walk_at "args") => `(tactic| repeat' (with_reducible first | refine wa_cons ?_ | refine wa_nil ?_ | refine w_int ?_ | refine w_bl ?_ | refine w_non ?_ | refine w_str ?_ | refine w_dnew ?_ | refine w_tup ?_ | refine w_lst ?_ | refine w_un ?_ | refine ru_neg ?_ | refine w_var (by with_unfolding_all rfl) ?_ | refine ⟨(by show List.length _ ≤ 100000; simp; try omega), ?_⟩ | fail))
local macro_rules | `(tactic| walk_at "e") => `(tactic| with_reducible first
  | refine w_var (by with_unfolding_all rfl) ?_ | refine w_int ?_ | refine w_bl ?_ | refine w_non ?_ | refine w_str ?_ | refine w_dnew ?_ | refine w_ty ?_
  | refine w_op ?_ | refine w_un ?_ | refine w_fld ?_ | refine w_xf ?_ | refine wt_test ?_ | refine wt_B ?_ | refine wt_yes ?_ | refine wt_and ?_ | refine wt_or ?_ | refine wt_not ?_ | refine w_andV ?_ | refine w_orV ?_ | refine w_notV ?_ | refine w_ifE ?_ | refine w_chain ?_
  | refine wa_nil ?_ | refine wa_cons ?_ | refine w_tup ?_ | refine w_lst ?_ | refine w_slice ?_ | refine w_dget ?_ | refine w_dget2 ?_ | refine w_dget1 ?_ | refine wp_no ?_ | refine wp_int ?_
  | refine w_cd repL_nil ?_ | refine w_md repL_nil ?_ | refine w_mk repL_nil ?_ | refine w_co repL_nil ⟨_, by with_unfolding_all rfl⟩ ?_ | refine w_call ?_
  | refine rd_add ?_ | refine rd_sub ?_ | refine rd_lt ?_ | refine rd_le ?_ | refine rd_gt ?_ | refine rd_ge ?_ | refine rd_ltS ?_ | refine rd_leS ?_ | refine rd_gtS ?_ | refine rd_geS ?_ | refine rd_isN ?_ | refine rd_notN ?_ | refine rd_eqAI ?_ | refine rd_neAI ?_ | refine rd_eqAS ?_ | refine rd_neAS ?_
  | refine wg_tup rfl ?_ | refine wgs_cons ?_ | refine wg_name (by walk_at "px") (by simp) ?_ | refine wgs_nil ?_
  | refine ru_neg ?_ | refine ⟨(by show List.length _ ≤ 100000; simp; try omega), ?_⟩
  | refine rc_abs ?_ | refine rc_int1 ?_ | refine rc_min2 ?_ | refine rc_max2 ?_
  | refine ⟨_, rfl, ?_⟩ | fail)
local macro_rules | `(tactic| walk_at "ex") => `(tactic| repeat' walk_at "e")
local macro_rules | `(tactic| walk_at "a_") => `(tactic| (show WS _ _ _ _; (with_reducible try refine ws_seq ?_); with_reducible refine ws_asg (by walk_at "px") ?_; walk_at "ex"))
local macro_rules | `(tactic| walk_at "i_") => `(tactic| (show WS _ _ _ _; (with_reducible try refine ws_seq ?_); with_reducible refine ws_if ?_; walk_at "ex"))
local macro_rules | `(tactic| walk_at "d_") => `(tactic| (show WS _ _ _ _; (with_reducible try refine ws_seq ?_); with_reducible refine ws_drop ?_; walk_at "ex"))
local macro_rules | `(tactic| walk_at "r_") => `(tactic| (show WS _ _ _ _; with_reducible refine ws_ret ?_; walk_at "ex"))
local macro_rules | `(tactic| walk_at "v_") => `(tactic| refine w_var (by with_unfolding_all rfl) ?_)

def c_Llaw_by_name : CD := ⟨fun ds k => ∃ t, ds = [t] ∧ k (.ret (.sh (.lst (placeD t)))), by
  rintro ds k k' h ⟨t, e, q⟩
  exact ⟨t, e, h _ q⟩⟩
theorem sc_Llaw_by_name : FnScope ["thing", "found"] ["thing"] (defScope s_Llaw_by_name) := ⟨rfl, rfl, rfl, by decide +kernel, rfl, by decide +kernel, by decide +kernel⟩
theorem ok_Llaw_by_name (T : Tx K mg) (tb : ∀ p ∈ csOf K, LamX.TabB bs mg p.1 p.2) : ∃ fd, DC.FnG prg wd K mg bs (L2.CX prg wd) 3 (He.ga K "_law_by_name") fd ["thing"] (toSp K 1 c_Llaw_by_name.con) ∧ L2.Binds K fd ["thing"] [] ∧ PySem.W.keepIn K (.ref (He.ga K "_law_by_name")) = true := by
  obtain ⟨fd, F0⟩ := T.d_Llaw_by_name
  obtain ⟨_, F_BadBid_init, b_BadBid_init, kb_BadBid_init_1_given⟩ := ok_BadBid_init (prg := prg) (wd := wd) (bs := bs) T tb
  obtain ⟨_, F_BadClosing_init, b_BadClosing_init, kb_BadClosing_init_1_given⟩ := ok_BadClosing_init (prg := prg) (wd := wd) (bs := bs) T tb
  obtain ⟨_, F_BadCost_init, b_BadCost_init, kb_BadCost_init_1_given⟩ := ok_BadCost_init (prg := prg) (wd := wd) (bs := bs) T tb
  obtain ⟨_, F_BadDebt_init, b_BadDebt_init, kb_BadDebt_init_1_given⟩ := ok_BadDebt_init (prg := prg) (wd := wd) (bs := bs) T tb
  obtain ⟨_, F_BadDues_init, b_BadDues_init, kb_BadDues_init_1_given⟩ := ok_BadDues_init (prg := prg) (wd := wd) (bs := bs) T tb
  obtain ⟨_, F_BadFact_init, b_BadFact_init, kb_BadFact_init_1_given⟩ := ok_BadFact_init (prg := prg) (wd := wd) (bs := bs) T tb
  obtain ⟨_, F_BadFacts_init, b_BadFacts_init, kb_BadFacts_init_1_given⟩ := ok_BadFacts_init (prg := prg) (wd := wd) (bs := bs) T tb
  obtain ⟨_, F_BadHoldings_init, b_BadHoldings_init, kb_BadHoldings_init_1_given⟩ := ok_BadHoldings_init (prg := prg) (wd := wd) (bs := bs) T tb
  obtain ⟨_, F_BadIndex_init, b_BadIndex_init, kb_BadIndex_init_1_given⟩ := ok_BadIndex_init (prg := prg) (wd := wd) (bs := bs) T tb
  obtain ⟨_, F_BadLegs_init, b_BadLegs_init, kb_BadLegs_init_1_given⟩ := ok_BadLegs_init (prg := prg) (wd := wd) (bs := bs) T tb
  obtain ⟨_, F_BadLots_init, b_BadLots_init, kb_BadLots_init_1_given⟩ := ok_BadLots_init (prg := prg) (wd := wd) (bs := bs) T tb
  obtain ⟨_, F_BadMove_init, b_BadMove_init, kb_BadMove_init_1_given⟩ := ok_BadMove_init (prg := prg) (wd := wd) (bs := bs) T tb
  obtain ⟨_, F_BadNumber_init, b_BadNumber_init, kb_BadNumber_init_1_given⟩ := ok_BadNumber_init (prg := prg) (wd := wd) (bs := bs) T tb
  obtain ⟨_, F_BadOwners_init, b_BadOwners_init, kb_BadOwners_init_1_given⟩ := ok_BadOwners_init (prg := prg) (wd := wd) (bs := bs) T tb
  obtain ⟨_, F_BadPosition_init, b_BadPosition_init, kb_BadPosition_init_1_given⟩ := ok_BadPosition_init (prg := prg) (wd := wd) (bs := bs) T tb
  obtain ⟨_, F_BadPrices_init, b_BadPrices_init, kb_BadPrices_init_1_given⟩ := ok_BadPrices_init (prg := prg) (wd := wd) (bs := bs) T tb
  obtain ⟨_, F_BadQuestion_init, b_BadQuestion_init, kb_BadQuestion_init_1_given⟩ := ok_BadQuestion_init (prg := prg) (wd := wd) (bs := bs) T tb
  obtain ⟨_, F_BadQueues_init, b_BadQueues_init, kb_BadQueues_init_1_given⟩ := ok_BadQueues_init (prg := prg) (wd := wd) (bs := bs) T tb
  obtain ⟨_, F_BadRules_init, b_BadRules_init, kb_BadRules_init_1_given⟩ := ok_BadRules_init (prg := prg) (wd := wd) (bs := bs) T tb
  obtain ⟨_, F_BadSide_init, b_BadSide_init, kb_BadSide_init_1_given⟩ := ok_BadSide_init (prg := prg) (wd := wd) (bs := bs) T tb
  obtain ⟨_, F_BadStanding_init, b_BadStanding_init, kb_BadStanding_init_1_given⟩ := ok_BadStanding_init (prg := prg) (wd := wd) (bs := bs) T tb
  obtain ⟨_, F_BadViewer_init, b_BadViewer_init, kb_BadViewer_init_1_given⟩ := ok_BadViewer_init (prg := prg) (wd := wd) (bs := bs) T tb
  obtain ⟨_, F_BadWay_init, b_BadWay_init, kb_BadWay_init_1_given⟩ := ok_BadWay_init (prg := prg) (wd := wd) (bs := bs) T tb
  obtain ⟨_, F_BadWidth_init, b_BadWidth_init, kb_BadWidth_init_1_given⟩ := ok_BadWidth_init (prg := prg) (wd := wd) (bs := bs) T tb
  obtain ⟨_, F_BidTaken_init, b_BidTaken_init, kb_BidTaken_init_1_given⟩ := ok_BidTaken_init (prg := prg) (wd := wd) (bs := bs) T tb
  obtain ⟨_, F_BothSides_init, b_BothSides_init, kb_BothSides_init_1_given⟩ := ok_BothSides_init (prg := prg) (wd := wd) (bs := bs) T tb
  obtain ⟨_, F_DayClosed_init, b_DayClosed_init, kb_DayClosed_init_1_given⟩ := ok_DayClosed_init (prg := prg) (wd := wd) (bs := bs) T tb
  obtain ⟨_, F_Duplicate_init, b_Duplicate_init, kb_Duplicate_init_1_given⟩ := ok_Duplicate_init (prg := prg) (wd := wd) (bs := bs) T tb
  obtain ⟨_, F_Filled_init, b_Filled_init, kb_Filled_init_1_given⟩ := ok_Filled_init (prg := prg) (wd := wd) (bs := bs) T tb
  obtain ⟨_, F_Hidden_init, b_Hidden_init, kb_Hidden_init_1_given⟩ := ok_Hidden_init (prg := prg) (wd := wd) (bs := bs) T tb
  obtain ⟨_, F_ManySlips_init, b_ManySlips_init, kb_ManySlips_init_1_given⟩ := ok_ManySlips_init (prg := prg) (wd := wd) (bs := bs) T tb
  obtain ⟨_, F_NoDebtor_init, b_NoDebtor_init, kb_NoDebtor_init_1_given⟩ := ok_NoDebtor_init (prg := prg) (wd := wd) (bs := bs) T tb
  obtain ⟨_, F_NoDeed_init, b_NoDeed_init, kb_NoDeed_init_1_given⟩ := ok_NoDeed_init (prg := prg) (wd := wd) (bs := bs) T tb
  obtain ⟨_, F_NoDue_init, b_NoDue_init, kb_NoDue_init_1_given⟩ := ok_NoDue_init (prg := prg) (wd := wd) (bs := bs) T tb
  obtain ⟨_, F_NoSlip_init, b_NoSlip_init, kb_NoSlip_init_1_given⟩ := ok_NoSlip_init (prg := prg) (wd := wd) (bs := bs) T tb
  obtain ⟨_, F_NoTrade_init, b_NoTrade_init, kb_NoTrade_init_1_given⟩ := ok_NoTrade_init (prg := prg) (wd := wd) (bs := bs) T tb
  obtain ⟨_, F_NotKnown_init, b_NotKnown_init, kb_NotKnown_init_1_given⟩ := ok_NotKnown_init (prg := prg) (wd := wd) (bs := bs) T tb
  obtain ⟨_, F_NotThere_init, b_NotThere_init, kb_NotThere_init_1_given⟩ := ok_NotThere_init (prg := prg) (wd := wd) (bs := bs) T tb
  obtain ⟨_, F_NotTogether_init, b_NotTogether_init, kb_NotTogether_init_1_given⟩ := ok_NotTogether_init (prg := prg) (wd := wd) (bs := bs) T tb
  obtain ⟨_, F_Settles_init, b_Settles_init, kb_Settles_init_1_given⟩ := ok_Settles_init (prg := prg) (wd := wd) (bs := bs) T tb
  obtain ⟨_, F_TooManyBids_init, b_TooManyBids_init, kb_TooManyBids_init_1_given⟩ := ok_TooManyBids_init (prg := prg) (wd := wd) (bs := bs) T tb
  obtain ⟨_, F_UnknownBid_init, b_UnknownBid_init, kb_UnknownBid_init_1_given⟩ := ok_UnknownBid_init (prg := prg) (wd := wd) (bs := bs) T tb
  obtain ⟨_, F_UnknownUnit_init, b_UnknownUnit_init, kb_UnknownUnit_init_1_given⟩ := ok_UnknownUnit_init (prg := prg) (wd := wd) (bs := bs) T tb
  refine ⟨fd, def_D (N := ["thing", "found"]) F0 sc_Llaw_by_name rfl ?_, F0.bindsN fun _ _ _ _ _ _ us hl => match us, hl with | [_], _ => rfl, F0.kp⟩
  intro cdv A fr s H E ds kk gd room hc hl
  have hu := room.units
  have hu7 := room70 room
  have sc := sc_Llaw_by_name
  refine ⟨_, (pss_cons (ps_set (i := 1) sc.nd rfl (Or.inl rfl) (pe_lst (pa_cons (DC.pe_oexVK T.o_BadWidth T.i_BadWidth T.t_BadWidth F_BadWidth_init (room.mono (by decide)) kb_BadWidth_init_1_given passL (by rfl) T.g_BadWidth (pk_cons (pv 0) pk_nil)) (pa_cons (DC.pe_oexVK T.o_UnknownBid T.i_UnknownBid T.t_UnknownBid F_UnknownBid_init (room.mono (by decide)) kb_UnknownBid_init_1_given passL (by rfl) T.g_UnknownBid (pk_cons (pv 0) pk_nil)) (pa_cons (DC.pe_oexVK T.o_BadBid T.i_BadBid T.t_BadBid F_BadBid_init (room.mono (by decide)) kb_BadBid_init_1_given passL (by rfl) T.g_BadBid (pk_cons (pv 0) pk_nil)) (pa_cons (DC.pe_oexVK T.o_TooManyBids T.i_TooManyBids T.t_TooManyBids F_TooManyBids_init (room.mono (by decide)) kb_TooManyBids_init_1_given passL (by rfl) T.g_TooManyBids (pk_cons (pv 0) pk_nil)) pa_nil))))))
  (pss_cons (ps_set (i := 1) sc.nd rfl (Or.inl rfl) (pe_op o_add (pv 1) (pe_lst (pa_cons (DC.pe_oexVK T.o_BidTaken T.i_BidTaken T.t_BidTaken F_BidTaken_init (room.mono (by decide)) kb_BidTaken_init_1_given passL (by rfl) T.g_BidTaken (pk_cons (pv 0) pk_nil)) (pa_cons (DC.pe_oexVK T.o_BothSides T.i_BothSides T.t_BothSides F_BothSides_init (room.mono (by decide)) kb_BothSides_init_1_given passL (by rfl) T.g_BothSides (pk_cons (pv 0) pk_nil)) (pa_cons (DC.pe_oexVK T.o_BadClosing T.i_BadClosing T.t_BadClosing F_BadClosing_init (room.mono (by decide)) kb_BadClosing_init_1_given passL (by rfl) T.g_BadClosing (pk_cons (pv 0) pk_nil)) (pa_cons (DC.pe_oexVK T.o_BadMove T.i_BadMove T.t_BadMove F_BadMove_init (room.mono (by decide)) kb_BadMove_init_1_given passL (by rfl) T.g_BadMove (pk_cons (pv 0) pk_nil)) pa_nil)))))))
  (pss_cons (ps_set (i := 1) sc.nd rfl (Or.inl rfl) (pe_op o_add (pv 1) (pe_lst (pa_cons (DC.pe_oexVK T.o_BadStanding T.i_BadStanding T.t_BadStanding F_BadStanding_init (room.mono (by decide)) kb_BadStanding_init_1_given passL (by rfl) T.g_BadStanding (pk_cons (pv 0) pk_nil)) (pa_cons (DC.pe_oexVK T.o_BadNumber T.i_BadNumber T.t_BadNumber F_BadNumber_init (room.mono (by decide)) kb_BadNumber_init_1_given passL (by rfl) T.g_BadNumber (pk_cons (pv 0) pk_nil)) (pa_cons (DC.pe_oexVK T.o_BadLegs T.i_BadLegs T.t_BadLegs F_BadLegs_init (room.mono (by decide)) kb_BadLegs_init_1_given passL (by rfl) T.g_BadLegs (pk_cons (pv 0) pk_nil)) (pa_cons (DC.pe_oexVK T.o_BadDues T.i_BadDues T.t_BadDues F_BadDues_init (room.mono (by decide)) kb_BadDues_init_1_given passL (by rfl) T.g_BadDues (pk_cons (pv 0) pk_nil)) pa_nil)))))))
  (pss_cons (ps_set (i := 1) sc.nd rfl (Or.inl rfl) (pe_op o_add (pv 1) (pe_lst (pa_cons (DC.pe_oexVK T.o_BadHoldings T.i_BadHoldings T.t_BadHoldings F_BadHoldings_init (room.mono (by decide)) kb_BadHoldings_init_1_given passL (by rfl) T.g_BadHoldings (pk_cons (pv 0) pk_nil)) (pa_cons (DC.pe_oexVK T.o_BadQueues T.i_BadQueues T.t_BadQueues F_BadQueues_init (room.mono (by decide)) kb_BadQueues_init_1_given passL (by rfl) T.g_BadQueues (pk_cons (pv 0) pk_nil)) (pa_cons (DC.pe_oexVK T.o_BadOwners T.i_BadOwners T.t_BadOwners F_BadOwners_init (room.mono (by decide)) kb_BadOwners_init_1_given passL (by rfl) T.g_BadOwners (pk_cons (pv 0) pk_nil)) (pa_cons (DC.pe_oexVK T.o_NoDue T.i_NoDue T.t_NoDue F_NoDue_init (room.mono (by decide)) kb_NoDue_init_1_given passL (by rfl) T.g_NoDue (pk_cons (pv 0) pk_nil)) pa_nil)))))))
  (pss_cons (ps_set (i := 1) sc.nd rfl (Or.inl rfl) (pe_op o_add (pv 1) (pe_lst (pa_cons (DC.pe_oexVK T.o_Duplicate T.i_Duplicate T.t_Duplicate F_Duplicate_init (room.mono (by decide)) kb_Duplicate_init_1_given passL (by rfl) T.g_Duplicate (pk_cons (pv 0) pk_nil)) (pa_cons (DC.pe_oexVK T.o_NotTogether T.i_NotTogether T.t_NotTogether F_NotTogether_init (room.mono (by decide)) kb_NotTogether_init_1_given passL (by rfl) T.g_NotTogether (pk_cons (pv 0) pk_nil)) (pa_cons (DC.pe_oexVK T.o_Settles T.i_Settles T.t_Settles F_Settles_init (room.mono (by decide)) kb_Settles_init_1_given passL (by rfl) T.g_Settles (pk_cons (pv 0) pk_nil)) (pa_cons (DC.pe_oexVK T.o_BadRules T.i_BadRules T.t_BadRules F_BadRules_init (room.mono (by decide)) kb_BadRules_init_1_given passL (by rfl) T.g_BadRules (pk_cons (pv 0) pk_nil)) pa_nil)))))))
  (pss_cons (ps_set (i := 1) sc.nd rfl (Or.inl rfl) (pe_op o_add (pv 1) (pe_lst (pa_cons (DC.pe_oexVK T.o_BadFact T.i_BadFact T.t_BadFact F_BadFact_init (room.mono (by decide)) kb_BadFact_init_1_given passL (by rfl) T.g_BadFact (pk_cons (pv 0) pk_nil)) (pa_cons (DC.pe_oexVK T.o_BadFacts T.i_BadFacts T.t_BadFacts F_BadFacts_init (room.mono (by decide)) kb_BadFacts_init_1_given passL (by rfl) T.g_BadFacts (pk_cons (pv 0) pk_nil)) (pa_cons (DC.pe_oexVK T.o_NoSlip T.i_NoSlip T.t_NoSlip F_NoSlip_init (room.mono (by decide)) kb_NoSlip_init_1_given passL (by rfl) T.g_NoSlip (pk_cons (pv 0) pk_nil)) (pa_cons (DC.pe_oexVK T.o_Filled T.i_Filled T.t_Filled F_Filled_init (room.mono (by decide)) kb_Filled_init_1_given passL (by rfl) T.g_Filled (pk_cons (pv 0) pk_nil)) pa_nil)))))))
  (pss_cons (ps_set (i := 1) sc.nd rfl (Or.inl rfl) (pe_op o_add (pv 1) (pe_lst (pa_cons (DC.pe_oexVK T.o_NoDeed T.i_NoDeed T.t_NoDeed F_NoDeed_init (room.mono (by decide)) kb_NoDeed_init_1_given passL (by rfl) T.g_NoDeed (pk_cons (pv 0) pk_nil)) (pa_cons (DC.pe_oexVK T.o_DayClosed T.i_DayClosed T.t_DayClosed F_DayClosed_init (room.mono (by decide)) kb_DayClosed_init_1_given passL (by rfl) T.g_DayClosed (pk_cons (pv 0) pk_nil)) (pa_cons (DC.pe_oexVK T.o_NoTrade T.i_NoTrade T.t_NoTrade F_NoTrade_init (room.mono (by decide)) kb_NoTrade_init_1_given passL (by rfl) T.g_NoTrade (pk_cons (pv 0) pk_nil)) (pa_cons (DC.pe_oexVK T.o_NotKnown T.i_NotKnown T.t_NotKnown F_NotKnown_init (room.mono (by decide)) kb_NotKnown_init_1_given passL (by rfl) T.g_NotKnown (pk_cons (pv 0) pk_nil)) pa_nil)))))))
  (pss_cons (ps_set (i := 1) sc.nd rfl (Or.inl rfl) (pe_op o_add (pv 1) (pe_lst (pa_cons (DC.pe_oexVK T.o_BadQuestion T.i_BadQuestion T.t_BadQuestion F_BadQuestion_init (room.mono (by decide)) kb_BadQuestion_init_1_given passL (by rfl) T.g_BadQuestion (pk_cons (pv 0) pk_nil)) (pa_cons (DC.pe_oexVK T.o_ManySlips T.i_ManySlips T.t_ManySlips F_ManySlips_init (room.mono (by decide)) kb_ManySlips_init_1_given passL (by rfl) T.g_ManySlips (pk_cons (pv 0) pk_nil)) (pa_cons (DC.pe_oexVK T.o_BadLots T.i_BadLots T.t_BadLots F_BadLots_init (room.mono (by decide)) kb_BadLots_init_1_given passL (by rfl) T.g_BadLots (pk_cons (pv 0) pk_nil)) (pa_cons (DC.pe_oexVK T.o_BadCost T.i_BadCost T.t_BadCost F_BadCost_init (room.mono (by decide)) kb_BadCost_init_1_given passL (by rfl) T.g_BadCost (pk_cons (pv 0) pk_nil)) pa_nil)))))))
  (pss_cons (ps_set (i := 1) sc.nd rfl (Or.inl rfl) (pe_op o_add (pv 1) (pe_lst (pa_cons (DC.pe_oexVK T.o_BadWay T.i_BadWay T.t_BadWay F_BadWay_init (room.mono (by decide)) kb_BadWay_init_1_given passL (by rfl) T.g_BadWay (pk_cons (pv 0) pk_nil)) (pa_cons (DC.pe_oexVK T.o_NotThere T.i_NotThere T.t_NotThere F_NotThere_init (room.mono (by decide)) kb_NotThere_init_1_given passL (by rfl) T.g_NotThere (pk_cons (pv 0) pk_nil)) (pa_cons (DC.pe_oexVK T.o_BadIndex T.i_BadIndex T.t_BadIndex F_BadIndex_init (room.mono (by decide)) kb_BadIndex_init_1_given passL (by rfl) T.g_BadIndex (pk_cons (pv 0) pk_nil)) (pa_cons (DC.pe_oexVK T.o_BadSide T.i_BadSide T.t_BadSide F_BadSide_init (room.mono (by decide)) kb_BadSide_init_1_given passL (by rfl) T.g_BadSide (pk_cons (pv 0) pk_nil)) pa_nil)))))))
  (pss_cons (ps_set (i := 1) sc.nd rfl (Or.inl rfl) (pe_op o_add (pv 1) (pe_lst (pa_cons (DC.pe_oexVK T.o_BadPosition T.i_BadPosition T.t_BadPosition F_BadPosition_init (room.mono (by decide)) kb_BadPosition_init_1_given passL (by rfl) T.g_BadPosition (pk_cons (pv 0) pk_nil)) (pa_cons (DC.pe_oexVK T.o_BadPrices T.i_BadPrices T.t_BadPrices F_BadPrices_init (room.mono (by decide)) kb_BadPrices_init_1_given passL (by rfl) T.g_BadPrices (pk_cons (pv 0) pk_nil)) (pa_cons (DC.pe_oexVK T.o_UnknownUnit T.i_UnknownUnit T.t_UnknownUnit F_UnknownUnit_init (room.mono (by decide)) kb_UnknownUnit_init_1_given passL (by rfl) T.g_UnknownUnit (pk_cons (pv 0) pk_nil)) pa_nil))))))
  (pss_cons (ps_set (i := 1) sc.nd rfl (Or.inl rfl) (pe_op o_add (pv 1) (pe_lst (pa_cons (DC.pe_oexVK T.o_BadDebt T.i_BadDebt T.t_BadDebt F_BadDebt_init (room.mono (by decide)) kb_BadDebt_init_1_given passL (by rfl) T.g_BadDebt (pk_cons (pv 0) pk_nil)) (pa_cons (DC.pe_oexVK T.o_NoDebtor T.i_NoDebtor T.t_NoDebtor F_NoDebtor_init (room.mono (by decide)) kb_NoDebtor_init_1_given passL (by rfl) T.g_NoDebtor (pk_cons (pv 0) pk_nil)) (pa_cons (DC.pe_oexVK T.o_BadViewer T.i_BadViewer T.t_BadViewer F_BadViewer_init (room.mono (by decide)) kb_BadViewer_init_1_given passL (by rfl) T.g_BadViewer (pk_cons (pv 0) pk_nil)) (pa_cons (DC.pe_oexVK T.o_Hidden T.i_Hidden T.t_Hidden F_Hidden_init (room.mono (by decide)) kb_Hidden_init_1_given passL (by rfl) T.g_Hidden (pk_cons (pv 0) pk_nil)) pa_nil)))))))
  (pss_one (ps_ret (pv 1)))))))))))))), ?_⟩
  try dsimp only [L2.cxOf]
  obtain ⟨t, rfl, q⟩ := hc
  refine ws_seq ?_
  refine ws_asg (by walk_at "px") ?_
  walk_at "ex"
  refine w_oexVK1 (c := "BadWidth") (f := "given") ?_
  walk_at "ex"
  refine ⟨rfl, _, rfl, rfl, T.o_BadWidth, T.no_BadWidth_given, ?_⟩
  walk_at "ex"
  refine w_oexVK1 (c := "UnknownBid") (f := "given") ?_
  walk_at "ex"
  refine ⟨rfl, _, rfl, rfl, T.o_UnknownBid, T.no_UnknownBid_given, ?_⟩
  walk_at "ex"
  refine w_oexVK1 (c := "BadBid") (f := "given") ?_
  walk_at "ex"
  refine ⟨rfl, _, rfl, rfl, T.o_BadBid, T.no_BadBid_given, ?_⟩
  walk_at "ex"
  refine w_oexVK1 (c := "TooManyBids") (f := "given") ?_
  walk_at "ex"
  refine ⟨rfl, _, rfl, rfl, T.o_TooManyBids, T.no_TooManyBids_given, ?_⟩
  walk_at "ex"
  show WS _ _ _ _
  refine ws_seq ?_
  refine ws_asg (by walk_at "px") ?_
  walk_at "ex"
  refine w_oexVK1 (c := "BidTaken") (f := "given") ?_
  walk_at "ex"
  refine ⟨rfl, _, rfl, rfl, T.o_BidTaken, T.no_BidTaken_given, ?_⟩
  walk_at "ex"
  refine w_oexVK1 (c := "BothSides") (f := "given") ?_
  walk_at "ex"
  refine ⟨rfl, _, rfl, rfl, T.o_BothSides, T.no_BothSides_given, ?_⟩
  walk_at "ex"
  refine w_oexVK1 (c := "BadClosing") (f := "given") ?_
  walk_at "ex"
  refine ⟨rfl, _, rfl, rfl, T.o_BadClosing, T.no_BadClosing_given, ?_⟩
  walk_at "ex"
  refine w_oexVK1 (c := "BadMove") (f := "given") ?_
  walk_at "ex"
  refine ⟨rfl, _, rfl, rfl, T.o_BadMove, T.no_BadMove_given, ?_⟩
  walk_at "ex"
  refine rd_addL (.lst _) (.lst _) (by show 4 + 4 ≤ 100000; decide) ?_
  show WS _ _ _ _
  refine ws_seq ?_
  refine ws_asg (by walk_at "px") ?_
  walk_at "ex"
  refine w_oexVK1 (c := "BadStanding") (f := "given") ?_
  walk_at "ex"
  refine ⟨rfl, _, rfl, rfl, T.o_BadStanding, T.no_BadStanding_given, ?_⟩
  walk_at "ex"
  refine w_oexVK1 (c := "BadNumber") (f := "given") ?_
  walk_at "ex"
  refine ⟨rfl, _, rfl, rfl, T.o_BadNumber, T.no_BadNumber_given, ?_⟩
  walk_at "ex"
  refine w_oexVK1 (c := "BadLegs") (f := "given") ?_
  walk_at "ex"
  refine ⟨rfl, _, rfl, rfl, T.o_BadLegs, T.no_BadLegs_given, ?_⟩
  walk_at "ex"
  refine w_oexVK1 (c := "BadDues") (f := "given") ?_
  walk_at "ex"
  refine ⟨rfl, _, rfl, rfl, T.o_BadDues, T.no_BadDues_given, ?_⟩
  walk_at "ex"
  refine rd_addL (.lst _) (.lst _) (by show 8 + 4 ≤ 100000; decide) ?_
  show WS _ _ _ _
  refine ws_seq ?_
  refine ws_asg (by walk_at "px") ?_
  walk_at "ex"
  refine w_oexVK1 (c := "BadHoldings") (f := "given") ?_
  walk_at "ex"
  refine ⟨rfl, _, rfl, rfl, T.o_BadHoldings, T.no_BadHoldings_given, ?_⟩
  walk_at "ex"
  refine w_oexVK1 (c := "BadQueues") (f := "given") ?_
  walk_at "ex"
  refine ⟨rfl, _, rfl, rfl, T.o_BadQueues, T.no_BadQueues_given, ?_⟩
  walk_at "ex"
  refine w_oexVK1 (c := "BadOwners") (f := "given") ?_
  walk_at "ex"
  refine ⟨rfl, _, rfl, rfl, T.o_BadOwners, T.no_BadOwners_given, ?_⟩
  walk_at "ex"
  refine w_oexVK1 (c := "NoDue") (f := "given") ?_
  walk_at "ex"
  refine ⟨rfl, _, rfl, rfl, T.o_NoDue, T.no_NoDue_given, ?_⟩
  walk_at "ex"
  refine rd_addL (.lst _) (.lst _) (by show 12 + 4 ≤ 100000; decide) ?_
  show WS _ _ _ _
  refine ws_seq ?_
  refine ws_asg (by walk_at "px") ?_
  walk_at "ex"
  refine w_oexVK1 (c := "Duplicate") (f := "given") ?_
  walk_at "ex"
  refine ⟨rfl, _, rfl, rfl, T.o_Duplicate, T.no_Duplicate_given, ?_⟩
  walk_at "ex"
  refine w_oexVK1 (c := "NotTogether") (f := "given") ?_
  walk_at "ex"
  refine ⟨rfl, _, rfl, rfl, T.o_NotTogether, T.no_NotTogether_given, ?_⟩
  walk_at "ex"
  refine w_oexVK1 (c := "Settles") (f := "given") ?_
  walk_at "ex"
  refine ⟨rfl, _, rfl, rfl, T.o_Settles, T.no_Settles_given, ?_⟩
  walk_at "ex"
  refine w_oexVK1 (c := "BadRules") (f := "given") ?_
  walk_at "ex"
  refine ⟨rfl, _, rfl, rfl, T.o_BadRules, T.no_BadRules_given, ?_⟩
  walk_at "ex"
  refine rd_addL (.lst _) (.lst _) (by show 16 + 4 ≤ 100000; decide) ?_
  show WS _ _ _ _
  refine ws_seq ?_
  refine ws_asg (by walk_at "px") ?_
  walk_at "ex"
  refine w_oexVK1 (c := "BadFact") (f := "given") ?_
  walk_at "ex"
  refine ⟨rfl, _, rfl, rfl, T.o_BadFact, T.no_BadFact_given, ?_⟩
  walk_at "ex"
  refine w_oexVK1 (c := "BadFacts") (f := "given") ?_
  walk_at "ex"
  refine ⟨rfl, _, rfl, rfl, T.o_BadFacts, T.no_BadFacts_given, ?_⟩
  walk_at "ex"
  refine w_oexVK1 (c := "NoSlip") (f := "given") ?_
  walk_at "ex"
  refine ⟨rfl, _, rfl, rfl, T.o_NoSlip, T.no_NoSlip_given, ?_⟩
  walk_at "ex"
  refine w_oexVK1 (c := "Filled") (f := "given") ?_
  walk_at "ex"
  refine ⟨rfl, _, rfl, rfl, T.o_Filled, T.no_Filled_given, ?_⟩
  walk_at "ex"
  refine rd_addL (.lst _) (.lst _) (by show 20 + 4 ≤ 100000; decide) ?_
  show WS _ _ _ _
  refine ws_seq ?_
  refine ws_asg (by walk_at "px") ?_
  walk_at "ex"
  refine w_oexVK1 (c := "NoDeed") (f := "given") ?_
  walk_at "ex"
  refine ⟨rfl, _, rfl, rfl, T.o_NoDeed, T.no_NoDeed_given, ?_⟩
  walk_at "ex"
  refine w_oexVK1 (c := "DayClosed") (f := "given") ?_
  walk_at "ex"
  refine ⟨rfl, _, rfl, rfl, T.o_DayClosed, T.no_DayClosed_given, ?_⟩
  walk_at "ex"
  refine w_oexVK1 (c := "NoTrade") (f := "given") ?_
  walk_at "ex"
  refine ⟨rfl, _, rfl, rfl, T.o_NoTrade, T.no_NoTrade_given, ?_⟩
  walk_at "ex"
  refine w_oexVK1 (c := "NotKnown") (f := "given") ?_
  walk_at "ex"
  refine ⟨rfl, _, rfl, rfl, T.o_NotKnown, T.no_NotKnown_given, ?_⟩
  walk_at "ex"
  refine rd_addL (.lst _) (.lst _) (by show 24 + 4 ≤ 100000; decide) ?_
  show WS _ _ _ _
  refine ws_seq ?_
  refine ws_asg (by walk_at "px") ?_
  walk_at "ex"
  refine w_oexVK1 (c := "BadQuestion") (f := "given") ?_
  walk_at "ex"
  refine ⟨rfl, _, rfl, rfl, T.o_BadQuestion, T.no_BadQuestion_given, ?_⟩
  walk_at "ex"
  refine w_oexVK1 (c := "ManySlips") (f := "given") ?_
  walk_at "ex"
  refine ⟨rfl, _, rfl, rfl, T.o_ManySlips, T.no_ManySlips_given, ?_⟩
  walk_at "ex"
  refine w_oexVK1 (c := "BadLots") (f := "given") ?_
  walk_at "ex"
  refine ⟨rfl, _, rfl, rfl, T.o_BadLots, T.no_BadLots_given, ?_⟩
  walk_at "ex"
  refine w_oexVK1 (c := "BadCost") (f := "given") ?_
  walk_at "ex"
  refine ⟨rfl, _, rfl, rfl, T.o_BadCost, T.no_BadCost_given, ?_⟩
  walk_at "ex"
  refine rd_addL (.lst _) (.lst _) (by show 28 + 4 ≤ 100000; decide) ?_
  show WS _ _ _ _
  refine ws_seq ?_
  refine ws_asg (by walk_at "px") ?_
  walk_at "ex"
  refine w_oexVK1 (c := "BadWay") (f := "given") ?_
  walk_at "ex"
  refine ⟨rfl, _, rfl, rfl, T.o_BadWay, T.no_BadWay_given, ?_⟩
  walk_at "ex"
  refine w_oexVK1 (c := "NotThere") (f := "given") ?_
  walk_at "ex"
  refine ⟨rfl, _, rfl, rfl, T.o_NotThere, T.no_NotThere_given, ?_⟩
  walk_at "ex"
  refine w_oexVK1 (c := "BadIndex") (f := "given") ?_
  walk_at "ex"
  refine ⟨rfl, _, rfl, rfl, T.o_BadIndex, T.no_BadIndex_given, ?_⟩
  walk_at "ex"
  refine w_oexVK1 (c := "BadSide") (f := "given") ?_
  walk_at "ex"
  refine ⟨rfl, _, rfl, rfl, T.o_BadSide, T.no_BadSide_given, ?_⟩
  walk_at "ex"
  refine rd_addL (.lst _) (.lst _) (by show 32 + 4 ≤ 100000; decide) ?_
  show WS _ _ _ _
  refine ws_seq ?_
  refine ws_asg (by walk_at "px") ?_
  walk_at "ex"
  refine w_oexVK1 (c := "BadPosition") (f := "given") ?_
  walk_at "ex"
  refine ⟨rfl, _, rfl, rfl, T.o_BadPosition, T.no_BadPosition_given, ?_⟩
  walk_at "ex"
  refine w_oexVK1 (c := "BadPrices") (f := "given") ?_
  walk_at "ex"
  refine ⟨rfl, _, rfl, rfl, T.o_BadPrices, T.no_BadPrices_given, ?_⟩
  walk_at "ex"
  refine w_oexVK1 (c := "UnknownUnit") (f := "given") ?_
  walk_at "ex"
  refine ⟨rfl, _, rfl, rfl, T.o_UnknownUnit, T.no_UnknownUnit_given, ?_⟩
  walk_at "ex"
  refine rd_addL (.lst _) (.lst _) (by show 36 + 3 ≤ 100000; decide) ?_
  show WS _ _ _ _
  refine ws_seq ?_
  refine ws_asg (by walk_at "px") ?_
  walk_at "ex"
  refine w_oexVK1 (c := "BadDebt") (f := "given") ?_
  walk_at "ex"
  refine ⟨rfl, _, rfl, rfl, T.o_BadDebt, T.no_BadDebt_given, ?_⟩
  walk_at "ex"
  refine w_oexVK1 (c := "NoDebtor") (f := "given") ?_
  walk_at "ex"
  refine ⟨rfl, _, rfl, rfl, T.o_NoDebtor, T.no_NoDebtor_given, ?_⟩
  walk_at "ex"
  refine w_oexVK1 (c := "BadViewer") (f := "given") ?_
  walk_at "ex"
  refine ⟨rfl, _, rfl, rfl, T.o_BadViewer, T.no_BadViewer_given, ?_⟩
  walk_at "ex"
  refine w_oexVK1 (c := "Hidden") (f := "given") ?_
  walk_at "ex"
  refine ⟨rfl, _, rfl, rfl, T.o_Hidden, T.no_Hidden_given, ?_⟩
  walk_at "ex"
  refine rd_addL (.lst _) (.lst _) (by show 39 + 4 ≤ 100000; decide) ?_
  show WS _ _ _ _
  refine ws_ret ?_
  walk_at "ex"
  exact q
end K48

namespace K48
open PySem PySem.Spec PyProof.Rows L2 DL
variable {prg : Program} {wd : World} {K : PySem.W.Frag} {mg : Str → Option Value} {bs : Heap}
local macro_rules | `(tactic| walk_at "px") => `(tactic| first | exact List.not_mem_nil | (show _ ∉ ([0] : List Nat); decide) | (show _ ∉ ([] : List Nat); decide) | fail)
local macro_rules | `(tactic| walk_at "s") => `(tactic| with_reducible first
  | refine ws_seq ?_ | refine ws_if ?_ | refine ws_next ?_ | refine ws_ret ?_ | refine ws_retN ?_ | refine ws_asg (by walk_at "px") ?_ | refine ws_par (by walk_at "px") (by walk_at "px") ?_
  | refine w_var (by with_unfolding_all rfl) ?_ | refine w_int ?_ | refine w_bl ?_ | refine w_non ?_ | refine w_str ?_ | refine w_dnew ?_ | refine w_ty ?_
  | refine w_op ?_ | refine w_un ?_ | refine w_fld ?_ | refine w_xf ?_ | refine wt_test ?_ | refine wt_B ?_ | refine wt_yes ?_ | refine wt_and ?_ | refine wt_or ?_ | refine wt_not ?_ | refine w_andV ?_ | refine w_orV ?_ | refine w_notV ?_ | refine w_ifE ?_ | refine w_chain ?_
  | refine wa_nil ?_ | refine wa_cons ?_ | refine w_tup ?_ | refine w_lst ?_ | refine w_slice ?_ | refine w_dget ?_ | refine w_dget2 ?_ | refine w_dget1 ?_ | refine wp_no ?_ | refine wp_int ?_
  | refine w_cd repL_nil ?_ | refine w_md repL_nil ?_ | refine w_mk repL_nil ?_ | refine w_co repL_nil ⟨_, by with_unfolding_all rfl⟩ ?_ | refine w_call ?_
  | refine rd_add ?_ | refine rd_sub ?_ | refine rd_lt ?_ | refine rd_le ?_ | refine rd_gt ?_ | refine rd_ge ?_ | refine rd_ltS ?_ | refine rd_leS ?_ | refine rd_gtS ?_ | refine rd_geS ?_ | refine rd_isN ?_ | refine rd_notN ?_ | refine rd_eqAI ?_ | refine rd_neAI ?_ | refine rd_eqAS ?_ | refine rd_neAS ?_
  | refine wg_tup rfl ?_ | refine wgs_cons ?_ | refine wg_name (by walk_at "px") (by simp) ?_ | refine wgs_nil ?_
  | refine ru_neg ?_ | refine ⟨(by show List.length _ ≤ 100000; simp; try omega), ?_⟩
  | refine rc_abs ?_ | refine rc_int1 ?_ | refine rc_min2 ?_ | refine rc_max2 ?_
  | refine ⟨_, rfl, ?_⟩ | fail)
local macro_rules | `(tactic| walk_at "go") => `(tactic| repeat' walk_at "s")
local macro_rules | `(tactic| walk_at "args") => `(tactic| repeat' (with_reducible first | refine wa_cons ?_ | refine wa_nil ?_ | refine w_int ?_ | refine w_bl ?_ | refine w_non ?_ | refine w_str ?_ | refine w_dnew ?_ | refine w_tup ?_ | refine w_lst ?_ | refine w_un ?_ | refine ru_neg ?_ | refine w_var (by with_unfolding_all rfl) ?_ | refine ⟨(by show List.length _ ≤ 100000; simp; try omega), ?_⟩ | fail))
local macro_rules | `(tactic| walk_at "e") => `(tactic| with_reducible first
  | refine w_var (by with_unfolding_all rfl) ?_ | refine w_int ?_ | refine w_bl ?_ | refine w_non ?_ | refine w_str ?_ | refine w_dnew ?_ | refine w_ty ?_
  | refine w_op ?_ | refine w_un ?_ | refine w_fld ?_ | refine w_xf ?_ | refine wt_test ?_ | refine wt_B ?_ | refine wt_yes ?_ | refine wt_and ?_ | refine wt_or ?_ | refine wt_not ?_ | refine w_andV ?_ | refine w_orV ?_ | refine w_notV ?_ | refine w_ifE ?_ | refine w_chain ?_
  | refine wa_nil ?_ | refine wa_cons ?_ | refine w_tup ?_ | refine w_lst ?_ | refine w_slice ?_ | refine w_dget ?_ | refine w_dget2 ?_ | refine w_dget1 ?_ | refine wp_no ?_ | refine wp_int ?_
  | refine w_cd repL_nil ?_ | refine w_md repL_nil ?_ | refine w_mk repL_nil ?_ | refine w_co repL_nil ⟨_, by with_unfolding_all rfl⟩ ?_ | refine w_call ?_
  | refine rd_add ?_ | refine rd_sub ?_ | refine rd_lt ?_ | refine rd_le ?_ | refine rd_gt ?_ | refine rd_ge ?_ | refine rd_ltS ?_ | refine rd_leS ?_ | refine rd_gtS ?_ | refine rd_geS ?_ | refine rd_isN ?_ | refine rd_notN ?_ | refine rd_eqAI ?_ | refine rd_neAI ?_ | refine rd_eqAS ?_ | refine rd_neAS ?_
  | refine wg_tup rfl ?_ | refine wgs_cons ?_ | refine wg_name (by walk_at "px") (by simp) ?_ | refine wgs_nil ?_
  | refine ru_neg ?_ | refine ⟨(by show List.length _ ≤ 100000; simp; try omega), ?_⟩
  | refine rc_abs ?_ | refine rc_int1 ?_ | refine rc_min2 ?_ | refine rc_max2 ?_
  | refine ⟨_, rfl, ?_⟩ | fail)
local macro_rules | `(tactic| walk_at "ex") => `(tactic| repeat' walk_at "e")
local macro_rules | `(tactic| walk_at "a_") => `(tactic| (show WS _ _ _ _; (with_reducible try refine ws_seq ?_); with_reducible refine ws_asg (by walk_at "px") ?_; walk_at "ex"))
local macro_rules | `(tactic| walk_at "i_") => `(tactic| (show WS _ _ _ _; (with_reducible try refine ws_seq ?_); with_reducible refine ws_if ?_; walk_at "ex"))
local macro_rules | `(tactic| walk_at "d_") => `(tactic| (show WS _ _ _ _; (with_reducible try refine ws_seq ?_); with_reducible refine ws_drop ?_; walk_at "ex"))
local macro_rules | `(tactic| walk_at "r_") => `(tactic| (show WS _ _ _ _; with_reducible refine ws_ret ?_; walk_at "ex"))
local macro_rules | `(tactic| walk_at "v_") => `(tactic| refine w_var (by with_unfolding_all rfl) ?_)

/-- an exception with what it holds -/
def rowE (e : D) (xs : List D) : D := .lst [e, .lst xs, .lst xs]
abbrev bareL : List Str := ["Cleared", "NoClearing", "NoUnit", "NoShares"]
def someD (t o : D) : List D := [rowE (.exv "BadCount" [("count", t)]) [t], rowE (.exv "TooMany" [("count", t)]) [t], rowE (.exv "BadEvent" [("index", t)]) [t], rowE (.exv "BadOrder" [("value", o), ("field", t)]) [t, o], rowE (.exv "NameTaken" [("name", t)]) [t], rowE (.exv "UnknownOrder" [("name", t)]) [t], rowE (.exv "Crossing" [("name", t)]) [t], rowE (.exv "BadPool" [("value", o), ("field", t)]) [t, o], rowE (.exv "UnlikeUnits" [("other", o), ("one", t)]) [t, o]]
def othersD (t o : D) : List D := someD t o ++ bareL.map fun c => rowE (.exb c) []
def c_Llaw_others : CD := ⟨fun ds k => ∃ t o, ds = [t, o] ∧ k (.ret (.sh (.lst (othersD t o)))), by
  rintro ds k k' h ⟨t, o, e, q⟩
  exact ⟨t, o, e, h _ q⟩⟩
theorem sc_Llaw_others : FnScope ["thing", "other", "found", "order", "e", "count", "many", "event", "pool", "units"] ["thing", "other"] (defScope s_Llaw_others) := ⟨rfl, rfl, rfl, by decide +kernel, rfl, by decide +kernel, by decide +kernel⟩
theorem ok_Llaw_others (T : Tx K mg) (tb : ∀ p ∈ csOf K, LamX.TabB bs mg p.1 p.2) : ∃ fd, DC.FnG prg wd K mg bs (L2.CX prg wd) 3 (He.ga K "_law_others") fd ["thing", "other"] (toSp K 2 c_Llaw_others.con) ∧ L2.Binds K fd ["thing", "other"] [] ∧ PySem.W.keepIn K (.ref (He.ga K "_law_others")) = true := by
  obtain ⟨fd, F0⟩ := T.d_Llaw_others
  obtain ⟨_, F_BadCount_init, b_BadCount_init, kb_BadCount_init_1_count⟩ := ok_BadCount_init (prg := prg) (wd := wd) (bs := bs) T tb
  obtain ⟨_, F_BadEvent_init, b_BadEvent_init, kb_BadEvent_init_1_index⟩ := ok_BadEvent_init (prg := prg) (wd := wd) (bs := bs) T tb
  obtain ⟨_, F_BadOrder_init, b_BadOrder_init, kb_BadOrder_init_1_value_field⟩ := ok_BadOrder_init (prg := prg) (wd := wd) (bs := bs) T tb
  obtain ⟨_, F_BadPool_init, b_BadPool_init, kb_BadPool_init_1_value_field⟩ := ok_BadPool_init (prg := prg) (wd := wd) (bs := bs) T tb
  obtain ⟨_, F_Crossing_init, b_Crossing_init, kb_Crossing_init_1_name⟩ := ok_Crossing_init (prg := prg) (wd := wd) (bs := bs) T tb
  obtain ⟨_, F_NameTaken_init, b_NameTaken_init, kb_NameTaken_init_1_name⟩ := ok_NameTaken_init (prg := prg) (wd := wd) (bs := bs) T tb
  obtain ⟨_, F_TooMany_init, b_TooMany_init, kb_TooMany_init_1_count⟩ := ok_TooMany_init (prg := prg) (wd := wd) (bs := bs) T tb
  obtain ⟨_, F_UnknownOrder_init, b_UnknownOrder_init, kb_UnknownOrder_init_1_name⟩ := ok_UnknownOrder_init (prg := prg) (wd := wd) (bs := bs) T tb
  obtain ⟨_, F_UnlikeUnits_init, b_UnlikeUnits_init, kb_UnlikeUnits_init_1_other_one⟩ := ok_UnlikeUnits_init (prg := prg) (wd := wd) (bs := bs) T tb
  refine ⟨fd, def_D (N := ["thing", "other", "found", "order", "e", "count", "many", "event", "pool", "units"]) F0 sc_Llaw_others rfl ?_, F0.bindsN fun _ _ _ _ _ _ us hl => match us, hl with | [_, _], _ => rfl, F0.kp⟩
  intro cdv A fr s H E ds kk gd room hc hl
  have hu := room.units
  have hu7 := room70 room
  have sc := sc_Llaw_others
  refine ⟨_, (pss_cons (ps_par3 (i := 5) (j := 6) (l := 7) (by rfl) sc.nd rfl rfl rfl (by decide) (by decide) (by decide) rfl rfl rfl (pa_cons (DC.pe_oexV T.o_BadCount T.i_BadCount T.t_BadCount F_BadCount_init (room.mono (by decide)) b_BadCount_init passL (by rfl) T.g_BadCount (pa_cons (pv 0) pa_nil)) (pa_cons (DC.pe_oexV T.o_TooMany T.i_TooMany T.t_TooMany F_TooMany_init (room.mono (by decide)) b_TooMany_init passL (by rfl) T.g_TooMany (pa_cons (pv 0) pa_nil)) (pa_cons (DC.pe_oexV T.o_BadEvent T.i_BadEvent T.t_BadEvent F_BadEvent_init (room.mono (by decide)) b_BadEvent_init passL (by rfl) T.g_BadEvent (pa_cons (pv 0) pa_nil)) pa_nil))) (by rfl))
  (pss_cons (ps_set (i := 2) sc.nd rfl (Or.inl rfl) (pe_lst (pa_cons (pe_lst (pa_cons (pv 5) (pa_cons (pe_lst (pa_cons (DC.pe_xfVK rfl (pv 5)) pa_nil)) (pa_cons (pe_lst (pa_cons (pv 0) pa_nil)) pa_nil)))) (pa_cons (pe_lst (pa_cons (pv 6) (pa_cons (pe_lst (pa_cons (DC.pe_xfVK rfl (pv 6)) pa_nil)) (pa_cons (pe_lst (pa_cons (pv 0) pa_nil)) pa_nil)))) (pa_cons (pe_lst (pa_cons (pv 7) (pa_cons (pe_lst (pa_cons (DC.pe_xfVK rfl (pv 7)) pa_nil)) (pa_cons (pe_lst (pa_cons (pv 0) pa_nil)) pa_nil)))) pa_nil)))))
  (pss_cons (ps_set (i := 3) sc.nd rfl (Or.inl rfl) (DC.pe_oexV T.o_BadOrder T.i_BadOrder T.t_BadOrder F_BadOrder_init (room.mono (by decide)) b_BadOrder_init passL (by rfl) T.g_BadOrder (pa_cons (pv 0) (pa_cons (pv 1) pa_nil))))
  (pss_cons (ps_expr (pe_bm PySem.F.plainAttrs_list PySem.F.slot_list_append PySem.F.type_list_append mt_append (pv 2) (pa_cons (pe_lst (pa_cons (pv 3) (pa_cons (pe_lst (pa_cons (DC.pe_xfVK rfl (pv 3)) (pa_cons (DC.pe_xfVK rfl (pv 3)) pa_nil))) (pa_cons (pe_lst (pa_cons (pv 0) (pa_cons (pv 1) pa_nil))) pa_nil)))) pa_nil)))
  (pss_cons (ps_for (passes_of rfl) rfl (pi_list (pe_lst (pa_cons (DC.pe_oexV T.o_NameTaken T.i_NameTaken T.t_NameTaken F_NameTaken_init (room.mono (by decide)) b_NameTaken_init passL (by rfl) T.g_NameTaken (pa_cons (pv 0) pa_nil)) (pa_cons (DC.pe_oexV T.o_UnknownOrder T.i_UnknownOrder T.t_UnknownOrder F_UnknownOrder_init (room.mono (by decide)) b_UnknownOrder_init passL (by rfl) T.g_UnknownOrder (pa_cons (pv 0) pa_nil)) (pa_cons (DC.pe_oexV T.o_Crossing T.i_Crossing T.t_Crossing F_Crossing_init (room.mono (by decide)) b_Crossing_init passL (by rfl) T.g_Crossing (pa_cons (pv 0) pa_nil)) pa_nil))))) (pg_name (i := 4) sc.nd rfl (Or.inl rfl)) (pss_one (ps_expr (pe_bm PySem.F.plainAttrs_list PySem.F.slot_list_append PySem.F.type_list_append mt_append (pv 2) (pa_cons (pe_lst (pa_cons (pv 4) (pa_cons (pe_lst (pa_cons (DC.pe_xfVK rfl (pv 4)) pa_nil)) (pa_cons (pe_lst (pa_cons (pv 0) pa_nil)) pa_nil)))) pa_nil)))))
  (pss_cons (ps_par (i := 8) (j := 9) (by rfl) sc.nd rfl rfl (by decide) rfl rfl (pa_cons (DC.pe_oexV T.o_BadPool T.i_BadPool T.t_BadPool F_BadPool_init (room.mono (by decide)) b_BadPool_init passL (by rfl) T.g_BadPool (pa_cons (pv 0) (pa_cons (pv 1) pa_nil))) (pa_cons (DC.pe_oexV T.o_UnlikeUnits T.i_UnlikeUnits T.t_UnlikeUnits F_UnlikeUnits_init (room.mono (by decide)) b_UnlikeUnits_init passL (by rfl) T.g_UnlikeUnits (pa_cons (pv 0) (pa_cons (pv 1) pa_nil))) pa_nil)) (by rfl))
  (pss_cons (ps_expr (pe_bm PySem.F.plainAttrs_list PySem.F.slot_list_append PySem.F.type_list_append mt_append (pv 2) (pa_cons (pe_lst (pa_cons (pv 8) (pa_cons (pe_lst (pa_cons (DC.pe_xfVK rfl (pv 8)) (pa_cons (DC.pe_xfVK rfl (pv 8)) pa_nil))) (pa_cons (pe_lst (pa_cons (pv 0) (pa_cons (pv 1) pa_nil))) pa_nil)))) pa_nil)))
  (pss_cons (ps_expr (pe_bm PySem.F.plainAttrs_list PySem.F.slot_list_append PySem.F.type_list_append mt_append (pv 2) (pa_cons (pe_lst (pa_cons (pv 9) (pa_cons (pe_lst (pa_cons (DC.pe_xfVK rfl (pv 9)) (pa_cons (DC.pe_xfVK rfl (pv 9)) pa_nil))) (pa_cons (pe_lst (pa_cons (pv 0) (pa_cons (pv 1) pa_nil))) pa_nil)))) pa_nil)))
  (pss_one (ps_ret (pe_op o_add (pv 2) (pe_lc (own := [("e", 4)]) (g := (gName 4)) (tt := tYes) (by rfl) sc.nd (pi_list (pe_lst (pa_cons (DC.pe_exb PySem.F.excBase_ValueError T.e_Cleared.1 T.g_Cleared T.e_Cleared.2.1 (by rfl)) (pa_cons (DC.pe_exb PySem.F.excBase_ValueError T.e_NoClearing.1 T.g_NoClearing T.e_NoClearing.2.1 (by rfl)) (pa_cons (DC.pe_exb PySem.F.excBase_ValueError T.e_NoUnit.1 T.g_NoUnit T.e_NoUnit.2.1 (by rfl)) (pa_cons (DC.pe_exb PySem.F.excBase_ValueError T.e_NoShares.1 T.g_NoShares T.e_NoShares.2.1 (by rfl)) pa_nil)))))) (blkOk_by (own := [("e", 4)]) (N := ["thing", "other", "found", "order", "e", "count", "many", "event", "pool", "units"]) (sc := defScope s_Llaw_others) (by decide +kernel)) (fun _ _ _ _ _ => (pg_name (i := 4) sc.nd rfl (Or.inl rfl))) (fun _ _ _ _ _ => pts_nil) (fun _ _ _ _ _ => (pe_lst (pa_cons (pv 4) (pa_cons (pe_lst pa_nil) (pa_cons (pe_lst pa_nil) pa_nil))))))))))))))))), ?_⟩
  try dsimp only [L2.cxOf]
  obtain ⟨t, o, rfl, q⟩ := hc
  refine ws_seq ?_
  refine ws_par3 (by walk_at "px") (by walk_at "px") (by walk_at "px") ?_
  walk_at "ex"
  refine w_oexV1 (c := "BadCount") (f := "count") ?_
  walk_at "ex"
  refine ⟨rfl, T.o_BadCount, T.no_BadCount_count, ?_⟩
  walk_at "ex"
  refine w_oexV1 (c := "TooMany") (f := "count") ?_
  walk_at "ex"
  refine ⟨rfl, T.o_TooMany, T.no_TooMany_count, ?_⟩
  walk_at "ex"
  refine w_oexV1 (c := "BadEvent") (f := "index") ?_
  walk_at "ex"
  refine ⟨rfl, T.o_BadEvent, T.no_BadEvent_index, ?_⟩
  walk_at "ex"
  refine ⟨_, _, _, rfl, ?_⟩
  change WS _ _ [some (.sh t), some (.sh o), none, none, none, some (.sh (.exv "BadCount" [("count", t)])), some (.sh (.exv "TooMany" [("count", t)])), some (.sh (.exv "BadEvent" [("index", t)])), none, none] _
  refine ws_seq ?_
  refine ws_asgO (by walk_at "px") (by show 2 < 10; decide) ?_
  refine wo_lst ?_
  walk_at "args"
  refine w_xfV ?_
  walk_at "ex"
  refine ⟨"BadCount", [("count", t)], t, rfl, T.x_BadCount, T.no_BadCount_count, rfl, ?_⟩
  walk_at "ex"
  refine w_xfV ?_
  walk_at "ex"
  refine ⟨"TooMany", [("count", t)], t, rfl, T.x_TooMany, T.no_TooMany_count, rfl, ?_⟩
  walk_at "ex"
  refine w_xfV ?_
  walk_at "ex"
  refine ⟨"BadEvent", [("index", t)], t, rfl, T.x_BadEvent, T.no_BadEvent_index, rfl, ?_⟩
  walk_at "ex"
  refine ⟨rfl, ?_⟩
  change WS _ _ [some (.sh t), some (.sh o), some (.lst (((someD t o).take 3).map .sh)), none, none, some (.sh (.exv "BadCount" [("count", t)])), some (.sh (.exv "TooMany" [("count", t)])), some (.sh (.exv "BadEvent" [("index", t)])), none, none] _
  refine ws_seq ?_
  refine ws_asg (by walk_at "px") ?_
  walk_at "ex"
  refine w_oexV2 (c := "BadOrder") (f := "field") (g := "value") ?_
  walk_at "ex"
  refine ⟨_, _, rfl, rfl, T.o_BadOrder, T.no_BadOrder_field, T.no_BadOrder_value, ?_⟩
  walk_at "ex"
  change WS _ _ [some (.sh t), some (.sh o), some (.lst (((someD t o).take 3).map .sh)), some (.sh (.exv "BadOrder" [("value", o), ("field", t)])), none, some (.sh (.exv "BadCount" [("count", t)])), some (.sh (.exv "TooMany" [("count", t)])), some (.sh (.exv "BadEvent" [("index", t)])), none, none] _
  refine ws_seq ?_
  refine ws_append ⟨_, rfl⟩ ?_
  walk_at "ex"
  refine w_xfV ?_
  walk_at "ex"
  refine ⟨"BadOrder", [("value", o), ("field", t)], t, rfl, T.x_BadOrder, T.no_BadOrder_field, rfl, ?_⟩
  walk_at "ex"
  refine w_xfV ?_
  walk_at "ex"
  refine ⟨"BadOrder", [("value", o), ("field", t)], o, rfl, T.x_BadOrder, T.no_BadOrder_value, rfl, ?_⟩
  walk_at "ex"
  refine ⟨by show 3 ≤ 90000; decide, ?_⟩
  change WS _ _ [some (.sh t), some (.sh o), some (.lst (((someD t o).take 4).map .sh)), some (.sh (.exv "BadOrder" [("value", o), ("field", t)])), none, some (.sh (.exv "BadCount" [("count", t)])), some (.sh (.exv "TooMany" [("count", t)])), some (.sh (.exv "BadEvent" [("index", t)])), none, none] _
  refine ws_seq ?_
  refine ws_for (sl := [4]) ?_
  refine wi_list ?_
  walk_at "ex"
  refine w_oexV1 (c := "NameTaken") (f := "name") ?_
  walk_at "ex"
  refine ⟨rfl, T.o_NameTaken, T.no_NameTaken_name, ?_⟩
  walk_at "ex"
  refine w_oexV1 (c := "UnknownOrder") (f := "name") ?_
  walk_at "ex"
  refine ⟨rfl, T.o_UnknownOrder, T.no_UnknownOrder_name, ?_⟩
  walk_at "ex"
  refine w_oexV1 (c := "Crossing") (f := "name") ?_
  walk_at "ex"
  refine ⟨rfl, T.o_Crossing, T.no_Crossing_name, ?_⟩
  walk_at "ex"
  refine ⟨fun i ρ => ∃ y4 : Option M, (y4 = none ∨ ∃ z : D, y4 = some (.sh z)) ∧ i ≤ 3 ∧ ρ = [some (.sh t), some (.sh o), some (.lst (((someD t o).take (4 + i)).map .sh)), some (.sh (.exv "BadOrder" [("value", o), ("field", t)])), y4, some (.sh (.exv "BadCount" [("count", t)])), some (.sh (.exv "TooMany" [("count", t)])), some (.sh (.exv "BadEvent" [("index", t)])), none, none], ⟨none, .inl rfl, by decide, rfl⟩, ?_, ?_⟩
  · rintro i d ρ2 hd ⟨y4, hy, i3, rfl⟩
    refine wg_name (by walk_at "px") (by simp) ?_
    rcases i with _ | _ | _ | i
    · obtain rfl := Option.some.inj hd
      change WS _ _ [some (.sh t), some (.sh o), some (.lst (((someD t o).take 4).map .sh)), some (.sh (.exv "BadOrder" [("value", o), ("field", t)])), some (.sh (.exv "NameTaken" [("name", t)])), some (.sh (.exv "BadCount" [("count", t)])), some (.sh (.exv "TooMany" [("count", t)])), some (.sh (.exv "BadEvent" [("index", t)])), none, none] _
      refine ws_append ⟨_, rfl⟩ ?_
      walk_at "ex"
      refine w_xfV ?_
      walk_at "ex"
      refine ⟨"NameTaken", [("name", t)], t, rfl, T.x_NameTaken, T.no_NameTaken_name, rfl, ?_⟩
      walk_at "ex"
      refine ⟨by show 4 ≤ 90000; decide, ?_⟩
      exact ⟨_, .inr ⟨_, rfl⟩, by decide, rfl⟩
    · obtain rfl := Option.some.inj hd
      change WS _ _ [some (.sh t), some (.sh o), some (.lst (((someD t o).take 5).map .sh)), some (.sh (.exv "BadOrder" [("value", o), ("field", t)])), some (.sh (.exv "UnknownOrder" [("name", t)])), some (.sh (.exv "BadCount" [("count", t)])), some (.sh (.exv "TooMany" [("count", t)])), some (.sh (.exv "BadEvent" [("index", t)])), none, none] _
      refine ws_append ⟨_, rfl⟩ ?_
      walk_at "ex"
      refine w_xfV ?_
      walk_at "ex"
      refine ⟨"UnknownOrder", [("name", t)], t, rfl, T.x_UnknownOrder, T.no_UnknownOrder_name, rfl, ?_⟩
      walk_at "ex"
      refine ⟨by show 5 ≤ 90000; decide, ?_⟩
      exact ⟨_, .inr ⟨_, rfl⟩, by decide, rfl⟩
    · obtain rfl := Option.some.inj hd
      change WS _ _ [some (.sh t), some (.sh o), some (.lst (((someD t o).take 6).map .sh)), some (.sh (.exv "BadOrder" [("value", o), ("field", t)])), some (.sh (.exv "Crossing" [("name", t)])), some (.sh (.exv "BadCount" [("count", t)])), some (.sh (.exv "TooMany" [("count", t)])), some (.sh (.exv "BadEvent" [("index", t)])), none, none] _
      refine ws_append ⟨_, rfl⟩ ?_
      walk_at "ex"
      refine w_xfV ?_
      walk_at "ex"
      refine ⟨"Crossing", [("name", t)], t, rfl, T.x_Crossing, T.no_Crossing_name, rfl, ?_⟩
      walk_at "ex"
      refine ⟨by show 6 ≤ 90000; decide, ?_⟩
      exact ⟨_, .inr ⟨_, rfl⟩, by decide, rfl⟩
    · exact absurd i3 (by
        have := (List.getElem?_eq_some_iff.mp hd).1
        simp at this
        omega)
  rintro ρ2 ⟨y4, hy, _, rfl⟩
  change WS _ _ [some (.sh t), some (.sh o), some (.lst (((someD t o).take 7).map .sh)), some (.sh (.exv "BadOrder" [("value", o), ("field", t)])), y4, some (.sh (.exv "BadCount" [("count", t)])), some (.sh (.exv "TooMany" [("count", t)])), some (.sh (.exv "BadEvent" [("index", t)])), none, none] _
  refine ws_seq ?_
  refine ws_par (by walk_at "px") (by walk_at "px") ?_
  walk_at "ex"
  refine w_oexV2 (c := "BadPool") (f := "field") (g := "value") ?_
  walk_at "ex"
  refine ⟨_, _, rfl, rfl, T.o_BadPool, T.no_BadPool_field, T.no_BadPool_value, ?_⟩
  walk_at "ex"
  refine w_oexV2 (c := "UnlikeUnits") (f := "one") (g := "other") ?_
  walk_at "ex"
  refine ⟨_, _, rfl, rfl, T.o_UnlikeUnits, T.no_UnlikeUnits_one, T.no_UnlikeUnits_other, ?_⟩
  walk_at "ex"
  refine ⟨_, _, rfl, ?_⟩
  change WS _ _ [some (.sh t), some (.sh o), some (.lst (((someD t o).take 7).map .sh)), some (.sh (.exv "BadOrder" [("value", o), ("field", t)])), y4, some (.sh (.exv "BadCount" [("count", t)])), some (.sh (.exv "TooMany" [("count", t)])), some (.sh (.exv "BadEvent" [("index", t)])), some (.sh (.exv "BadPool" [("value", o), ("field", t)])), some (.sh (.exv "UnlikeUnits" [("other", o), ("one", t)]))] _
  refine ws_seq ?_
  refine ws_append ⟨_, rfl⟩ ?_
  walk_at "ex"
  refine w_xfV ?_
  walk_at "ex"
  refine ⟨"BadPool", [("value", o), ("field", t)], t, rfl, T.x_BadPool, T.no_BadPool_field, rfl, ?_⟩
  walk_at "ex"
  refine w_xfV ?_
  walk_at "ex"
  refine ⟨"BadPool", [("value", o), ("field", t)], o, rfl, T.x_BadPool, T.no_BadPool_value, rfl, ?_⟩
  walk_at "ex"
  refine ⟨by show 7 ≤ 90000; decide, ?_⟩
  change WS _ _ [some (.sh t), some (.sh o), some (.lst (((someD t o).take 8).map .sh)), some (.sh (.exv "BadOrder" [("value", o), ("field", t)])), y4, some (.sh (.exv "BadCount" [("count", t)])), some (.sh (.exv "TooMany" [("count", t)])), some (.sh (.exv "BadEvent" [("index", t)])), some (.sh (.exv "BadPool" [("value", o), ("field", t)])), some (.sh (.exv "UnlikeUnits" [("other", o), ("one", t)]))] _
  refine ws_seq ?_
  refine ws_append ⟨_, rfl⟩ ?_
  walk_at "ex"
  refine w_xfV ?_
  walk_at "ex"
  refine ⟨"UnlikeUnits", [("other", o), ("one", t)], t, rfl, T.x_UnlikeUnits, T.no_UnlikeUnits_one, rfl, ?_⟩
  walk_at "ex"
  refine w_xfV ?_
  walk_at "ex"
  refine ⟨"UnlikeUnits", [("other", o), ("one", t)], o, rfl, T.x_UnlikeUnits, T.no_UnlikeUnits_other, rfl, ?_⟩
  walk_at "ex"
  refine ⟨by show 8 ≤ 90000; decide, ?_⟩
  change WS _ _ [some (.sh t), some (.sh o), some (.lst ((someD t o).map .sh)), some (.sh (.exv "BadOrder" [("value", o), ("field", t)])), y4, some (.sh (.exv "BadCount" [("count", t)])), some (.sh (.exv "TooMany" [("count", t)])), some (.sh (.exv "BadEvent" [("index", t)])), some (.sh (.exv "BadPool" [("value", o), ("field", t)])), some (.sh (.exv "UnlikeUnits" [("other", o), ("one", t)]))] _
  refine ws_letBe (i := 2) rfl frz_lst (by walk_at "px") ?_
  refine ws_ret ?_
  walk_at "ex"
  refine w_lcA (xs := bareL) (r := fun c => .exb c) (f := fun c => some (rowE (.exb c) [])) (by walk_at "px") (hy.elim (fun e => nameOk_none (by rw [e]; rfl)) fun ⟨z, e⟩ => nameOk_sh (d := z) (by rw [e]; rfl)) ?_
  refine wi_list ?_
  walk_at "ex"
  refine w_exb (c := "Cleared") rfl ?_
  walk_at "ex"
  refine w_exb (c := "NoClearing") rfl ?_
  walk_at "ex"
  refine w_exb (c := "NoUnit") rfl ?_
  walk_at "ex"
  refine w_exb (c := "NoShares") rfl ?_
  walk_at "ex"
  refine ⟨rfl, rfl, by decide, fun c hc => ?_, ?_⟩
  · refine wt_yes ⟨rfl, ?_⟩
    rw [if_pos rfl]
    walk_at "ex"
    exact ⟨rfl, rfl⟩
  rw [fm_some]
  refine rd_addL (.lst _) (.lst _) (by show 9 + 4 ≤ 100000; decide) ?_
  exact q
end K48

namespace K48
open PySem PySem.Spec PyProof.Rows L2 DL
variable {prg : Program} {wd : World} {K : PySem.W.Frag} {mg : Str → Option Value} {bs : Heap}
local macro_rules | `(tactic| walk_at "px") => `(tactic| first | exact List.not_mem_nil | (show _ ∉ ([0] : List Nat); decide) | (show _ ∉ ([] : List Nat); decide) | fail)
local macro_rules | `(tactic| walk_at "s") => `(tactic| with_reducible first
  | refine ws_seq ?_ | refine ws_if ?_ | refine ws_next ?_ | refine ws_ret ?_ | refine ws_retN ?_ | refine ws_asg (by walk_at "px") ?_ | refine ws_par (by walk_at "px") (by walk_at "px") ?_
  | refine w_var (by with_unfolding_all rfl) ?_ | refine w_int ?_ | refine w_bl ?_ | refine w_non ?_ | refine w_str ?_ | refine w_dnew ?_ | refine w_ty ?_
  | refine w_op ?_ | refine w_un ?_ | refine w_fld ?_ | refine w_xf ?_ | refine wt_test ?_ | refine wt_B ?_ | refine wt_yes ?_ | refine wt_and ?_ | refine wt_or ?_ | refine wt_not ?_ | refine w_andV ?_ | refine w_orV ?_ | refine w_notV ?_ | refine w_ifE ?_ | refine w_chain ?_
  | refine wa_nil ?_ | refine wa_cons ?_ | refine w_tup ?_ | refine w_lst ?_ | refine w_slice ?_ | refine w_dget ?_ | refine w_dget2 ?_ | refine w_dget1 ?_ | refine wp_no ?_ | refine wp_int ?_
  | refine w_cd repL_nil ?_ | refine w_md repL_nil ?_ | refine w_mk repL_nil ?_ | refine w_co repL_nil ⟨_, by with_unfolding_all rfl⟩ ?_ | refine w_call ?_
  | refine rd_add ?_ | refine rd_sub ?_ | refine rd_lt ?_ | refine rd_le ?_ | refine rd_gt ?_ | refine rd_ge ?_ | refine rd_ltS ?_ | refine rd_leS ?_ | refine rd_gtS ?_ | refine rd_geS ?_ | refine rd_isN ?_ | refine rd_notN ?_ | refine rd_eqAI ?_ | refine rd_neAI ?_ | refine rd_eqAS ?_ | refine rd_neAS ?_
  | refine wg_tup rfl ?_ | refine wgs_cons ?_ | refine wg_name (by walk_at "px") (by simp) ?_ | refine wgs_nil ?_
  | refine ru_neg ?_ | refine ⟨(by show List.length _ ≤ 100000; simp; try omega), ?_⟩
  | refine rc_abs ?_ | refine rc_int1 ?_ | refine rc_min2 ?_ | refine rc_max2 ?_
  | refine ⟨_, rfl, ?_⟩ | fail)
local macro_rules | `(tactic| walk_at "go") => `(tactic| repeat' walk_at "s")
local macro_rules | `(tactic| walk_at "args") => `(tactic| repeat' (with_reducible first | refine wa_cons ?_ | refine wa_nil ?_ | refine w_int ?_ | refine w_bl ?_ | refine w_non ?_ | refine w_str ?_ | refine w_dnew ?_ | refine w_tup ?_ | refine w_lst ?_ | refine w_un ?_ | refine ru_neg ?_ | refine w_var (by with_unfolding_all rfl) ?_ | refine ⟨(by show List.length _ ≤ 100000; simp; try omega), ?_⟩ | fail))
local macro_rules | `(tactic| walk_at "e") => `(tactic| with_reducible first
  | refine w_var (by with_unfolding_all rfl) ?_ | refine w_int ?_ | refine w_bl ?_ | refine w_non ?_ | refine w_str ?_ | refine w_dnew ?_ | refine w_ty ?_
  | refine w_op ?_ | refine w_un ?_ | refine w_fld ?_ | refine w_xf ?_ | refine wt_test ?_ | refine wt_B ?_ | refine wt_yes ?_ | refine wt_and ?_ | refine wt_or ?_ | refine wt_not ?_ | refine w_andV ?_ | refine w_orV ?_ | refine w_notV ?_ | refine w_ifE ?_ | refine w_chain ?_
  | refine wa_nil ?_ | refine wa_cons ?_ | refine w_tup ?_ | refine w_lst ?_ | refine w_slice ?_ | refine w_dget ?_ | refine w_dget2 ?_ | refine w_dget1 ?_ | refine wp_no ?_ | refine wp_int ?_
  | refine w_cd repL_nil ?_ | refine w_md repL_nil ?_ | refine w_mk repL_nil ?_ | refine w_co repL_nil ⟨_, by with_unfolding_all rfl⟩ ?_ | refine w_call ?_
  | refine rd_add ?_ | refine rd_sub ?_ | refine rd_lt ?_ | refine rd_le ?_ | refine rd_gt ?_ | refine rd_ge ?_ | refine rd_ltS ?_ | refine rd_leS ?_ | refine rd_gtS ?_ | refine rd_geS ?_ | refine rd_isN ?_ | refine rd_notN ?_ | refine rd_eqAI ?_ | refine rd_neAI ?_ | refine rd_eqAS ?_ | refine rd_neAS ?_
  | refine wg_tup rfl ?_ | refine wgs_cons ?_ | refine wg_name (by walk_at "px") (by simp) ?_ | refine wgs_nil ?_
  | refine ru_neg ?_ | refine ⟨(by show List.length _ ≤ 100000; simp; try omega), ?_⟩
  | refine rc_abs ?_ | refine rc_int1 ?_ | refine rc_min2 ?_ | refine rc_max2 ?_
  | refine ⟨_, rfl, ?_⟩ | fail)
local macro_rules | `(tactic| walk_at "ex") => `(tactic| repeat' walk_at "e")
local macro_rules | `(tactic| walk_at "a_") => `(tactic| (show WS _ _ _ _; (with_reducible try refine ws_seq ?_); with_reducible refine ws_asg (by walk_at "px") ?_; walk_at "ex"))
local macro_rules | `(tactic| walk_at "i_") => `(tactic| (show WS _ _ _ _; (with_reducible try refine ws_seq ?_); with_reducible refine ws_if ?_; walk_at "ex"))
local macro_rules | `(tactic| walk_at "d_") => `(tactic| (show WS _ _ _ _; (with_reducible try refine ws_seq ?_); with_reducible refine ws_drop ?_; walk_at "ex"))
local macro_rules | `(tactic| walk_at "r_") => `(tactic| (show WS _ _ _ _; with_reducible refine ws_ret ?_; walk_at "ex"))
local macro_rules | `(tactic| walk_at "v_") => `(tactic| refine w_var (by with_unfolding_all rfl) ?_)

def c_Llaw_others_by_name : CD := ⟨fun ds k => ∃ t o, ds = [t, o] ∧ k (.ret (.sh (.lst (othersD t o)))), by
  rintro ds k k' h ⟨t, o, e, q⟩
  exact ⟨t, o, e, h _ q⟩⟩
theorem sc_Llaw_others_by_name : FnScope ["thing", "other", "found", "order", "e", "count", "many", "event", "pool", "units"] ["thing", "other"] (defScope s_Llaw_others_by_name) := ⟨rfl, rfl, rfl, by decide +kernel, rfl, by decide +kernel, by decide +kernel⟩
theorem ok_Llaw_others_by_name (T : Tx K mg) (tb : ∀ p ∈ csOf K, LamX.TabB bs mg p.1 p.2) : ∃ fd, DC.FnG prg wd K mg bs (L2.CX prg wd) 3 (He.ga K "_law_others_by_name") fd ["thing", "other"] (toSp K 2 c_Llaw_others_by_name.con) ∧ L2.Binds K fd ["thing", "other"] [] ∧ PySem.W.keepIn K (.ref (He.ga K "_law_others_by_name")) = true := by
  obtain ⟨fd, F0⟩ := T.d_Llaw_others_by_name
  obtain ⟨_, F_BadCount_init, b_BadCount_init, kb_BadCount_init_1_count⟩ := ok_BadCount_init (prg := prg) (wd := wd) (bs := bs) T tb
  obtain ⟨_, F_BadEvent_init, b_BadEvent_init, kb_BadEvent_init_1_index⟩ := ok_BadEvent_init (prg := prg) (wd := wd) (bs := bs) T tb
  obtain ⟨_, F_BadOrder_init, b_BadOrder_init, kb_BadOrder_init_1_value_field⟩ := ok_BadOrder_init (prg := prg) (wd := wd) (bs := bs) T tb
  obtain ⟨_, F_BadPool_init, b_BadPool_init, kb_BadPool_init_1_value_field⟩ := ok_BadPool_init (prg := prg) (wd := wd) (bs := bs) T tb
  obtain ⟨_, F_Crossing_init, b_Crossing_init, kb_Crossing_init_1_name⟩ := ok_Crossing_init (prg := prg) (wd := wd) (bs := bs) T tb
  obtain ⟨_, F_NameTaken_init, b_NameTaken_init, kb_NameTaken_init_1_name⟩ := ok_NameTaken_init (prg := prg) (wd := wd) (bs := bs) T tb
  obtain ⟨_, F_TooMany_init, b_TooMany_init, kb_TooMany_init_1_count⟩ := ok_TooMany_init (prg := prg) (wd := wd) (bs := bs) T tb
  obtain ⟨_, F_UnknownOrder_init, b_UnknownOrder_init, kb_UnknownOrder_init_1_name⟩ := ok_UnknownOrder_init (prg := prg) (wd := wd) (bs := bs) T tb
  obtain ⟨_, F_UnlikeUnits_init, b_UnlikeUnits_init, kb_UnlikeUnits_init_1_other_one⟩ := ok_UnlikeUnits_init (prg := prg) (wd := wd) (bs := bs) T tb
  refine ⟨fd, def_D (N := ["thing", "other", "found", "order", "e", "count", "many", "event", "pool", "units"]) F0 sc_Llaw_others_by_name rfl ?_, F0.bindsN fun _ _ _ _ _ _ us hl => match us, hl with | [_, _], _ => rfl, F0.kp⟩
  intro cdv A fr s H E ds kk gd room hc hl
  have hu := room.units
  have hu7 := room70 room
  have sc := sc_Llaw_others_by_name
  refine ⟨_, (pss_cons (ps_par3 (i := 5) (j := 6) (l := 7) (by rfl) sc.nd rfl rfl rfl (by decide) (by decide) (by decide) rfl rfl rfl (pa_cons (DC.pe_oexVK T.o_BadCount T.i_BadCount T.t_BadCount F_BadCount_init (room.mono (by decide)) kb_BadCount_init_1_count passL (by rfl) T.g_BadCount (pk_cons (pv 0) pk_nil)) (pa_cons (DC.pe_oexVK T.o_TooMany T.i_TooMany T.t_TooMany F_TooMany_init (room.mono (by decide)) kb_TooMany_init_1_count passL (by rfl) T.g_TooMany (pk_cons (pv 0) pk_nil)) (pa_cons (DC.pe_oexVK T.o_BadEvent T.i_BadEvent T.t_BadEvent F_BadEvent_init (room.mono (by decide)) kb_BadEvent_init_1_index passL (by rfl) T.g_BadEvent (pk_cons (pv 0) pk_nil)) pa_nil))) (by rfl))
  (pss_cons (ps_set (i := 2) sc.nd rfl (Or.inl rfl) (pe_lst (pa_cons (pe_lst (pa_cons (pv 5) (pa_cons (pe_lst (pa_cons (DC.pe_xfVK rfl (pv 5)) pa_nil)) (pa_cons (pe_lst (pa_cons (pv 0) pa_nil)) pa_nil)))) (pa_cons (pe_lst (pa_cons (pv 6) (pa_cons (pe_lst (pa_cons (DC.pe_xfVK rfl (pv 6)) pa_nil)) (pa_cons (pe_lst (pa_cons (pv 0) pa_nil)) pa_nil)))) (pa_cons (pe_lst (pa_cons (pv 7) (pa_cons (pe_lst (pa_cons (DC.pe_xfVK rfl (pv 7)) pa_nil)) (pa_cons (pe_lst (pa_cons (pv 0) pa_nil)) pa_nil)))) pa_nil)))))
  (pss_cons (ps_set (i := 3) sc.nd rfl (Or.inl rfl) (DC.pe_oexVK T.o_BadOrder T.i_BadOrder T.t_BadOrder F_BadOrder_init (room.mono (by decide)) kb_BadOrder_init_1_value_field passL (by rfl) T.g_BadOrder (pk_cons (pv 1) (pk_cons (pv 0) pk_nil))))
  (pss_cons (ps_expr (pe_bm PySem.F.plainAttrs_list PySem.F.slot_list_append PySem.F.type_list_append mt_append (pv 2) (pa_cons (pe_lst (pa_cons (pv 3) (pa_cons (pe_lst (pa_cons (DC.pe_xfVK rfl (pv 3)) (pa_cons (DC.pe_xfVK rfl (pv 3)) pa_nil))) (pa_cons (pe_lst (pa_cons (pv 0) (pa_cons (pv 1) pa_nil))) pa_nil)))) pa_nil)))
  (pss_cons (ps_for (passes_of rfl) rfl (pi_list (pe_lst (pa_cons (DC.pe_oexVK T.o_NameTaken T.i_NameTaken T.t_NameTaken F_NameTaken_init (room.mono (by decide)) kb_NameTaken_init_1_name passL (by rfl) T.g_NameTaken (pk_cons (pv 0) pk_nil)) (pa_cons (DC.pe_oexVK T.o_UnknownOrder T.i_UnknownOrder T.t_UnknownOrder F_UnknownOrder_init (room.mono (by decide)) kb_UnknownOrder_init_1_name passL (by rfl) T.g_UnknownOrder (pk_cons (pv 0) pk_nil)) (pa_cons (DC.pe_oexVK T.o_Crossing T.i_Crossing T.t_Crossing F_Crossing_init (room.mono (by decide)) kb_Crossing_init_1_name passL (by rfl) T.g_Crossing (pk_cons (pv 0) pk_nil)) pa_nil))))) (pg_name (i := 4) sc.nd rfl (Or.inl rfl)) (pss_one (ps_expr (pe_bm PySem.F.plainAttrs_list PySem.F.slot_list_append PySem.F.type_list_append mt_append (pv 2) (pa_cons (pe_lst (pa_cons (pv 4) (pa_cons (pe_lst (pa_cons (DC.pe_xfVK rfl (pv 4)) pa_nil)) (pa_cons (pe_lst (pa_cons (pv 0) pa_nil)) pa_nil)))) pa_nil)))))
  (pss_cons (ps_par (i := 8) (j := 9) (by rfl) sc.nd rfl rfl (by decide) rfl rfl (pa_cons (DC.pe_oexVK T.o_BadPool T.i_BadPool T.t_BadPool F_BadPool_init (room.mono (by decide)) kb_BadPool_init_1_value_field passL (by rfl) T.g_BadPool (pk_cons (pv 1) (pk_cons (pv 0) pk_nil))) (pa_cons (DC.pe_oexVK T.o_UnlikeUnits T.i_UnlikeUnits T.t_UnlikeUnits F_UnlikeUnits_init (room.mono (by decide)) kb_UnlikeUnits_init_1_other_one passL (by rfl) T.g_UnlikeUnits (pk_cons (pv 1) (pk_cons (pv 0) pk_nil))) pa_nil)) (by rfl))
  (pss_cons (ps_expr (pe_bm PySem.F.plainAttrs_list PySem.F.slot_list_append PySem.F.type_list_append mt_append (pv 2) (pa_cons (pe_lst (pa_cons (pv 8) (pa_cons (pe_lst (pa_cons (DC.pe_xfVK rfl (pv 8)) (pa_cons (DC.pe_xfVK rfl (pv 8)) pa_nil))) (pa_cons (pe_lst (pa_cons (pv 0) (pa_cons (pv 1) pa_nil))) pa_nil)))) pa_nil)))
  (pss_cons (ps_expr (pe_bm PySem.F.plainAttrs_list PySem.F.slot_list_append PySem.F.type_list_append mt_append (pv 2) (pa_cons (pe_lst (pa_cons (pv 9) (pa_cons (pe_lst (pa_cons (DC.pe_xfVK rfl (pv 9)) (pa_cons (DC.pe_xfVK rfl (pv 9)) pa_nil))) (pa_cons (pe_lst (pa_cons (pv 0) (pa_cons (pv 1) pa_nil))) pa_nil)))) pa_nil)))
  (pss_one (ps_ret (pe_op o_add (pv 2) (pe_lc (own := [("e", 4)]) (g := (gName 4)) (tt := tYes) (by rfl) sc.nd (pi_list (pe_lst (pa_cons (DC.pe_exb PySem.F.excBase_ValueError T.e_Cleared.1 T.g_Cleared T.e_Cleared.2.1 (by rfl)) (pa_cons (DC.pe_exb PySem.F.excBase_ValueError T.e_NoClearing.1 T.g_NoClearing T.e_NoClearing.2.1 (by rfl)) (pa_cons (DC.pe_exb PySem.F.excBase_ValueError T.e_NoUnit.1 T.g_NoUnit T.e_NoUnit.2.1 (by rfl)) (pa_cons (DC.pe_exb PySem.F.excBase_ValueError T.e_NoShares.1 T.g_NoShares T.e_NoShares.2.1 (by rfl)) pa_nil)))))) (blkOk_by (own := [("e", 4)]) (N := ["thing", "other", "found", "order", "e", "count", "many", "event", "pool", "units"]) (sc := defScope s_Llaw_others_by_name) (by decide +kernel)) (fun _ _ _ _ _ => (pg_name (i := 4) sc.nd rfl (Or.inl rfl))) (fun _ _ _ _ _ => pts_nil) (fun _ _ _ _ _ => (pe_lst (pa_cons (pv 4) (pa_cons (pe_lst pa_nil) (pa_cons (pe_lst pa_nil) pa_nil))))))))))))))))), ?_⟩
  try dsimp only [L2.cxOf]
  obtain ⟨t, o, rfl, q⟩ := hc
  refine ws_seq ?_
  refine ws_par3 (by walk_at "px") (by walk_at "px") (by walk_at "px") ?_
  walk_at "ex"
  refine w_oexVK1 (c := "BadCount") (f := "count") ?_
  walk_at "ex"
  refine ⟨rfl, _, rfl, rfl, T.o_BadCount, T.no_BadCount_count, ?_⟩
  walk_at "ex"
  refine w_oexVK1 (c := "TooMany") (f := "count") ?_
  walk_at "ex"
  refine ⟨rfl, _, rfl, rfl, T.o_TooMany, T.no_TooMany_count, ?_⟩
  walk_at "ex"
  refine w_oexVK1 (c := "BadEvent") (f := "index") ?_
  walk_at "ex"
  refine ⟨rfl, _, rfl, rfl, T.o_BadEvent, T.no_BadEvent_index, ?_⟩
  walk_at "ex"
  refine ⟨_, _, _, rfl, ?_⟩
  change WS _ _ [some (.sh t), some (.sh o), none, none, none, some (.sh (.exv "BadCount" [("count", t)])), some (.sh (.exv "TooMany" [("count", t)])), some (.sh (.exv "BadEvent" [("index", t)])), none, none] _
  refine ws_seq ?_
  refine ws_asgO (by walk_at "px") (by show 2 < 10; decide) ?_
  refine wo_lst ?_
  walk_at "args"
  refine w_xfV ?_
  walk_at "ex"
  refine ⟨"BadCount", [("count", t)], t, rfl, T.x_BadCount, T.no_BadCount_count, rfl, ?_⟩
  walk_at "ex"
  refine w_xfV ?_
  walk_at "ex"
  refine ⟨"TooMany", [("count", t)], t, rfl, T.x_TooMany, T.no_TooMany_count, rfl, ?_⟩
  walk_at "ex"
  refine w_xfV ?_
  walk_at "ex"
  refine ⟨"BadEvent", [("index", t)], t, rfl, T.x_BadEvent, T.no_BadEvent_index, rfl, ?_⟩
  walk_at "ex"
  refine ⟨rfl, ?_⟩
  change WS _ _ [some (.sh t), some (.sh o), some (.lst (((someD t o).take 3).map .sh)), none, none, some (.sh (.exv "BadCount" [("count", t)])), some (.sh (.exv "TooMany" [("count", t)])), some (.sh (.exv "BadEvent" [("index", t)])), none, none] _
  refine ws_seq ?_
  refine ws_asg (by walk_at "px") ?_
  walk_at "ex"
  refine w_oexVK2 (c := "BadOrder") (f := "field") (g := "value") ?_
  walk_at "ex"
  refine ⟨rfl, _, _, rfl, rfl, T.o_BadOrder, T.no_BadOrder_field, T.no_BadOrder_value, ?_⟩
  walk_at "ex"
  change WS _ _ [some (.sh t), some (.sh o), some (.lst (((someD t o).take 3).map .sh)), some (.sh (.exv "BadOrder" [("value", o), ("field", t)])), none, some (.sh (.exv "BadCount" [("count", t)])), some (.sh (.exv "TooMany" [("count", t)])), some (.sh (.exv "BadEvent" [("index", t)])), none, none] _
  refine ws_seq ?_
  refine ws_append ⟨_, rfl⟩ ?_
  walk_at "ex"
  refine w_xfV ?_
  walk_at "ex"
  refine ⟨"BadOrder", [("value", o), ("field", t)], t, rfl, T.x_BadOrder, T.no_BadOrder_field, rfl, ?_⟩
  walk_at "ex"
  refine w_xfV ?_
  walk_at "ex"
  refine ⟨"BadOrder", [("value", o), ("field", t)], o, rfl, T.x_BadOrder, T.no_BadOrder_value, rfl, ?_⟩
  walk_at "ex"
  refine ⟨by show 3 ≤ 90000; decide, ?_⟩
  change WS _ _ [some (.sh t), some (.sh o), some (.lst (((someD t o).take 4).map .sh)), some (.sh (.exv "BadOrder" [("value", o), ("field", t)])), none, some (.sh (.exv "BadCount" [("count", t)])), some (.sh (.exv "TooMany" [("count", t)])), some (.sh (.exv "BadEvent" [("index", t)])), none, none] _
  refine ws_seq ?_
  refine ws_for (sl := [4]) ?_
  refine wi_list ?_
  walk_at "ex"
  refine w_oexVK1 (c := "NameTaken") (f := "name") ?_
  walk_at "ex"
  refine ⟨rfl, _, rfl, rfl, T.o_NameTaken, T.no_NameTaken_name, ?_⟩
  walk_at "ex"
  refine w_oexVK1 (c := "UnknownOrder") (f := "name") ?_
  walk_at "ex"
  refine ⟨rfl, _, rfl, rfl, T.o_UnknownOrder, T.no_UnknownOrder_name, ?_⟩
  walk_at "ex"
  refine w_oexVK1 (c := "Crossing") (f := "name") ?_
  walk_at "ex"
  refine ⟨rfl, _, rfl, rfl, T.o_Crossing, T.no_Crossing_name, ?_⟩
  walk_at "ex"
  refine ⟨fun i ρ => ∃ y4 : Option M, (y4 = none ∨ ∃ z : D, y4 = some (.sh z)) ∧ i ≤ 3 ∧ ρ = [some (.sh t), some (.sh o), some (.lst (((someD t o).take (4 + i)).map .sh)), some (.sh (.exv "BadOrder" [("value", o), ("field", t)])), y4, some (.sh (.exv "BadCount" [("count", t)])), some (.sh (.exv "TooMany" [("count", t)])), some (.sh (.exv "BadEvent" [("index", t)])), none, none], ⟨none, .inl rfl, by decide, rfl⟩, ?_, ?_⟩
  · rintro i d ρ2 hd ⟨y4, hy, i3, rfl⟩
    refine wg_name (by walk_at "px") (by simp) ?_
    rcases i with _ | _ | _ | i
    · obtain rfl := Option.some.inj hd
      change WS _ _ [some (.sh t), some (.sh o), some (.lst (((someD t o).take 4).map .sh)), some (.sh (.exv "BadOrder" [("value", o), ("field", t)])), some (.sh (.exv "NameTaken" [("name", t)])), some (.sh (.exv "BadCount" [("count", t)])), some (.sh (.exv "TooMany" [("count", t)])), some (.sh (.exv "BadEvent" [("index", t)])), none, none] _
      refine ws_append ⟨_, rfl⟩ ?_
      walk_at "ex"
      refine w_xfV ?_
      walk_at "ex"
      refine ⟨"NameTaken", [("name", t)], t, rfl, T.x_NameTaken, T.no_NameTaken_name, rfl, ?_⟩
      walk_at "ex"
      refine ⟨by show 4 ≤ 90000; decide, ?_⟩
      exact ⟨_, .inr ⟨_, rfl⟩, by decide, rfl⟩
    · obtain rfl := Option.some.inj hd
      change WS _ _ [some (.sh t), some (.sh o), some (.lst (((someD t o).take 5).map .sh)), some (.sh (.exv "BadOrder" [("value", o), ("field", t)])), some (.sh (.exv "UnknownOrder" [("name", t)])), some (.sh (.exv "BadCount" [("count", t)])), some (.sh (.exv "TooMany" [("count", t)])), some (.sh (.exv "BadEvent" [("index", t)])), none, none] _
      refine ws_append ⟨_, rfl⟩ ?_
      walk_at "ex"
      refine w_xfV ?_
      walk_at "ex"
      refine ⟨"UnknownOrder", [("name", t)], t, rfl, T.x_UnknownOrder, T.no_UnknownOrder_name, rfl, ?_⟩
      walk_at "ex"
      refine ⟨by show 5 ≤ 90000; decide, ?_⟩
      exact ⟨_, .inr ⟨_, rfl⟩, by decide, rfl⟩
    · obtain rfl := Option.some.inj hd
      change WS _ _ [some (.sh t), some (.sh o), some (.lst (((someD t o).take 6).map .sh)), some (.sh (.exv "BadOrder" [("value", o), ("field", t)])), some (.sh (.exv "Crossing" [("name", t)])), some (.sh (.exv "BadCount" [("count", t)])), some (.sh (.exv "TooMany" [("count", t)])), some (.sh (.exv "BadEvent" [("index", t)])), none, none] _
      refine ws_append ⟨_, rfl⟩ ?_
      walk_at "ex"
      refine w_xfV ?_
      walk_at "ex"
      refine ⟨"Crossing", [("name", t)], t, rfl, T.x_Crossing, T.no_Crossing_name, rfl, ?_⟩
      walk_at "ex"
      refine ⟨by show 6 ≤ 90000; decide, ?_⟩
      exact ⟨_, .inr ⟨_, rfl⟩, by decide, rfl⟩
    · exact absurd i3 (by
        have := (List.getElem?_eq_some_iff.mp hd).1
        simp at this
        omega)
  rintro ρ2 ⟨y4, hy, _, rfl⟩
  change WS _ _ [some (.sh t), some (.sh o), some (.lst (((someD t o).take 7).map .sh)), some (.sh (.exv "BadOrder" [("value", o), ("field", t)])), y4, some (.sh (.exv "BadCount" [("count", t)])), some (.sh (.exv "TooMany" [("count", t)])), some (.sh (.exv "BadEvent" [("index", t)])), none, none] _
  refine ws_seq ?_
  refine ws_par (by walk_at "px") (by walk_at "px") ?_
  walk_at "ex"
  refine w_oexVK2 (c := "BadPool") (f := "field") (g := "value") ?_
  walk_at "ex"
  refine ⟨rfl, _, _, rfl, rfl, T.o_BadPool, T.no_BadPool_field, T.no_BadPool_value, ?_⟩
  walk_at "ex"
  refine w_oexVK2 (c := "UnlikeUnits") (f := "one") (g := "other") ?_
  walk_at "ex"
  refine ⟨rfl, _, _, rfl, rfl, T.o_UnlikeUnits, T.no_UnlikeUnits_one, T.no_UnlikeUnits_other, ?_⟩
  walk_at "ex"
  refine ⟨_, _, rfl, ?_⟩
  change WS _ _ [some (.sh t), some (.sh o), some (.lst (((someD t o).take 7).map .sh)), some (.sh (.exv "BadOrder" [("value", o), ("field", t)])), y4, some (.sh (.exv "BadCount" [("count", t)])), some (.sh (.exv "TooMany" [("count", t)])), some (.sh (.exv "BadEvent" [("index", t)])), some (.sh (.exv "BadPool" [("value", o), ("field", t)])), some (.sh (.exv "UnlikeUnits" [("other", o), ("one", t)]))] _
  refine ws_seq ?_
  refine ws_append ⟨_, rfl⟩ ?_
  walk_at "ex"
  refine w_xfV ?_
  walk_at "ex"
  refine ⟨"BadPool", [("value", o), ("field", t)], t, rfl, T.x_BadPool, T.no_BadPool_field, rfl, ?_⟩
  walk_at "ex"
  refine w_xfV ?_
  walk_at "ex"
  refine ⟨"BadPool", [("value", o), ("field", t)], o, rfl, T.x_BadPool, T.no_BadPool_value, rfl, ?_⟩
  walk_at "ex"
  refine ⟨by show 7 ≤ 90000; decide, ?_⟩
  change WS _ _ [some (.sh t), some (.sh o), some (.lst (((someD t o).take 8).map .sh)), some (.sh (.exv "BadOrder" [("value", o), ("field", t)])), y4, some (.sh (.exv "BadCount" [("count", t)])), some (.sh (.exv "TooMany" [("count", t)])), some (.sh (.exv "BadEvent" [("index", t)])), some (.sh (.exv "BadPool" [("value", o), ("field", t)])), some (.sh (.exv "UnlikeUnits" [("other", o), ("one", t)]))] _
  refine ws_seq ?_
  refine ws_append ⟨_, rfl⟩ ?_
  walk_at "ex"
  refine w_xfV ?_
  walk_at "ex"
  refine ⟨"UnlikeUnits", [("other", o), ("one", t)], t, rfl, T.x_UnlikeUnits, T.no_UnlikeUnits_one, rfl, ?_⟩
  walk_at "ex"
  refine w_xfV ?_
  walk_at "ex"
  refine ⟨"UnlikeUnits", [("other", o), ("one", t)], o, rfl, T.x_UnlikeUnits, T.no_UnlikeUnits_other, rfl, ?_⟩
  walk_at "ex"
  refine ⟨by show 8 ≤ 90000; decide, ?_⟩
  change WS _ _ [some (.sh t), some (.sh o), some (.lst ((someD t o).map .sh)), some (.sh (.exv "BadOrder" [("value", o), ("field", t)])), y4, some (.sh (.exv "BadCount" [("count", t)])), some (.sh (.exv "TooMany" [("count", t)])), some (.sh (.exv "BadEvent" [("index", t)])), some (.sh (.exv "BadPool" [("value", o), ("field", t)])), some (.sh (.exv "UnlikeUnits" [("other", o), ("one", t)]))] _
  refine ws_letBe (i := 2) rfl frz_lst (by walk_at "px") ?_
  refine ws_ret ?_
  walk_at "ex"
  refine w_lcA (xs := bareL) (r := fun c => .exb c) (f := fun c => some (rowE (.exb c) [])) (by walk_at "px") (hy.elim (fun e => nameOk_none (by rw [e]; rfl)) fun ⟨z, e⟩ => nameOk_sh (d := z) (by rw [e]; rfl)) ?_
  refine wi_list ?_
  walk_at "ex"
  refine w_exb (c := "Cleared") rfl ?_
  walk_at "ex"
  refine w_exb (c := "NoClearing") rfl ?_
  walk_at "ex"
  refine w_exb (c := "NoUnit") rfl ?_
  walk_at "ex"
  refine w_exb (c := "NoShares") rfl ?_
  walk_at "ex"
  refine ⟨rfl, rfl, by decide, fun c hc => ?_, ?_⟩
  · refine wt_yes ⟨rfl, ?_⟩
    rw [if_pos rfl]
    walk_at "ex"
    exact ⟨rfl, rfl⟩
  rw [fm_some]
  refine rd_addL (.lst _) (.lst _) (by show 9 + 4 ≤ 100000; decide) ?_
  exact q
end K48

namespace K48
open PySem PySem.Spec PyProof.Rows L2 DL
variable {prg : Program} {wd : World} {K : PySem.W.Frag} {mg : Str → Option Value} {bs : Heap}
local macro_rules | `(tactic| walk_at "px") => `(tactic| first | exact List.not_mem_nil | (show _ ∉ ([0] : List Nat); decide) | (show _ ∉ ([] : List Nat); decide) | fail)
local macro_rules | `(tactic| walk_at "s") => `(tactic| with_reducible first
  | refine ws_seq ?_ | refine ws_if ?_ | refine ws_next ?_ | refine ws_ret ?_ | refine ws_retN ?_ | refine ws_asg (by walk_at "px") ?_ | refine ws_par (by walk_at "px") (by walk_at "px") ?_
  | refine w_var (by with_unfolding_all rfl) ?_ | refine w_int ?_ | refine w_bl ?_ | refine w_non ?_ | refine w_str ?_ | refine w_dnew ?_ | refine w_ty ?_
  | refine w_op ?_ | refine w_un ?_ | refine w_fld ?_ | refine w_xf ?_ | refine wt_test ?_ | refine wt_B ?_ | refine wt_yes ?_ | refine wt_and ?_ | refine wt_or ?_ | refine wt_not ?_ | refine w_andV ?_ | refine w_orV ?_ | refine w_notV ?_ | refine w_ifE ?_ | refine w_chain ?_
  | refine wa_nil ?_ | refine wa_cons ?_ | refine w_tup ?_ | refine w_lst ?_ | refine w_slice ?_ | refine w_dget ?_ | refine w_dget2 ?_ | refine w_dget1 ?_ | refine wp_no ?_ | refine wp_int ?_
  | refine w_cd repL_nil ?_ | refine w_md repL_nil ?_ | refine w_mk repL_nil ?_ | refine w_co repL_nil ⟨_, by with_unfolding_all rfl⟩ ?_ | refine w_call ?_
  | refine rd_add ?_ | refine rd_sub ?_ | refine rd_lt ?_ | refine rd_le ?_ | refine rd_gt ?_ | refine rd_ge ?_ | refine rd_ltS ?_ | refine rd_leS ?_ | refine rd_gtS ?_ | refine rd_geS ?_ | refine rd_isN ?_ | refine rd_notN ?_ | refine rd_eqAI ?_ | refine rd_neAI ?_ | refine rd_eqAS ?_ | refine rd_neAS ?_
  | refine wg_tup rfl ?_ | refine wgs_cons ?_ | refine wg_name (by walk_at "px") (by simp) ?_ | refine wgs_nil ?_
  | refine ru_neg ?_ | refine ⟨(by show List.length _ ≤ 100000; simp; try omega), ?_⟩
  | refine rc_abs ?_ | refine rc_int1 ?_ | refine rc_min2 ?_ | refine rc_max2 ?_
  | refine ⟨_, rfl, ?_⟩ | fail)
local macro_rules | `(tactic| walk_at "go") => `(tactic| repeat' walk_at "s")
local macro_rules | `(tactic| walk_at "args") => `(tactic| repeat' (with_reducible first | refine wa_cons ?_ | refine wa_nil ?_ | refine w_int ?_ | refine w_bl ?_ | refine w_non ?_ | refine w_str ?_ | refine w_dnew ?_ | refine w_tup ?_ | refine w_lst ?_ | refine w_un ?_ | refine ru_neg ?_ | refine w_var (by with_unfolding_all rfl) ?_ | refine ⟨(by show List.length _ ≤ 100000; simp; try omega), ?_⟩ | fail))
local macro_rules | `(tactic| walk_at "e") => `(tactic| with_reducible first
  | refine w_var (by with_unfolding_all rfl) ?_ | refine w_int ?_ | refine w_bl ?_ | refine w_non ?_ | refine w_str ?_ | refine w_dnew ?_ | refine w_ty ?_
  | refine w_op ?_ | refine w_un ?_ | refine w_fld ?_ | refine w_xf ?_ | refine wt_test ?_ | refine wt_B ?_ | refine wt_yes ?_ | refine wt_and ?_ | refine wt_or ?_ | refine wt_not ?_ | refine w_andV ?_ | refine w_orV ?_ | refine w_notV ?_ | refine w_ifE ?_ | refine w_chain ?_
  | refine wa_nil ?_ | refine wa_cons ?_ | refine w_tup ?_ | refine w_lst ?_ | refine w_slice ?_ | refine w_dget ?_ | refine w_dget2 ?_ | refine w_dget1 ?_ | refine wp_no ?_ | refine wp_int ?_
  | refine w_cd repL_nil ?_ | refine w_md repL_nil ?_ | refine w_mk repL_nil ?_ | refine w_co repL_nil ⟨_, by with_unfolding_all rfl⟩ ?_ | refine w_call ?_
  | refine rd_add ?_ | refine rd_sub ?_ | refine rd_lt ?_ | refine rd_le ?_ | refine rd_gt ?_ | refine rd_ge ?_ | refine rd_ltS ?_ | refine rd_leS ?_ | refine rd_gtS ?_ | refine rd_geS ?_ | refine rd_isN ?_ | refine rd_notN ?_ | refine rd_eqAI ?_ | refine rd_neAI ?_ | refine rd_eqAS ?_ | refine rd_neAS ?_
  | refine wg_tup rfl ?_ | refine wgs_cons ?_ | refine wg_name (by walk_at "px") (by simp) ?_ | refine wgs_nil ?_
  | refine ru_neg ?_ | refine ⟨(by show List.length _ ≤ 100000; simp; try omega), ?_⟩
  | refine rc_abs ?_ | refine rc_int1 ?_ | refine rc_min2 ?_ | refine rc_max2 ?_
  | refine ⟨_, rfl, ?_⟩ | fail)
local macro_rules | `(tactic| walk_at "ex") => `(tactic| repeat' walk_at "e")
local macro_rules | `(tactic| walk_at "a_") => `(tactic| (show WS _ _ _ _; (with_reducible try refine ws_seq ?_); with_reducible refine ws_asg (by walk_at "px") ?_; walk_at "ex"))
local macro_rules | `(tactic| walk_at "i_") => `(tactic| (show WS _ _ _ _; (with_reducible try refine ws_seq ?_); with_reducible refine ws_if ?_; walk_at "ex"))
local macro_rules | `(tactic| walk_at "d_") => `(tactic| (show WS _ _ _ _; (with_reducible try refine ws_seq ?_); with_reducible refine ws_drop ?_; walk_at "ex"))
local macro_rules | `(tactic| walk_at "r_") => `(tactic| (show WS _ _ _ _; with_reducible refine ws_ret ?_; walk_at "ex"))
local macro_rules | `(tactic| walk_at "v_") => `(tactic| refine w_var (by with_unfolding_all rfl) ?_)

abbrev sharedL : List Str := ["BadDay", "BadCause", "BadPostings", "BadAccount", "BadAmount", "BadUnit", "BadOwner", "BadName", "BadPrice", "BadRow", "BadStatement", "NotCarried", "NotWhole"]
abbrev bare3L : List Str := ["BadText", "NothingToUndo", "NothingToRedo"]
def sharedD (t o : D) : List D := sharedL.map (fun c => rowE (.exv c [("given", t)]) [t]) ++ [rowE (.exv "Unbalanced" [("off", o), ("given", t)]) [t, o], rowE (.exv "BadLine" [("line", t)]) [t]] ++ bare3L.map fun c => rowE (.exb c) []
def c_Llaw_shared : CD := ⟨fun ds k => ∃ t o, ds = [t, o] ∧ k (.ret (.sh (.lst (sharedD t o)))), by
  rintro ds k k' h ⟨t, o, e, q⟩
  exact ⟨t, o, e, h _ q⟩⟩
theorem sc_Llaw_shared : FnScope ["thing", "other", "found", "rows", "first", "last", "e"] ["thing", "other"] (defScope s_Llaw_shared) := ⟨rfl, rfl, rfl, by decide +kernel, rfl, by decide +kernel, by decide +kernel⟩
theorem ok_Llaw_shared (T : Tx K mg) (tb : ∀ p ∈ csOf K, LamX.TabB bs mg p.1 p.2) : ∃ fd, DC.FnG prg wd K mg bs (L2.CX prg wd) 3 (He.ga K "_law_shared") fd ["thing", "other"] (toSp K 2 c_Llaw_shared.con) ∧ L2.Binds K fd ["thing", "other"] [] ∧ PySem.W.keepIn K (.ref (He.ga K "_law_shared")) = true := by
  obtain ⟨fd, F0⟩ := T.d_Llaw_shared
  obtain ⟨_, F_BadAccount_init, b_BadAccount_init, kb_BadAccount_init_1_given⟩ := ok_BadAccount_init (prg := prg) (wd := wd) (bs := bs) T tb
  obtain ⟨_, F_BadAmount_init, b_BadAmount_init, kb_BadAmount_init_1_given⟩ := ok_BadAmount_init (prg := prg) (wd := wd) (bs := bs) T tb
  obtain ⟨_, F_BadCause_init, b_BadCause_init, kb_BadCause_init_1_given⟩ := ok_BadCause_init (prg := prg) (wd := wd) (bs := bs) T tb
  obtain ⟨_, F_BadDay_init, b_BadDay_init, kb_BadDay_init_1_given⟩ := ok_BadDay_init (prg := prg) (wd := wd) (bs := bs) T tb
  obtain ⟨_, F_BadLine_init, b_BadLine_init, kb_BadLine_init_1_line⟩ := ok_BadLine_init (prg := prg) (wd := wd) (bs := bs) T tb
  obtain ⟨_, F_BadName_init, b_BadName_init, kb_BadName_init_1_given⟩ := ok_BadName_init (prg := prg) (wd := wd) (bs := bs) T tb
  obtain ⟨_, F_BadOwner_init, b_BadOwner_init, kb_BadOwner_init_1_given⟩ := ok_BadOwner_init (prg := prg) (wd := wd) (bs := bs) T tb
  obtain ⟨_, F_BadPostings_init, b_BadPostings_init, kb_BadPostings_init_1_given⟩ := ok_BadPostings_init (prg := prg) (wd := wd) (bs := bs) T tb
  obtain ⟨_, F_BadPrice_init, b_BadPrice_init, kb_BadPrice_init_1_given⟩ := ok_BadPrice_init (prg := prg) (wd := wd) (bs := bs) T tb
  obtain ⟨_, F_BadRow_init, b_BadRow_init, kb_BadRow_init_1_given⟩ := ok_BadRow_init (prg := prg) (wd := wd) (bs := bs) T tb
  obtain ⟨_, F_BadStatement_init, b_BadStatement_init, kb_BadStatement_init_1_given⟩ := ok_BadStatement_init (prg := prg) (wd := wd) (bs := bs) T tb
  obtain ⟨_, F_BadUnit_init, b_BadUnit_init, kb_BadUnit_init_1_given⟩ := ok_BadUnit_init (prg := prg) (wd := wd) (bs := bs) T tb
  obtain ⟨_, F_NotCarried_init, b_NotCarried_init, kb_NotCarried_init_1_given⟩ := ok_NotCarried_init (prg := prg) (wd := wd) (bs := bs) T tb
  obtain ⟨_, F_NotWhole_init, b_NotWhole_init, kb_NotWhole_init_1_given⟩ := ok_NotWhole_init (prg := prg) (wd := wd) (bs := bs) T tb
  obtain ⟨_, F_Unbalanced_init, b_Unbalanced_init, kb_Unbalanced_init_1_off_given⟩ := ok_Unbalanced_init (prg := prg) (wd := wd) (bs := bs) T tb
  refine ⟨fd, def_D (N := ["thing", "other", "found", "rows", "first", "last", "e"]) F0 sc_Llaw_shared rfl ?_, F0.bindsN fun _ _ _ _ _ _ us hl => match us, hl with | [_, _], _ => rfl, F0.kp⟩
  intro cdv A fr s H E ds kk gd room hc hl
  have hu := room.units
  have hu7 := room70 room
  have sc := sc_Llaw_shared
  refine ⟨_, (pss_cons (ps_set (i := 2) sc.nd rfl (Or.inl rfl) (pe_lst (pa_cons (DC.pe_oexVK T.o_BadDay T.i_BadDay T.t_BadDay F_BadDay_init (room.mono (by decide)) kb_BadDay_init_1_given passL (by rfl) T.g_BadDay (pk_cons (pv 0) pk_nil)) (pa_cons (DC.pe_oexVK T.o_BadCause T.i_BadCause T.t_BadCause F_BadCause_init (room.mono (by decide)) kb_BadCause_init_1_given passL (by rfl) T.g_BadCause (pk_cons (pv 0) pk_nil)) (pa_cons (DC.pe_oexVK T.o_BadPostings T.i_BadPostings T.t_BadPostings F_BadPostings_init (room.mono (by decide)) kb_BadPostings_init_1_given passL (by rfl) T.g_BadPostings (pk_cons (pv 0) pk_nil)) (pa_cons (DC.pe_oexVK T.o_BadAccount T.i_BadAccount T.t_BadAccount F_BadAccount_init (room.mono (by decide)) kb_BadAccount_init_1_given passL (by rfl) T.g_BadAccount (pk_cons (pv 0) pk_nil)) pa_nil))))))
  (pss_cons (ps_set (i := 2) sc.nd rfl (Or.inl rfl) (pe_op o_add (pv 2) (pe_lst (pa_cons (DC.pe_oexVK T.o_BadAmount T.i_BadAmount T.t_BadAmount F_BadAmount_init (room.mono (by decide)) kb_BadAmount_init_1_given passL (by rfl) T.g_BadAmount (pk_cons (pv 0) pk_nil)) (pa_cons (DC.pe_oexVK T.o_BadUnit T.i_BadUnit T.t_BadUnit F_BadUnit_init (room.mono (by decide)) kb_BadUnit_init_1_given passL (by rfl) T.g_BadUnit (pk_cons (pv 0) pk_nil)) (pa_cons (DC.pe_oexVK T.o_BadOwner T.i_BadOwner T.t_BadOwner F_BadOwner_init (room.mono (by decide)) kb_BadOwner_init_1_given passL (by rfl) T.g_BadOwner (pk_cons (pv 0) pk_nil)) (pa_cons (DC.pe_oexVK T.o_BadName T.i_BadName T.t_BadName F_BadName_init (room.mono (by decide)) kb_BadName_init_1_given passL (by rfl) T.g_BadName (pk_cons (pv 0) pk_nil)) pa_nil)))))))
  (pss_cons (ps_set (i := 2) sc.nd rfl (Or.inl rfl) (pe_op o_add (pv 2) (pe_lst (pa_cons (DC.pe_oexVK T.o_BadPrice T.i_BadPrice T.t_BadPrice F_BadPrice_init (room.mono (by decide)) kb_BadPrice_init_1_given passL (by rfl) T.g_BadPrice (pk_cons (pv 0) pk_nil)) (pa_cons (DC.pe_oexVK T.o_BadRow T.i_BadRow T.t_BadRow F_BadRow_init (room.mono (by decide)) kb_BadRow_init_1_given passL (by rfl) T.g_BadRow (pk_cons (pv 0) pk_nil)) (pa_cons (DC.pe_oexVK T.o_BadStatement T.i_BadStatement T.t_BadStatement F_BadStatement_init (room.mono (by decide)) kb_BadStatement_init_1_given passL (by rfl) T.g_BadStatement (pk_cons (pv 0) pk_nil)) (pa_cons (DC.pe_oexVK T.o_NotCarried T.i_NotCarried T.t_NotCarried F_NotCarried_init (room.mono (by decide)) kb_NotCarried_init_1_given passL (by rfl) T.g_NotCarried (pk_cons (pv 0) pk_nil)) pa_nil)))))))
  (pss_cons (ps_setLc (i := 3) (own := [("e", 6)]) (g := (gName 6)) (tt := tYes) (by rfl) sc.nd rfl rfl (sw_true rfl rfl rfl (by decide +kernel)) (pi_list (pe_op o_add (pv 2) (pe_lst (pa_cons (DC.pe_oexVK T.o_NotWhole T.i_NotWhole T.t_NotWhole F_NotWhole_init (room.mono (by decide)) kb_NotWhole_init_1_given passL (by rfl) T.g_NotWhole (pk_cons (pv 0) pk_nil)) pa_nil)))) (blkOk_by (own := [("e", 6)]) (N := ["thing", "other", "found", "rows", "first", "last", "e"]) (sc := defScope s_Llaw_shared) (by decide +kernel)) (fun _ _ _ _ _ => (pg_name (i := 6) sc.nd rfl (Or.inl rfl))) (fun _ _ _ _ _ => pts_nil) (fun _ _ _ _ _ => (pe_lst (pa_cons (pv 6) (pa_cons (pe_lst (pa_cons (DC.pe_xfVK rfl (pv 6)) pa_nil)) (pa_cons (pe_lst (pa_cons (pv 0) pa_nil)) pa_nil))))))
  (pss_cons (ps_par (i := 4) (j := 5) (by rfl) sc.nd rfl rfl (by decide) rfl rfl (pa_cons (DC.pe_oexVK T.o_Unbalanced T.i_Unbalanced T.t_Unbalanced F_Unbalanced_init (room.mono (by decide)) kb_Unbalanced_init_1_off_given passL (by rfl) T.g_Unbalanced (pk_cons (pv 1) (pk_cons (pv 0) pk_nil))) (pa_cons (DC.pe_oexVK T.o_BadLine T.i_BadLine T.t_BadLine F_BadLine_init (room.mono (by decide)) kb_BadLine_init_1_line passL (by rfl) T.g_BadLine (pk_cons (pv 0) pk_nil)) pa_nil)) (by rfl))
  (pss_cons (ps_set (i := 3) sc.nd rfl (Or.inl rfl) (pe_op o_add (pv 3) (pe_lst (pa_cons (pe_lst (pa_cons (pv 4) (pa_cons (pe_lst (pa_cons (DC.pe_xfVK rfl (pv 4)) (pa_cons (DC.pe_xfVK rfl (pv 4)) pa_nil))) (pa_cons (pe_lst (pa_cons (pv 0) (pa_cons (pv 1) pa_nil))) pa_nil)))) (pa_cons (pe_lst (pa_cons (pv 5) (pa_cons (pe_lst (pa_cons (DC.pe_xfVK rfl (pv 5)) pa_nil)) (pa_cons (pe_lst (pa_cons (pv 0) pa_nil)) pa_nil)))) pa_nil)))))
  (pss_one (ps_ret (pe_op o_add (pv 3) (pe_lc (own := [("e", 6)]) (g := (gName 6)) (tt := tYes) (by rfl) sc.nd (pi_list (pe_lst (pa_cons (DC.pe_exb PySem.F.excBase_ValueError T.e_BadText.1 T.g_BadText T.e_BadText.2.1 (by rfl)) (pa_cons (DC.pe_exb PySem.F.excBase_ValueError T.e_NothingToUndo.1 T.g_NothingToUndo T.e_NothingToUndo.2.1 (by rfl)) (pa_cons (DC.pe_exb PySem.F.excBase_ValueError T.e_NothingToRedo.1 T.g_NothingToRedo T.e_NothingToRedo.2.1 (by rfl)) pa_nil))))) (blkOk_by (own := [("e", 6)]) (N := ["thing", "other", "found", "rows", "first", "last", "e"]) (sc := defScope s_Llaw_shared) (by decide +kernel)) (fun _ _ _ _ _ => (pg_name (i := 6) sc.nd rfl (Or.inl rfl))) (fun _ _ _ _ _ => pts_nil) (fun _ _ _ _ _ => (pe_lst (pa_cons (pv 6) (pa_cons (pe_lst pa_nil) (pa_cons (pe_lst pa_nil) pa_nil))))))))))))))), ?_⟩
  try dsimp only [L2.cxOf]
  obtain ⟨t, o, rfl, q⟩ := hc
  refine ws_seq ?_
  refine ws_asg (by walk_at "px") ?_
  walk_at "ex"
  refine w_oexVK1 (c := "BadDay") (f := "given") ?_
  walk_at "ex"
  refine ⟨rfl, _, rfl, rfl, T.o_BadDay, T.no_BadDay_given, ?_⟩
  walk_at "ex"
  refine w_oexVK1 (c := "BadCause") (f := "given") ?_
  walk_at "ex"
  refine ⟨rfl, _, rfl, rfl, T.o_BadCause, T.no_BadCause_given, ?_⟩
  walk_at "ex"
  refine w_oexVK1 (c := "BadPostings") (f := "given") ?_
  walk_at "ex"
  refine ⟨rfl, _, rfl, rfl, T.o_BadPostings, T.no_BadPostings_given, ?_⟩
  walk_at "ex"
  refine w_oexVK1 (c := "BadAccount") (f := "given") ?_
  walk_at "ex"
  refine ⟨rfl, _, rfl, rfl, T.o_BadAccount, T.no_BadAccount_given, ?_⟩
  walk_at "ex"
  show WS _ _ _ _
  refine ws_seq ?_
  refine ws_asg (by walk_at "px") ?_
  walk_at "ex"
  refine w_oexVK1 (c := "BadAmount") (f := "given") ?_
  walk_at "ex"
  refine ⟨rfl, _, rfl, rfl, T.o_BadAmount, T.no_BadAmount_given, ?_⟩
  walk_at "ex"
  refine w_oexVK1 (c := "BadUnit") (f := "given") ?_
  walk_at "ex"
  refine ⟨rfl, _, rfl, rfl, T.o_BadUnit, T.no_BadUnit_given, ?_⟩
  walk_at "ex"
  refine w_oexVK1 (c := "BadOwner") (f := "given") ?_
  walk_at "ex"
  refine ⟨rfl, _, rfl, rfl, T.o_BadOwner, T.no_BadOwner_given, ?_⟩
  walk_at "ex"
  refine w_oexVK1 (c := "BadName") (f := "given") ?_
  walk_at "ex"
  refine ⟨rfl, _, rfl, rfl, T.o_BadName, T.no_BadName_given, ?_⟩
  walk_at "ex"
  refine rd_addL (.lst _) (.lst _) (by show 4 + 4 ≤ 100000; decide) ?_
  show WS _ _ _ _
  refine ws_seq ?_
  refine ws_asg (by walk_at "px") ?_
  walk_at "ex"
  refine w_oexVK1 (c := "BadPrice") (f := "given") ?_
  walk_at "ex"
  refine ⟨rfl, _, rfl, rfl, T.o_BadPrice, T.no_BadPrice_given, ?_⟩
  walk_at "ex"
  refine w_oexVK1 (c := "BadRow") (f := "given") ?_
  walk_at "ex"
  refine ⟨rfl, _, rfl, rfl, T.o_BadRow, T.no_BadRow_given, ?_⟩
  walk_at "ex"
  refine w_oexVK1 (c := "BadStatement") (f := "given") ?_
  walk_at "ex"
  refine ⟨rfl, _, rfl, rfl, T.o_BadStatement, T.no_BadStatement_given, ?_⟩
  walk_at "ex"
  refine w_oexVK1 (c := "NotCarried") (f := "given") ?_
  walk_at "ex"
  refine ⟨rfl, _, rfl, rfl, T.o_NotCarried, T.no_NotCarried_given, ?_⟩
  walk_at "ex"
  refine rd_addL (.lst _) (.lst _) (by show 8 + 4 ≤ 100000; decide) ?_
  show WS _ _ _ _
  have noG : ∀ c ∈ sharedL, XfC K (He.ga K c) ∧ PySem.W.findIn K (.ref (He.ga K c)) "given" = some none := fun c hc => by
    simp only [sharedL, List.mem_cons, List.not_mem_nil, or_false] at hc
    rcases hc with rfl | rfl | rfl | rfl | rfl | rfl | rfl | rfl | rfl | rfl | rfl | rfl | rfl
    · exact ⟨T.x_BadDay, T.no_BadDay_given⟩
    · exact ⟨T.x_BadCause, T.no_BadCause_given⟩
    · exact ⟨T.x_BadPostings, T.no_BadPostings_given⟩
    · exact ⟨T.x_BadAccount, T.no_BadAccount_given⟩
    · exact ⟨T.x_BadAmount, T.no_BadAmount_given⟩
    · exact ⟨T.x_BadUnit, T.no_BadUnit_given⟩
    · exact ⟨T.x_BadOwner, T.no_BadOwner_given⟩
    · exact ⟨T.x_BadName, T.no_BadName_given⟩
    · exact ⟨T.x_BadPrice, T.no_BadPrice_given⟩
    · exact ⟨T.x_BadRow, T.no_BadRow_given⟩
    · exact ⟨T.x_BadStatement, T.no_BadStatement_given⟩
    · exact ⟨T.x_NotCarried, T.no_NotCarried_given⟩
    · exact ⟨T.x_NotWhole, T.no_NotWhole_given⟩
  refine ws_seq ?_
  refine ws_asg (by walk_at "px") ?_
  refine w_lcA (xs := sharedL) (r := fun c => .exv c [("given", t)]) (f := fun c => some (rowE (.exv c [("given", t)]) [t])) (by walk_at "px") (nameOk_none rfl) ?_
  refine wi_list ?_
  walk_at "ex"
  refine w_oexVK1 (c := "NotWhole") (f := "given") ?_
  walk_at "ex"
  refine ⟨rfl, _, rfl, rfl, T.o_NotWhole, T.no_NotWhole_given, ?_⟩
  walk_at "ex"
  refine rd_addL (.lst _) (.lst _) (by show 12 + 1 ≤ 100000; decide) ?_
  refine ⟨_, rfl, rfl, rfl, by decide, fun c hc => ?_, ?_⟩
  · refine wt_yes ⟨rfl, ?_⟩
    rw [if_pos rfl]
    walk_at "ex"
    refine w_xfV ?_
    walk_at "ex"
    refine ⟨c, [("given", t)], t, rfl, (noG c hc).1, (noG c hc).2, rfl, ?_⟩
    walk_at "ex"
    exact ⟨rfl, rfl⟩
  rw [fm_some]
  show WS _ _ _ _
  refine ws_seq ?_
  refine ws_par (by walk_at "px") (by walk_at "px") ?_
  walk_at "ex"
  refine w_oexVK2 (c := "Unbalanced") (f := "given") (g := "off") ?_
  walk_at "ex"
  refine ⟨rfl, _, _, rfl, rfl, T.o_Unbalanced, T.no_Unbalanced_given, T.no_Unbalanced_off, ?_⟩
  walk_at "ex"
  refine w_oexVK1 (c := "BadLine") (f := "line") ?_
  walk_at "ex"
  refine ⟨rfl, _, rfl, rfl, T.o_BadLine, T.no_BadLine_line, ?_⟩
  walk_at "ex"
  refine ⟨_, _, rfl, ?_⟩
  show WS _ _ _ _
  refine ws_seq ?_
  refine ws_asg (by walk_at "px") ?_
  walk_at "ex"
  refine w_xfV ?_
  walk_at "ex"
  refine ⟨"Unbalanced", [("off", o), ("given", t)], t, rfl, T.x_Unbalanced, T.no_Unbalanced_given, rfl, ?_⟩
  walk_at "ex"
  refine w_xfV ?_
  walk_at "ex"
  refine ⟨"Unbalanced", [("off", o), ("given", t)], o, rfl, T.x_Unbalanced, T.no_Unbalanced_off, rfl, ?_⟩
  walk_at "ex"
  refine w_xfV ?_
  walk_at "ex"
  refine ⟨"BadLine", [("line", t)], t, rfl, T.x_BadLine, T.no_BadLine_line, rfl, ?_⟩
  walk_at "ex"
  refine rd_addL (.lst _) (.lst _) (by show 13 + 2 ≤ 100000; decide) ?_
  show WS _ _ _ _
  refine ws_ret ?_
  walk_at "ex"
  refine w_lcA (xs := bare3L) (r := fun c => .exb c) (f := fun c => some (rowE (.exb c) [])) (by walk_at "px") (nameOk_none rfl) ?_
  refine wi_list ?_
  walk_at "ex"
  refine w_exb (c := "BadText") rfl ?_
  walk_at "ex"
  refine w_exb (c := "NothingToUndo") rfl ?_
  walk_at "ex"
  refine w_exb (c := "NothingToRedo") rfl ?_
  walk_at "ex"
  refine ⟨rfl, rfl, by decide, fun c hc => ?_, ?_⟩
  · refine wt_yes ⟨rfl, ?_⟩
    rw [if_pos rfl]
    walk_at "ex"
    exact ⟨rfl, rfl⟩
  rw [fm_some]
  refine rd_addL (.lst _) (.lst _) (by show 15 + 3 ≤ 100000; decide) ?_
  exact q
end K48

namespace K48
open PySem PySem.Spec PyProof.Rows L2 DL
variable {prg : Program} {wd : World} {K : PySem.W.Frag} {mg : Str → Option Value} {bs : Heap}
local macro_rules | `(tactic| walk_at "px") => `(tactic| first | exact List.not_mem_nil | (show _ ∉ ([0] : List Nat); decide) | (show _ ∉ ([] : List Nat); decide) | fail)
local macro_rules | `(tactic| walk_at "s") => `(tactic| with_reducible first
  | refine ws_seq ?_ | refine ws_if ?_ | refine ws_next ?_ | refine ws_ret ?_ | refine ws_retN ?_ | refine ws_asg (by walk_at "px") ?_ | refine ws_par (by walk_at "px") (by walk_at "px") ?_
  | refine w_var (by with_unfolding_all rfl) ?_ | refine w_int ?_ | refine w_bl ?_ | refine w_non ?_ | refine w_str ?_ | refine w_dnew ?_ | refine w_ty ?_
  | refine w_op ?_ | refine w_un ?_ | refine w_fld ?_ | refine w_xf ?_ | refine wt_test ?_ | refine wt_B ?_ | refine wt_yes ?_ | refine wt_and ?_ | refine wt_or ?_ | refine wt_not ?_ | refine w_andV ?_ | refine w_orV ?_ | refine w_notV ?_ | refine w_ifE ?_ | refine w_chain ?_
  | refine wa_nil ?_ | refine wa_cons ?_ | refine w_tup ?_ | refine w_lst ?_ | refine w_slice ?_ | refine w_dget ?_ | refine w_dget2 ?_ | refine w_dget1 ?_ | refine wp_no ?_ | refine wp_int ?_
  | refine w_cd repL_nil ?_ | refine w_md repL_nil ?_ | refine w_mk repL_nil ?_ | refine w_co repL_nil ⟨_, by with_unfolding_all rfl⟩ ?_ | refine w_call ?_
  | refine rd_add ?_ | refine rd_sub ?_ | refine rd_lt ?_ | refine rd_le ?_ | refine rd_gt ?_ | refine rd_ge ?_ | refine rd_ltS ?_ | refine rd_leS ?_ | refine rd_gtS ?_ | refine rd_geS ?_ | refine rd_isN ?_ | refine rd_notN ?_ | refine rd_eqAI ?_ | refine rd_neAI ?_ | refine rd_eqAS ?_ | refine rd_neAS ?_
  | refine wg_tup rfl ?_ | refine wgs_cons ?_ | refine wg_name (by walk_at "px") (by simp) ?_ | refine wgs_nil ?_
  | refine ru_neg ?_ | refine ⟨(by show List.length _ ≤ 100000; simp; try omega), ?_⟩
  | refine rc_abs ?_ | refine rc_int1 ?_ | refine rc_min2 ?_ | refine rc_max2 ?_
  | refine ⟨_, rfl, ?_⟩ | fail)
local macro_rules | `(tactic| walk_at "go") => `(tactic| repeat' walk_at "s")
local macro_rules | `(tactic| walk_at "args") => `(tactic| repeat' (with_reducible first | refine wa_cons ?_ | refine wa_nil ?_ | refine w_int ?_ | refine w_bl ?_ | refine w_non ?_ | refine w_str ?_ | refine w_dnew ?_ | refine w_tup ?_ | refine w_lst ?_ | refine w_un ?_ | refine ru_neg ?_ | refine w_var (by with_unfolding_all rfl) ?_ | refine ⟨(by show List.length _ ≤ 100000; simp; try omega), ?_⟩ | fail))
local macro_rules | `(tactic| walk_at "e") => `(tactic| with_reducible first
  | refine w_var (by with_unfolding_all rfl) ?_ | refine w_int ?_ | refine w_bl ?_ | refine w_non ?_ | refine w_str ?_ | refine w_dnew ?_ | refine w_ty ?_
  | refine w_op ?_ | refine w_un ?_ | refine w_fld ?_ | refine w_xf ?_ | refine wt_test ?_ | refine wt_B ?_ | refine wt_yes ?_ | refine wt_and ?_ | refine wt_or ?_ | refine wt_not ?_ | refine w_andV ?_ | refine w_orV ?_ | refine w_notV ?_ | refine w_ifE ?_ | refine w_chain ?_
  | refine wa_nil ?_ | refine wa_cons ?_ | refine w_tup ?_ | refine w_lst ?_ | refine w_slice ?_ | refine w_dget ?_ | refine w_dget2 ?_ | refine w_dget1 ?_ | refine wp_no ?_ | refine wp_int ?_
  | refine w_cd repL_nil ?_ | refine w_md repL_nil ?_ | refine w_mk repL_nil ?_ | refine w_co repL_nil ⟨_, by with_unfolding_all rfl⟩ ?_ | refine w_call ?_
  | refine rd_add ?_ | refine rd_sub ?_ | refine rd_lt ?_ | refine rd_le ?_ | refine rd_gt ?_ | refine rd_ge ?_ | refine rd_ltS ?_ | refine rd_leS ?_ | refine rd_gtS ?_ | refine rd_geS ?_ | refine rd_isN ?_ | refine rd_notN ?_ | refine rd_eqAI ?_ | refine rd_neAI ?_ | refine rd_eqAS ?_ | refine rd_neAS ?_
  | refine wg_tup rfl ?_ | refine wgs_cons ?_ | refine wg_name (by walk_at "px") (by simp) ?_ | refine wgs_nil ?_
  | refine ru_neg ?_ | refine ⟨(by show List.length _ ≤ 100000; simp; try omega), ?_⟩
  | refine rc_abs ?_ | refine rc_int1 ?_ | refine rc_min2 ?_ | refine rc_max2 ?_
  | refine ⟨_, rfl, ?_⟩ | fail)
local macro_rules | `(tactic| walk_at "ex") => `(tactic| repeat' walk_at "e")
local macro_rules | `(tactic| walk_at "a_") => `(tactic| (show WS _ _ _ _; (with_reducible try refine ws_seq ?_); with_reducible refine ws_asg (by walk_at "px") ?_; walk_at "ex"))
local macro_rules | `(tactic| walk_at "i_") => `(tactic| (show WS _ _ _ _; (with_reducible try refine ws_seq ?_); with_reducible refine ws_if ?_; walk_at "ex"))
local macro_rules | `(tactic| walk_at "d_") => `(tactic| (show WS _ _ _ _; (with_reducible try refine ws_seq ?_); with_reducible refine ws_drop ?_; walk_at "ex"))
local macro_rules | `(tactic| walk_at "r_") => `(tactic| (show WS _ _ _ _; with_reducible refine ws_ret ?_; walk_at "ex"))
local macro_rules | `(tactic| walk_at "v_") => `(tactic| refine w_var (by with_unfolding_all rfl) ?_)

abbrev allL : List Str := ((["BadDay", "BadCause", "BadPostings", "BadAccount", "BadAmount", "BadUnit", "BadOwner", "BadName", "BadPrice", "BadRow", "BadStatement", "NotCarried", "NotWhole", "Unbalanced", "BadText", "BadLine", "NothingToUndo", "NothingToRedo", "BadNumber", "BadLegs", "BadDues", "BadHoldings", "BadQueues", "BadOwners", "NoDue", "Duplicate", "NotTogether", "Settles", "TooMany", "BadOrder"] : List Str) ++ ((["BadSide", "NameTaken", "UnknownOrder", "Crossing", "BadBid", "TooManyBids", "BidTaken", "BothSides", "NoClearing", "BadWidth", "UnknownBid", "Cleared", "BadPosition", "BadPrices", "UnknownUnit", "BadMove", "BadCount", "BadStanding", "BadClosing", "BadRules", "BadFact", "BadFacts", "NoSlip", "Filled", "NoDeed", "DayClosed", "NoTrade", "NotKnown", "BadQuestion", "ManySlips"] : List Str) ++ ((["BadLots", "BadCost", "BadWay", "NotThere", "BadEvent", "BadIndex", "BadPool", "UnlikeUnits", "NoUnit", "NoShares", "BadDebt", "NoDebtor", "BadViewer", "Hidden"] : List Str))) : List Str)
abbrev firstL : List Str := ["BadWidth", "UnknownBid", "BadBid", "TooManyBids", "BidTaken", "BothSides", "BadClosing", "BadMove", "BadStanding", "BadNumber", "BadLegs", "BadDues", "BadHoldings", "BadQueues", "BadOwners", "NoDue", "Duplicate", "NotTogether", "Settles", "BadRules", "BadFact", "BadFacts", "NoSlip", "Filled", "NoDeed", "DayClosed", "NoTrade", "NotKnown"]

def c_Llaw_first_kinds : CD := ⟨fun ds k => ∃ x c, ds = [x] ∧ c ∈ allL ∧ ((∃ fs, x = .exv c fs) ∨ x = .exb c) ∧ k (.ret (.sh (.lst (firstL.map fun b => .bl (decide (c = b)))))), by
  rintro ds k k' h ⟨x, c, e, m, z, q⟩
  exact ⟨x, c, e, m, z, h _ q⟩⟩
theorem sc_Llaw_first_kinds : FnScope ["e", "flags"] ["e"] (defScope s_Llaw_first_kinds) := ⟨rfl, rfl, rfl, by decide +kernel, rfl, by decide +kernel, by decide +kernel⟩
theorem ok_Llaw_first_kinds (T : Tx K mg) (tb : ∀ p ∈ csOf K, LamX.TabB bs mg p.1 p.2) : ∃ fd, DC.FnG prg wd K mg bs (L2.CX prg wd) 1 (He.ga K "_law_first_kinds") fd ["e"] (toSp K 1 c_Llaw_first_kinds.con) ∧ L2.Binds K fd ["e"] [] ∧ PySem.W.keepIn K (.ref (He.ga K "_law_first_kinds")) = true := by
  obtain ⟨fd, F0⟩ := T.d_Llaw_first_kinds
  refine ⟨fd, def_D (N := ["e", "flags"]) F0 sc_Llaw_first_kinds rfl ?_, F0.bindsN fun _ _ _ _ _ _ us hl => match us, hl with | [_], _ => rfl, F0.kp⟩
  intro cdv A fr s H E ds kk gd room hc hl
  have hu := room.units
  have hu7 := room70 room
  have sc := sc_Llaw_first_kinds
  refine ⟨_, (pss_cons (ps_set (i := 1) sc.nd rfl (Or.inl rfl) (pe_lst (pa_cons (pe_callB DC.call_isV (by rfl) T.n_isinstance (by decide +kernel) (pa_cons (pv 0) (pa_cons (pe_glob (by rfl) T.g_BadWidth (show RelV (.ref _) (.ref _) from rfl)) pa_nil))) (pa_cons (pe_callB DC.call_isV (by rfl) T.n_isinstance (by decide +kernel) (pa_cons (pv 0) (pa_cons (pe_glob (by rfl) T.g_UnknownBid (show RelV (.ref _) (.ref _) from rfl)) pa_nil))) (pa_cons (pe_callB DC.call_isV (by rfl) T.n_isinstance (by decide +kernel) (pa_cons (pv 0) (pa_cons (pe_glob (by rfl) T.g_BadBid (show RelV (.ref _) (.ref _) from rfl)) pa_nil))) (pa_cons (pe_callB DC.call_isV (by rfl) T.n_isinstance (by decide +kernel) (pa_cons (pv 0) (pa_cons (pe_glob (by rfl) T.g_TooManyBids (show RelV (.ref _) (.ref _) from rfl)) pa_nil))) pa_nil))))))
  (pss_cons (ps_set (i := 1) sc.nd rfl (Or.inl rfl) (pe_op o_add (pv 1) (pe_lst (pa_cons (pe_callB DC.call_isV (by rfl) T.n_isinstance (by decide +kernel) (pa_cons (pv 0) (pa_cons (pe_glob (by rfl) T.g_BidTaken (show RelV (.ref _) (.ref _) from rfl)) pa_nil))) (pa_cons (pe_callB DC.call_isV (by rfl) T.n_isinstance (by decide +kernel) (pa_cons (pv 0) (pa_cons (pe_glob (by rfl) T.g_BothSides (show RelV (.ref _) (.ref _) from rfl)) pa_nil))) (pa_cons (pe_callB DC.call_isV (by rfl) T.n_isinstance (by decide +kernel) (pa_cons (pv 0) (pa_cons (pe_glob (by rfl) T.g_BadClosing (show RelV (.ref _) (.ref _) from rfl)) pa_nil))) pa_nil))))))
  (pss_cons (ps_set (i := 1) sc.nd rfl (Or.inl rfl) (pe_op o_add (pv 1) (pe_lst (pa_cons (pe_callB DC.call_isV (by rfl) T.n_isinstance (by decide +kernel) (pa_cons (pv 0) (pa_cons (pe_glob (by rfl) T.g_BadMove (show RelV (.ref _) (.ref _) from rfl)) pa_nil))) (pa_cons (pe_callB DC.call_isV (by rfl) T.n_isinstance (by decide +kernel) (pa_cons (pv 0) (pa_cons (pe_glob (by rfl) T.g_BadStanding (show RelV (.ref _) (.ref _) from rfl)) pa_nil))) (pa_cons (pe_callB DC.call_isV (by rfl) T.n_isinstance (by decide +kernel) (pa_cons (pv 0) (pa_cons (pe_glob (by rfl) T.g_BadNumber (show RelV (.ref _) (.ref _) from rfl)) pa_nil))) pa_nil))))))
  (pss_cons (ps_set (i := 1) sc.nd rfl (Or.inl rfl) (pe_op o_add (pv 1) (pe_lst (pa_cons (pe_callB DC.call_isV (by rfl) T.n_isinstance (by decide +kernel) (pa_cons (pv 0) (pa_cons (pe_glob (by rfl) T.g_BadLegs (show RelV (.ref _) (.ref _) from rfl)) pa_nil))) (pa_cons (pe_callB DC.call_isV (by rfl) T.n_isinstance (by decide +kernel) (pa_cons (pv 0) (pa_cons (pe_glob (by rfl) T.g_BadDues (show RelV (.ref _) (.ref _) from rfl)) pa_nil))) (pa_cons (pe_callB DC.call_isV (by rfl) T.n_isinstance (by decide +kernel) (pa_cons (pv 0) (pa_cons (pe_glob (by rfl) T.g_BadHoldings (show RelV (.ref _) (.ref _) from rfl)) pa_nil))) pa_nil))))))
  (pss_cons (ps_set (i := 1) sc.nd rfl (Or.inl rfl) (pe_op o_add (pv 1) (pe_lst (pa_cons (pe_callB DC.call_isV (by rfl) T.n_isinstance (by decide +kernel) (pa_cons (pv 0) (pa_cons (pe_glob (by rfl) T.g_BadQueues (show RelV (.ref _) (.ref _) from rfl)) pa_nil))) (pa_cons (pe_callB DC.call_isV (by rfl) T.n_isinstance (by decide +kernel) (pa_cons (pv 0) (pa_cons (pe_glob (by rfl) T.g_BadOwners (show RelV (.ref _) (.ref _) from rfl)) pa_nil))) (pa_cons (pe_callB DC.call_isV (by rfl) T.n_isinstance (by decide +kernel) (pa_cons (pv 0) (pa_cons (pe_glob (by rfl) T.g_NoDue (show RelV (.ref _) (.ref _) from rfl)) pa_nil))) pa_nil))))))
  (pss_cons (ps_set (i := 1) sc.nd rfl (Or.inl rfl) (pe_op o_add (pv 1) (pe_lst (pa_cons (pe_callB DC.call_isV (by rfl) T.n_isinstance (by decide +kernel) (pa_cons (pv 0) (pa_cons (pe_glob (by rfl) T.g_Duplicate (show RelV (.ref _) (.ref _) from rfl)) pa_nil))) (pa_cons (pe_callB DC.call_isV (by rfl) T.n_isinstance (by decide +kernel) (pa_cons (pv 0) (pa_cons (pe_glob (by rfl) T.g_NotTogether (show RelV (.ref _) (.ref _) from rfl)) pa_nil))) (pa_cons (pe_callB DC.call_isV (by rfl) T.n_isinstance (by decide +kernel) (pa_cons (pv 0) (pa_cons (pe_glob (by rfl) T.g_Settles (show RelV (.ref _) (.ref _) from rfl)) pa_nil))) pa_nil))))))
  (pss_cons (ps_set (i := 1) sc.nd rfl (Or.inl rfl) (pe_op o_add (pv 1) (pe_lst (pa_cons (pe_callB DC.call_isV (by rfl) T.n_isinstance (by decide +kernel) (pa_cons (pv 0) (pa_cons (pe_glob (by rfl) T.g_BadRules (show RelV (.ref _) (.ref _) from rfl)) pa_nil))) (pa_cons (pe_callB DC.call_isV (by rfl) T.n_isinstance (by decide +kernel) (pa_cons (pv 0) (pa_cons (pe_glob (by rfl) T.g_BadFact (show RelV (.ref _) (.ref _) from rfl)) pa_nil))) (pa_cons (pe_callB DC.call_isV (by rfl) T.n_isinstance (by decide +kernel) (pa_cons (pv 0) (pa_cons (pe_glob (by rfl) T.g_BadFacts (show RelV (.ref _) (.ref _) from rfl)) pa_nil))) pa_nil))))))
  (pss_cons (ps_set (i := 1) sc.nd rfl (Or.inl rfl) (pe_op o_add (pv 1) (pe_lst (pa_cons (pe_callB DC.call_isV (by rfl) T.n_isinstance (by decide +kernel) (pa_cons (pv 0) (pa_cons (pe_glob (by rfl) T.g_NoSlip (show RelV (.ref _) (.ref _) from rfl)) pa_nil))) (pa_cons (pe_callB DC.call_isV (by rfl) T.n_isinstance (by decide +kernel) (pa_cons (pv 0) (pa_cons (pe_glob (by rfl) T.g_Filled (show RelV (.ref _) (.ref _) from rfl)) pa_nil))) (pa_cons (pe_callB DC.call_isV (by rfl) T.n_isinstance (by decide +kernel) (pa_cons (pv 0) (pa_cons (pe_glob (by rfl) T.g_NoDeed (show RelV (.ref _) (.ref _) from rfl)) pa_nil))) (pa_cons (pe_callB DC.call_isV (by rfl) T.n_isinstance (by decide +kernel) (pa_cons (pv 0) (pa_cons (pe_glob (by rfl) T.g_DayClosed (show RelV (.ref _) (.ref _) from rfl)) pa_nil))) pa_nil)))))))
  (pss_cons (ps_set (i := 1) sc.nd rfl (Or.inl rfl) (pe_op o_add (pv 1) (pe_lst (pa_cons (pe_callB DC.call_isV (by rfl) T.n_isinstance (by decide +kernel) (pa_cons (pv 0) (pa_cons (pe_glob (by rfl) T.g_NoTrade (show RelV (.ref _) (.ref _) from rfl)) pa_nil))) (pa_cons (pe_callB DC.call_isV (by rfl) T.n_isinstance (by decide +kernel) (pa_cons (pv 0) (pa_cons (pe_glob (by rfl) T.g_NotKnown (show RelV (.ref _) (.ref _) from rfl)) pa_nil))) pa_nil)))))
  (pss_one (ps_ret (pv 1)))))))))))), ?_⟩
  try dsimp only [L2.cxOf]
  obtain ⟨x, c, rfl, hcm, hx, q⟩ := hc
  have hk : L2.ExcC K (He.ga K c) ∧ ∀ b ∈ allL, PySem.W.kitOne K (.ref (He.ga K c)) (.ref (He.ga K b)) = some (decide (c = b)) := ⟨(T.isall c hcm).1, (T.isall c hcm).2.2.2⟩
  refine ws_seq ?_
  refine ws_asg (by walk_at "px") ?_
  walk_at "ex"
  refine w_fun ?_
  walk_at "ex"
  refine rc_isV hx (.inl ⟨_, rfl, rfl⟩) hk.1 (hk.2 "BadWidth" (by decide +kernel)) ?_
  walk_at "ex"
  refine w_fun ?_
  walk_at "ex"
  refine rc_isV hx (.inl ⟨_, rfl, rfl⟩) hk.1 (hk.2 "UnknownBid" (by decide +kernel)) ?_
  walk_at "ex"
  refine w_fun ?_
  walk_at "ex"
  refine rc_isV hx (.inl ⟨_, rfl, rfl⟩) hk.1 (hk.2 "BadBid" (by decide +kernel)) ?_
  walk_at "ex"
  refine w_fun ?_
  walk_at "ex"
  refine rc_isV hx (.inl ⟨_, rfl, rfl⟩) hk.1 (hk.2 "TooManyBids" (by decide +kernel)) ?_
  walk_at "ex"
  show WS _ _ _ _
  refine ws_seq ?_
  refine ws_asg (by walk_at "px") ?_
  walk_at "ex"
  refine w_fun ?_
  walk_at "ex"
  refine rc_isV hx (.inl ⟨_, rfl, rfl⟩) hk.1 (hk.2 "BidTaken" (by decide +kernel)) ?_
  walk_at "ex"
  refine w_fun ?_
  walk_at "ex"
  refine rc_isV hx (.inl ⟨_, rfl, rfl⟩) hk.1 (hk.2 "BothSides" (by decide +kernel)) ?_
  walk_at "ex"
  refine w_fun ?_
  walk_at "ex"
  refine rc_isV hx (.inl ⟨_, rfl, rfl⟩) hk.1 (hk.2 "BadClosing" (by decide +kernel)) ?_
  walk_at "ex"
  refine rd_addL (.lst _) (.lst _) (by show 4 + 3 ≤ 100000; decide) ?_
  show WS _ _ _ _
  refine ws_seq ?_
  refine ws_asg (by walk_at "px") ?_
  walk_at "ex"
  refine w_fun ?_
  walk_at "ex"
  refine rc_isV hx (.inl ⟨_, rfl, rfl⟩) hk.1 (hk.2 "BadMove" (by decide +kernel)) ?_
  walk_at "ex"
  refine w_fun ?_
  walk_at "ex"
  refine rc_isV hx (.inl ⟨_, rfl, rfl⟩) hk.1 (hk.2 "BadStanding" (by decide +kernel)) ?_
  walk_at "ex"
  refine w_fun ?_
  walk_at "ex"
  refine rc_isV hx (.inl ⟨_, rfl, rfl⟩) hk.1 (hk.2 "BadNumber" (by decide +kernel)) ?_
  walk_at "ex"
  refine rd_addL (.lst _) (.lst _) (by show 7 + 3 ≤ 100000; decide) ?_
  show WS _ _ _ _
  refine ws_seq ?_
  refine ws_asg (by walk_at "px") ?_
  walk_at "ex"
  refine w_fun ?_
  walk_at "ex"
  refine rc_isV hx (.inl ⟨_, rfl, rfl⟩) hk.1 (hk.2 "BadLegs" (by decide +kernel)) ?_
  walk_at "ex"
  refine w_fun ?_
  walk_at "ex"
  refine rc_isV hx (.inl ⟨_, rfl, rfl⟩) hk.1 (hk.2 "BadDues" (by decide +kernel)) ?_
  walk_at "ex"
  refine w_fun ?_
  walk_at "ex"
  refine rc_isV hx (.inl ⟨_, rfl, rfl⟩) hk.1 (hk.2 "BadHoldings" (by decide +kernel)) ?_
  walk_at "ex"
  refine rd_addL (.lst _) (.lst _) (by show 10 + 3 ≤ 100000; decide) ?_
  show WS _ _ _ _
  refine ws_seq ?_
  refine ws_asg (by walk_at "px") ?_
  walk_at "ex"
  refine w_fun ?_
  walk_at "ex"
  refine rc_isV hx (.inl ⟨_, rfl, rfl⟩) hk.1 (hk.2 "BadQueues" (by decide +kernel)) ?_
  walk_at "ex"
  refine w_fun ?_
  walk_at "ex"
  refine rc_isV hx (.inl ⟨_, rfl, rfl⟩) hk.1 (hk.2 "BadOwners" (by decide +kernel)) ?_
  walk_at "ex"
  refine w_fun ?_
  walk_at "ex"
  refine rc_isV hx (.inl ⟨_, rfl, rfl⟩) hk.1 (hk.2 "NoDue" (by decide +kernel)) ?_
  walk_at "ex"
  refine rd_addL (.lst _) (.lst _) (by show 13 + 3 ≤ 100000; decide) ?_
  show WS _ _ _ _
  refine ws_seq ?_
  refine ws_asg (by walk_at "px") ?_
  walk_at "ex"
  refine w_fun ?_
  walk_at "ex"
  refine rc_isV hx (.inl ⟨_, rfl, rfl⟩) hk.1 (hk.2 "Duplicate" (by decide +kernel)) ?_
  walk_at "ex"
  refine w_fun ?_
  walk_at "ex"
  refine rc_isV hx (.inl ⟨_, rfl, rfl⟩) hk.1 (hk.2 "NotTogether" (by decide +kernel)) ?_
  walk_at "ex"
  refine w_fun ?_
  walk_at "ex"
  refine rc_isV hx (.inl ⟨_, rfl, rfl⟩) hk.1 (hk.2 "Settles" (by decide +kernel)) ?_
  walk_at "ex"
  refine rd_addL (.lst _) (.lst _) (by show 16 + 3 ≤ 100000; decide) ?_
  show WS _ _ _ _
  refine ws_seq ?_
  refine ws_asg (by walk_at "px") ?_
  walk_at "ex"
  refine w_fun ?_
  walk_at "ex"
  refine rc_isV hx (.inl ⟨_, rfl, rfl⟩) hk.1 (hk.2 "BadRules" (by decide +kernel)) ?_
  walk_at "ex"
  refine w_fun ?_
  walk_at "ex"
  refine rc_isV hx (.inl ⟨_, rfl, rfl⟩) hk.1 (hk.2 "BadFact" (by decide +kernel)) ?_
  walk_at "ex"
  refine w_fun ?_
  walk_at "ex"
  refine rc_isV hx (.inl ⟨_, rfl, rfl⟩) hk.1 (hk.2 "BadFacts" (by decide +kernel)) ?_
  walk_at "ex"
  refine rd_addL (.lst _) (.lst _) (by show 19 + 3 ≤ 100000; decide) ?_
  show WS _ _ _ _
  refine ws_seq ?_
  refine ws_asg (by walk_at "px") ?_
  walk_at "ex"
  refine w_fun ?_
  walk_at "ex"
  refine rc_isV hx (.inl ⟨_, rfl, rfl⟩) hk.1 (hk.2 "NoSlip" (by decide +kernel)) ?_
  walk_at "ex"
  refine w_fun ?_
  walk_at "ex"
  refine rc_isV hx (.inl ⟨_, rfl, rfl⟩) hk.1 (hk.2 "Filled" (by decide +kernel)) ?_
  walk_at "ex"
  refine w_fun ?_
  walk_at "ex"
  refine rc_isV hx (.inl ⟨_, rfl, rfl⟩) hk.1 (hk.2 "NoDeed" (by decide +kernel)) ?_
  walk_at "ex"
  refine w_fun ?_
  walk_at "ex"
  refine rc_isV hx (.inl ⟨_, rfl, rfl⟩) hk.1 (hk.2 "DayClosed" (by decide +kernel)) ?_
  walk_at "ex"
  refine rd_addL (.lst _) (.lst _) (by show 22 + 4 ≤ 100000; decide) ?_
  show WS _ _ _ _
  refine ws_seq ?_
  refine ws_asg (by walk_at "px") ?_
  walk_at "ex"
  refine w_fun ?_
  walk_at "ex"
  refine rc_isV hx (.inl ⟨_, rfl, rfl⟩) hk.1 (hk.2 "NoTrade" (by decide +kernel)) ?_
  walk_at "ex"
  refine w_fun ?_
  walk_at "ex"
  refine rc_isV hx (.inl ⟨_, rfl, rfl⟩) hk.1 (hk.2 "NotKnown" (by decide +kernel)) ?_
  walk_at "ex"
  refine rd_addL (.lst _) (.lst _) (by show 26 + 2 ≤ 100000; decide) ?_
  show WS _ _ _ _
  refine ws_ret ?_
  walk_at "ex"
  exact q
end K48

namespace K48
open PySem PySem.Spec PyProof.Rows L2 DL
variable {prg : Program} {wd : World} {K : PySem.W.Frag} {mg : Str → Option Value} {bs : Heap}
local macro_rules | `(tactic| walk_at "px") => `(tactic| first | exact List.not_mem_nil | (show _ ∉ ([0] : List Nat); decide) | (show _ ∉ ([] : List Nat); decide) | fail)
local macro_rules | `(tactic| walk_at "s") => `(tactic| with_reducible first
  | refine ws_seq ?_ | refine ws_if ?_ | refine ws_next ?_ | refine ws_ret ?_ | refine ws_retN ?_ | refine ws_asg (by walk_at "px") ?_ | refine ws_par (by walk_at "px") (by walk_at "px") ?_
  | refine w_var (by with_unfolding_all rfl) ?_ | refine w_int ?_ | refine w_bl ?_ | refine w_non ?_ | refine w_str ?_ | refine w_dnew ?_ | refine w_ty ?_
  | refine w_op ?_ | refine w_un ?_ | refine w_fld ?_ | refine w_xf ?_ | refine wt_test ?_ | refine wt_B ?_ | refine wt_yes ?_ | refine wt_and ?_ | refine wt_or ?_ | refine wt_not ?_ | refine w_andV ?_ | refine w_orV ?_ | refine w_notV ?_ | refine w_ifE ?_ | refine w_chain ?_
  | refine wa_nil ?_ | refine wa_cons ?_ | refine w_tup ?_ | refine w_lst ?_ | refine w_slice ?_ | refine w_dget ?_ | refine w_dget2 ?_ | refine w_dget1 ?_ | refine wp_no ?_ | refine wp_int ?_
  | refine w_cd repL_nil ?_ | refine w_md repL_nil ?_ | refine w_mk repL_nil ?_ | refine w_co repL_nil ⟨_, by with_unfolding_all rfl⟩ ?_ | refine w_call ?_
  | refine rd_add ?_ | refine rd_sub ?_ | refine rd_lt ?_ | refine rd_le ?_ | refine rd_gt ?_ | refine rd_ge ?_ | refine rd_ltS ?_ | refine rd_leS ?_ | refine rd_gtS ?_ | refine rd_geS ?_ | refine rd_isN ?_ | refine rd_notN ?_ | refine rd_eqAI ?_ | refine rd_neAI ?_ | refine rd_eqAS ?_ | refine rd_neAS ?_
  | refine wg_tup rfl ?_ | refine wgs_cons ?_ | refine wg_name (by walk_at "px") (by simp) ?_ | refine wgs_nil ?_
  | refine ru_neg ?_ | refine ⟨(by show List.length _ ≤ 100000; simp; try omega), ?_⟩
  | refine rc_abs ?_ | refine rc_int1 ?_ | refine rc_min2 ?_ | refine rc_max2 ?_
  | refine ⟨_, rfl, ?_⟩ | fail)
local macro_rules | `(tactic| walk_at "go") => `(tactic| repeat' walk_at "s")
local macro_rules | `(tactic| walk_at "args") => `(tactic| repeat' (with_reducible first | refine wa_cons ?_ | refine wa_nil ?_ | refine w_int ?_ | refine w_bl ?_ | refine w_non ?_ | refine w_str ?_ | refine w_dnew ?_ | refine w_tup ?_ | refine w_lst ?_ | refine w_un ?_ | refine ru_neg ?_ | refine w_var (by with_unfolding_all rfl) ?_ | refine ⟨(by show List.length _ ≤ 100000; simp; try omega), ?_⟩ | fail))
local macro_rules | `(tactic| walk_at "e") => `(tactic| with_reducible first
  | refine w_var (by with_unfolding_all rfl) ?_ | refine w_int ?_ | refine w_bl ?_ | refine w_non ?_ | refine w_str ?_ | refine w_dnew ?_ | refine w_ty ?_
  | refine w_op ?_ | refine w_un ?_ | refine w_fld ?_ | refine w_xf ?_ | refine wt_test ?_ | refine wt_B ?_ | refine wt_yes ?_ | refine wt_and ?_ | refine wt_or ?_ | refine wt_not ?_ | refine w_andV ?_ | refine w_orV ?_ | refine w_notV ?_ | refine w_ifE ?_ | refine w_chain ?_
  | refine wa_nil ?_ | refine wa_cons ?_ | refine w_tup ?_ | refine w_lst ?_ | refine w_slice ?_ | refine w_dget ?_ | refine w_dget2 ?_ | refine w_dget1 ?_ | refine wp_no ?_ | refine wp_int ?_
  | refine w_cd repL_nil ?_ | refine w_md repL_nil ?_ | refine w_mk repL_nil ?_ | refine w_co repL_nil ⟨_, by with_unfolding_all rfl⟩ ?_ | refine w_call ?_
  | refine rd_add ?_ | refine rd_sub ?_ | refine rd_lt ?_ | refine rd_le ?_ | refine rd_gt ?_ | refine rd_ge ?_ | refine rd_ltS ?_ | refine rd_leS ?_ | refine rd_gtS ?_ | refine rd_geS ?_ | refine rd_isN ?_ | refine rd_notN ?_ | refine rd_eqAI ?_ | refine rd_neAI ?_ | refine rd_eqAS ?_ | refine rd_neAS ?_
  | refine wg_tup rfl ?_ | refine wgs_cons ?_ | refine wg_name (by walk_at "px") (by simp) ?_ | refine wgs_nil ?_
  | refine ru_neg ?_ | refine ⟨(by show List.length _ ≤ 100000; simp; try omega), ?_⟩
  | refine rc_abs ?_ | refine rc_int1 ?_ | refine rc_min2 ?_ | refine rc_max2 ?_
  | refine ⟨_, rfl, ?_⟩ | fail)
local macro_rules | `(tactic| walk_at "ex") => `(tactic| repeat' walk_at "e")
local macro_rules | `(tactic| walk_at "a_") => `(tactic| (show WS _ _ _ _; (with_reducible try refine ws_seq ?_); with_reducible refine ws_asg (by walk_at "px") ?_; walk_at "ex"))
local macro_rules | `(tactic| walk_at "i_") => `(tactic| (show WS _ _ _ _; (with_reducible try refine ws_seq ?_); with_reducible refine ws_if ?_; walk_at "ex"))
local macro_rules | `(tactic| walk_at "d_") => `(tactic| (show WS _ _ _ _; (with_reducible try refine ws_seq ?_); with_reducible refine ws_drop ?_; walk_at "ex"))
local macro_rules | `(tactic| walk_at "r_") => `(tactic| (show WS _ _ _ _; with_reducible refine ws_ret ?_; walk_at "ex"))
local macro_rules | `(tactic| walk_at "v_") => `(tactic| refine w_var (by with_unfolding_all rfl) ?_)

abbrev lastL : List Str := ["BadQuestion", "ManySlips", "BadLots", "BadCost", "BadWay", "NotThere", "BadIndex", "BadSide", "BadPosition", "BadPrices", "UnknownUnit", "BadDebt", "NoDebtor", "BadViewer", "Hidden", "BadCount", "TooMany", "BadEvent", "BadOrder", "NameTaken", "UnknownOrder", "Crossing", "BadPool", "UnlikeUnits", "Cleared", "NoClearing", "NoUnit", "NoShares"]

def c_Llaw_last_kinds : CD := ⟨fun ds k => ∃ x c, ds = [x] ∧ c ∈ allL ∧ ((∃ fs, x = .exv c fs) ∨ x = .exb c) ∧ k (.ret (.sh (.lst (lastL.map fun b => .bl (decide (c = b)))))), by
  rintro ds k k' h ⟨x, c, e, m, z, q⟩
  exact ⟨x, c, e, m, z, h _ q⟩⟩
theorem sc_Llaw_last_kinds : FnScope ["e", "flags"] ["e"] (defScope s_Llaw_last_kinds) := ⟨rfl, rfl, rfl, by decide +kernel, rfl, by decide +kernel, by decide +kernel⟩
theorem ok_Llaw_last_kinds (T : Tx K mg) (tb : ∀ p ∈ csOf K, LamX.TabB bs mg p.1 p.2) : ∃ fd, DC.FnG prg wd K mg bs (L2.CX prg wd) 1 (He.ga K "_law_last_kinds") fd ["e"] (toSp K 1 c_Llaw_last_kinds.con) ∧ L2.Binds K fd ["e"] [] ∧ PySem.W.keepIn K (.ref (He.ga K "_law_last_kinds")) = true := by
  obtain ⟨fd, F0⟩ := T.d_Llaw_last_kinds
  refine ⟨fd, def_D (N := ["e", "flags"]) F0 sc_Llaw_last_kinds rfl ?_, F0.bindsN fun _ _ _ _ _ _ us hl => match us, hl with | [_], _ => rfl, F0.kp⟩
  intro cdv A fr s H E ds kk gd room hc hl
  have hu := room.units
  have hu7 := room70 room
  have sc := sc_Llaw_last_kinds
  refine ⟨_, (pss_cons (ps_set (i := 1) sc.nd rfl (Or.inl rfl) (pe_lst (pa_cons (pe_callB DC.call_isV (by rfl) T.n_isinstance (by decide +kernel) (pa_cons (pv 0) (pa_cons (pe_glob (by rfl) T.g_BadQuestion (show RelV (.ref _) (.ref _) from rfl)) pa_nil))) (pa_cons (pe_callB DC.call_isV (by rfl) T.n_isinstance (by decide +kernel) (pa_cons (pv 0) (pa_cons (pe_glob (by rfl) T.g_ManySlips (show RelV (.ref _) (.ref _) from rfl)) pa_nil))) (pa_cons (pe_callB DC.call_isV (by rfl) T.n_isinstance (by decide +kernel) (pa_cons (pv 0) (pa_cons (pe_glob (by rfl) T.g_BadLots (show RelV (.ref _) (.ref _) from rfl)) pa_nil))) (pa_cons (pe_callB DC.call_isV (by rfl) T.n_isinstance (by decide +kernel) (pa_cons (pv 0) (pa_cons (pe_glob (by rfl) T.g_BadCost (show RelV (.ref _) (.ref _) from rfl)) pa_nil))) pa_nil))))))
  (pss_cons (ps_set (i := 1) sc.nd rfl (Or.inl rfl) (pe_op o_add (pv 1) (pe_lst (pa_cons (pe_callB DC.call_isV (by rfl) T.n_isinstance (by decide +kernel) (pa_cons (pv 0) (pa_cons (pe_glob (by rfl) T.g_BadWay (show RelV (.ref _) (.ref _) from rfl)) pa_nil))) (pa_cons (pe_callB DC.call_isV (by rfl) T.n_isinstance (by decide +kernel) (pa_cons (pv 0) (pa_cons (pe_glob (by rfl) T.g_NotThere (show RelV (.ref _) (.ref _) from rfl)) pa_nil))) (pa_cons (pe_callB DC.call_isV (by rfl) T.n_isinstance (by decide +kernel) (pa_cons (pv 0) (pa_cons (pe_glob (by rfl) T.g_BadIndex (show RelV (.ref _) (.ref _) from rfl)) pa_nil))) pa_nil))))))
  (pss_cons (ps_set (i := 1) sc.nd rfl (Or.inl rfl) (pe_op o_add (pv 1) (pe_lst (pa_cons (pe_callB DC.call_isV (by rfl) T.n_isinstance (by decide +kernel) (pa_cons (pv 0) (pa_cons (pe_glob (by rfl) T.g_BadSide (show RelV (.ref _) (.ref _) from rfl)) pa_nil))) (pa_cons (pe_callB DC.call_isV (by rfl) T.n_isinstance (by decide +kernel) (pa_cons (pv 0) (pa_cons (pe_glob (by rfl) T.g_BadPosition (show RelV (.ref _) (.ref _) from rfl)) pa_nil))) (pa_cons (pe_callB DC.call_isV (by rfl) T.n_isinstance (by decide +kernel) (pa_cons (pv 0) (pa_cons (pe_glob (by rfl) T.g_BadPrices (show RelV (.ref _) (.ref _) from rfl)) pa_nil))) pa_nil))))))
  (pss_cons (ps_set (i := 1) sc.nd rfl (Or.inl rfl) (pe_op o_add (pv 1) (pe_lst (pa_cons (pe_callB DC.call_isV (by rfl) T.n_isinstance (by decide +kernel) (pa_cons (pv 0) (pa_cons (pe_glob (by rfl) T.g_UnknownUnit (show RelV (.ref _) (.ref _) from rfl)) pa_nil))) (pa_cons (pe_callB DC.call_isV (by rfl) T.n_isinstance (by decide +kernel) (pa_cons (pv 0) (pa_cons (pe_glob (by rfl) T.g_BadDebt (show RelV (.ref _) (.ref _) from rfl)) pa_nil))) (pa_cons (pe_callB DC.call_isV (by rfl) T.n_isinstance (by decide +kernel) (pa_cons (pv 0) (pa_cons (pe_glob (by rfl) T.g_NoDebtor (show RelV (.ref _) (.ref _) from rfl)) pa_nil))) pa_nil))))))
  (pss_cons (ps_set (i := 1) sc.nd rfl (Or.inl rfl) (pe_op o_add (pv 1) (pe_lst (pa_cons (pe_callB DC.call_isV (by rfl) T.n_isinstance (by decide +kernel) (pa_cons (pv 0) (pa_cons (pe_glob (by rfl) T.g_BadViewer (show RelV (.ref _) (.ref _) from rfl)) pa_nil))) (pa_cons (pe_callB DC.call_isV (by rfl) T.n_isinstance (by decide +kernel) (pa_cons (pv 0) (pa_cons (pe_glob (by rfl) T.g_Hidden (show RelV (.ref _) (.ref _) from rfl)) pa_nil))) (pa_cons (pe_callB DC.call_isV (by rfl) T.n_isinstance (by decide +kernel) (pa_cons (pv 0) (pa_cons (pe_glob (by rfl) T.g_BadCount (show RelV (.ref _) (.ref _) from rfl)) pa_nil))) pa_nil))))))
  (pss_cons (ps_set (i := 1) sc.nd rfl (Or.inl rfl) (pe_op o_add (pv 1) (pe_lst (pa_cons (pe_callB DC.call_isV (by rfl) T.n_isinstance (by decide +kernel) (pa_cons (pv 0) (pa_cons (pe_glob (by rfl) T.g_TooMany (show RelV (.ref _) (.ref _) from rfl)) pa_nil))) (pa_cons (pe_callB DC.call_isV (by rfl) T.n_isinstance (by decide +kernel) (pa_cons (pv 0) (pa_cons (pe_glob (by rfl) T.g_BadEvent (show RelV (.ref _) (.ref _) from rfl)) pa_nil))) (pa_cons (pe_callB DC.call_isV (by rfl) T.n_isinstance (by decide +kernel) (pa_cons (pv 0) (pa_cons (pe_glob (by rfl) T.g_BadOrder (show RelV (.ref _) (.ref _) from rfl)) pa_nil))) pa_nil))))))
  (pss_cons (ps_set (i := 1) sc.nd rfl (Or.inl rfl) (pe_op o_add (pv 1) (pe_lst (pa_cons (pe_callB DC.call_isV (by rfl) T.n_isinstance (by decide +kernel) (pa_cons (pv 0) (pa_cons (pe_glob (by rfl) T.g_NameTaken (show RelV (.ref _) (.ref _) from rfl)) pa_nil))) (pa_cons (pe_callB DC.call_isV (by rfl) T.n_isinstance (by decide +kernel) (pa_cons (pv 0) (pa_cons (pe_glob (by rfl) T.g_UnknownOrder (show RelV (.ref _) (.ref _) from rfl)) pa_nil))) (pa_cons (pe_callB DC.call_isV (by rfl) T.n_isinstance (by decide +kernel) (pa_cons (pv 0) (pa_cons (pe_glob (by rfl) T.g_Crossing (show RelV (.ref _) (.ref _) from rfl)) pa_nil))) pa_nil))))))
  (pss_cons (ps_set (i := 1) sc.nd rfl (Or.inl rfl) (pe_op o_add (pv 1) (pe_lst (pa_cons (pe_callB DC.call_isV (by rfl) T.n_isinstance (by decide +kernel) (pa_cons (pv 0) (pa_cons (pe_glob (by rfl) T.g_BadPool (show RelV (.ref _) (.ref _) from rfl)) pa_nil))) (pa_cons (pe_callB DC.call_isV (by rfl) T.n_isinstance (by decide +kernel) (pa_cons (pv 0) (pa_cons (pe_glob (by rfl) T.g_UnlikeUnits (show RelV (.ref _) (.ref _) from rfl)) pa_nil))) (pa_cons (pe_callB DC.call_isV (by rfl) T.n_isinstance (by decide +kernel) (pa_cons (pv 0) (pa_cons (pe_glob (by rfl) T.g_Cleared (show RelV (.ref _) (.ref _) from rfl)) pa_nil))) pa_nil))))))
  (pss_cons (ps_set (i := 1) sc.nd rfl (Or.inl rfl) (pe_op o_add (pv 1) (pe_lst (pa_cons (pe_callB DC.call_isV (by rfl) T.n_isinstance (by decide +kernel) (pa_cons (pv 0) (pa_cons (pe_glob (by rfl) T.g_NoClearing (show RelV (.ref _) (.ref _) from rfl)) pa_nil))) (pa_cons (pe_callB DC.call_isV (by rfl) T.n_isinstance (by decide +kernel) (pa_cons (pv 0) (pa_cons (pe_glob (by rfl) T.g_NoUnit (show RelV (.ref _) (.ref _) from rfl)) pa_nil))) (pa_cons (pe_callB DC.call_isV (by rfl) T.n_isinstance (by decide +kernel) (pa_cons (pv 0) (pa_cons (pe_glob (by rfl) T.g_NoShares (show RelV (.ref _) (.ref _) from rfl)) pa_nil))) pa_nil))))))
  (pss_one (ps_ret (pv 1)))))))))))), ?_⟩
  try dsimp only [L2.cxOf]
  obtain ⟨x, c, rfl, hcm, hx, q⟩ := hc
  have hk : L2.ExcC K (He.ga K c) ∧ ∀ b ∈ allL, PySem.W.kitOne K (.ref (He.ga K c)) (.ref (He.ga K b)) = some (decide (c = b)) := ⟨(T.isall c hcm).1, (T.isall c hcm).2.2.2⟩
  refine ws_seq ?_
  refine ws_asg (by walk_at "px") ?_
  walk_at "ex"
  refine w_fun ?_
  walk_at "ex"
  refine rc_isV hx (.inl ⟨_, rfl, rfl⟩) hk.1 (hk.2 "BadQuestion" (by decide +kernel)) ?_
  walk_at "ex"
  refine w_fun ?_
  walk_at "ex"
  refine rc_isV hx (.inl ⟨_, rfl, rfl⟩) hk.1 (hk.2 "ManySlips" (by decide +kernel)) ?_
  walk_at "ex"
  refine w_fun ?_
  walk_at "ex"
  refine rc_isV hx (.inl ⟨_, rfl, rfl⟩) hk.1 (hk.2 "BadLots" (by decide +kernel)) ?_
  walk_at "ex"
  refine w_fun ?_
  walk_at "ex"
  refine rc_isV hx (.inl ⟨_, rfl, rfl⟩) hk.1 (hk.2 "BadCost" (by decide +kernel)) ?_
  walk_at "ex"
  show WS _ _ _ _
  refine ws_seq ?_
  refine ws_asg (by walk_at "px") ?_
  walk_at "ex"
  refine w_fun ?_
  walk_at "ex"
  refine rc_isV hx (.inl ⟨_, rfl, rfl⟩) hk.1 (hk.2 "BadWay" (by decide +kernel)) ?_
  walk_at "ex"
  refine w_fun ?_
  walk_at "ex"
  refine rc_isV hx (.inl ⟨_, rfl, rfl⟩) hk.1 (hk.2 "NotThere" (by decide +kernel)) ?_
  walk_at "ex"
  refine w_fun ?_
  walk_at "ex"
  refine rc_isV hx (.inl ⟨_, rfl, rfl⟩) hk.1 (hk.2 "BadIndex" (by decide +kernel)) ?_
  walk_at "ex"
  refine rd_addL (.lst _) (.lst _) (by show 4 + 3 ≤ 100000; decide) ?_
  show WS _ _ _ _
  refine ws_seq ?_
  refine ws_asg (by walk_at "px") ?_
  walk_at "ex"
  refine w_fun ?_
  walk_at "ex"
  refine rc_isV hx (.inl ⟨_, rfl, rfl⟩) hk.1 (hk.2 "BadSide" (by decide +kernel)) ?_
  walk_at "ex"
  refine w_fun ?_
  walk_at "ex"
  refine rc_isV hx (.inl ⟨_, rfl, rfl⟩) hk.1 (hk.2 "BadPosition" (by decide +kernel)) ?_
  walk_at "ex"
  refine w_fun ?_
  walk_at "ex"
  refine rc_isV hx (.inl ⟨_, rfl, rfl⟩) hk.1 (hk.2 "BadPrices" (by decide +kernel)) ?_
  walk_at "ex"
  refine rd_addL (.lst _) (.lst _) (by show 7 + 3 ≤ 100000; decide) ?_
  show WS _ _ _ _
  refine ws_seq ?_
  refine ws_asg (by walk_at "px") ?_
  walk_at "ex"
  refine w_fun ?_
  walk_at "ex"
  refine rc_isV hx (.inl ⟨_, rfl, rfl⟩) hk.1 (hk.2 "UnknownUnit" (by decide +kernel)) ?_
  walk_at "ex"
  refine w_fun ?_
  walk_at "ex"
  refine rc_isV hx (.inl ⟨_, rfl, rfl⟩) hk.1 (hk.2 "BadDebt" (by decide +kernel)) ?_
  walk_at "ex"
  refine w_fun ?_
  walk_at "ex"
  refine rc_isV hx (.inl ⟨_, rfl, rfl⟩) hk.1 (hk.2 "NoDebtor" (by decide +kernel)) ?_
  walk_at "ex"
  refine rd_addL (.lst _) (.lst _) (by show 10 + 3 ≤ 100000; decide) ?_
  show WS _ _ _ _
  refine ws_seq ?_
  refine ws_asg (by walk_at "px") ?_
  walk_at "ex"
  refine w_fun ?_
  walk_at "ex"
  refine rc_isV hx (.inl ⟨_, rfl, rfl⟩) hk.1 (hk.2 "BadViewer" (by decide +kernel)) ?_
  walk_at "ex"
  refine w_fun ?_
  walk_at "ex"
  refine rc_isV hx (.inl ⟨_, rfl, rfl⟩) hk.1 (hk.2 "Hidden" (by decide +kernel)) ?_
  walk_at "ex"
  refine w_fun ?_
  walk_at "ex"
  refine rc_isV hx (.inl ⟨_, rfl, rfl⟩) hk.1 (hk.2 "BadCount" (by decide +kernel)) ?_
  walk_at "ex"
  refine rd_addL (.lst _) (.lst _) (by show 13 + 3 ≤ 100000; decide) ?_
  show WS _ _ _ _
  refine ws_seq ?_
  refine ws_asg (by walk_at "px") ?_
  walk_at "ex"
  refine w_fun ?_
  walk_at "ex"
  refine rc_isV hx (.inl ⟨_, rfl, rfl⟩) hk.1 (hk.2 "TooMany" (by decide +kernel)) ?_
  walk_at "ex"
  refine w_fun ?_
  walk_at "ex"
  refine rc_isV hx (.inl ⟨_, rfl, rfl⟩) hk.1 (hk.2 "BadEvent" (by decide +kernel)) ?_
  walk_at "ex"
  refine w_fun ?_
  walk_at "ex"
  refine rc_isV hx (.inl ⟨_, rfl, rfl⟩) hk.1 (hk.2 "BadOrder" (by decide +kernel)) ?_
  walk_at "ex"
  refine rd_addL (.lst _) (.lst _) (by show 16 + 3 ≤ 100000; decide) ?_
  show WS _ _ _ _
  refine ws_seq ?_
  refine ws_asg (by walk_at "px") ?_
  walk_at "ex"
  refine w_fun ?_
  walk_at "ex"
  refine rc_isV hx (.inl ⟨_, rfl, rfl⟩) hk.1 (hk.2 "NameTaken" (by decide +kernel)) ?_
  walk_at "ex"
  refine w_fun ?_
  walk_at "ex"
  refine rc_isV hx (.inl ⟨_, rfl, rfl⟩) hk.1 (hk.2 "UnknownOrder" (by decide +kernel)) ?_
  walk_at "ex"
  refine w_fun ?_
  walk_at "ex"
  refine rc_isV hx (.inl ⟨_, rfl, rfl⟩) hk.1 (hk.2 "Crossing" (by decide +kernel)) ?_
  walk_at "ex"
  refine rd_addL (.lst _) (.lst _) (by show 19 + 3 ≤ 100000; decide) ?_
  show WS _ _ _ _
  refine ws_seq ?_
  refine ws_asg (by walk_at "px") ?_
  walk_at "ex"
  refine w_fun ?_
  walk_at "ex"
  refine rc_isV hx (.inl ⟨_, rfl, rfl⟩) hk.1 (hk.2 "BadPool" (by decide +kernel)) ?_
  walk_at "ex"
  refine w_fun ?_
  walk_at "ex"
  refine rc_isV hx (.inl ⟨_, rfl, rfl⟩) hk.1 (hk.2 "UnlikeUnits" (by decide +kernel)) ?_
  walk_at "ex"
  refine w_fun ?_
  walk_at "ex"
  refine rc_isV hx (.inl ⟨_, rfl, rfl⟩) hk.1 (hk.2 "Cleared" (by decide +kernel)) ?_
  walk_at "ex"
  refine rd_addL (.lst _) (.lst _) (by show 22 + 3 ≤ 100000; decide) ?_
  show WS _ _ _ _
  refine ws_seq ?_
  refine ws_asg (by walk_at "px") ?_
  walk_at "ex"
  refine w_fun ?_
  walk_at "ex"
  refine rc_isV hx (.inl ⟨_, rfl, rfl⟩) hk.1 (hk.2 "NoClearing" (by decide +kernel)) ?_
  walk_at "ex"
  refine w_fun ?_
  walk_at "ex"
  refine rc_isV hx (.inl ⟨_, rfl, rfl⟩) hk.1 (hk.2 "NoUnit" (by decide +kernel)) ?_
  walk_at "ex"
  refine w_fun ?_
  walk_at "ex"
  refine rc_isV hx (.inl ⟨_, rfl, rfl⟩) hk.1 (hk.2 "NoShares" (by decide +kernel)) ?_
  walk_at "ex"
  refine rd_addL (.lst _) (.lst _) (by show 25 + 3 ≤ 100000; decide) ?_
  show WS _ _ _ _
  refine ws_ret ?_
  walk_at "ex"
  exact q
end K48

namespace K48
open PySem PySem.Spec PyProof.Rows L2 DL
variable {prg : Program} {wd : World} {K : PySem.W.Frag} {mg : Str → Option Value} {bs : Heap}
local macro_rules | `(tactic| walk_at "px") => `(tactic| first | exact List.not_mem_nil | (show _ ∉ ([0] : List Nat); decide) | (show _ ∉ ([] : List Nat); decide) | fail)
local macro_rules | `(tactic| walk_at "s") => `(tactic| with_reducible first
  | refine ws_seq ?_ | refine ws_if ?_ | refine ws_next ?_ | refine ws_ret ?_ | refine ws_retN ?_ | refine ws_asg (by walk_at "px") ?_ | refine ws_par (by walk_at "px") (by walk_at "px") ?_
  | refine w_var (by with_unfolding_all rfl) ?_ | refine w_int ?_ | refine w_bl ?_ | refine w_non ?_ | refine w_str ?_ | refine w_dnew ?_ | refine w_ty ?_
  | refine w_op ?_ | refine w_un ?_ | refine w_fld ?_ | refine w_xf ?_ | refine wt_test ?_ | refine wt_B ?_ | refine wt_yes ?_ | refine wt_and ?_ | refine wt_or ?_ | refine wt_not ?_ | refine w_andV ?_ | refine w_orV ?_ | refine w_notV ?_ | refine w_ifE ?_ | refine w_chain ?_
  | refine wa_nil ?_ | refine wa_cons ?_ | refine w_tup ?_ | refine w_lst ?_ | refine w_slice ?_ | refine w_dget ?_ | refine w_dget2 ?_ | refine w_dget1 ?_ | refine wp_no ?_ | refine wp_int ?_
  | refine w_cd repL_nil ?_ | refine w_md repL_nil ?_ | refine w_mk repL_nil ?_ | refine w_co repL_nil ⟨_, by with_unfolding_all rfl⟩ ?_ | refine w_call ?_
  | refine rd_add ?_ | refine rd_sub ?_ | refine rd_lt ?_ | refine rd_le ?_ | refine rd_gt ?_ | refine rd_ge ?_ | refine rd_ltS ?_ | refine rd_leS ?_ | refine rd_gtS ?_ | refine rd_geS ?_ | refine rd_isN ?_ | refine rd_notN ?_ | refine rd_eqAI ?_ | refine rd_neAI ?_ | refine rd_eqAS ?_ | refine rd_neAS ?_
  | refine wg_tup rfl ?_ | refine wgs_cons ?_ | refine wg_name (by walk_at "px") (by simp) ?_ | refine wgs_nil ?_
  | refine ru_neg ?_ | refine ⟨(by show List.length _ ≤ 100000; simp; try omega), ?_⟩
  | refine rc_abs ?_ | refine rc_int1 ?_ | refine rc_min2 ?_ | refine rc_max2 ?_
  | refine ⟨_, rfl, ?_⟩ | fail)
local macro_rules | `(tactic| walk_at "go") => `(tactic| repeat' walk_at "s")
local macro_rules | `(tactic| walk_at "args") => `(tactic| repeat' (with_reducible first | refine wa_cons ?_ | refine wa_nil ?_ | refine w_int ?_ | refine w_bl ?_ | refine w_non ?_ | refine w_str ?_ | refine w_dnew ?_ | refine w_tup ?_ | refine w_lst ?_ | refine w_un ?_ | refine ru_neg ?_ | refine w_var (by with_unfolding_all rfl) ?_ | refine ⟨(by show List.length _ ≤ 100000; simp; try omega), ?_⟩ | fail))
local macro_rules | `(tactic| walk_at "e") => `(tactic| with_reducible first
  | refine w_var (by with_unfolding_all rfl) ?_ | refine w_int ?_ | refine w_bl ?_ | refine w_non ?_ | refine w_str ?_ | refine w_dnew ?_ | refine w_ty ?_
  | refine w_op ?_ | refine w_un ?_ | refine w_fld ?_ | refine w_xf ?_ | refine wt_test ?_ | refine wt_B ?_ | refine wt_yes ?_ | refine wt_and ?_ | refine wt_or ?_ | refine wt_not ?_ | refine w_andV ?_ | refine w_orV ?_ | refine w_notV ?_ | refine w_ifE ?_ | refine w_chain ?_
  | refine wa_nil ?_ | refine wa_cons ?_ | refine w_tup ?_ | refine w_lst ?_ | refine w_slice ?_ | refine w_dget ?_ | refine w_dget2 ?_ | refine w_dget1 ?_ | refine wp_no ?_ | refine wp_int ?_
  | refine w_cd repL_nil ?_ | refine w_md repL_nil ?_ | refine w_mk repL_nil ?_ | refine w_co repL_nil ⟨_, by with_unfolding_all rfl⟩ ?_ | refine w_call ?_
  | refine rd_add ?_ | refine rd_sub ?_ | refine rd_lt ?_ | refine rd_le ?_ | refine rd_gt ?_ | refine rd_ge ?_ | refine rd_ltS ?_ | refine rd_leS ?_ | refine rd_gtS ?_ | refine rd_geS ?_ | refine rd_isN ?_ | refine rd_notN ?_ | refine rd_eqAI ?_ | refine rd_neAI ?_ | refine rd_eqAS ?_ | refine rd_neAS ?_
  | refine wg_tup rfl ?_ | refine wgs_cons ?_ | refine wg_name (by walk_at "px") (by simp) ?_ | refine wgs_nil ?_
  | refine ru_neg ?_ | refine ⟨(by show List.length _ ≤ 100000; simp; try omega), ?_⟩
  | refine rc_abs ?_ | refine rc_int1 ?_ | refine rc_min2 ?_ | refine rc_max2 ?_
  | refine ⟨_, rfl, ?_⟩ | fail)
local macro_rules | `(tactic| walk_at "ex") => `(tactic| repeat' walk_at "e")
local macro_rules | `(tactic| walk_at "a_") => `(tactic| (show WS _ _ _ _; (with_reducible try refine ws_seq ?_); with_reducible refine ws_asg (by walk_at "px") ?_; walk_at "ex"))
local macro_rules | `(tactic| walk_at "i_") => `(tactic| (show WS _ _ _ _; (with_reducible try refine ws_seq ?_); with_reducible refine ws_if ?_; walk_at "ex"))
local macro_rules | `(tactic| walk_at "d_") => `(tactic| (show WS _ _ _ _; (with_reducible try refine ws_seq ?_); with_reducible refine ws_drop ?_; walk_at "ex"))
local macro_rules | `(tactic| walk_at "r_") => `(tactic| (show WS _ _ _ _; with_reducible refine ws_ret ?_; walk_at "ex"))
local macro_rules | `(tactic| walk_at "v_") => `(tactic| refine w_var (by with_unfolding_all rfl) ?_)

theorem if_no {A B : Prop} {b : Bool} (h : b = false) (p : B) : if b = true then A else B := by
  rw [h]
  exact p
abbrev kindsL : List Str := firstL ++ lastL
def flagsD (c : Str) : List D := (firstL.map fun b => D.bl (decide (c = b))) ++ lastL.map fun b => D.bl (decide (c = b))
theorem kinds_len : kindsL.length = 56 := by decide
theorem flags_len (c : Str) : (flagsD c).length = 56 := by
  unfold flagsD
  rw [List.length_append, List.length_map, List.length_map]
  decide
theorem flag_at (c : Str) {a : Nat} (h : a < 56) : atI (flagsD c) (0 + (a : Int)) = some (.bl (decide (kindsL[a]? = some c))) := by
  rw [Int.zero_add]
  have e : flagsD c = kindsL.map fun b => D.bl (decide (c = b)) := (List.map_append (f := fun b => D.bl (decide (c = b))) (l₁ := firstL) (l₂ := lastL)).symm
  have g : kindsL[a]? = some (kindsL[a]'(by rw [kinds_len]; exact h)) := List.getElem?_eq_getElem _
  refine atI_nat ?_
  rw [e, List.getElem?_map, g]
  show some (D.bl (decide (c = _))) = _
  have : decide (c = kindsL[a]'(by rw [kinds_len]; exact h)) = decide (some (kindsL[a]'(by rw [kinds_len]; exact h)) = some c) := decide_eq_decide.mpr ⟨fun z => by rw [z], fun z => (Option.some.inj z).symm⟩
  rw [this]
def pickF (c : Str) (a : Nat) : Option D := if decide (kindsL[a]? = some c) = true then some (.int (0 + (a : Int))) else none
theorem fm_if {α β : Type} (p : α → Bool) (g : α → β) : ∀ l : List α, (l.filterMap fun a => if p a = true then some (g a) else none) = (l.filter p).map g
  | [] => rfl
  | a :: r => by
    rw [List.filterMap_cons, List.filter_cons]
    cases p a with
    | true =>
      rw [if_pos rfl, if_pos rfl, List.map_cons, fm_if p g r]
    | false =>
      rw [if_neg Bool.false_ne_true, if_neg Bool.false_ne_true, fm_if p g r]
theorem place_b : ∀ k : Fin 56, (List.range 56).filter (fun a => decide (kindsL[a]? = kindsL[k.val]?)) = [k.val] := by decide +kernel
/-- the place that a class has among the kinds; -1 for none -/
def PlaceOk (c : Str) (p : Int) : Prop := (∃ k : Nat, p = k ∧ kindsL[k]? = some c) ∨ (p = -1 ∧ c ∉ kindsL)
theorem place_fm {c : Str} {p : Int} (h : PlaceOk c p) : (List.range 56).filterMap (pickF c) = if decide (p ≥ 0) = true then [.int p] else [] := by
  have e : (List.range 56).filterMap (pickF c) = ((List.range 56).filter fun a : Nat => decide (kindsL[a]? = some c)).map (fun a : Nat => D.int (0 + (a : Int))) := fm_if (fun a => decide (kindsL[a]? = some c)) (fun a : Nat => D.int (0 + (a : Int))) _
  rw [e]
  rcases h with ⟨k, rfl, hk⟩ | ⟨rfl, hc⟩
  · have k56 : k < 56 := by
      have := (List.getElem?_eq_some_iff.mp hk).1
      rw [kinds_len] at this
      exact this
    rw [← hk, place_b ⟨k, k56⟩, if_pos (decide_eq_true (Int.natCast_nonneg k))]
    show [D.int (0 + (k : Int))] = _
    rw [Int.zero_add]
  · rw [if_neg (by decide)]
    have : ((List.range 56).filter fun a => decide (kindsL[a]? = some c)) = [] := List.filter_eq_nil_iff.mpr fun a _ z => hc (List.mem_of_getElem? (of_decide_eq_true z))
    rw [this]
    rfl
def c_Llaw_is : CD := ⟨fun ds k => ∃ e c xs p, ds = [e, .lst xs, .lst xs, .int p] ∧ c ∈ allL ∧ ((∃ fs, e = .exv c fs) ∨ e = .exb c) ∧ (∀ x ∈ xs, Sh x) ∧ xs.length ≤ 2 ∧ PlaceOk c p ∧ k (.ret (.sh (.bl true))), by
  rintro ds k k' h ⟨e, c, xs, p, e1, a, b, s, l, o, q⟩
  exact ⟨e, c, xs, p, e1, a, b, s, l, o, h _ q⟩⟩
theorem sc_Llaw_is : FnScope ["e", "got", "due", "place", "flags", "k"] ["e", "got", "due", "place"] (defScope s_Llaw_is) := ⟨rfl, rfl, rfl, by decide +kernel, rfl, by decide +kernel, by decide +kernel⟩
theorem ok_Llaw_is (T : Tx K mg) (tb : ∀ p ∈ csOf K, LamX.TabB bs mg p.1 p.2) : ∃ fd, DC.FnG prg wd K mg bs (L2.CX prg wd) 2 (He.ga K "_law_is") fd ["e", "got", "due", "place"] (toSp K 4 c_Llaw_is.con) ∧ L2.Binds K fd ["e", "got", "due", "place"] [] ∧ PySem.W.keepIn K (.ref (He.ga K "_law_is")) = true := by
  obtain ⟨fd, F0⟩ := T.d_Llaw_is
  obtain ⟨_, F_Llaw_first_kinds, b_Llaw_first_kinds, k_Llaw_first_kinds⟩ := ok_Llaw_first_kinds (prg := prg) (wd := wd) (bs := bs) T tb
  obtain ⟨_, F_Llaw_last_kinds, b_Llaw_last_kinds, k_Llaw_last_kinds⟩ := ok_Llaw_last_kinds (prg := prg) (wd := wd) (bs := bs) T tb
  refine ⟨fd, def_D (N := ["e", "got", "due", "place", "flags", "k"]) F0 sc_Llaw_is rfl ?_, F0.bindsN fun _ _ _ _ _ _ us hl => match us, hl with | [_, _, _, _], _ => rfl, F0.kp⟩
  intro cdv A fr s H E ds kk gd room hc hl
  have hu := room.units
  have hu7 := room70 room
  have sc := sc_Llaw_is
  refine ⟨_, (pss_cons (ps_set (i := 4) sc.nd rfl (Or.inr rfl) (pe_op o_add (DC.pe_callG F_Llaw_first_kinds gd (room.mono (by decide)) (by rfl) T.g__law_first_kinds k_Llaw_first_kinds b_Llaw_first_kinds .nil (fun σ => passAt (takes_of rfl rfl rfl rfl) σ) (pa_cons (pv 0) pa_nil)) (DC.pe_callG F_Llaw_last_kinds gd (room.mono (by decide)) (by rfl) T.g__law_last_kinds k_Llaw_last_kinds b_Llaw_last_kinds .nil (fun σ => passAt (takes_of rfl rfl rfl rfl) σ) (pa_cons (pv 0) pa_nil))))
  (pss_cons (ps_if (PW.pt (pw_or (pt_cmpR (op_neA hu) (pe_callB (o_reprD gd hu7 T.sm) (by rfl) T.n_repr (by decide +kernel) (pa_cons (pv 1) pa_nil)) (pe_callB (o_reprD gd hu7 T.sm) (by rfl) T.n_repr (by decide +kernel) (pa_cons (pv 2) pa_nil)) (nomark _)) (pw_or (pt_not (pt_val (pe_callB DC.call_isV (by rfl) T.n_isinstance (by decide +kernel) (pa_cons (pv 0) (pa_cons (pe_glob (by rfl) T.g_MarketError (show RelV (.ref _) (.ref _) from rfl)) pa_nil))))) (pw_or1 (pt_not (pt_val (pe_callB DC.call_isV (by rfl) T.n_isinstance (by decide +kernel) (pa_cons (pv 0) (pa_cons (pe_bltn (by rfl) T.n_ValueError (by decide +kernel) (show RelV (.ty "ValueError") (.type "ValueError") from rfl)) pa_nil))))))))) (pss_one (ps_ret pe_bl)) pss_nil)
  (pss_one (ps_ret (pe_cmpR (op_eqA hu) (pe_lc (own := [("k", 5)]) (g := (gName 5))  (by rfl) sc.nd (pi_range1 (by rfl) T.n_range (pa_cons (pe_callB o_lenA (by rfl) T.n_len (by decide +kernel) (pa_cons (pv 4) pa_nil)) pa_nil)) (blkOk_by (own := [("k", 5)]) (N := ["e", "got", "due", "place", "flags", "k"]) (sc := defScope s_Llaw_is) (by decide +kernel)) (fun _ _ _ _ _ => (pg_name (i := 5) sc.nd rfl (Or.inl rfl))) (fun _ _ _ _ _ => (pts_one (pt_val (pe_ix (o_ixK rfl) (pv 4) (pv 5) (fun _ _ => rfl))))) (fun _ _ _ _ _ => (pv 5))) (pe_ifExp (pt_cmpR o_ge (pv 3) pe_int (nomark _)) (pe_lst (pa_cons (pv 3) pa_nil)) (pe_lst pa_nil)) (nomark _)))))), ?_⟩
  try dsimp only [L2.cxOf]
  obtain ⟨e, c, xs, p, rfl, hcm, hx, hs, l2, hp, q⟩ := hc
  refine ws_seq ?_
  refine ws_asg (by walk_at "px") ?_
  walk_at "ex"
  refine ⟨rfl, e, c, rfl, hcm, hx, _, .sh _, ?_⟩
  walk_at "ex"
  refine ⟨rfl, e, c, rfl, hcm, hx, _, .sh _, ?_⟩
  refine rd_addL (.lst _) (.lst _) (by show 28 + 28 ≤ 100000; decide) ?_
  change WS _ _ [some (.sh e), some (.sh (.lst xs)), some (.sh (.lst xs)), some (.sh (.int p)), some (.sh (.lst (flagsD c))), none] _
  have sx := shw_lst hs
  refine ws_seq ?_
  refine ws_if ?_
  refine wt_or ?_
  refine wt_test ?_
  walk_at "ex"
  refine rc_shw sx (by decide) (by omega) fun p1 hp1 => ?_
  walk_at "ex"
  refine rc_shw sx (by decide) (by omega) fun p2 hp2 => ?_
  obtain rfl : p1 = p2 := Option.some.inj (hp1.symm.trans hp2)
  walk_at "ex"
  refine if_no (by rw [decide_eq_true rfl]; rfl) ?_
  refine wt_or ?_
  refine wt_not ?_
  refine wt_test ?_
  walk_at "ex"
  refine w_fun ?_
  walk_at "ex"
  refine rc_isV hx (.inl ⟨_, rfl, rfl⟩) (T.isall c hcm).1 (T.isall c hcm).2.1 ?_
  walk_at "ex"
  refine if_no rfl ?_
  refine wt_not ?_
  refine wt_test ?_
  walk_at "ex"
  refine rc_isV hx (.inr ⟨_, rfl, rfl⟩) (T.isall c hcm).1 (T.isall c hcm).2.2.1 ?_
  refine ⟨_, rfl, ?_⟩
  refine if_no rfl ?_
  refine ws_next ?_
  show WS _ _ _ _
  have fl := flags_len c
  have fa := fun a (h : a < 56) => flag_at c h
  generalize flagsD c = F at fl fa
  refine ws_ret ?_
  refine w_op ?_
  refine w_lcA (xs := List.range 56) (r := fun a => .int (0 + (a : Nat))) (f := pickF c) (by walk_at "px") (nameOk_none rfl) ?_
  refine wi_rng1 ?_
  walk_at "ex"
  refine rc_lenAL (.lst _) ?_
  walk_at "ex"
  refine ⟨by omega, rfl, by rw [fl]; rfl, by decide, fun a ha => ?_, ?_⟩
  · show WT _ _ _ _
    walk_at "ex"
    refine rd_ixL (.lst _) (fa a (List.mem_range.mp ha)) ?_
    refine ⟨_, rfl, rfl, ?_⟩
    refine if_b (fun z => ?_) (fun z => ?_)
    · walk_at "ex"
      exact ⟨rfl, by unfold pickF; rw [if_pos z]⟩
    · unfold pickF
      rw [if_neg (by rw [z]; exact Bool.false_ne_true)]
  rw [place_fm hp]
  refine w_ifE ?_
  refine wt_test ?_
  walk_at "ex"
  refine if_b (fun z => ?_) (fun z => ?_)
  · rw [if_pos z]
    walk_at "ex"
    refine rd_eqP (n := 1) rfl rfl (by decide) fun b hb => ?_
    obtain rfl : b = true := hb.mpr rfl
    exact q
  · rw [if_neg (by rw [z]; exact Bool.false_ne_true)]
    walk_at "ex"
    refine rd_eqP (n := 1) rfl rfl (by decide) fun b hb => ?_
    obtain rfl : b = true := hb.mpr rfl
    exact q
end K48

namespace K48
open PySem PySem.Spec PyProof.Rows L2 DL
variable {prg : Program} {wd : World} {K : PySem.W.Frag} {mg : Str → Option Value} {bs : Heap}
local macro_rules | `(tactic| walk_at "px") => `(tactic| first | exact List.not_mem_nil | (show _ ∉ ([0] : List Nat); decide) | (show _ ∉ ([] : List Nat); decide) | fail)
local macro_rules | `(tactic| walk_at "s") => `(tactic| with_reducible first
  | refine ws_seq ?_ | refine ws_if ?_ | refine ws_next ?_ | refine ws_ret ?_ | refine ws_retN ?_ | refine ws_asg (by walk_at "px") ?_ | refine ws_par (by walk_at "px") (by walk_at "px") ?_
  | refine w_var (by with_unfolding_all rfl) ?_ | refine w_int ?_ | refine w_bl ?_ | refine w_non ?_ | refine w_str ?_ | refine w_dnew ?_ | refine w_ty ?_
  | refine w_op ?_ | refine w_un ?_ | refine w_fld ?_ | refine w_xf ?_ | refine wt_test ?_ | refine wt_B ?_ | refine wt_yes ?_ | refine wt_and ?_ | refine wt_or ?_ | refine wt_not ?_ | refine w_andV ?_ | refine w_orV ?_ | refine w_notV ?_ | refine w_ifE ?_ | refine w_chain ?_
  | refine wa_nil ?_ | refine wa_cons ?_ | refine w_tup ?_ | refine w_lst ?_ | refine w_slice ?_ | refine w_dget ?_ | refine w_dget2 ?_ | refine w_dget1 ?_ | refine wp_no ?_ | refine wp_int ?_
  | refine w_cd repL_nil ?_ | refine w_md repL_nil ?_ | refine w_mk repL_nil ?_ | refine w_co repL_nil ⟨_, by with_unfolding_all rfl⟩ ?_ | refine w_call ?_
  | refine rd_add ?_ | refine rd_sub ?_ | refine rd_lt ?_ | refine rd_le ?_ | refine rd_gt ?_ | refine rd_ge ?_ | refine rd_ltS ?_ | refine rd_leS ?_ | refine rd_gtS ?_ | refine rd_geS ?_ | refine rd_isN ?_ | refine rd_notN ?_ | refine rd_eqAI ?_ | refine rd_neAI ?_ | refine rd_eqAS ?_ | refine rd_neAS ?_
  | refine wg_tup rfl ?_ | refine wgs_cons ?_ | refine wg_name (by walk_at "px") (by simp) ?_ | refine wgs_nil ?_
  | refine ru_neg ?_ | refine ⟨(by show List.length _ ≤ 100000; simp; try omega), ?_⟩
  | refine rc_abs ?_ | refine rc_int1 ?_ | refine rc_min2 ?_ | refine rc_max2 ?_
  | refine ⟨_, rfl, ?_⟩ | fail)
local macro_rules | `(tactic| walk_at "go") => `(tactic| repeat' walk_at "s")
local macro_rules | `(tactic| walk_at "args") => `(tactic| repeat' (with_reducible first | refine wa_cons ?_ | refine wa_nil ?_ | refine w_int ?_ | refine w_bl ?_ | refine w_non ?_ | refine w_str ?_ | refine w_dnew ?_ | refine w_tup ?_ | refine w_lst ?_ | refine w_un ?_ | refine ru_neg ?_ | refine w_var (by with_unfolding_all rfl) ?_ | refine ⟨(by show List.length _ ≤ 100000; simp; try omega), ?_⟩ | fail))
local macro_rules | `(tactic| walk_at "e") => `(tactic| with_reducible first
  | refine w_var (by with_unfolding_all rfl) ?_ | refine w_int ?_ | refine w_bl ?_ | refine w_non ?_ | refine w_str ?_ | refine w_dnew ?_ | refine w_ty ?_
  | refine w_op ?_ | refine w_un ?_ | refine w_fld ?_ | refine w_xf ?_ | refine wt_test ?_ | refine wt_B ?_ | refine wt_yes ?_ | refine wt_and ?_ | refine wt_or ?_ | refine wt_not ?_ | refine w_andV ?_ | refine w_orV ?_ | refine w_notV ?_ | refine w_ifE ?_ | refine w_chain ?_
  | refine wa_nil ?_ | refine wa_cons ?_ | refine w_tup ?_ | refine w_lst ?_ | refine w_slice ?_ | refine w_dget ?_ | refine w_dget2 ?_ | refine w_dget1 ?_ | refine wp_no ?_ | refine wp_int ?_
  | refine w_cd repL_nil ?_ | refine w_md repL_nil ?_ | refine w_mk repL_nil ?_ | refine w_co repL_nil ⟨_, by with_unfolding_all rfl⟩ ?_ | refine w_call ?_
  | refine rd_add ?_ | refine rd_sub ?_ | refine rd_lt ?_ | refine rd_le ?_ | refine rd_gt ?_ | refine rd_ge ?_ | refine rd_ltS ?_ | refine rd_leS ?_ | refine rd_gtS ?_ | refine rd_geS ?_ | refine rd_isN ?_ | refine rd_notN ?_ | refine rd_eqAI ?_ | refine rd_neAI ?_ | refine rd_eqAS ?_ | refine rd_neAS ?_
  | refine wg_tup rfl ?_ | refine wgs_cons ?_ | refine wg_name (by walk_at "px") (by simp) ?_ | refine wgs_nil ?_
  | refine ru_neg ?_ | refine ⟨(by show List.length _ ≤ 100000; simp; try omega), ?_⟩
  | refine rc_abs ?_ | refine rc_int1 ?_ | refine rc_min2 ?_ | refine rc_max2 ?_
  | refine ⟨_, rfl, ?_⟩ | fail)
local macro_rules | `(tactic| walk_at "ex") => `(tactic| repeat' walk_at "e")
local macro_rules | `(tactic| walk_at "a_") => `(tactic| (show WS _ _ _ _; (with_reducible try refine ws_seq ?_); with_reducible refine ws_asg (by walk_at "px") ?_; walk_at "ex"))
local macro_rules | `(tactic| walk_at "i_") => `(tactic| (show WS _ _ _ _; (with_reducible try refine ws_seq ?_); with_reducible refine ws_if ?_; walk_at "ex"))
local macro_rules | `(tactic| walk_at "d_") => `(tactic| (show WS _ _ _ _; (with_reducible try refine ws_seq ?_); with_reducible refine ws_drop ?_; walk_at "ex"))
local macro_rules | `(tactic| walk_at "r_") => `(tactic| (show WS _ _ _ _; with_reducible refine ws_ret ?_; walk_at "ex"))
local macro_rules | `(tactic| walk_at "v_") => `(tactic| refine w_var (by with_unfolding_all rfl) ?_)

theorem cut_sub {xs : List D} {lo hi : Option Int} : (DL.cutD xs lo hi).length ≤ xs.length ∧ ∀ d ∈ DL.cutD xs lo hi, d ∈ xs := by
  unfold DL.cutD
  refine ⟨?_, fun d hd => ?_⟩
  · rw [List.length_take, List.length_drop]
    omega
  · exact List.mem_of_mem_drop (List.mem_of_mem_take hd)
theorem allN {P : Str → Prop} : ∀ c ∈ ([] : List Str), P c := fun c h => by cases h
theorem allC {P : Str → Prop} {a : Str} {l : List Str} (h : P a) (r : ∀ c ∈ l, P c) : ∀ c ∈ a :: l, P c := fun c hc => by
  rcases (List.mem_cons.mp hc) with rfl | hc
  · exact h
  · exact r c hc
theorem allA {P : Str → Prop} {a b : List Str} (h : ∀ c ∈ a, P c) (r : ∀ c ∈ b, P c) : ∀ c ∈ a ++ b, P c := fun c hc => (List.mem_append.mp hc).elim (h c) (r c)
/-- a row: an exception, and what it holds, twice -/
def RowOk (k : Nat) (d : D) : Prop := ∃ e c xs, d = rowE e xs ∧ kindsL[43 + k]? = some c ∧ ((∃ fs, e = .exv c fs) ∨ e = .exb c) ∧ (∀ x ∈ xs, Sh x) ∧ xs.length ≤ 2
def RowNo (d : D) : Prop := ∃ e c xs, d = rowE e xs ∧ (c ∈ allL ∧ c ∉ kindsL) ∧ ((∃ fs, e = .exv c fs) ∨ e = .exb c) ∧ (∀ x ∈ xs, Sh x) ∧ xs.length ≤ 2
theorem rows_others {t o : D} (ht : Sh t) (ho : Sh o) : ∀ (k : Nat) (d : D), (othersD t o)[k]? = some d → RowOk k d := fun k d h => by
  have hk : k < 13 := (List.getElem?_eq_some_iff.mp h).1
  have both2 : ∀ x, x ∈ [o, t] → Sh x := fun x hx => by
    (simp only [List.mem_cons, List.not_mem_nil, or_false] at hx)
    rcases hx with rfl | rfl
    · exact ho
    · exact ht
  have one : ∀ x, x ∈ [t] → Sh x := fun x hx => by rw [List.mem_singleton.mp hx]; exact ht
  have both : ∀ x, x ∈ [t, o] → Sh x := fun x hx => by
    (simp only [List.mem_cons, List.not_mem_nil, or_false] at hx)
    rcases hx with rfl | rfl
    · exact ht
    · exact ho
  have none_ : ∀ x, x ∈ ([] : List D) → Sh x := fun x hx => by cases hx
  match k, h, hk with
  | 0, h, _ =>
    cases h
    exact ⟨_, _, _, rfl, by decide +kernel, .inl ⟨_, rfl⟩, one, by show 1 ≤ 2; decide⟩
  | 1, h, _ =>
    cases h
    exact ⟨_, _, _, rfl, by decide +kernel, .inl ⟨_, rfl⟩, one, by show 1 ≤ 2; decide⟩
  | 2, h, _ =>
    cases h
    exact ⟨_, _, _, rfl, by decide +kernel, .inl ⟨_, rfl⟩, one, by show 1 ≤ 2; decide⟩
  | 3, h, _ =>
    cases h
    exact ⟨_, _, _, rfl, by decide +kernel, .inl ⟨_, rfl⟩, both, by show 2 ≤ 2; decide⟩
  | 4, h, _ =>
    cases h
    exact ⟨_, _, _, rfl, by decide +kernel, .inl ⟨_, rfl⟩, one, by show 1 ≤ 2; decide⟩
  | 5, h, _ =>
    cases h
    exact ⟨_, _, _, rfl, by decide +kernel, .inl ⟨_, rfl⟩, one, by show 1 ≤ 2; decide⟩
  | 6, h, _ =>
    cases h
    exact ⟨_, _, _, rfl, by decide +kernel, .inl ⟨_, rfl⟩, one, by show 1 ≤ 2; decide⟩
  | 7, h, _ =>
    cases h
    exact ⟨_, _, _, rfl, by decide +kernel, .inl ⟨_, rfl⟩, both, by show 2 ≤ 2; decide⟩
  | 8, h, _ =>
    cases h
    exact ⟨_, _, _, rfl, by decide +kernel, .inl ⟨_, rfl⟩, both, by show 2 ≤ 2; decide⟩
  | 9, h, _ =>
    cases h
    exact ⟨_, _, _, rfl, by decide +kernel, .inr rfl, none_, by show 0 ≤ 2; decide⟩
  | 10, h, _ =>
    cases h
    exact ⟨_, _, _, rfl, by decide +kernel, .inr rfl, none_, by show 0 ≤ 2; decide⟩
  | 11, h, _ =>
    cases h
    exact ⟨_, _, _, rfl, by decide +kernel, .inr rfl, none_, by show 0 ≤ 2; decide⟩
  | 12, h, _ =>
    cases h
    exact ⟨_, _, _, rfl, by decide +kernel, .inr rfl, none_, by show 0 ≤ 2; decide⟩
  | n + 13, _, h => omega
theorem rows_shared {t o : D} (ht : Sh t) (ho : Sh o) : ∀ (k : Nat) (d : D), (sharedD t o)[k]? = some d → RowNo d := fun k d h => by
  have hk : k < 18 := (List.getElem?_eq_some_iff.mp h).1
  have one : ∀ x, x ∈ [t] → Sh x := fun x hx => by rw [List.mem_singleton.mp hx]; exact ht
  have both : ∀ x, x ∈ [t, o] → Sh x := fun x hx => by
    (simp only [List.mem_cons, List.not_mem_nil, or_false] at hx)
    rcases hx with rfl | rfl
    · exact ht
    · exact ho
  have none_ : ∀ x, x ∈ ([] : List D) → Sh x := fun x hx => by cases hx
  match k, h, hk with
  | 0, h, _ =>
    cases h
    exact ⟨_, _, _, rfl, ⟨by decide +kernel, by decide +kernel⟩, .inl ⟨_, rfl⟩, one, by show 1 ≤ 2; decide⟩
  | 1, h, _ =>
    cases h
    exact ⟨_, _, _, rfl, ⟨by decide +kernel, by decide +kernel⟩, .inl ⟨_, rfl⟩, one, by show 1 ≤ 2; decide⟩
  | 2, h, _ =>
    cases h
    exact ⟨_, _, _, rfl, ⟨by decide +kernel, by decide +kernel⟩, .inl ⟨_, rfl⟩, one, by show 1 ≤ 2; decide⟩
  | 3, h, _ =>
    cases h
    exact ⟨_, _, _, rfl, ⟨by decide +kernel, by decide +kernel⟩, .inl ⟨_, rfl⟩, one, by show 1 ≤ 2; decide⟩
  | 4, h, _ =>
    cases h
    exact ⟨_, _, _, rfl, ⟨by decide +kernel, by decide +kernel⟩, .inl ⟨_, rfl⟩, one, by show 1 ≤ 2; decide⟩
  | 5, h, _ =>
    cases h
    exact ⟨_, _, _, rfl, ⟨by decide +kernel, by decide +kernel⟩, .inl ⟨_, rfl⟩, one, by show 1 ≤ 2; decide⟩
  | 6, h, _ =>
    cases h
    exact ⟨_, _, _, rfl, ⟨by decide +kernel, by decide +kernel⟩, .inl ⟨_, rfl⟩, one, by show 1 ≤ 2; decide⟩
  | 7, h, _ =>
    cases h
    exact ⟨_, _, _, rfl, ⟨by decide +kernel, by decide +kernel⟩, .inl ⟨_, rfl⟩, one, by show 1 ≤ 2; decide⟩
  | 8, h, _ =>
    cases h
    exact ⟨_, _, _, rfl, ⟨by decide +kernel, by decide +kernel⟩, .inl ⟨_, rfl⟩, one, by show 1 ≤ 2; decide⟩
  | 9, h, _ =>
    cases h
    exact ⟨_, _, _, rfl, ⟨by decide +kernel, by decide +kernel⟩, .inl ⟨_, rfl⟩, one, by show 1 ≤ 2; decide⟩
  | 10, h, _ =>
    cases h
    exact ⟨_, _, _, rfl, ⟨by decide +kernel, by decide +kernel⟩, .inl ⟨_, rfl⟩, one, by show 1 ≤ 2; decide⟩
  | 11, h, _ =>
    cases h
    exact ⟨_, _, _, rfl, ⟨by decide +kernel, by decide +kernel⟩, .inl ⟨_, rfl⟩, one, by show 1 ≤ 2; decide⟩
  | 12, h, _ =>
    cases h
    exact ⟨_, _, _, rfl, ⟨by decide +kernel, by decide +kernel⟩, .inl ⟨_, rfl⟩, one, by show 1 ≤ 2; decide⟩
  | 13, h, _ =>
    cases h
    exact ⟨_, _, _, rfl, ⟨by decide +kernel, by decide +kernel⟩, .inl ⟨_, rfl⟩, both, by show 2 ≤ 2; decide⟩
  | 14, h, _ =>
    cases h
    exact ⟨_, _, _, rfl, ⟨by decide +kernel, by decide +kernel⟩, .inl ⟨_, rfl⟩, one, by show 1 ≤ 2; decide⟩
  | 15, h, _ =>
    cases h
    exact ⟨_, _, _, rfl, ⟨by decide +kernel, by decide +kernel⟩, .inr rfl, none_, by show 0 ≤ 2; decide⟩
  | 16, h, _ =>
    cases h
    exact ⟨_, _, _, rfl, ⟨by decide +kernel, by decide +kernel⟩, .inr rfl, none_, by show 0 ≤ 2; decide⟩
  | 17, h, _ =>
    cases h
    exact ⟨_, _, _, rfl, ⟨by decide +kernel, by decide +kernel⟩, .inr rfl, none_, by show 0 ≤ 2; decide⟩
  | n + 18, _, h => omega
theorem place_row {k : Nat} {d : D} {t : D} (h : (placeD t)[k]? = some d) : ∃ c, c ∈ placeL ∧ d = .exv c [("given", t)] ∧ kindsL[k]? = some c := by
  unfold placeD at h
  rw [List.getElem?_map] at h
  obtain ⟨c, hc, rfl⟩ := Option.map_eq_some_iff.mp h
  refine ⟨c, List.mem_of_getElem? hc, rfl, ?_⟩
  have e : kindsL.take 43 = placeL := by decide +kernel
  rw [← e, List.getElem?_take] at hc
  split at hc
  · exact hc
  · cases hc
theorem kinds_all : ∀ c ∈ kindsL, c ∈ allL := by decide +kernel
theorem place_len (t : D) : (placeD t).length = 43 := by
  unfold placeD
  rw [List.length_map]
  decide
def c_Flaw : CD := ⟨fun ds k => ∃ ns : List Int, ds = [.rol (ns.map .int)] ∧ ns.length ≤ 63 ∧ (∀ z ∈ ns, Builtin.Int.intBits z ≤ 1048576) ∧ k (.ret (.sh (.bl true))), by
  rintro ds k k' h ⟨ns, e, g1, g2, q⟩
  exact ⟨ns, e, g1, g2, h _ q⟩⟩
theorem sc_Flaw : FnScope ["script", "cell", "source", "made", "rows", "thing", "other", "k", "e", "got", "due"] ["script"] (defScope s_Flaw) := ⟨rfl, rfl, rfl, by decide +kernel, rfl, by decide +kernel, by decide +kernel⟩
theorem ok_Flaw (T : Tx K mg) (tb : ∀ p ∈ csOf K, LamX.TabB bs mg p.1 p.2) {fd : FuncData} (F0 : FunD K "law" "law" (defArgs s_Flaw) (defBody s_Flaw) (defScope s_Flaw) [] [] (He.ga K "law") fd) : DC.FnG prg wd K mg bs (L2.CX prg wd) 4 (He.ga K "law") fd ["script"] (toSp K 1 c_Flaw.con) ∧ L2.Binds K fd ["script"] [] ∧ PySem.W.keepIn K (.ref (He.ga K "law")) = true := by
  obtain ⟨_, F_Llaw_by_name, b_Llaw_by_name, k_Llaw_by_name⟩ := ok_Llaw_by_name (prg := prg) (wd := wd) (bs := bs) T tb
  obtain ⟨_, F_Llaw_by_place, b_Llaw_by_place, k_Llaw_by_place⟩ := ok_Llaw_by_place (prg := prg) (wd := wd) (bs := bs) T tb
  obtain ⟨_, F_Llaw_is, b_Llaw_is, k_Llaw_is⟩ := ok_Llaw_is (prg := prg) (wd := wd) (bs := bs) T tb
  obtain ⟨_, F_Llaw_others, b_Llaw_others, k_Llaw_others⟩ := ok_Llaw_others (prg := prg) (wd := wd) (bs := bs) T tb
  obtain ⟨_, F_Llaw_others_by_name, b_Llaw_others_by_name, k_Llaw_others_by_name⟩ := ok_Llaw_others_by_name (prg := prg) (wd := wd) (bs := bs) T tb
  obtain ⟨_, F_Llaw_shared, b_Llaw_shared, k_Llaw_shared⟩ := ok_Llaw_shared (prg := prg) (wd := wd) (bs := bs) T tb
  obtain ⟨_, F_Llaw_source, b_Llaw_source, k_Llaw_source⟩ := ok_Llaw_source (prg := prg) (wd := wd) (bs := bs) T tb
  obtain ⟨_, F_Llaw_thing, b_Llaw_thing, k_Llaw_thing⟩ := ok_Llaw_thing (prg := prg) (wd := wd) (bs := bs) T tb
  refine ⟨def_D (N := ["script", "cell", "source", "made", "rows", "thing", "other", "k", "e", "got", "due"]) F0 sc_Flaw rfl ?_, F0.bindsN fun _ _ _ _ _ _ us hl => match us, hl with | [_], _ => rfl, F0.kp⟩
  intro cdv A fr s H E ds kk gd room hc hl
  have hu := room.units
  have hu7 := room70 room
  have sc := sc_Flaw
  refine ⟨_, (pss_cons (ps_for (passes_of rfl) rfl (pi_list (pe_slice o_sl (pe_op o_add (pv 0) (pe_lst (pa_cons pe_int pa_nil))) po_none (po_some pe_int))) (pg_name (i := 1) sc.nd rfl (Or.inl rfl)) (pss_cons (ps_set (i := 2) sc.nd rfl (Or.inl rfl) (DC.pe_callG F_Llaw_source gd (room.mono (by decide)) (by rfl) T.g__law_source k_Llaw_source b_Llaw_source .nil (fun σ => passAt (takes_of rfl rfl rfl rfl) σ) (pa_cons (pv 1) pa_nil)))
    (pss_cons (ps_par (i := 5) (j := 6) (by rfl) sc.nd rfl rfl (by decide) rfl rfl (pa_cons (DC.pe_callG F_Llaw_thing gd (room.mono (by decide)) (by rfl) T.g__law_thing k_Llaw_thing b_Llaw_thing .nil (fun σ => passAt (takes_of rfl rfl rfl rfl) σ) (pa_cons (pv 2) pa_nil)) (pa_cons (DC.pe_callG F_Llaw_thing gd (room.mono (by decide)) (by rfl) T.g__law_thing k_Llaw_thing b_Llaw_thing .nil (fun σ => passAt (takes_of rfl rfl rfl rfl) σ) (pa_cons (pv 2) pa_nil)) pa_nil)) (by rfl))
    (pss_cons (ps_for (passes_of rfl) rfl (pi_list (pe_lst (pa_cons (DC.pe_callG F_Llaw_by_place gd (room.mono (by decide)) (by rfl) T.g__law_by_place k_Llaw_by_place b_Llaw_by_place .nil (fun σ => passAt (takes_of rfl rfl rfl rfl) σ) (pa_cons (pv 5) pa_nil)) (pa_cons (DC.pe_callG F_Llaw_by_name gd (room.mono (by decide)) (by rfl) T.g__law_by_name k_Llaw_by_name b_Llaw_by_name .nil (fun σ => passAt (takes_of rfl rfl rfl rfl) σ) (pa_cons (pv 5) pa_nil)) pa_nil)))) (pg_name (i := 3) sc.nd rfl (Or.inl rfl)) (pss_one (ps_for (passes_of rfl) rfl (pi_range1 (by rfl) T.n_range (pa_cons (pe_callB o_lenA (by rfl) T.n_len (by decide +kernel) (pa_cons (pv 3) pa_nil)) pa_nil)) (pg_name (i := 7) sc.nd rfl (Or.inl rfl)) (pss_one (ps_if (pt_not (pt_val (DC.pe_callG F_Llaw_is gd (room.mono (by decide)) (by rfl) T.g__law_is k_Llaw_is b_Llaw_is .nil (fun σ => passAt (takes_of rfl rfl rfl rfl) σ) (pa_cons (pe_ix ix_seq (pv 3) (pv 7) (fun _ _ => rfl)) (pa_cons (pe_lst (pa_cons (DC.pe_xfVK rfl (pe_ix ix_seq (pv 3) (pv 7) (fun _ _ => rfl))) pa_nil)) (pa_cons (pe_lst (pa_cons (pv 5) pa_nil)) (pa_cons (pv 7) pa_nil))))))) (pss_one (ps_ret pe_bl)) pss_nil)))))
    (pss_cons (ps_for (passes_of rfl) rfl (pi_list (pe_lst (pa_cons (DC.pe_callG F_Llaw_others gd (room.mono (by decide)) (by rfl) T.g__law_others k_Llaw_others b_Llaw_others .nil (fun σ => passAt (takes_of rfl rfl rfl rfl) σ) (pa_cons (pv 5) (pa_cons (pv 6) pa_nil))) (pa_cons (DC.pe_callG F_Llaw_others_by_name gd (room.mono (by decide)) (by rfl) T.g__law_others_by_name k_Llaw_others_by_name b_Llaw_others_by_name .nil (fun σ => passAt (takes_of rfl rfl rfl rfl) σ) (pa_cons (pv 5) (pa_cons (pv 6) pa_nil))) pa_nil)))) (pg_name (i := 4) sc.nd rfl (Or.inl rfl)) (pss_one (ps_for (passes_of rfl) rfl (pi_range1 (by rfl) T.n_range (pa_cons (pe_callB o_lenA (by rfl) T.n_len (by decide +kernel) (pa_cons (pv 4) pa_nil)) pa_nil)) (pg_name (i := 7) sc.nd rfl (Or.inl rfl)) (pss_one (ps_if (pt_not (pt_val (DC.pe_callG F_Llaw_is gd (room.mono (by decide)) (by rfl) T.g__law_is k_Llaw_is b_Llaw_is .nil (fun σ => passAt (takes_of rfl rfl rfl rfl) σ) (pa_cons (pe_ix ix_seq (pe_ix ix_seq (pv 4) (pv 7) (fun _ _ => rfl)) pe_int (fun _ _ => rfl)) (pa_cons (pe_ix ix_seq (pe_ix ix_seq (pv 4) (pv 7) (fun _ _ => rfl)) pe_int (fun _ _ => rfl)) (pa_cons (pe_ix ix_seq (pe_ix ix_seq (pv 4) (pv 7) (fun _ _ => rfl)) pe_int (fun _ _ => rfl)) (pa_cons (pe_op o_add pe_int (pv 7)) pa_nil))))))) (pss_one (ps_ret pe_bl)) pss_nil)))))
    (pss_one (ps_for (passes_of rfl) rfl (pi_list (DC.pe_callG F_Llaw_shared gd (room.mono (by decide)) (by rfl) T.g__law_shared k_Llaw_shared b_Llaw_shared .nil (fun σ => passAt (takes_of rfl rfl rfl rfl) σ) (pa_cons (pv 5) (pa_cons (pv 6) pa_nil)))) (pg_lst (by rfl) (pgs_cons (pg_name (i := 8) sc.nd rfl (Or.inl rfl)) (pgs_cons (pg_name (i := 9) sc.nd rfl (Or.inl rfl)) (pgs_cons (pg_name (i := 10) sc.nd rfl (Or.inl rfl)) pgs_nil)))) (pss_one (ps_if (pt_not (pt_val (DC.pe_callG F_Llaw_is gd (room.mono (by decide)) (by rfl) T.g__law_is k_Llaw_is b_Llaw_is .nil (fun σ => passAt (takes_of rfl rfl rfl rfl) σ) (pa_cons (pv 8) (pa_cons (pv 9) (pa_cons (pv 10) (pa_cons (pe_un un_neg pe_int) pa_nil))))))) (pss_one (ps_ret pe_bl)) pss_nil))))))))) (pss_one (ps_ret pe_bl))), ?_⟩
  try dsimp only [L2.cxOf]
  obtain ⟨ns, rfl, z1, z2, q⟩ := hc
  have pg : ∀ c ∈ placeL, XfC K (He.ga K c) ∧ PySem.W.findIn K (.ref (He.ga K c)) "given" = some none := allA (allC ⟨T.x_BadWidth, T.no_BadWidth_given⟩ (allC ⟨T.x_UnknownBid, T.no_UnknownBid_given⟩ (allC ⟨T.x_BadBid, T.no_BadBid_given⟩ (allC ⟨T.x_TooManyBids, T.no_TooManyBids_given⟩ (allC ⟨T.x_BidTaken, T.no_BidTaken_given⟩ (allC ⟨T.x_BothSides, T.no_BothSides_given⟩ (allC ⟨T.x_BadClosing, T.no_BadClosing_given⟩ (allC ⟨T.x_BadMove, T.no_BadMove_given⟩ (allC ⟨T.x_BadStanding, T.no_BadStanding_given⟩ (allC ⟨T.x_BadNumber, T.no_BadNumber_given⟩ (allC ⟨T.x_BadLegs, T.no_BadLegs_given⟩ (allC ⟨T.x_BadDues, T.no_BadDues_given⟩ (allC ⟨T.x_BadHoldings, T.no_BadHoldings_given⟩ (allC ⟨T.x_BadQueues, T.no_BadQueues_given⟩ (allC ⟨T.x_BadOwners, T.no_BadOwners_given⟩ (allC ⟨T.x_NoDue, T.no_NoDue_given⟩ (allC ⟨T.x_Duplicate, T.no_Duplicate_given⟩ (allC ⟨T.x_NotTogether, T.no_NotTogether_given⟩ (allC ⟨T.x_Settles, T.no_Settles_given⟩ (allC ⟨T.x_BadRules, T.no_BadRules_given⟩ (allC ⟨T.x_BadFact, T.no_BadFact_given⟩ (allC ⟨T.x_BadFacts, T.no_BadFacts_given⟩ (allC ⟨T.x_NoSlip, T.no_NoSlip_given⟩ (allC ⟨T.x_Filled, T.no_Filled_given⟩ (allC ⟨T.x_NoDeed, T.no_NoDeed_given⟩ (allC ⟨T.x_DayClosed, T.no_DayClosed_given⟩ (allC ⟨T.x_NoTrade, T.no_NoTrade_given⟩ (allC ⟨T.x_NotKnown, T.no_NotKnown_given⟩ (allC ⟨T.x_BadQuestion, T.no_BadQuestion_given⟩ (allC ⟨T.x_ManySlips, T.no_ManySlips_given⟩ (allN))))))))))))))))))))))))))))))) (allC ⟨T.x_BadLots, T.no_BadLots_given⟩ (allC ⟨T.x_BadCost, T.no_BadCost_given⟩ (allC ⟨T.x_BadWay, T.no_BadWay_given⟩ (allC ⟨T.x_NotThere, T.no_NotThere_given⟩ (allC ⟨T.x_BadIndex, T.no_BadIndex_given⟩ (allC ⟨T.x_BadSide, T.no_BadSide_given⟩ (allC ⟨T.x_BadPosition, T.no_BadPosition_given⟩ (allC ⟨T.x_BadPrices, T.no_BadPrices_given⟩ (allC ⟨T.x_UnknownUnit, T.no_UnknownUnit_given⟩ (allC ⟨T.x_BadDebt, T.no_BadDebt_given⟩ (allC ⟨T.x_NoDebtor, T.no_NoDebtor_given⟩ (allC ⟨T.x_BadViewer, T.no_BadViewer_given⟩ (allC ⟨T.x_Hidden, T.no_Hidden_given⟩ (allN))))))))))))))
  refine ws_seq ?_
  refine ws_for (sl := [1]) ?_
  refine wi_list ?_
  walk_at "ex"
  refine rd_addL (.rol _) (.lst _) (by rw [List.length_map]; show ns.length + 1 ≤ 100000; omega) ?_
  walk_at "ex"
  refine rs_list (.lst _) ?_
  have cs := cut_sub (xs := ns.map D.int ++ [.int 0]) (lo := none) (hi := some 3)
  refine ⟨_, rfl, fun i ρ => ∃ y1 y2 y3 y4 y5 y6 y7 y8 y9 y10 : Option M, ρ = [some (.sh (.rol (ns.map .int))), y1, y2, y3, y4, y5, y6, y7, y8, y9, y10], ⟨none, none, none, none, none, none, none, none, none, none, rfl⟩, ?_, ?_⟩
  rotate_left
  · rintro ρ2 ⟨y1, y2, y3, y4, y5, y6, y7, y8, y9, y10, rfl⟩
    show WS _ _ _ _
    refine ws_ret ?_
    walk_at "ex"
    exact q
  rintro i d ρ2 hd ⟨y1, y2, y3, y4, y5, y6, y7, y8, y9, y10, rfl⟩
  have dm := cs.2 d (List.mem_of_getElem? hd)
  obtain ⟨z, rfl, zb⟩ : ∃ z, d = .int z ∧ Builtin.Int.intBits z ≤ 1048576 := by
    rcases List.mem_append.mp dm with h | h
    · obtain ⟨z, hz, rfl⟩ := List.mem_map.mp h
      exact ⟨z, rfl, z2 z hz⟩
    · rw [List.mem_singleton.mp h]
      exact ⟨0, rfl, by decide⟩
  refine wg_name (by walk_at "px") (by simp) ?_
  show WS _ _ _ _
  refine ws_seq ?_
  refine ws_asgO (by walk_at "px") (by show 2 < 11; decide) ?_
  refine wo_cd repL_nil ?_
  walk_at "ex"
  refine ⟨rfl, z, rfl, zb, fun m sm => ⟨rfl, ?_⟩⟩
  change WS _ _ [some (.sh (.rol (ns.map .int))), some (.sh (.int z)), some m, y3, y4, y5, y6, y7, y8, y9, y10] _
  refine ws_seq ?_
  refine ws_par (by walk_at "px") (by walk_at "px") ?_
  walk_at "ex"
  refine ⟨rfl, _, sm, rfl, by decide, fun t m1 ht s1 => ⟨_, .sh _, ?_⟩⟩
  walk_at "ex"
  refine ⟨rfl, _, s1, rfl, by decide, fun o m2 ho s2 => ⟨_, .sh _, ?_⟩⟩
  walk_at "ex"
  refine ⟨_, _, rfl, ?_⟩
  change WS _ _ [some (.sh (.rol (ns.map .int))), some (.sh (.int z)), some m2, y3, y4, some (.sh t), some (.sh o), y7, y8, y9, y10] _
  have sb : ∀ x ∈ [t], Sh x := fun x hx => by rw [List.mem_singleton.mp hx]; exact ht
  refine ws_mid (fun ρ => ∃ y3 y7 : Option M, ρ = [some (.sh (.rol (ns.map .int))), some (.sh (.int z)), some m2, y3, y4, some (.sh t), some (.sh o), y7, y8, y9, y10]) ?_ ?_
  · refine ws_for (sl := [3]) ?_
    refine wi_list ?_
    walk_at "ex"
    refine ⟨rfl, t, rfl, _, .sh _, ?_⟩
    walk_at "ex"
    refine ⟨rfl, t, rfl, _, .sh _, ?_⟩
    walk_at "ex"
    refine ⟨fun j ρ => ∃ y3 y7 : Option M, ρ = [some (.sh (.rol (ns.map .int))), some (.sh (.int z)), some m2, y3, y4, some (.sh t), some (.sh o), y7, y8, y9, y10], ⟨_, _, rfl⟩, ?_, ?_⟩
    rotate_left
    · rintro ρ2 h
      exact h
    rintro j d ρ2 hd2 ⟨y3, y7, rfl⟩
    obtain rfl : d = .lst (placeD t) := by
      have hm := List.mem_of_getElem? hd2
      simp only [List.mem_cons, List.not_mem_nil, or_false, or_self] at hm
      exact hm
    refine wg_name (by walk_at "px") (by simp) ?_
    have pl := place_len t
    have pr := fun (k : Nat) (d : D) h => place_row (k := k) (d := d) (t := t) h
    generalize placeD t = R at pl pr
    show WS _ _ _ _
    refine ws_for (sl := [7]) ?_
    refine wi_rng1 ?_
    walk_at "ex"
    refine rc_lenAL (.lst _) ?_
    walk_at "ex"
    refine ⟨by omega, fun k ρ => ∃ y7 : Option M, ρ = [some (.sh (.rol (ns.map .int))), some (.sh (.int z)), some m2, some (.sh (.lst R)), y4, some (.sh t), some (.sh o), y7, y8, y9, y10], ⟨_, rfl⟩, ?_, ?_⟩
    rotate_left
    · rintro ρ2 ⟨y7, rfl⟩
      exact ⟨_, _, rfl⟩
    rintro k d ρ2 hd3 ⟨y7, rfl⟩
    obtain ⟨hk, rfl⟩ := intsD_get hd3
    have hk : k < R.length := by omega
    obtain ⟨c, hcp, er, hck⟩ := pr k R[k] (List.getElem?_eq_getElem hk)
    have at_ : atI R (0 + (k : Int)) = some (.exv c [("given", t)]) := by
      rw [Int.zero_add, ← er]
      exact atI_nat (List.getElem?_eq_getElem hk)
    refine wg_name (by walk_at "px") (by simp) ?_
    show WS _ _ _ _
    refine ws_if ?_
    refine wt_not ?_
    refine wt_test ?_
    walk_at "ex"
    refine rd_ixL (.lst _) at_ ?_
    walk_at "ex"
    refine w_xfV ?_
    walk_at "ex"
    refine rd_ixL (.lst _) at_ ?_
    refine ⟨c, [("given", t)], t, rfl, (pg c hcp).1, (pg c hcp).2, rfl, ?_⟩
    walk_at "ex"
    refine ⟨rfl, _, c, [t], _, rfl, kinds_all c (List.mem_of_getElem? hck), .inl ⟨_, rfl⟩, sb, (by show 1 ≤ 2; decide), .inl ⟨k, Int.zero_add _, hck⟩, _, .sh _, _, rfl, ?_⟩
    refine if_no rfl ?_
    exact ws_next ⟨_, rfl⟩
  rintro ρ2 ⟨y3, y7, rfl⟩
  show WS _ _ _ _
  refine ws_mid (fun ρ => ∃ y4 y7 : Option M, ρ = [some (.sh (.rol (ns.map .int))), some (.sh (.int z)), some m2, y3, y4, some (.sh t), some (.sh o), y7, y8, y9, y10]) ?_ ?_
  · refine ws_for (sl := [4]) ?_
    refine wi_list ?_
    walk_at "ex"
    refine ⟨rfl, t, o, rfl, _, .sh _, ?_⟩
    walk_at "ex"
    refine ⟨rfl, t, o, rfl, _, .sh _, ?_⟩
    walk_at "ex"
    refine ⟨fun j ρ => ∃ y4 y7 : Option M, ρ = [some (.sh (.rol (ns.map .int))), some (.sh (.int z)), some m2, y3, y4, some (.sh t), some (.sh o), y7, y8, y9, y10], ⟨_, _, rfl⟩, ?_, ?_⟩
    rotate_left
    · rintro ρ2 h
      exact h
    rintro j d ρ2 hd2 ⟨y4, y7, rfl⟩
    obtain rfl : d = .lst (othersD t o) := by
      have hm := List.mem_of_getElem? hd2
      simp only [List.mem_cons, List.not_mem_nil, or_false, or_self] at hm
      exact hm
    refine wg_name (by walk_at "px") (by simp) ?_
    have pl : (othersD t o).length = 13 := rfl
    have pr := rows_others ht ho
    generalize othersD t o = R at pl pr
    show WS _ _ _ _
    refine ws_for (sl := [7]) ?_
    refine wi_rng1 ?_
    walk_at "ex"
    refine rc_lenAL (.lst _) ?_
    walk_at "ex"
    refine ⟨by omega, fun k ρ => ∃ y7 : Option M, ρ = [some (.sh (.rol (ns.map .int))), some (.sh (.int z)), some m2, y3, some (.sh (.lst R)), some (.sh t), some (.sh o), y7, y8, y9, y10], ⟨_, rfl⟩, ?_, ?_⟩
    rotate_left
    · rintro ρ2 ⟨y7, rfl⟩
      exact ⟨_, _, rfl⟩
    rintro k d ρ2 hd3 ⟨y7, rfl⟩
    obtain ⟨hk, rfl⟩ := intsD_get hd3
    have hk : k < R.length := by omega
    obtain ⟨e, c, xs, er, hck, he, hs, l2⟩ := pr k R[k] (List.getElem?_eq_getElem hk)
    have at_ : atI R (0 + (k : Int)) = some (.lst [e, .lst xs, .lst xs]) := by
      rw [Int.zero_add]
      exact (atI_nat (List.getElem?_eq_getElem hk)).trans (congrArg some er)
    refine wg_name (by walk_at "px") (by simp) ?_
    show WS _ _ _ _
    refine ws_if ?_
    refine wt_not ?_
    refine wt_test ?_
    walk_at "ex"
    refine rd_ixL (.lst _) at_ ?_
    walk_at "ex"
    refine rd_ixL (.lst _) (d := e) rfl ?_
    walk_at "ex"
    refine rd_ixL (.lst _) at_ ?_
    walk_at "ex"
    refine rd_ixL (.lst _) (d := .lst xs) rfl ?_
    walk_at "ex"
    refine rd_ixL (.lst _) at_ ?_
    walk_at "ex"
    refine rd_ixL (.lst _) (d := .lst xs) rfl ?_
    walk_at "ex"
    refine ⟨rfl, e, c, xs, _, rfl, kinds_all c (List.mem_of_getElem? hck), he, hs, l2, .inl ⟨43 + k, by omega, hck⟩, _, .sh _, _, rfl, ?_⟩
    refine if_no rfl ?_
    exact ws_next ⟨_, rfl⟩
  rintro ρ2 ⟨y4, y7, rfl⟩
  show WS _ _ _ _
  refine ws_for (sl := [8, 9, 10]) ?_
  refine wi_list ?_
  walk_at "ex"
  refine ⟨rfl, t, o, rfl, _, .sh _, ?_⟩
  refine ⟨_, rfl, fun j ρ => ∃ y8 y9 y10 : Option M, ρ = [some (.sh (.rol (ns.map .int))), some (.sh (.int z)), some m2, y3, y4, some (.sh t), some (.sh o), y7, y8, y9, y10], ⟨_, _, _, rfl⟩, ?_, ?_⟩
  rotate_left
  · rintro ρ2 ⟨y8, y9, y10, rfl⟩
    exact ⟨_, _, _, _, _, _, _, _, _, _, rfl⟩
  rintro j d ρ2 hd2 ⟨y8, y9, y10, rfl⟩
  obtain ⟨e, c, xs, rfl, ⟨hca, hcn⟩, he, hs, l2⟩ := rows_shared ht ho j d hd2
  refine wg_lst rfl ?_
  walk_at "ex"
  show WS _ _ _ _
  refine ws_if ?_
  refine wt_not ?_
  refine wt_test ?_
  walk_at "ex"
  refine ⟨rfl, e, c, xs, _, rfl, hca, he, hs, l2, .inr ⟨rfl, hcn⟩, _, .sh _, _, rfl, ?_⟩
  refine if_no rfl ?_
  exact ws_next ⟨_, _, _, rfl⟩
end K48

open PySem PySem.Calls PySem.W PyProof.Rows
theorem PySem.Challenge.cw_evenmarket_k48_errors_of_all_modules_holds : PySem.Challenge.rw_evenmarket_k48_errors_of_all_modules.Holds := by
  w_on; o_law
  refine HandSHeadRun.head_any (r := OpenLaw.row PySem.Challenge.rw_evenmarket_k48_errors_of_all_modules) (q := view (OpenLaw.row PySem.Challenge.rw_evenmarket_k48_errors_of_all_modules).prog [100]) (H := K48.hk) (ob := K48.ob) (M := 60000) (loose := K48.loose) (d := HandSHeadRun.topDef (OpenLaw.row PySem.Challenge.rw_evenmarket_k48_errors_of_all_modules).prog 100) (kwd := []) K48.ob_eq
    (by kernel_rfl) (fun s => by kernel_rfl) K48.run (by kernel_rfl) (by kernel_rfl) (by kernel_rfl) (by rfl) (by first | assumption | decide +kernel) (by decide +kernel) ⟨rfl, rfl, rfl, rfl, rfl, by decide +kernel⟩ ?hw ?hc
  case hw => w_witness2
  case hc =>
    refine DL.walk_DLT (l := PySem.Challenge.rw_evenmarket_k48_errors_of_all_modules) (n := 63) (lv := 4) (x := "script") (C := K48.c_Flaw) rfl (by decide) (by kernel_rfl) ⟨rfl, by decide, by decide⟩ ?F (fun ns hn hb => ⟨ns, rfl, hn, hb, rfl⟩)
    intro w mg fa h Y G hmg0
    obtain ⟨K, KX, y⟩ := Y
    have there : mg ("law" : PySem.Str) = some (.ref fa) := by
      have e : (HandSHeadRun.topDef (OpenLaw.row PySem.Challenge.rw_evenmarket_k48_errors_of_all_modules).prog 100).name = ("law" : PySem.Str) := by kernel_rfl
      rw [← e]
      exact hmg0
    have T := K48.tx_of (w := w) (h := h) KX G y
    have e := there.symm.trans T.g_law
    cases e
    obtain ⟨fd, F⟩ := T.d_Flaw
    exact ⟨K, fd, DL.csOf K, DL.nmOf K, KX, fun s u => F.bindsA (ps := ["script"]) (fun _ _ _ _ _ _ us hl => match us, hl with | [_], _ => rfl) s [u] rfl, y.empty, y.out, fun p hp => PySem.W.codeHd_of_K KX (y.hd p hp), fun c P z k1 _ k3 => ⟨⟨_, DL.csOf_mem k1, rfl⟩, y.one c P z k1 k3⟩, fun bs _ _ tb => (K48.ok_Flaw T tb F).1⟩



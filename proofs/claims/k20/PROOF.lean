import PyProof.Rows.All
import Wide.All
import OpenK.AllK
import Wide.FinOn
import HandS.ForMost
import HandS.ForExc
import HandS.ExcInit
import HandS.ExcField
import HandS.TryMany
import HandS.CallSlots
import HandS.Defaults
import HandS.Wide
import HandS.HeadHook4
import HandS.Lambda
import HandS.NestedK
import KE.DataMinKey
import HandS.SortKw
import HandS.TupAny
import HandS.IsInst
import HandS.Small
import HandS.WordsDict
import HandS.EndBits
import HandS.Head0
import HandS.Head1
import HandS.Head2
import HandS.HeadEnd
import PyProof.ListStr
import KE.KRevSl
import HandS.SortInts
import HandS.FStr
import HandS.ClsMeth
import HandS.HeadNt
import KE.KCallOwn
import PyProof.AssignAttr
import PyProof.ReprRoads
import HandS.Dict
import HandS.More
import HandS.Iter
import HandS.Finally
import HandS.DictComp
import PyProof.Rows.StrMeet
import KE.KEqNest
import PyProof.NeKinds
import HandS.Text
import HandS.SetKeys
import HandS.Style
import KE.GoesZip
import KE.GoesMore
import HandS.Star
import PyProof.P3In
import KE.KDictZip
import HandS.EndTab
import PySem.Challenge.RW_evenmarket_k20_turning
import HandS.Conv
import PyProof.SeqI3
import HandS.SortRule
import KE.DataMinMax
set_option Elab.async false
set_option linter.all false
set_option maxRecDepth 100001
set_option maxHeartbeats 0
namespace DL
open PySem L2

/-- data: what a value stands for, without addresses -/
inductive D where
  | non
  | bl (b : Bool)
  | int (i : Int)
  | str (x : Str)
  | ty (n : String)
  | fun_ (a : Addr)
  | tup (ds : List D)
  | lst (ds : List D)
  | rol (ds : List D)
  | dic (kvs : List (Key × D))
  | dit (kvs : List (List Key × D))
  | obj (c : Str) (fs : List (Str × D))
  | exc (a dd : Addr) (c : Str) (fs : List (Str × D))

/-- what may still be changed: a tree of objects that nobody else holds -/
inductive M where
  | sh (d : D)
  | lst (ms : List M)
  | dic (kvs : List (Key × M))
  | dit (kvs : List (List Key × M))
  | obj (c : Str) (fs : List (Str × M))
  | tup (ms : List M)
  | ex (n : Nat)

abbrev clsAt (K : PySem.W.Frag) (x : Str) : Addr := He.ga K x

mutual
inductive Rep (K : PySem.W.Frag) (S : Hp) : V → D → Prop
  | non : Rep K S .non .non
  | bl (b : Bool) : Rep K S (.bl b) (.bl b)
  | int (i : Int) : Rep K S (.int i) (.int i)
  | str (x : Str) : Rep K S (.str x) (.str x)
  | ty (n : String) : Rep K S (.ty n) (.ty n)
  | fun_ (a : Addr) : Rep K S (.ref a) (.fun_ a)
  | tup {a : Addr} {xs : List V} {ds : List D} : SqT K S a xs → RepL K S xs ds → Rep K S (.ref a) (.tup ds)
  | lst {a : Addr} {xs : List V} {ds : List D} : Rd S a (.lst xs) → RepL K S xs ds → Rep K S (.ref a) (.lst ds)
  | rol {a : Addr} {xs : List V} {ds : List D} : SqL K S a xs → RepL K S xs ds → Rep K S (.ref a) (.rol ds)
  | dic {a : Addr} {xs : List (Key × V)} {ds : List (Key × D)} : Rd S a (.dK xs) → RepK K S xs ds → Rep K S (.ref a) (.dic ds)
  | dit {a : Addr} {xs : List (List Key × V)} {ds : List (List Key × D)} : Rd S a (.dT xs) → RepT K S xs ds → Rep K S (.ref a) (.dit ds)
  | obj {a dx : Addr} {c : Str} {xs : List (Str × V)} {ds : List (Str × D)} : S a = some (.ins (clsAt K c) dx xs) → RepF K S xs ds → Rep K S (.ref a) (.obj c ds)
  | exc {a dd : Addr} {c : Str} {xs : List (Str × V)} {ds : List (Str × D)} : S dd = some (.xd xs) → RepF K S xs ds → Rep K S (.ref a) (.exc a dd c ds)
inductive RepL (K : PySem.W.Frag) (S : Hp) : List V → List D → Prop
  | nil : RepL K S [] []
  | cons {v : V} {vs : List V} {d : D} {ds : List D} : Rep K S v d → RepL K S vs ds → RepL K S (v :: vs) (d :: ds)
inductive RepK (K : PySem.W.Frag) (S : Hp) : List (Key × V) → List (Key × D) → Prop
  | nil : RepK K S [] []
  | cons {k : Key} {v : V} {vs : List (Key × V)} {d : D} {ds : List (Key × D)} : Rep K S v d → RepK K S vs ds → RepK K S ((k, v) :: vs) ((k, d) :: ds)
inductive RepT (K : PySem.W.Frag) (S : Hp) : List (List Key × V) → List (List Key × D) → Prop
  | nil : RepT K S [] []
  | cons {k : List Key} {v : V} {vs : List (List Key × V)} {d : D} {ds : List (List Key × D)} : Rep K S v d → RepT K S vs ds → RepT K S ((k, v) :: vs) ((k, d) :: ds)
inductive RepF (K : PySem.W.Frag) (S : Hp) : List (Str × V) → List (Str × D) → Prop
  | nil : RepF K S [] []
  | cons {k : Str} {v : V} {vs : List (Str × V)} {d : D} {ds : List (Str × D)} : Rep K S v d → RepF K S vs ds → RepF K S ((k, v) :: vs) ((k, d) :: ds)
end

/-- more objects -/
def Ex (H G : Hp) : Prop := ∀ (b : Addr) (u : HO), H b = some u → G b = some u
theorem Ex.refl (H : Hp) : Ex H H := fun _ _ same => same
theorem Ex.trans {H I J : Hp} (first : Ex H I) (next : Ex I J) : Ex H J := fun b u h => next b u (first b u h)
theorem Ex.rd {H H' : Hp} {a : Addr} {u : HO} (e : Ex H H') (h : Rd H a u) : Rd H' a u := by
  rcases h with h | ⟨o, h⟩
  · exact .inl (e a _ h)
  · exact .inr ⟨o, e a _ h⟩
theorem Ex.sl {K : PySem.W.Frag} {H H' : Hp} {a : Addr} {xs : List V} (e : Ex H H') (h : SqL K H a xs) : SqL K H' a xs := h.imp e.rd id
theorem Ex.st {K : PySem.W.Frag} {H H' : Hp} {a : Addr} {xs : List V} (e : Ex H H') (h : SqT K H a xs) : SqT K H' a xs := h.imp e.rd id

section
variable {K : PySem.W.Frag} {S S' : Hp}
mutual
theorem Rep.mono (e : Ex S S') : ∀ {v : V} {d : D}, Rep K S v d → Rep K S' v d
  | _, _, .non => .non
  | _, _, .bl b => .bl b
  | _, _, .int i => .int i
  | _, _, .str x => .str x
  | _, _, .ty n => .ty n
  | _, _, .fun_ a => .fun_ a
  | _, _, .tup h r => .tup (e.st h) (RepL.mono e r)
  | _, _, .lst h r => .lst (e.rd h) (RepL.mono e r)
  | _, _, .rol h r => .rol (e.sl h) (RepL.mono e r)
  | _, _, .dic h r => .dic (e.rd h) (RepK.mono e r)
  | _, _, .dit h r => .dit (e.rd h) (RepT.mono e r)
  | _, _, .obj h r => .obj (e _ _ h) (RepF.mono e r)
  | _, _, .exc h r => .exc (e _ _ h) (RepF.mono e r)
theorem RepL.mono (e : Ex S S') : ∀ {v : List V} {d : List D}, RepL K S v d → RepL K S' v d
  | _, _, .nil => .nil
  | _, _, .cons h r => .cons (Rep.mono e h) (RepL.mono e r)
theorem RepK.mono (e : Ex S S') : ∀ {v : List (Key × V)} {d : List (Key × D)}, RepK K S v d → RepK K S' v d
  | _, _, .nil => .nil
  | _, _, .cons h r => .cons (Rep.mono e h) (RepK.mono e r)
theorem RepT.mono (e : Ex S S') : ∀ {v : List (List Key × V)} {d : List (List Key × D)}, RepT K S v d → RepT K S' v d
  | _, _, .nil => .nil
  | _, _, .cons h r => .cons (Rep.mono e h) (RepT.mono e r)
theorem RepF.mono (e : Ex S S') : ∀ {v : List (Str × V)} {d : List (Str × D)}, RepF K S v d → RepF K S' v d
  | _, _, .nil => .nil
  | _, _, .cons h r => .cons (Rep.mono e h) (RepF.mono e r)
end
end
end DL

namespace DL
open PySem L2

/-- a draw state of the law, k draws old at most -/
def exP (k : Nat) (m : M) : Prop := ∃ (bs cs : List Int) (n : Int), m = .lst [.lst (bs.map fun i => .sh (.int i)), .sh (.lst (cs.map .int)), .sh (.int n)] ∧
  0 ≤ n ∧ n ≤ k ∧ cs ≠ [] ∧ cs.length ≤ 64 ∧ bs.length ≤ 63 ∧ (∀ b ∈ bs, 0 ≤ b) ∧ (∀ b ∈ bs, Builtin.Int.intBits b ≤ 1048576) ∧ ∀ c ∈ cs, Builtin.Int.intBits c ≤ 1048576

/-! ### tables of code objects: they grow as lambdas are made -/
/-- all but a table -/
def Hard : HO → Prop
  | .tbl _ => False
  | _ => True
/-- what was o is o still; a table may have grown -/
def Keeps (o : HO) (v : Option HO) : Prop := v = some o ∨ ∃ p q, o = .tbl p ∧ v = some (.tbl q)
theorem Keeps.eq {o : HO} {v : Option HO} (k : Keeps o v) (h : Hard o) : v = some o := by
  rcases k with z | ⟨p, q, rfl, _⟩
  · exact z
  · exact h.elim
theorem Keeps.ex {o : HO} {v : Option HO} (k : Keeps o v) : v ≠ none := by
  rcases k with rfl | ⟨p, q, _, rfl⟩ <;> exact Option.some_ne_none _
theorem Keeps.next {o : HO} {v w : Option HO} (k : Keeps o v) (h : ∀ u, v = some u → Keeps u w) : Keeps o w := by
  rcases k with rfl | ⟨p, q, rfl, rfl⟩
  · exact h _ rfl
  · rcases h _ rfl with rfl | ⟨p', q', e, rfl⟩
    · exact .inr ⟨p, q, rfl, rfl⟩
    · exact .inr ⟨p, q', rfl, rfl⟩
/-- how S calls a table that may grow, its lambdas' name q -/
def TabM (q : Str) : HO := .frz { cls := .none, data := .fields #[.str q 0] } (.ext fun _ => False)
/-- each code object that the table tells is known, and bears the name q -/
def Good (S : Hp) (ps : Array Value) (q : Str) : Prop := TriplesOk ps.toList ∧ ∀ pos cv, codeAmong pos ps.toList = some cv → ∃ c, cv = .ref c ∧ S c = some (LamX.CodeO c q)
theorem Good.mono {S S' : Hp} {ps : Array Value} {q : Str} (g : Good S ps q) (e : Ex S S') : Good S' ps q := ⟨g.1, fun pos cv h => by
  obtain ⟨c, e1, e2⟩ := g.2 pos cv h
  exact ⟨c, e1, e _ _ e2⟩⟩
/-- the tables that K tells of but does not hold -/
def TbK (K : PySem.W.Frag) (S : Hp) : Prop := ∀ c P x, PySem.W.codeHdIn K c P = true → K.lookup P = none → PySem.W.codeIn K (.ref c) x = true → S P = some (TabM ((x ++ ".<locals>.") ++ "<lambda>"))
theorem TbK.mono {K : PySem.W.Frag} {S S' : Hp} (t : TbK K S) (e : Ex S S') : TbK K S' := fun c P x a b d => e _ _ (t c P x a b d)

mutual
inductive OwnR (K : PySem.W.Frag) (S H : Hp) : V → M → List Addr → Prop
  | sh {v : V} {d : D} : Rep K S v d → OwnR K S H v (.sh d) []
  | lst {a : Addr} {vs : List V} {ms : List M} {fp : List Addr} : S a = none → H a = some (.lst vs) → OwnL K S H vs ms fp → OwnR K S H (.ref a) (.lst ms) (a :: fp)
  | dic {a : Addr} {vs : List (Key × V)} {ms : List (Key × M)} {fp : List Addr} : S a = none → H a = some (.dK vs) → OwnK K S H vs ms fp → OwnR K S H (.ref a) (.dic ms) (a :: fp)
  | dit {a : Addr} {vs : List (List Key × V)} {ms : List (List Key × M)} {fp : List Addr} : S a = none → H a = some (.dT vs) → OwnT K S H vs ms fp → OwnR K S H (.ref a) (.dit ms) (a :: fp)
  | obj {a dx : Addr} {c : Str} {vs : List (Str × V)} {ms : List (Str × M)} {fp : List Addr} : S a = none → H a = some (.ins (clsAt K c) dx vs) → OwnF K S H vs ms fp → OwnR K S H (.ref a) (.obj c ms) (a :: fp)
  | tup {a : Addr} {vs : List V} {ms : List M} {fp : List Addr} : SqT K S a vs → OwnL K S H vs ms fp → OwnR K S H (.ref a) (.tup ms) fp
  | ex {v : V} {k : Nat} {m : M} {fp : List Addr} : exP k m → OwnR K S H v m fp → OwnR K S H v (.ex k) fp
inductive OwnL (K : PySem.W.Frag) (S H : Hp) : List V → List M → List Addr → Prop
  | nil : OwnL K S H [] [] []
  | cons {v : V} {vs : List V} {m : M} {ms : List M} {f g : List Addr} : OwnR K S H v m f → OwnL K S H vs ms g → OwnL K S H (v :: vs) (m :: ms) (f ++ g)
inductive OwnK (K : PySem.W.Frag) (S H : Hp) : List (Key × V) → List (Key × M) → List Addr → Prop
  | nil : OwnK K S H [] [] []
  | cons {k : Key} {v : V} {vs : List (Key × V)} {m : M} {ms : List (Key × M)} {f g : List Addr} : OwnR K S H v m f → OwnK K S H vs ms g → OwnK K S H ((k, v) :: vs) ((k, m) :: ms) (f ++ g)
inductive OwnT (K : PySem.W.Frag) (S H : Hp) : List (List Key × V) → List (List Key × M) → List Addr → Prop
  | nil : OwnT K S H [] [] []
  | cons {k : List Key} {v : V} {vs : List (List Key × V)} {m : M} {ms : List (List Key × M)} {f g : List Addr} : OwnR K S H v m f → OwnT K S H vs ms g → OwnT K S H ((k, v) :: vs) ((k, m) :: ms) (f ++ g)
inductive OwnF (K : PySem.W.Frag) (S H : Hp) : List (Str × V) → List (Str × M) → List Addr → Prop
  | nil : OwnF K S H [] [] []
  | cons {k : Str} {v : V} {vs : List (Str × V)} {m : M} {ms : List (Str × M)} {f g : List Addr} : OwnR K S H v m f → OwnF K S H vs ms g → OwnF K S H ((k, v) :: vs) ((k, m) :: ms) (f ++ g)
end

section
variable {K : PySem.W.Frag} {S S' H H' : Hp}
mutual
/-- what is owned stays if its own objects stay -/
theorem OwnR.keep (e : Ex S S') : ∀ {v : V} {m : M} {fp : List Addr}, OwnR K S H v m fp → (∀ x ∈ fp, S' x = none) → (∀ x ∈ fp, ∀ o, H x = some o → Keeps o (H' x)) → OwnR K S' H' v m fp
  | _, _, _, .sh r, _, _ => .sh (r.mono e)
  | _, _, _, .lst h1 h2 r, a, b => .lst (a _ List.mem_cons_self) ((b _ List.mem_cons_self _ h2).eq trivial) (OwnL.keep e r (fun x h => a x (List.mem_cons_of_mem _ h)) fun x h => b x (List.mem_cons_of_mem _ h))
  | _, _, _, .dic h1 h2 r, a, b => .dic (a _ List.mem_cons_self) ((b _ List.mem_cons_self _ h2).eq trivial) (OwnK.keep e r (fun x h => a x (List.mem_cons_of_mem _ h)) fun x h => b x (List.mem_cons_of_mem _ h))
  | _, _, _, .dit h1 h2 r, a, b => .dit (a _ List.mem_cons_self) ((b _ List.mem_cons_self _ h2).eq trivial) (OwnT.keep e r (fun x h => a x (List.mem_cons_of_mem _ h)) fun x h => b x (List.mem_cons_of_mem _ h))
  | _, _, _, .obj h1 h2 r, a, b => .obj (a _ List.mem_cons_self) ((b _ List.mem_cons_self _ h2).eq trivial) (OwnF.keep e r (fun x h => a x (List.mem_cons_of_mem _ h)) fun x h => b x (List.mem_cons_of_mem _ h))
  | _, _, _, .tup h r, a, b => .tup (e.st h) (OwnL.keep e r a b)
  | _, _, _, .ex p r, a, b => .ex p (OwnR.keep e r a b)
theorem OwnL.keep (e : Ex S S') : ∀ {v : List V} {m : List M} {fp : List Addr}, OwnL K S H v m fp → (∀ x ∈ fp, S' x = none) → (∀ x ∈ fp, ∀ o, H x = some o → Keeps o (H' x)) → OwnL K S' H' v m fp
  | _, _, _, .nil, _, _ => .nil
  | _, _, _, .cons h r, a, b => .cons (OwnR.keep e h (fun x q => a x (List.mem_append_left _ q)) fun x q => b x (List.mem_append_left _ q)) (OwnL.keep e r (fun x q => a x (List.mem_append_right _ q)) fun x q => b x (List.mem_append_right _ q))
theorem OwnK.keep (e : Ex S S') : ∀ {v : List (Key × V)} {m : List (Key × M)} {fp : List Addr}, OwnK K S H v m fp → (∀ x ∈ fp, S' x = none) → (∀ x ∈ fp, ∀ o, H x = some o → Keeps o (H' x)) → OwnK K S' H' v m fp
  | _, _, _, .nil, _, _ => .nil
  | _, _, _, .cons h r, a, b => .cons (OwnR.keep e h (fun x q => a x (List.mem_append_left _ q)) fun x q => b x (List.mem_append_left _ q)) (OwnK.keep e r (fun x q => a x (List.mem_append_right _ q)) fun x q => b x (List.mem_append_right _ q))
theorem OwnT.keep (e : Ex S S') : ∀ {v : List (List Key × V)} {m : List (List Key × M)} {fp : List Addr}, OwnT K S H v m fp → (∀ x ∈ fp, S' x = none) → (∀ x ∈ fp, ∀ o, H x = some o → Keeps o (H' x)) → OwnT K S' H' v m fp
  | _, _, _, .nil, _, _ => .nil
  | _, _, _, .cons h r, a, b => .cons (OwnR.keep e h (fun x q => a x (List.mem_append_left _ q)) fun x q => b x (List.mem_append_left _ q)) (OwnT.keep e r (fun x q => a x (List.mem_append_right _ q)) fun x q => b x (List.mem_append_right _ q))
theorem OwnF.keep (e : Ex S S') : ∀ {v : List (Str × V)} {m : List (Str × M)} {fp : List Addr}, OwnF K S H v m fp → (∀ x ∈ fp, S' x = none) → (∀ x ∈ fp, ∀ o, H x = some o → Keeps o (H' x)) → OwnF K S' H' v m fp
  | _, _, _, .nil, _, _ => .nil
  | _, _, _, .cons h r, a, b => .cons (OwnR.keep e h (fun x q => a x (List.mem_append_left _ q)) fun x q => b x (List.mem_append_left _ q)) (OwnF.keep e r (fun x q => a x (List.mem_append_right _ q)) fun x q => b x (List.mem_append_right _ q))
end
mutual
theorem OwnR.noext : ∀ {v : V} {m : M} {fp : List Addr}, OwnR K S H v m fp → ∀ x ∈ fp, ∀ φ, H x ≠ some (.ext φ)
  | _, _, _, .sh _, _, q, _ => nomatch q
  | _, _, _, .lst h1 h2 r, x, q, φ => by
    rcases List.mem_cons.mp q with rfl | q
    · rw [h2]; exact fun z => by cases z
    · exact OwnL.noext r x q φ
  | _, _, _, .dic h1 h2 r, x, q, φ => by
    rcases List.mem_cons.mp q with rfl | q
    · rw [h2]; exact fun z => by cases z
    · exact OwnK.noext r x q φ
  | _, _, _, .dit h1 h2 r, x, q, φ => by
    rcases List.mem_cons.mp q with rfl | q
    · rw [h2]; exact fun z => by cases z
    · exact OwnT.noext r x q φ
  | _, _, _, .obj h1 h2 r, x, q, φ => by
    rcases List.mem_cons.mp q with rfl | q
    · rw [h2]; exact fun z => by cases z
    · exact OwnF.noext r x q φ
  | _, _, _, .tup _ r, x, q, φ => OwnL.noext r x q φ
  | _, _, _, .ex _ r, x, q, φ => OwnR.noext r x q φ
theorem OwnL.noext : ∀ {v : List V} {m : List M} {fp : List Addr}, OwnL K S H v m fp → ∀ x ∈ fp, ∀ φ, H x ≠ some (.ext φ)
  | _, _, _, .nil, _, q, _ => nomatch q
  | _, _, _, .cons h r, x, q, φ => (List.mem_append.mp q).elim (fun z => OwnR.noext h x z φ) fun z => OwnL.noext r x z φ
theorem OwnK.noext : ∀ {v : List (Key × V)} {m : List (Key × M)} {fp : List Addr}, OwnK K S H v m fp → ∀ x ∈ fp, ∀ φ, H x ≠ some (.ext φ)
  | _, _, _, .nil, _, q, _ => nomatch q
  | _, _, _, .cons h r, x, q, φ => (List.mem_append.mp q).elim (fun z => OwnR.noext h x z φ) fun z => OwnK.noext r x z φ
theorem OwnT.noext : ∀ {v : List (List Key × V)} {m : List (List Key × M)} {fp : List Addr}, OwnT K S H v m fp → ∀ x ∈ fp, ∀ φ, H x ≠ some (.ext φ)
  | _, _, _, .nil, _, q, _ => nomatch q
  | _, _, _, .cons h r, x, q, φ => (List.mem_append.mp q).elim (fun z => OwnR.noext h x z φ) fun z => OwnT.noext r x z φ
theorem OwnF.noext : ∀ {v : List (Str × V)} {m : List (Str × M)} {fp : List Addr}, OwnF K S H v m fp → ∀ x ∈ fp, ∀ φ, H x ≠ some (.ext φ)
  | _, _, _, .nil, _, q, _ => nomatch q
  | _, _, _, .cons h r, x, q, φ => (List.mem_append.mp q).elim (fun z => OwnR.noext h x z φ) fun z => OwnF.noext r x z φ
end
mutual
theorem OwnR.at_ : ∀ {v : V} {m : M} {fp : List Addr}, OwnR K S H v m fp → ∀ x ∈ fp, S x = none ∧ H x ≠ none
  | _, _, _, .sh _, _, q => nomatch q
  | _, _, _, .lst h1 h2 r, x, q => by
    rcases List.mem_cons.mp q with rfl | q
    · exact ⟨h1, by rw [h2]; exact Option.some_ne_none _⟩
    · exact OwnL.at_ r x q
  | _, _, _, .dic h1 h2 r, x, q => by
    rcases List.mem_cons.mp q with rfl | q
    · exact ⟨h1, by rw [h2]; exact Option.some_ne_none _⟩
    · exact OwnK.at_ r x q
  | _, _, _, .dit h1 h2 r, x, q => by
    rcases List.mem_cons.mp q with rfl | q
    · exact ⟨h1, by rw [h2]; exact Option.some_ne_none _⟩
    · exact OwnT.at_ r x q
  | _, _, _, .obj h1 h2 r, x, q => by
    rcases List.mem_cons.mp q with rfl | q
    · exact ⟨h1, by rw [h2]; exact Option.some_ne_none _⟩
    · exact OwnF.at_ r x q
  | _, _, _, .tup _ r, x, q => OwnL.at_ r x q
  | _, _, _, .ex _ r, x, q => OwnR.at_ r x q
theorem OwnL.at_ : ∀ {v : List V} {m : List M} {fp : List Addr}, OwnL K S H v m fp → ∀ x ∈ fp, S x = none ∧ H x ≠ none
  | _, _, _, .nil, _, q => nomatch q
  | _, _, _, .cons h r, x, q => (List.mem_append.mp q).elim (OwnR.at_ h x) (OwnL.at_ r x)
theorem OwnK.at_ : ∀ {v : List (Key × V)} {m : List (Key × M)} {fp : List Addr}, OwnK K S H v m fp → ∀ x ∈ fp, S x = none ∧ H x ≠ none
  | _, _, _, .nil, _, q => nomatch q
  | _, _, _, .cons h r, x, q => (List.mem_append.mp q).elim (OwnR.at_ h x) (OwnK.at_ r x)
theorem OwnT.at_ : ∀ {v : List (List Key × V)} {m : List (List Key × M)} {fp : List Addr}, OwnT K S H v m fp → ∀ x ∈ fp, S x = none ∧ H x ≠ none
  | _, _, _, .nil, _, q => nomatch q
  | _, _, _, .cons h r, x, q => (List.mem_append.mp q).elim (OwnR.at_ h x) (OwnT.at_ r x)
theorem OwnF.at_ : ∀ {v : List (Str × V)} {m : List (Str × M)} {fp : List Addr}, OwnF K S H v m fp → ∀ x ∈ fp, S x = none ∧ H x ≠ none
  | _, _, _, .nil, _, q => nomatch q
  | _, _, _, .cons h r, x, q => (List.mem_append.mp q).elim (OwnR.at_ h x) (OwnF.at_ r x)
end
end

/-! ### worlds -/
/-- S: what stays as it is; H: all that is tracked; F: what is owned -/
structure Wd where
  S : Hp
  H : Hp
  F : List Addr
def Dct (o : HO) : Prop := (∃ kvs, o = .dK kvs) ∨ ∃ kvs, o = .dT kvs
/-- S stands in H; a dict perhaps locked -/
def SubAt (S : Hp) (v : Option HO) (o : HO) : Prop := v = some o ∨ (Dct o ∧ ∃ ob, v = some (.frz ob o)) ∨ ∃ q ps, o = TabM q ∧ v = some (.tbl ps) ∧ Good S ps q
theorem SubAt.mono {S S' : Hp} {v : Option HO} {o : HO} (h : SubAt S v o) (e : Ex S S') : SubAt S' v o := h.imp id fun z => z.imp id fun ⟨q, ps, a, b, c⟩ => ⟨q, ps, a, b, c.mono e⟩
/-- the usual cases -/
theorem SubAt.two {S : Hp} {v : Option HO} {o : HO} (h : SubAt S v o) (n : ∀ q, o ≠ TabM q) : v = some o ∨ (Dct o ∧ ∃ ob, v = some (.frz ob o)) := by
  rcases h with z | z | ⟨q, _, z, _⟩
  · exact .inl z
  · exact .inr z
  · exact absurd z (n q)
theorem SubAt.imp {S : Hp} {v v' : Option HO} {o : HO} (h : SubAt S v o) (f : ∀ u, v = some u → v' = some u) : SubAt S v' o := by
  rcases h with z | ⟨d, ob, z⟩ | ⟨q, ps, z1, z2, z3⟩
  · exact .inl (f _ z)
  · exact .inr (.inl ⟨d, ob, f _ z⟩)
  · exact .inr (.inr ⟨q, ps, z1, f _ z2, z3⟩)
theorem SubAt.ex {S : Hp} {v : Option HO} {o : HO} (h : SubAt S v o) : v ≠ none := by
  rcases h with z | ⟨_, _, z⟩ | ⟨_, _, _, z, _⟩ <;> (rw [z]; exact Option.some_ne_none _)
def Sub (S H : Hp) : Prop := ∀ a o, S a = some o → SubAt S (H a) o
/-- a later world -/
structure Le (w w' : Wd) : Prop where
  s : Ex w.S w'.S
  h : ∀ x o, w.H x = some o → x ∉ w.F → Keeps o (w'.H x)
  n : ∀ x, w.H x ≠ none → x ∉ w.F → w.S x = none → w'.S x = none
  f : ∀ x ∈ w'.F, x ∈ w.F ∨ w.H x = none
theorem Le.ex {w w' : Wd} (l : Le w w') {x : Addr} (h : w.H x ≠ none) (n : x ∉ w.F) : w'.H x ≠ none := by
  cases q : w.H x with
  | none => exact absurd q h
  | some o => exact (l.h x o q n).ex
theorem Le.refl (w : Wd) : Le w w := ⟨Ex.refl _, fun _ _ h _ => .inl h, fun _ _ _ h => h, fun _ h => .inl h⟩
theorem Le.trans {w w1 w2 : Wd} (a : Le w w1) (b : Le w1 w2) : Le w w2 := by
  have nf : ∀ x, w.H x ≠ none → x ∉ w.F → x ∉ w1.F := fun x h1 h2 h3 => (a.f x h3).elim h2 h1
  refine ⟨a.s.trans b.s, fun x o h1 h2 => (a.h x o h1 h2).next fun u hu => b.h x u hu (nf x (by rw [h1]; exact Option.some_ne_none _) h2), fun x h1 h2 h3 => ?_, fun x hx => ?_⟩
  · exact b.n x (a.ex h1 h2) (nf x h1 h2) (a.n x h1 h2 h3)
  · rcases b.f x hx with q | q
    · exact a.f x q
    · by_cases hf : x ∈ w.F
      · exact .inl hf
      · refine .inr ?_
        cases e : w.H x with
        | none => rfl
        | some o => exact absurd q (a.h x o e hf).ex
/-- a later world in which nothing that is owned has changed -/
structure LeP (w w' : Wd) : Prop where
  s : Ex w.S w'.S
  h : ∀ x o, w.H x = some o → Keeps o (w'.H x)
  n : ∀ x, w.H x ≠ none → w.S x = none → w'.S x = none
  f : w'.F = w.F
theorem LeP.le {w w' : Wd} (a : LeP w w') : Le w w' := ⟨a.s, fun x o h _ => a.h x o h, fun x h _ q => a.n x h q, fun x h => .inl (a.f ▸ h)⟩
theorem LeP.refl (w : Wd) : LeP w w := ⟨Ex.refl _, fun _ _ h => .inl h, fun _ _ h => h, rfl⟩
theorem LeP.trans {w w1 w2 : Wd} (a : LeP w w1) (b : LeP w1 w2) : LeP w w2 := by
  refine ⟨a.s.trans b.s, fun x o h => (a.h x o h).next fun u hu => b.h x u hu, fun x h q => b.n x ?_ (a.n x h q), b.f.trans a.f⟩
  cases e : w.H x with
  | none => exact absurd e h
  | some o => exact (a.h x o e).ex
theorem Ex.keeps {H H' : Hp} (e : Ex H H') : ∀ x o, H x = some o → Keeps o (H' x) := fun x o h => .inl (e x o h)

section
variable {K : PySem.W.Frag} {S H : Hp} {a : Addr}
theorem TabM.frz {q : Str} {o : Obj} {u : HO} (e : HO.frz o u = TabM q) : u = .ext fun _ => False := by
  unfold TabM at e
  injection e
theorem Sub.rd {u : HO} (e : Sub S H) (h : Rd S a u) (hu : ∀ o v, u ≠ .frz o v) (hx : ∀ φ, u ≠ .ext φ := by intro φ z; cases z) : Rd H a u := by
  rcases h with h | ⟨o, h⟩
  · rcases (e _ _ h).two fun q => hu _ _ with q | ⟨_, ob, q⟩
    · exact .inl q
    · exact .inr ⟨ob, q⟩
  · rcases (e _ _ h).two fun q z => hx _ (TabM.frz z) with q | ⟨d, _⟩
    · exact .inr ⟨o, q⟩
    · rcases d with ⟨_, z⟩ | ⟨_, z⟩ <;> cases z
/-- what is neither a dict nor a table stands in H as it is -/
theorem Sub.is {o : HO} (e : Sub S H) (h : S a = some o) (hd : ¬ Dct o) (ht : ∀ q, o ≠ TabM q) : H a = some o := by
  rcases (e _ _ h).two ht with q | ⟨d, _⟩
  · exact q
  · exact absurd d hd
theorem Sub.sl {xs : List V} (e : Sub S H) (h : SqL K S a xs) : SqL K H a xs := h.imp (fun q => e.rd q (fun _ _ z => by cases z) (fun _ z => by cases z)) id
theorem Sub.st {xs : List V} (e : Sub S H) (h : SqT K S a xs) : SqT K H a xs := h.imp (fun q => e.rd q (fun _ _ z => by cases z) (fun _ z => by cases z)) id
theorem Sub.dk {xs : List (Key × V)} (e : Sub S H) (h : Rd S a (.dK xs)) : Rd H a (.dK xs) := e.rd h (fun _ _ z => by cases z) (fun _ z => by cases z)
theorem Sub.dt {xs : List (List Key × V)} (e : Sub S H) (h : Rd S a (.dT xs)) : Rd H a (.dT xs) := e.rd h (fun _ _ z => by cases z) (fun _ z => by cases z)
theorem Sub.ins {C dx : Addr} {fs : List (Str × V)} (e : Sub S H) (h : S a = some (.ins C dx fs)) : H a = some (.ins C dx fs) := e.is h (fun d => by rcases d with ⟨_, z⟩ | ⟨_, z⟩ <;> cases z) fun q z => by unfold TabM at z; cases z
theorem Sub.xd {fs : List (Str × V)} (e : Sub S H) (h : S a = some (.xd fs)) : H a = some (.xd fs) := e.is h (fun d => by rcases d with ⟨_, z⟩ | ⟨_, z⟩ <;> cases z) fun q z => by unfold TabM at z; cases z
theorem Sub.tupE {xs : List V} (e : Sub S H) (h : S a = some (.tup xs)) : H a = some (.tup xs) := e.is h (fun d => by rcases d with ⟨_, z⟩ | ⟨_, z⟩ <;> cases z) fun q z => by unfold TabM at z; cases z
theorem Sub.free (e : Sub S H) (h : H a = none) : S a = none := by
  cases q : S a with
  | none => rfl
  | some o =>
    exact absurd h (e _ _ q).ex
end

/-! ### environments -/
abbrev Env := List (Option M)
inductive EnvR (K : PySem.W.Frag) (S H : Hp) : St → Env → List (List Addr) → Prop
  | nil : TbK K S → EnvR K S H [] [] []
  | no {x : Option V} {σ : St} {ρ : Env} {fps : List (List Addr)} : EnvR K S H σ ρ fps → EnvR K S H (x :: σ) (none :: ρ) ([] :: fps)
  | ow {v : V} {m : M} {fp : List Addr} {σ : St} {ρ : Env} {fps : List (List Addr)} : OwnR K S H v m fp → EnvR K S H σ ρ fps → EnvR K S H (some v :: σ) (some m :: ρ) (fp :: fps)

/-- where a judgement stands: slots that keep their objects, what is wished of an exception, and by the data what may be raised -/
structure Gx where
  K : PySem.W.Frag
  px : List Nat
  pv : Nat → V
  Wx : WX
  er : Str → List (Str × D) → Env → Prop

/-- fx: owned beside the names -/
structure OkE (G : Gx) (w : Wd) (σ : St) (ρ : Env) (fx : List Addr) : Prop where
  sub : Sub w.S w.H
  env : ∃ fps, EnvR G.K w.S w.H σ ρ fps ∧ w.F = fps.flatten ++ fx
  nd : w.F.Nodup
  px : ∀ i ∈ G.px, σ[i]? = some (some (G.pv i))
abbrev Ok (G : Gx) (w : Wd) (σ : St) (ρ : Env) : Prop := OkE G w σ ρ []

theorem EnvR.keep {K : PySem.W.Frag} {S S' H H' : Hp} (e : Ex S S') : ∀ {σ : St} {ρ : Env} {fps : List (List Addr)}, EnvR K S H σ ρ fps → (∀ x ∈ fps.flatten, S' x = none) → (∀ x ∈ fps.flatten, ∀ o, H x = some o → Keeps o (H' x)) → EnvR K S' H' σ ρ fps
  | _, _, _, .nil t, _, _ => .nil (t.mono e)
  | _, _, _, .no r, a, b => .no (EnvR.keep e r (fun x q => a x (by simpa using q)) fun x q => b x (by simpa using q))
  | _, _, _, .ow h r, a, b => .ow (h.keep e (fun x q => a x (by rw [List.flatten_cons]; exact List.mem_append_left _ q)) fun x q => b x (by rw [List.flatten_cons]; exact List.mem_append_left _ q))
      (EnvR.keep e r (fun x q => a x (by rw [List.flatten_cons]; exact List.mem_append_right _ q)) fun x q => b x (by rw [List.flatten_cons]; exact List.mem_append_right _ q))
theorem EnvR.tb {K : PySem.W.Frag} {S H : Hp} : ∀ {σ : St} {ρ : Env} {fps : List (List Addr)}, EnvR K S H σ ρ fps → TbK K S
  | _, _, _, .nil t => t
  | _, _, _, .no r => EnvR.tb r
  | _, _, _, .ow _ r => EnvR.tb r
theorem EnvR.at_ {K : PySem.W.Frag} {S H : Hp} : ∀ {σ : St} {ρ : Env} {fps : List (List Addr)}, EnvR K S H σ ρ fps → ∀ x ∈ fps.flatten, S x = none ∧ H x ≠ none
  | _, _, _, .nil _, _, q => by simp at q
  | _, _, _, .no r, x, q => EnvR.at_ r x (by simpa using q)
  | _, _, _, .ow h r, x, q => by
    rw [List.flatten_cons] at q
    exact (List.mem_append.mp q).elim (h.at_ x) (EnvR.at_ r x)
theorem EnvR.len {K : PySem.W.Frag} {S H : Hp} : ∀ {σ : St} {ρ : Env} {fps : List (List Addr)}, EnvR K S H σ ρ fps → σ.length = ρ.length
  | _, _, _, .nil _ => rfl
  | _, _, _, .no r => by rw [List.length_cons, List.length_cons, EnvR.len r]
  | _, _, _, .ow _ r => by rw [List.length_cons, List.length_cons, EnvR.len r]
/-- the i-th name, and what is owned by it -/
theorem EnvR.get {K : PySem.W.Frag} {S H : Hp} : ∀ {σ : St} {ρ : Env} {fps : List (List Addr)} {i : Nat} {m : M}, EnvR K S H σ ρ fps → ρ[i]? = some (some m) → ∃ v fp, σ[i]? = some (some v) ∧ fps[i]? = some fp ∧ OwnR K S H v m fp
  | _, _, _, i, _, .nil _, h => by simp at h
  | _, _, _, 0, _, .no r, h => by simp at h
  | _, _, _, i + 1, _, .no r, h => by
    obtain ⟨v, fp, h1, h2, h3⟩ := EnvR.get (i := i) r (by simpa using h)
    exact ⟨v, fp, by simpa using h1, by simpa using h2, h3⟩
  | _, _, _, 0, _, .ow q r, h => by
    have e := Option.some.inj (Option.some.inj (by simpa using h))
    subst e
    exact ⟨_, _, rfl, rfl, q⟩
  | _, _, _, i + 1, _, .ow q r, h => by
    obtain ⟨v, fp, h1, h2, h3⟩ := EnvR.get (i := i) r (by simpa using h)
    exact ⟨v, fp, by simpa using h1, by simpa using h2, h3⟩
/-- another thing at the i-th name -/
theorem EnvR.set {K : PySem.W.Frag} {S H : Hp} : ∀ {σ : St} {ρ : Env} {fps : List (List Addr)} (i : Nat) {v : V} {m : M} {fp : List Addr}, EnvR K S H σ ρ fps → OwnR K S H v m fp → EnvR K S H (σ.set i (some v)) (ρ.set i (some m)) (fps.set i fp)
  | _, _, _, _, _, _, _, .nil t, _ => .nil t
  | _, _, _, 0, _, _, _, .no r, q => .ow q r
  | _, _, _, i + 1, _, _, _, .no r, q => .no (EnvR.set i r q)
  | _, _, _, 0, _, _, _, .ow _ r, q => .ow q r
  | _, _, _, i + 1, _, _, _, .ow h r, q => .ow h (EnvR.set i r q)
theorem EnvR.unset {K : PySem.W.Frag} {S H : Hp} : ∀ {σ : St} {ρ : Env} {fps : List (List Addr)} (i : Nat) (x : Option V), EnvR K S H σ ρ fps → EnvR K S H (σ.set i x) (ρ.set i none) (fps.set i [])
  | _, _, _, _, _, .nil t => .nil t
  | _, _, _, 0, _, .no r => .no r
  | _, _, _, i + 1, _, .no r => .no (EnvR.unset i _ r)
  | _, _, _, 0, _, .ow _ r => .no r
  | _, _, _, i + 1, _, .ow h r => .ow h (EnvR.unset i _ r)
/-- a name is forgotten -/
theorem EnvR.forget {K : PySem.W.Frag} {S H : Hp} : ∀ {σ : St} {ρ : Env} {fps : List (List Addr)} (i : Nat), EnvR K S H σ ρ fps → EnvR K S H σ (ρ.set i none) (fps.set i [])
  | _, _, _, _, .nil t => .nil t
  | _, _, _, 0, .no r => .no r
  | _, _, _, i + 1, .no r => .no (EnvR.forget i r)
  | _, _, _, 0, .ow _ r => .no r
  | _, _, _, i + 1, .ow h r => .ow h (EnvR.forget i r)

/-- lists of addresses: the i-th exchanged -/
theorem mem_flatten_set {α : Type} : ∀ {l : List (List α)} {i : Nat} {f : List α} {x : α}, x ∈ (l.set i f).flatten → x ∈ l.flatten ∨ x ∈ f
  | [], _, _, _, none_there => by simp at none_there
  | a :: r, 0, f, x, h => by
    rw [List.set_cons_zero, List.flatten_cons] at h
    rcases (List.mem_append.mp h) with q | q
    · exact .inr q
    · exact .inl (by rw [List.flatten_cons]; exact List.mem_append_right _ q)
  | a :: r, i + 1, f, x, h => by
    rw [List.set_cons_succ, List.flatten_cons] at h
    rcases (List.mem_append.mp h) with q | q
    · exact .inl (by rw [List.flatten_cons]; exact List.mem_append_left _ q)
    · rcases mem_flatten_set q with z | z
      · exact .inl (by rw [List.flatten_cons]; exact List.mem_append_right _ z)
      · exact .inr z
theorem nodup_flatten_set {α : Type} : ∀ {l : List (List α)} {i : Nat} {f : List α}, l.flatten.Nodup → f.Nodup → (∀ x ∈ f, x ∉ (l.set i []).flatten) → (l.set i f).flatten.Nodup
  | [], _, _, _, _, _ => by simp
  | a :: r, 0, f, h, hf, d => by
    rw [List.set_cons_zero, List.flatten_cons] at d ⊢
    rw [List.flatten_cons] at h
    rw [List.nil_append] at d
    exact List.nodup_append.mpr ⟨hf, (List.nodup_append.mp h).2.1, fun x hx y hy z => d x hx (z ▸ hy)⟩
  | a :: r, i + 1, f, h, hf, d => by
    rw [List.set_cons_succ, List.flatten_cons] at d ⊢
    rw [List.flatten_cons] at h
    obtain ⟨h1, h2, h3⟩ := List.nodup_append.mp h
    refine List.nodup_append.mpr ⟨h1, nodup_flatten_set h2 hf fun x hx q => d x hx (List.mem_append_right _ q), fun x hx y hy z => ?_⟩
    subst z
    rcases mem_flatten_set hy with q | q
    · exact h3 x hx x q rfl
    · exact d x q (List.mem_append_left _ hx)
theorem mem_flatten_nil {α : Type} : ∀ {l : List (List α)} {i : Nat} {x : α}, x ∈ (l.set i []).flatten → x ∈ l.flatten := fun {l i x} h => (mem_flatten_set h).elim id fun q => by cases q
/-- apart: what the i-th has, and the others -/
theorem flatten_apart {α : Type} : ∀ {l : List (List α)} {i : Nat} {f : List α}, l.flatten.Nodup → l[i]? = some f → ∀ x ∈ f, x ∉ (l.set i []).flatten
  | [], _, _, _, none_there => by simp at none_there
  | a :: r, 0, f, h, e => by
    have e2 : a = f := Option.some.inj (by simpa using e)
    subst e2
    rw [List.flatten_cons] at h
    obtain ⟨_, _, h3⟩ := List.nodup_append.mp h
    intro x hx q
    rw [List.set_cons_zero, List.flatten_cons, List.nil_append] at q
    exact h3 x hx x q rfl
  | a :: r, i + 1, f, h, e => by
    rw [List.flatten_cons] at h
    obtain ⟨_, h2, h3⟩ := List.nodup_append.mp h
    have e2 : r[i]? = some f := by simpa using e
    intro x hx q
    rw [List.set_cons_succ, List.flatten_cons] at q
    rcases List.mem_append.mp q with q | q
    · exact h3 x q x (List.mem_flatten.mpr ⟨f, List.mem_of_getElem? e2, hx⟩) rfl
    · exact flatten_apart h2 e2 x hx q
theorem mem_flatten_get {α : Type} {l : List (List α)} {i : Nat} {f : List α} (e : l[i]? = some f) {x : α} (h : x ∈ f) : x ∈ l.flatten := List.mem_flatten.mpr ⟨f, List.mem_of_getElem? e, h⟩

/-! ### growing -/
section
variable {G : Gx} {w w' : Wd} {σ : St} {ρ : Env} {fx : List Addr}
theorem OkE.at_ (o : Ok G w σ ρ) : ∀ x ∈ w.F, w.S x = none ∧ w.H x ≠ none := by
  obtain ⟨fps, h, e⟩ := o.env
  rw [e, List.append_nil]
  exact h.at_
theorem OkE.tb (o : OkE G w σ ρ fx) : TbK G.K w.S := by
  obtain ⟨fps, h, _⟩ := o.env
  exact h.tb
theorem OkE.grow (o : Ok G w σ ρ) (l : LeP w w') (s : Sub w'.S w'.H) : Ok G w' σ ρ := by
  have at_ := o.at_
  obtain ⟨fps, h, e⟩ := o.env
  rw [e, List.append_nil] at at_
  exact ⟨s, ⟨fps, h.keep l.s (fun x q => l.n x (at_ x q).2 (at_ x q).1) (fun x _ o ho => l.h x o ho), l.f.trans e⟩, by rw [l.f]; exact o.nd, o.px⟩
/-- one more object that stays -/
def Wd.add (w : Wd) (p : Addr) (o : HO) : Wd := ⟨upd w.S p o, upd w.H p o, w.F⟩
theorem Ex.new {H : Hp} {p : Addr} {ob : HO} (h : H p = none) : Ex H (upd H p ob) := fun a u e => by
  rw [upd_ne (ne_of_none e h)]
  exact e
theorem Wd.le_add {p : Addr} {o : HO} (s : Sub w.S w.H) (h : w.H p = none) : LeP w (w.add p o) := ⟨Ex.new (s.free h), (Ex.new h).keeps, fun x hx q => by
  have ne : x ≠ p := fun z => hx (z ▸ h)
  show upd w.S p o x = none
  rw [upd_ne ne]
  exact q, rfl⟩
theorem Wd.sub_add {p : Addr} {o : HO} (s : Sub w.S w.H) (hp : w.H p = none) : Sub (w.add p o).S (w.add p o).H := fun a u e => by
  show SubAt (upd w.S p o) (upd w.H p o a) u
  have e2 : upd w.S p o a = some u := e
  by_cases z : a = p
  · subst z
    rw [upd_same] at e2
    exact .inl (by rw [upd_same]; exact e2)
  · rw [upd_ne z] at e2
    rw [upd_ne z]
    exact (s a u e2).mono (Ex.new (s.free hp))
end
end DL

namespace DC
open PySem PySem.Spec PyProof.Rows LamX L2
/-! ### a lambda with one parameter -/
/-- what the table of names sc2 of a lambda says, its parameter a, made where sc stands: a is the only name of its own, nobody captures it -/
structure LamA (sc sc2 : Scope) (a : Str) : Prop where
  fn : sc2.kind = .function
  plain : sc2.isCoroutine = false ∧ sc2.isGenerator = false
  par : sc2.names.lookup a = some .local
  rest : ∀ x kd, (x, kd) ∈ sc2.names → (kd = .local ∧ x = a) ∨ kd = .globalImplicit ∨ kd = .globalExplicit ∨ (kd = .free ∧ (sc.names.lookup x = some .cell ∨ sc.names.lookup x = some .free))
def lamAB (sc sc2 : Scope) (a : Str) : Bool :=
  (decide (sc2.kind = .function) && (!sc2.isCoroutine && !sc2.isGenerator)) && (decide (sc2.names.lookup a = some .local) &&
    sc2.names.all fun p => (decide (p.2 = .local) && decide (p.1 = a)) || (decide (p.2 = .globalImplicit) || (decide (p.2 = .globalExplicit) || (decide (p.2 = .free) && (decide (sc.names.lookup p.1 = some .cell) || decide (sc.names.lookup p.1 = some .free))))))
theorem lamA_by {sc sc2 : Scope} {a : Str} (h : lamAB sc sc2 a = true) : LamA sc sc2 a := by
  obtain ⟨h1, h2⟩ := Bool.and_eq_true_iff.mp h
  obtain ⟨k1, k2⟩ := Bool.and_eq_true_iff.mp h1
  obtain ⟨k3, k4⟩ := Bool.and_eq_true_iff.mp h2
  refine ⟨of_decide_eq_true k1, by simpa using k2, of_decide_eq_true k3, fun x kd hm => ?_⟩
  have := List.all_eq_true.mp k4 (x, kd) hm
  simpa using this
/-- the context of its body: that of its maker with one slot more, the parameter's -/
def lamCxA (X : Cx) (B : Around) (back : List PySem.Env) (st : Shared) (T : Hp) (bad : XK) (sc2 : Scope) (a : Str) (fn cd : Addr) : Cx :=
  let own := lamEnv X sc2 st.heap.objs.size fn cd
  { prog := X.prog, w := X.w, K := X.K, mg := X.mg, base := X.base, A := B.deeper own, N := X.N ++ [a], s_0 := st, H_0 := T, env := own, outer := back, stack := own :: back, ex := [], fn := fun _ => false, calm := true, pn := [],
    xe := fun er now => wpAny (model X.prog X.w) (B.deeper own) (leaving own er) (fun _ end_ => L2.CX X.prog X.w back T st bad er end_) (fun er2 end_ => L2.CX X.prog X.w back T st bad er2 end_) now }
section
variable {cells : List (Str × Addr)} {names : List (Str × NameKind)} {x : Str} {c : Addr}
/-- what was captured is what the maker had -/
theorem clo_back (all_ : ∀ y kd, (y, kd) ∈ names → kd = .free → ∃ d, cells.lookup y = some d) (h : (cloFrom cells names []).lookup x = some c) : cells.lookup x = some c := by
  rcases cloFrom_mem (PySem.mem_of_lookup h) with bad | ⟨hm, hc⟩
  · exact nomatch bad
  · obtain ⟨d, hd⟩ := all_ _ _ hm rfl
    have hd : cells.lookup x = some d := hd
    rw [hd] at hc ⊢
    exact congrArg some hc.symm
theorem clo_there (h : names.lookup x = some .free) : ∃ d, (cloFrom cells names []).lookup x = some d := by
  have there := cloFrom_has (cells := cells) (acc := []) (show (x, NameKind.free) ∈ names from PySem.mem_of_lookup h)
  exact mem_lookup there
end
section
variable {X : Cx} {pins : List (Addr × Obj)} {σ : L2.St} {T : Hp} {st : Shared}
theorem LamA.caps {sc2 : Scope} {a : Str} (L : LamA X.env.scope sc2 a) (ok : X.Ok) : ∀ y kd, (y, kd) ∈ sc2.names → kd = .free → ∃ d, X.env.cells.lookup y = some d := fun y kd hm e => by
  subst e
  rcases L.rest y _ hm with ⟨z, _⟩ | z | z | ⟨_, q⟩
  · cases z
  · cases z
  · cases z
  · exact q.elim (fun k => ok.has _ (.inl k)) fun k => ok.has _ (.inr k)
/-- no name of its own is a cell; one that is local is the parameter -/
theorem LamA.nocell {sc sc2 : Scope} {a y : Str} (L : LamA sc sc2 a) : sc2.names.lookup y ≠ some .cell := fun h => by
  rcases L.rest y _ (PySem.mem_of_lookup h) with ⟨z, _⟩ | z | z | ⟨z, _⟩ <;> cases z
theorem LamA.isPar {sc sc2 : Scope} {a y : Str} (L : LamA sc sc2 a) (h : sc2.names.lookup y = some .local) : y = a := by
  rcases L.rest y _ (PySem.mem_of_lookup h) with ⟨_, z⟩ | z | z | ⟨z, _⟩
  · exact z
  · cases z
  · cases z
  · cases z
theorem LamA.above {sc sc2 : Scope} {a y : Str} (L : LamA sc sc2 a) (h : sc2.names.lookup y = some .free) : sc.names.lookup y = some .cell ∨ sc.names.lookup y = some .free := by
  rcases L.rest y _ (PySem.mem_of_lookup h) with ⟨z, _⟩ | z | z | ⟨_, q⟩
  · cases z
  · cases z
  · cases z
  · exact q
/-- where its body begins, called in the very state st: the maker's slots as they are, the argument behind them -/
theorem lam_startA {B : Around} {bad : XK} {sc2 : Scope} {a : Str} {fn cd : Addr} {hp : Heap} {tk : Nat} {v : V} {u : Value} (J : Inv X pins σ T st) (L : LamA X.env.scope sc2 a) (new : a ∉ X.N) (arg : RelV v u) (e0 : Env0 X.prog X.w X.K X.mg X.base B X.stack st T) (calm : B.handled = none)
    (frame : hp.Ns st.heap.objs.size fun y => ([(a, u)] : List (Str × Value)).reverse.lookup y) (more : ∀ b o, st.heap.get? b = some o → hp.get? b = some o) :
    Inv (lamCxA X B X.stack st T bad sc2 a fn cd) [] (σ ++ [some v]) T { st with heap := hp, toks := tk } := by
  have back : ∀ {y d}, (cloFrom X.env.cells sc2.names []).lookup y = some d → X.env.cells.lookup y = some d := fun h => clo_back (L.caps J.ok) h
  have stays : ∀ {d : Addr} {o : Option Value}, st.heap.IsCell d o → hp.IsCell d o := fun ⟨ob, h1, h2⟩ => ⟨ob, more _ _ h1, h2⟩
  have out : ∀ b : Addr, b ∉ ([] : List Addr) := fun b z => nomatch z
  have ln : σ.length = X.N.length := J.len
  have names : ∀ (i : Nat) (y : Str) (w : V), (X.N ++ [a])[i]? = some y → (σ ++ [some v])[i]? = some (some w) → Vis sc2 y → ∃ u', RelV w u' ∧ Look (lamEnv X sc2 st.heap.objs.size fn cd) hp (fun y => ([(a, u)] : List (Str × Value)).reverse.lookup y) y u' := by
    intro i y w hy hw vis
    rcases Nat.lt_or_ge i X.N.length with lt | ge
    · -- one of the maker's names: captured
      rw [List.getElem?_append_left lt] at hy
      rw [List.getElem?_append_left (ln ▸ lt)] at hw
      have other : y ≠ a := fun z => new (by rw [← z]; exact List.mem_of_getElem? hy)
      have fr : sc2.names.lookup y = some .free := by
        rcases vis with q | q | q
        · exact absurd (L.isPar q) other
        · exact absurd q L.nocell
        · exact q
      obtain ⟨mm, _, seen⟩ := J.loc
      have up := L.above fr
      obtain ⟨u', ru, lk⟩ := seen i y w hy hw (up.elim (fun q => .inr (.inl q)) fun q => .inr (.inr q))
      obtain ⟨d, hd⟩ := clo_there (cells := X.env.cells) fr
      refine ⟨u', ru, .inr ⟨.inr fr, d, hd, ?_⟩⟩
      rcases lk with ⟨lc, _⟩ | ⟨_, d2, hd2, cl⟩
      · have lc : X.env.scope.names.lookup y = some .local := lc
        rcases up with q | q <;> (rw [q] at lc; cases lc)
      · have same := (back hd).symm.trans hd2
        cases same
        exact stays cl
    · -- the parameter
      have at_ : i = X.N.length := by
        have := (List.getElem?_eq_some_iff.mp hy).1
        rw [List.length_append, List.length_singleton] at this
        exact Nat.le_antisymm (Nat.le_of_lt_succ this) ge
      subst at_
      rw [List.getElem?_append_right (Nat.le_refl _), Nat.sub_self] at hy
      obtain rfl : a = y := Option.some.inj hy
      rw [← ln, List.getElem?_append_right (Nat.le_refl _), Nat.sub_self] at hw
      obtain rfl : v = w := Option.some.inj (Option.some.inj hw)
      exact ⟨u, arg, .inl ⟨L.par, by simp [List.lookup]⟩⟩
  have okc : (lamCxA X B X.stack st T bad sc2 a fn cd).Ok := by
    refine ⟨e0.mod, L.fn, rfl, rfl, Nat.le_refl _, fun y z d h1 h2 => J.ok.inj y z d (back h1) (back h2), fun y q => ?_, (fun _ _ z _ => nomatch (show false = true from z)), fun _ => calm, Around.frames_deeper e0.frames, .inr ⟨rfl, rfl⟩, fun b z => absurd z (out b), e0.bs, e0.bsz, fun b _ _ => out b, fun b z => absurd z (out b), e0.funs, e0.frf⟩
    exact q.elim (fun z => absurd (show sc2.names.lookup y = some .cell from z) L.nocell) fun z => clo_there z
  exact { ok := okc, os := rfl, bare := e0.bare, base := Un.kept more, loc := ⟨_, frame, names⟩
          cell := fun y d h => let ⟨o, q⟩ := J.cell y d (back h); ⟨o, stays q⟩
          free := e0.hok.fresh (Nat.le_refl _), freeC := fun y d h => J.freeC y d (back h)
          pin := (fun p z => nomatch (show p ∈ ([] : List (Addr × Obj)) from z)), hok := e0.hok.kept more
          len := by show (σ ++ [some v]).length = (X.N ++ [a]).length; rw [List.length_append, List.length_append, ln, List.length_singleton, List.length_singleton] }
end
end DC

namespace DC
open PySem.Spec PySem PyProof.Rows L2 LamX
section
variable {pins : List (Addr × Obj)} {σ : L2.St} {H : Hp} {s : Shared} {X : Cx}
/-- what the made lambda is -/
abbrev lamObj (X : Cx) (params : Arguments) (body : Expr) (scope : Scope) (pm ctv : Value) (c' : Addr) : Obj := PySem.W.kla_obj "<lambda>" (X.env.qual ++ "<lambda>") params body scope (cloFrom X.env.cells scope.names []) pm c' ctv
/-- its call, with one argument -/
theorem call_lamA {A : Around} {params : Arguments} {body : Expr} {scope : Scope} {a : Str} {f c' : Addr} {pm ctv : Value} {v : V} {u : Value} {k : Nat} {tb : TE} {Q : VK} (I : Inv X pins σ H s) (L : LamA X.env.scope scope a) (aN : a ∉ X.N) (hf : s.heap.get? f = some (lamObj X params body scope pm ctv c'))
    (hco : H c' = some (CodeO c' (X.env.qual ++ "<lambda>"))) (rv : RelV v u)
    (hbind : bindArgs (PySem.W.kla_fn "<lambda>" (X.env.qual ++ "<lambda>") params body scope (cloFrom X.env.cells scope.names []) pm (.ref c') ctv) ⟨[u], []⟩ = pure [(a, u)])
    (e0 : Env0 X.prog X.w X.K X.mg X.base A X.stack s H) (hr : Room (k + 1) A)
    (hbody : ∀ (A : Around) (outer : List PySem.Env) (s : Shared) (H : Hp), Room k (A.deeper (lamEnv X scope s.heap.objs.size f c')) → PE (lamCxA X A outer s H (fun _ _ _ => False) scope a f c') body tb) (ht : tb (σ ++ [some v]) H Q) :
    codeAny (model X.prog X.w) A (.call (.ref f) ⟨[u], []⟩) (CR (L2.CX X.prog X.w) X.stack X.prog X.w H s Q fun _ _ _ => False) s := by
  obtain ⟨⟨oc, vs, t, hoc, hdc, hvc⟩, _, _⟩ := I.hok c' _ hco
  refine PySem.W.kla_callFunE hr.depth hf rfl L.plain.1 L.plain.2 rfl ⟨c', oc, vs, t, rfl, hoc, hdc, hvc⟩ ?_
  rw [hbind]
  refine wpAny_pure (wpAny_newFunctionEnv (fun y hy => fun z => by
    obtain ⟨y1, y2⟩ := y
    rcases L.rest y1 y2 hy with ⟨e, _⟩ | e | e | ⟨e, _⟩ <;> (rw [e] at z; cases z)) (fun y hy => by
    obtain rfl : y = (a, u) := by simpa using hy
    exact L.par) (fun h₁ hns hsb => ⟨I.nolimit.fresh _ hsb, ?_⟩) L.fn)
  show codeAny _ _ (.expr body (lamEnv X scope s.heap.objs.size f c')) _ _
  have kp : ∀ b ob, s.heap.get? b = some ob → h₁.get? b = some ob := fun b ob q => hsb.extBut b ob (Nat.ne_of_lt (Heap.lt_size q)) (Heap.get?_push_of_some _ q)
  have J : Inv (lamCxA X A X.stack s H (fun _ _ _ => False) scope a f c') [] (σ ++ [some v]) H { s with heap := h₁, toks := s.toks + ([(a, u)] : List (Str × Value)).length } :=
    lam_startA I L aN rv e0 hr.hd hns kp
  refine PySem.W.kla_codeExpr (wpAny_mono ((hbody _ _ s H (hr.deeper _)).run [] _ _ H Q J ht) (fun v s' hq => ?_) fun e s' hq => hq)
  obtain ⟨y, T, JT, ry, qT⟩ := hq
  exact ⟨y, T, JT.os, JT.bare, JT.base, JT.hok, ry, qT⟩
/-- and as a step: the state behind it -/
theorem run_lamA {A : Around} {params : Arguments} {body : Expr} {scope : Scope} {a : Str} {f c' : Addr} {pm ctv : Value} {v : V} {u : Value} {k : Nat} {tb : TE} {Q : VK} {R : Value → Shared → Prop} {E : Value → Shared → Prop} (I : Inv X pins σ H s) (L : LamA X.env.scope scope a) (aN : a ∉ X.N) (hf : s.heap.get? f = some (lamObj X params body scope pm ctv c'))
    (hco : H c' = some (CodeO c' (X.env.qual ++ "<lambda>"))) (rv : RelV v u)
    (hbind : bindArgs (PySem.W.kla_fn "<lambda>" (X.env.qual ++ "<lambda>") params body scope (cloFrom X.env.cells scope.names []) pm (.ref c') ctv) ⟨[u], []⟩ = pure [(a, u)])
    (e0 : Env0 X.prog X.w X.K X.mg X.base A X.stack s H) (hr : Room (k + 1) A)
    (hbody : ∀ (A : Around) (outer : List PySem.Env) (s : Shared) (H : Hp), Room k (A.deeper (lamEnv X scope s.heap.objs.size f c')) → PE (lamCxA X A outer s H (fun _ _ _ => False) scope a f c') body tb) (ht : tb (σ ++ [some v]) H Q)
    (hR : ∀ w' u' H' s', Inv X pins σ H' s' → Un (frs X.stack) [] H H' s.heap s'.heap → RelV w' u' → Q w' H' → R u' s') : wpAny (model X.prog X.w) A (call (.ref f) [u]) R E s := by
  refine wpAny_call (codeAny_mono (call_lamA I L aN hf hco rv hbind e0 hr hbody ht) fun r s' hq => ?_)
  cases r with
  | error e =>
    obtain ⟨_, _, _, _, _, _, _, _, _, _, _, _, z⟩ := (show L2.CX X.prog X.w X.stack H s (fun _ _ _ => False) e s' from hq)
    exact z.elim
  | ok fl =>
    cases fl with
    | ret u' =>
      obtain ⟨v', H', os, bare, un, hok, r, q⟩ := (show CE X.stack X.prog X.w H s Q u' s' from hq)
      obtain ⟨hh, g, d, t, os'⟩ := (s')
      obtain rfl : os' = s.os := os
      exact hR v' u' H' _ (I.call (h' := hh) (g' := g) (d' := d) (t' := t) (ch := []) un hok bare (fun b z => absurd z (by simp))) un r q
    | next => exact False.elim hq
    | brk => exact False.elim hq
    | cont => exact False.elim hq
end
end DC

namespace DC
open PySem.Spec PySem PyProof.Rows L2 LamX
section
variable {pins : List (Addr × Obj)} {σ : L2.St} {H : Hp} {s : Shared} {X : Cx}
theorem FpOk.nofr {b : Addr} (I : Inv X pins σ H s) (h : FpOk X pins H b) : b ∉ frs X.stack := fun z => by
  rcases (List.mem_cons.mp (I.stkSub _ z)) with e | e
  · exact h.2.1 e
  · exact h.2.2.1 e
/-- min(l, key=f), l a list that is locked, f a lambda just made -/
theorem min_lamA {params : Arguments} {body : Expr} {scope : Scope} {a : Str} {f c' l : Addr} {pm ctv : Value} {k : Nat} {tb : TE} {key : Nat → Int} {od : Obj} {xs : List V} {R : Value → Shared → Prop} {E : Value → Shared → Prop} (I : Inv X pins σ H s) (L : LamA X.env.scope scope a) (aN : a ∉ X.N) (hf : s.heap.get? f = some (lamObj X params body scope pm ctv c'))
    (hfn : H f = none) (hfr : f ∉ frs X.stack) (hco : H c' = some (CodeO c' (X.env.qual ++ "<lambda>")))
    (hbind : ∀ u, bindArgs (PySem.W.kla_fn "<lambda>" (X.env.qual ++ "<lambda>") params body scope (cloFrom X.env.cells scope.names []) pm (.ref c') ctv) ⟨[u], []⟩ = pure [(a, u)])
    (hr : Room (k + 2) X.A)
    (hbody : ∀ (A : Around) (outer : List PySem.Env) (s : Shared) (H : Hp), Room k (A.deeper (lamEnv X scope s.heap.objs.size f c')) → PE (lamCxA X A outer s H (fun _ _ _ => False) scope a f c') body tb)
    (hl : H l = some (.frz od (.lst xs))) (h0 : 0 < xs.length)
    (ht : ∀ i x, xs[i]? = some x → tb (σ ++ [some x]) H fun w H' => H' = H ∧ w = .int (key i))
    (hR : ∀ x u s', xs[argBest (fun i j => decide (key i < key j)) (xs.length - 1)]? = some x → RelV x u → Inv X pins σ H s' → R u s') :
    wpAny (model X.prog X.w) X.A (call (.builtin "min") [.ref l] [(Str.ofString "key", .ref f)]) R E s := by
  obtain ⟨ho, hz, its, n, rv, e⟩ := I.hok l _ hl
  have isL : s.heap.IsList l its.toArray := ⟨_, e, rfl, n, rfl⟩
  have szv : its.toArray.size = xs.length := by rw [List.size_toArray]; exact (Paired.length rv).symm
  refine call_min_walkK ?_
  refine wpAny_pyIter_list isL ?_
  have push : ∀ b o, s.heap.get? b = some o → (s.heap.push ({ cls := .type "list_iterator", data := .fields #[.ref l, .int 0 0] } : Obj)).get? b = some o := fun b o e => Heap.get?_push_of_some _ e
  have I2 : Inv X pins σ H { s with heap := s.heap.push { cls := .type "list_iterator", data := .fields #[.ref l, .int 0 0] } } := I.kept (t' := s.toks) push
  have itOk : FpOk X pins H s.heap.objs.size := I.fpOk (Nat.le_refl _) (I.hok.fresh (Nat.le_refl _))
  have SOk : FpOk X pins H (s.heap.push ({ cls := .type "list_iterator", data := .fields #[.ref l, .int 0 0] } : Obj)).objs.size := I2.fpOk (Nat.le_refl _) (I2.hok.fresh (Nat.le_refl _))
  have lsz : l < s.heap.objs.size := Heap.lt_size e
  have fsz : f < s.heap.objs.size := Heap.lt_size hf
  have psz : (s.heap.push ({ cls := .type "list_iterator", data := .fields #[.ref l, .int 0 0] } : Obj)).objs.size = s.heap.objs.size + 1 := Heap.size_push _ _
  have hh : X.A.in1.handled = none := hr.hd
  refine ⟨s.heap.objs.size, [s.heap.objs.size, l], [s.heap.objs.size], fun a b => b = a, its.toArray.size, fun i v => its.toArray[i]? = some v, fun i s' => s'.heap.IsListIter s.heap.objs.size l i ∧ s'.heap.IsList l its.toArray,
    fun s' => Inv X pins σ H s' ∧ s'.heap.get? f = some (lamObj X params body scope pm ctv c'), fun i k s' => ∃ t, k = .int (key i) t, fun i j => decide (key i < key j), rfl,
    (Walks.list hh s.heap.objs.size l (Nat.ne_of_lt lsz) its.toArray).toS, ⟨⟨_, Heap.get?_push_size _ rfl, rfl, rfl⟩, ⟨_, push _ _ e, rfl, n, rfl⟩⟩, fun b hb => ?_, by rw [szv]; exact h0, ?_, ⟨I2, push _ _ hf⟩, fun v s' hv hJ => ?_⟩
  · refine (?_ : b < (s.heap.push _).objs.size)
    rw [psz]
    (simp only [List.mem_cons, List.not_mem_nil, or_false] at hb)
    rcases hb with rfl | rfl
    · exact Nat.lt_succ_self _
    · exact Nat.lt_succ_of_lt lsz
  · refine ⟨fun s1 s2 hJ m => ?_, fun i k s1 s2 h _ => h, fun i v s1 o Q E hi hP hJ hst hS hQ => ?_, fun i j ki kj s1 Q E _ h1 h2 h => ?_⟩
    · obtain ⟨J1, J2⟩ := hJ
      obtain ⟨hp, g, d, t, os⟩ := s2
      obtain ⟨m1, m2, m3, m4, m5⟩ := m
      obtain rfl : g = s1.gens := m2
      obtain rfl : d = s1.drawn := m3
      obtain rfl : os = s1.os := m4
      have nf : f ∉ [(s.heap.push ({ cls := .type "list_iterator", data := .fields #[.ref l, .int 0 0] } : Obj)).objs.size, s.heap.objs.size] := fun z => by
        simp only [List.mem_cons, List.not_mem_nil, or_false] at z
        rw [psz] at z
        rcases z with z | z
        · exact Nat.lt_irrefl _ (Nat.lt_trans (Nat.lt_succ_self _) (by rw [z] at fsz; exact fsz))
        · exact Nat.lt_irrefl _ (by rw [z] at fsz; exact fsz)
      exact ⟨J1.turnedL (h' := hp) (t' := t) (ch := [(s.heap.push ({ cls := .type "list_iterator", data := .fields #[.ref l, .int 0 0] } : Obj)).objs.size, s.heap.objs.size]) (fun b o hb e => m1 b o hb e) (fun b hb => by
        (simp only [List.mem_cons, List.not_mem_nil, or_false] at hb)
        rcases hb with rfl | rfl
        · exact SOk
        · exact itOk), m1 f _ nf J2⟩
    · obtain ⟨J1, J2⟩ := hJ
      have hx : i < xs.length := by rw [← szv]; exact hi
      obtain ⟨u, hu, ru⟩ := rv.get (List.getElem?_eq_getElem hx)
      obtain rfl : u = v := by
        have hP : its.toArray[i]? = some v := hP
        rw [List.getElem?_toArray, hu] at hP
        exact Option.some.inj hP
      refine run_lamA J1 L aN J2 hco ru (hbind u) J1.env0.in1 hr.in1 hbody (ht i _ (List.getElem?_eq_getElem hx)) fun w' u' H' s' I' un r q => ?_
      obtain ⟨rfl, rfl⟩ := q
      obtain ⟨t, rfl⟩ : ∃ t, u' = .int (key i) t := r
      have lk : ∀ o, s1.heap.get? l = some o → s'.heap.get? l = some o := fun o e1 => by
        have a1 := (J1.hok l _ hl).1
        have a2 := (I'.hok l _ hl).1
        rw [e1] at a1
        rw [a2]
        exact a1.symm
      exact hQ _ s' ⟨I', un.keep f _ J2 hfn hfr (by simp)⟩ ⟨hst.1.at fun o e1 => un.keep _ o e1 itOk.1 (FpOk.nofr J1 itOk) (by simp), hst.2.at fun o e1 => lk o e1⟩ (un.keep _ o hS SOk.1 (FpOk.nofr J1 SOk) (by simp)) ⟨t, rfl⟩ fun _ _ h => h
    · obtain ⟨t1, rfl⟩ := h1
      obtain ⟨t2, rfl⟩ := h2
      exact (PyProof.Rows.lt_int h : wpAny (model X.prog X.w) X.A.in1 (compareOp .Lt (.int (key i) t1) (.int (key j) t2)) Q E s1) -- _ _ _ _ _ _ _ _ _ _ h
  · have hv : its.toArray[argBest (fun i j => decide (key i < key j)) (its.toArray.size - 1)]? = some v := hv
    rw [szv, List.getElem?_toArray] at hv
    have lt : argBest (fun i j => decide (key i < key j)) (xs.length - 1) < xs.length := by
      have := (argBest_lt key (xs.length - 1)).1
      omega
    obtain ⟨u, hu, ru⟩ := rv.get (List.getElem?_eq_getElem lt)
    obtain rfl : u = v := by
      rw [hu] at hv
      exact Option.some.inj hv
    exact hR _ u s' (List.getElem?_eq_getElem lt) ru hJ.1
end
end DC

namespace DC
open PySem PySem.Spec PyProof.Rows LamX L2
/-! ### a lambda is made -/
/-- its table may have grown by one place -/
inductive Grown (T : Hp) (P : Addr) (q : Str) : Hp → Prop
  | same : Grown T P q T
  | more {ps new : Array Value} {cd : Addr} : T P = some (.tbl ps) → T cd = none → TriplesOk (ps ++ new).toList → (∀ pos cv, codeAmong pos (ps ++ new).toList = some cv → codeAmong pos ps.toList = some cv ∨ cv = .ref cd) → Grown T P q (upd (upd T P (.tbl (ps ++ new))) cd (CodeO cd q))
section
variable {X : Cx} {pins : List (Addr × Obj)} {σ : L2.St} {T : Hp} {st : Shared}
/-- what the making tells -/
structure Made (X : Cx) (pins : List (Addr × Obj)) (σ : L2.St) (params : Arguments) (body : Expr) (sc2 : Scope) (T2 : Hp) (now : Shared) (fn cd : Addr) (pm ctv : Value) : Prop where
  inv : Inv X pins σ T2 now
  obj : now.heap.get? fn = some (lamObj X params body sc2 pm ctv cd)
  new : T2 fn = none
  nofr : fn ∉ frs X.stack
  code : T2 cd = some (CodeO cd (X.env.qual ++ "<lambda>"))
theorem lam_makeA {c P : Addr} {params : Arguments} {body : Expr} {sc2 : Scope} {pos : Pos} {ps : Array Value} {E R : Value → Shared → Prop} (J : Inv X pins σ T st) (TB : TabB X.base X.mg c P) (cdx : X.env.code = .ref c) (hT : T P = some (.tbl ps)) (tri : TriplesOk ps.toList)
    (good : ∀ pos cv, codeAmong pos ps.toList = some cv → ∃ d, cv = .ref d ∧ T d = some (CodeO d (X.env.qual ++ "<lambda>"))) (nodef : defaultsOf params X.env = ([], [])) (caps : ∀ y ∈ sc2.names, y.2 = .free → ∃ d, X.env.cells.lookup y.1 = some d)
    (done : ∀ fn cd pm ctv T2 now, Grown T P (X.env.qual ++ "<lambda>") T2 → Made X pins σ params body sc2 T2 now fn cd pm ctv → R (.ref fn) now) :
    wpAny (model X.prog X.w) X.A (eval (.Lambda params body sc2 pos) X.env) R E st := by
  have tab : st.heap.get? P = some { cls := .none, data := .fields ps } := J.hok P _ hT
  have blt := TB.bm.keeps J.bk
  have late : ∀ b, st.heap.objs.size ≤ b → b ∉ frs X.stack := fun b ge z => (List.mem_cons.mp (J.stkSub _ z)).elim (fun e => Nat.lt_irrefl _ (Nat.lt_of_lt_of_le (e ▸ J.lt) ge)) fun e => J.nofs ge e
  refine PySem.W.kla_eval nodef ?_
  rcases hc : codeAmong pos ps.toList with _ | cv
  · refine PySem.W.kla_makeFunction (mg := X.mg) (c := c) (P := P) (ps := ps) (closure_ok caps) J.ok.glob (J.mod.glob.keeps J.bk) cdx (TB.code.keeps J.bk) tab tri hc TB.gP blt fun cd ctv hp tk keep ge lt rec tab2 => ?_
    obtain ⟨_, oc, vs, t, ⟨⟩, h1, h2, h3⟩ := rec
    have fresh : T cd = none := J.hok.fresh ge
    have J2 := inv_table (t' := tk) (more := #[rawInt pos.line, rawInt pos.col, .ref cd]) (h' := hp.push (lamObj X params body sc2 ((X.mg "__name__").getD .none) ctv cd)) J hT (fun b o ne e => Heap.get?_push_of_some _ (keep b o ne e)) (Heap.get?_push_of_some _ tab2) ge ⟨oc, vs, t, Heap.get?_push_of_some _ h1, h2, h3⟩
    have lst : (ps ++ #[rawInt pos.line, rawInt pos.col, .ref cd]).toList = ps.toList ++ [rawInt pos.line, rawInt pos.col, .ref cd] := by simp
    have top : st.heap.objs.size ≤ hp.objs.size := Nat.le_trans ge (Nat.le_of_lt lt)
    refine done hp.objs.size cd _ ctv _ _ (.more hT fresh (by rw [lst]; exact PySem.TriplesOk_snoc _ _ _ _ tri) fun p cv h => ?_) ⟨J2, Heap.get?_push_size _ rfl, ?_, late _ top, upd_same⟩
    · rw [lst] at h
      exact among_app _ tri h
    · rw [upd_ne (Nat.ne_of_gt lt), upd_ne (Nat.ne_of_gt (Nat.lt_of_lt_of_le (Heap.lt_size tab) top))]
      exact J.hok.fresh top
  · obtain ⟨cd, rfl, known⟩ := good pos cv hc
    refine PySem.W.kla_makeFunctionHit (mg := X.mg) (c := c) (P := P) (ps := ps) (closure_ok caps) J.ok.glob (J.mod.glob.keeps J.bk) cdx (TB.code.keeps J.bk) tab tri hc blt fun ctv hp tk keep top => ?_
    exact done hp.objs.size cd _ ctv T _ .same ⟨J.kept fun b o e => Heap.get?_push_of_some _ (keep b o e), Heap.get?_push_size _ rfl, J.hok.fresh top, late _ top, known⟩
end
end DC
namespace DL
open PySem L2
/-- the world behind the making -/
theorem Sub.grown {w : Wd} {P : Addr} {q : Str} {T2 : Hp} (s : Sub w.S w.H) (hP : w.S P = some (TabM q)) (g : DC.Grown w.H P q T2) (here : ∃ ps, w.H P = some (.tbl ps) ∧ Good w.S ps q) : ∃ S2, LeP w ⟨S2, T2, w.F⟩ ∧ Sub S2 T2 ∧ ∃ ps, T2 P = some (.tbl ps) ∧ Good S2 ps q := by
  cases g with
  | same => exact ⟨w.S, LeP.refl w, s, here⟩
  | @more ps new cd h1 h2 h3 h4 =>
    obtain ⟨ps', e, g1, g2⟩ := here
    rw [h1] at e
    cases e
    have ne : P ≠ cd := fun z => by rw [z, h2] at h1; cases h1
    have sN : w.S cd = none := s.free h2
    have ex : Ex w.S (upd w.S cd (LamX.CodeO cd q)) := Ex.new sN
    have gd : Good (upd w.S cd (LamX.CodeO cd q)) (ps ++ new) q := ⟨h3, fun pos cv h => by
      rcases h4 pos cv h with z | z
      · obtain ⟨d, e1, e2⟩ := g2 pos cv z
        exact ⟨d, e1, ex _ _ e2⟩
      · exact ⟨cd, z, upd_same⟩⟩
    have atP : upd (upd w.H P (.tbl (ps ++ new))) cd (LamX.CodeO cd q) P = some (.tbl (ps ++ new)) := by rw [upd_ne ne, upd_same]
    refine ⟨upd w.S cd (LamX.CodeO cd q), ⟨ex, fun x o hx => ?_, fun x hx hs => ?_, rfl⟩, fun x o hx => ?_, _, atP, gd⟩
    · show Keeps o (upd (upd w.H P (.tbl (ps ++ new))) cd (LamX.CodeO cd q) x)
      by_cases z : x = P
      · subst z
        rw [h1] at hx
        cases hx
        exact .inr ⟨_, _, rfl, atP⟩
      · rw [upd_ne (ne_of_none hx h2), upd_ne z]
        exact .inl hx
    · show upd w.S cd (LamX.CodeO cd q) x = none
      rw [upd_ne (fun z : x = cd => hx (z ▸ h2))]
      exact hs
    · by_cases z : x = cd
      · subst z
        rw [upd_same] at hx ⊢
        exact .inl hx
      · rw [upd_ne z] at hx
        by_cases y : x = P
        · subst y
          rw [hP] at hx
          cases hx
          exact .inr (.inr ⟨q, _, rfl, atP, gd⟩)
        · rw [upd_ne z, upd_ne y]
          exact (s x o hx).mono ex
end DL

namespace DC
open PySem PySem.Spec PyProof.Rows LamX L2
/-- min(.., key=lambda a: ..): t gives the list, tb the key at one slot more -/
def tMinLam (P : Addr) (q : Str) (t : TA) (tb : TE) : TE := fun σ H Q => t σ H fun vs H1 => ∃ (l : Addr) (xs : List V) (key : Nat → Int), vs = [.ref l] ∧ H1 l = some (.lst xs) ∧ 0 < xs.length ∧ (H1 P = some (DL.TabM q) ∨ ∃ ps : Array Value, H1 P = some (.tbl ps) ∧ TriplesOk ps.toList ∧
  (∀ pos cv, codeAmong pos ps.toList = some cv → ∃ d, cv = .ref d ∧ H1 d = some (CodeO d q)) ∧ ∀ T2, Grown H1 P q T2 →
    (∀ od i x, xs[i]? = some x → tb (σ ++ [some x]) (upd T2 l (.frz od (.lst xs))) fun w H' => H' = upd T2 l (.frz od (.lst xs)) ∧ w = .int (key i)) ∧
    ∀ x, xs[argBest (fun i j => decide (key i < key j)) (xs.length - 1)]? = some x → Q x T2)
theorem Grown.keep {T T2 : Hp} {P : Addr} {q : Str} (g : Grown T P q T2) {b : Addr} {o : HO} (h : T b = some o) (n : ∀ ps, o ≠ .tbl ps) : T2 b = some o := by
  cases g with
  | same => exact h
  | @more ps new cd h1 h2 _ _ =>
    rw [upd_ne (ne_of_none h h2), upd_ne (fun z => by rw [z, h1] at h; cases h; exact n _ rfl)]
    exact h
section
variable {X : Cx}
theorem pe_minLam {x nm a : Str} {c P : Addr} {k : Nat} {e : Expr} {params : Arguments} {body : Expr} {sc2 : Scope} {p pos lp kp : Pos} {t : TA} {tb : TE} (hg : Gl X x) (hm : X.mg x = none) (hv : bootBuiltins x = some (.builtin "min")) (ha : PA X [e] t)
    (TB : TabB X.base X.mg c P) (cdx : X.env.code = .ref c) (L : LamA X.env.scope sc2 a) (new : a ∉ X.N) (nodef : defaultsOf params X.env = ([], []))
    (bind : ∀ (u pm cv ctv : Value), bindArgs (PySem.W.kla_fn "<lambda>" (X.env.qual ++ "<lambda>") params body sc2 (cloFrom X.env.cells sc2.names []) pm cv ctv) ⟨[u], []⟩ = pure [(a, u)])
    (room : Room (k + 2) X.A)
    (inner : ∀ (B : Around) (back : List PySem.Env) (st : Shared) (T : Hp) (fn cd : Addr), Room k (B.deeper (lamEnv X sc2 st.heap.objs.size fn cd)) → PE (lamCxA X B back st T (fun _ _ _ => False) sc2 a fn cd) body tb)
    (hn : x ≠ "__name__" := by decide) (hdb : (x == ("__debug__" : Str)) = false := by decide)
    (s1 : backTo pos (starEach [e] X.env) = (false, eval e X.env) :: backTo pos (starEach [] X.env) := by rfl) (s2 : (backTo pos (starEach [e] X.env)).any (·.1) = false := by rfl)
    (s3 : (backToKw pos (keywordEach [⟨some nm, .Lambda params body sc2 lp, kp⟩] X.env)).all (·.1.isSome) = true := by rfl) (s4 : (backToKw pos (keywordEach [⟨some nm, .Lambda params body sc2 lp, kp⟩] X.env)).any (·.1.isNone) = false := by rfl)
    (s5 : (backToKw pos (keywordEach [⟨some nm, .Lambda params body sc2 lp, kp⟩] X.env)).filterMap (·.1) = [Str.ofString "key"] := by rfl) :
    PE X (.Call (.Name x p) [e] [⟨some nm, .Lambda params body sc2 lp, kp⟩] pos) (tMinLam P (X.env.qual ++ "<lambda>") t tb) := by
  refine (⟨fun pins s σ H Q I h => ?_⟩)
  refine wpAny_Call_Name_kw (A := X.A) (ld_blt I hg hm hv ?_ hn hdb)
  refine PyProof.Rows.callWith_kw (thn (ha.run pos pins s σ H _ I h) fun us st ⟨vs, H1, J, r1, l, xs, key, ev, hl, pos0, hh⟩ => ?_) s1 s2 s3 s4
  subst ev
  rcases hh with hT | ⟨ps, hT, tri, good, rest⟩
  · exact absurd (J.hok P _ hT).2.1 id
  obtain ⟨u, rfl, ru⟩ : ∃ u, us = [u] ∧ RelV (.ref l) u := by
    cases r1 with
    | cons r rr => cases rr; exact ⟨_, rfl, r⟩
  obtain rfl : u = .ref l := ru
  show wpAny _ _ (evalAll ((do let v ← eval (.Lambda params body sc2 lp) X.env; standAt pos; pure v) :: [])) _ _ st
  refine wpAny_evalAll_cons (wpAny_bind (lam_makeA J TB cdx hT tri good nodef (fun y hy e => L.caps J.ok y.1 y.2 hy e) fun fn cd pm ctv T2 now g m => wpAny_bind (wpAny_standAt (wpAny_pure (wpAny_evalAll_nil ?_)))))
  rw [s5]
  obtain ⟨body_, end_⟩ := rest T2 g
  have hl2 : T2 l = some (.lst xs) := g.keep hl fun _ z => by cases z
  obtain ⟨od, J2⟩ := m.inv.lock hl2 trivial
  have nl : ∀ b, T2 b = none → upd T2 l (.frz od (.lst xs)) b = none := fun b h => by
    rw [upd_ne (fun z : b = l => by rw [z, hl2] at h; cases h)]
    exact h
  have kc : upd T2 l (.frz od (.lst xs)) cd = some (CodeO cd (X.env.qual ++ "<lambda>")) := by
    rw [upd_ne (fun z : cd = l => by have := m.code; rw [z, hl2] at this; cases this)]
    exact m.code
  refine min_lamA J2 L new m.obj (nl _ m.new) m.nofr kc (fun u => bind u pm (.ref cd) ctv) room (fun B back st T hr => inner B back st T fn cd hr) upd_same pos0 (fun i x hx => body_ od i x hx) fun x u s' hx rx J3 => ?_
  have back : upd (upd T2 l (.frz od (.lst xs))) l (.lst xs) = T2 := by
    funext b
    by_cases z : b = l
    · rw [z, upd_same, hl2]
    · rw [upd_ne z, upd_ne z]
  have J4 := J3.unlock upd_same (m.inv.nofrz hl2 trivial)
  rw [back] at J4
  exact ⟨x, T2, J4, rx, end_ x hx⟩
end
end DC

namespace DL
open PySem L2

def ExcAt (K : PySem.W.Frag) (S : Hp) (c : Str) (fs : List (Str × D)) (d : Option Addr) : Prop := (fs = [] ∧ d = none) ∨ ∃ dd xs, d = some dd ∧ S dd = some (.xd xs) ∧ RepF K S xs fs
/-- what is wished of an exception is met from w on -/
def Esc (G : Gx) (w : Wd) : Prop := ∀ w' σ ρ' c fs d, G.er c fs ρ' → Le w w' → Ok G w' σ ρ' → ExcAt G.K w'.S c fs d → G.Wx (.ref (clsAt G.K c)) d σ w'.H
theorem Esc.later {G : Gx} {w w' : Wd} (e : Esc G w) (l : Le w w') : Esc G w' := fun w2 σ ρ' c fs d h l2 => e w2 σ ρ' c fs d h (l.trans l2)

/-- an expression gives data -/
def W (G : Gx) (te : TE) (ρ : Env) (P : D → Env → Prop) : Prop := ∀ w σ (Q : VK), Ok G w σ ρ → Esc G w → (∀ v w' d ρ', P d ρ' → Le w w' → Ok G w' σ ρ' → Rep G.K w'.S v d → Q v w'.H) → te σ w.H Q
/-- an expression gives something new that may be changed -/
def WO (G : Gx) (te : TE) (ρ : Env) (P : M → Env → Prop) : Prop := ∀ w σ (Q : VK), Ok G w σ ρ → Esc G w → (∀ v w' m ρ' fp, P m ρ' → Le w w' → OkE G w' σ ρ' fp → OwnR G.K w'.S w'.H v m fp → Q v w'.H) → te σ w.H Q
def WT (G : Gx) (tt : TT) (ρ : Env) (P : Bool → Env → Prop) : Prop := ∀ w σ (Q : Bool → Hp → Prop), Ok G w σ ρ → Esc G w → (∀ b w' ρ', P b ρ' → Le w w' → Ok G w' σ ρ' → Q b w'.H) → tt σ w.H Q
def WA (G : Gx) (ta : TA) (ρ : Env) (P : List D → Env → Prop) : Prop := ∀ w σ (Q : List V → Hp → Prop), Ok G w σ ρ → Esc G w → (∀ vs w' ds ρ', P ds ρ' → Le w w' → Ok G w' σ ρ' → RepL G.K w'.S vs ds → Q vs w'.H) → ta σ w.H Q
/-- what follows, by the data -/
structure Post where
  nx : Env → Prop
  rt : M → Env → Prop
  bk : Env → Prop := fun _ => False
  ct : Env → Prop := fun _ => False
structure Meets (G : Gx) (w : Wd) (D : Ends) (P : Post) : Prop where
  nx : ∀ w' σ' ρ', P.nx ρ' → Le w w' → Ok G w' σ' ρ' → D.nx σ' w'.H
  rt : ∀ v w' σ' m ρ' fp, P.rt m ρ' → Le w w' → OkE G w' σ' ρ' fp → OwnR G.K w'.S w'.H v m fp → D.rt v w'.H
  bk : ∀ w' σ' ρ', P.bk ρ' → Le w w' → Ok G w' σ' ρ' → D.bk σ' w'.H
  ct : ∀ w' σ' ρ', P.ct ρ' → Le w w' → Ok G w' σ' ρ' → D.ct σ' w'.H
def WS (G : Gx) (t : TS) (ρ : Env) (P : Post) : Prop := ∀ w σ D, Ok G w σ ρ → Esc G w → Meets G w D P → t D σ w.H
theorem Meets.later {G : Gx} {w w' : Wd} {D : Ends} {P : Post} (m : Meets G w D P) (l : Le w w') : Meets G w' D P :=
  ⟨fun w2 σ ρ h l2 => m.nx w2 σ ρ h (l.trans l2), fun v w2 σ a ρ fp h l2 => m.rt v w2 σ a ρ fp h (l.trans l2), fun w2 σ ρ h l2 => m.bk w2 σ ρ h (l.trans l2), fun w2 σ ρ h l2 => m.ct w2 σ ρ h (l.trans l2)⟩

section
variable {G : Gx} {te ta tb tc : TE} {t u c : TT} {ρ : Env} {P : D → Env → Prop} {i : Nat} {d x y z : D}

/-! ### names, constants -/
theorem Ok.get {w : Wd} {σ : St} (o : Ok G w σ ρ) (h : ρ[i]? = some (some (.sh d))) : ∃ v, σ[i]? = some (some v) ∧ Rep G.K w.S v d := by
  obtain ⟨fps, e, _⟩ := o.env
  obtain ⟨v, fp, h1, _, h3⟩ := e.get h
  cases h3 with
  | sh r => exact ⟨v, h1, r⟩
theorem w_var (h : ρ[i]? = some (some (.sh d))) (k : P d ρ) : W G (tVar i) ρ P := fun w σ Q o _ q => by
  obtain ⟨v, h1, r⟩ := o.get h
  exact ⟨v, h1, q v w d ρ k (Le.refl w) o r⟩
theorem w_int {n : Int} (k : P (.int n) ρ) : W G (tC (.int n)) ρ P := fun w _ _ o _ q => q _ w _ ρ k (Le.refl w) o (.int n)
theorem w_bl {b : Bool} (k : P (.bl b) ρ) : W G (tC (.bl b)) ρ P := fun w _ _ o _ q => q _ w _ ρ k (Le.refl w) o (.bl b)
theorem w_non (k : P .non ρ) : W G (tC .non) ρ P := fun w _ _ o _ q => q _ w _ ρ k (Le.refl w) o .non
theorem w_str {a : Str} (k : P (.str a) ρ) : W G (tC (.str a)) ρ P := fun w _ _ o _ q => q _ w _ ρ k (Le.refl w) o (.str a)
theorem w_ty {n : String} (k : P (.ty n) ρ) : W G (tC (.ty n)) ρ P := fun w _ _ o _ q => q _ w _ ρ k (Le.refl w) o (.ty n)
theorem w_fun {a : Addr} (k : P (.fun_ a) ρ) : W G (tC (.ref a)) ρ P := fun w _ _ o _ q => q _ w _ ρ k (Le.refl w) o (.fun_ a)
theorem W.imp {P' : D → Env → Prop} (h : W G te ρ P) (f : ∀ d ρ', P d ρ' → P' d ρ') : W G te ρ P' := fun w σ Q o e q => h w σ Q o e fun v w' d ρ' p => q v w' d ρ' (f d ρ' p)

/-! ### operations on values -/
/-- r on values that stand for x and y gives what stands for a z of k -/
def RD (K : PySem.W.Frag) (r : R2) (x y : D) (k : D → Prop) : Prop := ∀ w v u (Q : VK), Sub w.S w.H → Rep K w.S v x → Rep K w.S u y →
  (∀ z w' vz, k z → LeP w w' → Sub w'.S w'.H → Rep K w'.S vz z → Q vz w'.H) → r v u w.H Q
def RU (K : PySem.W.Frag) (r : V → Hp → VK → Prop) (x : D) (k : D → Prop) : Prop := ∀ w v (Q : VK), Sub w.S w.H → Rep K w.S v x →
  (∀ z w' vz, k z → LeP w w' → Sub w'.S w'.H → Rep K w'.S vz z → Q vz w'.H) → r v w.H Q
def RC (K : PySem.W.Frag) (r : List V → Hp → VK → Prop) (xs : List D) (k : D → Prop) : Prop := ∀ w vs (Q : VK), Sub w.S w.H → RepL K w.S vs xs →
  (∀ z w' vz, k z → LeP w w' → Sub w'.S w'.H → Rep K w'.S vz z → Q vz w'.H) → r vs w.H Q
theorem w_op {r : R2} (h : W G ta ρ fun x ρ1 => W G tb ρ1 fun y ρ2 => RD G.K r x y fun z => P z ρ2) : W G (tOp r ta tb) ρ P := fun w σ Q o e q =>
  h w σ _ o e fun v w1 x ρ1 h1 l1 o1 r1 => h1 w1 σ _ o1 (e.later l1) fun u w2 y ρ2 h2 l2 o2 r2 => h2 w2 v u _ o2.sub (r1.mono l2.s) r2 fun z w3 vz pz l3 s3 r3 =>
    q vz w3 z ρ2 pz ((l1.trans l2).trans l3.le) (o2.grow l3 s3) r3
theorem w_un {r : V → Hp → VK → Prop} (h : W G ta ρ fun x ρ1 => RU G.K r x fun z => P z ρ1) : W G (tUn r ta) ρ P := fun w σ Q o e q =>
  h w σ _ o e fun v w1 x ρ1 h1 l1 o1 r1 => h1 w1 v _ o1.sub r1 fun z w3 vz pz l3 s3 r3 => q vz w3 z ρ1 pz (l1.trans l3.le) (o1.grow l3 s3) r3
/-- the answer is a plain value -/
theorem rd_val {K : PySem.W.Frag} {r : R2} {k : D → Prop} (vz : V) (hz : ∀ S, Rep K S vz z) (p : k z) (h : ∀ (w : Wd) (v u : V) (Q : VK), Sub w.S w.H → Rep K w.S v x → Rep K w.S u y → Q vz w.H → r v u w.H Q) : RD K r x y k :=
  fun w v u Q s rx ry q => h w v u Q s rx ry (q z w vz p (LeP.refl w) s (hz _))

/-! ### tests -/
theorem Rep.bl_inv {K : PySem.W.Frag} {S : Hp} {v : V} {b : Bool} (r : Rep K S v (.bl b)) : v = .bl b := by cases r; rfl
theorem Rep.int_inv {K : PySem.W.Frag} {S : Hp} {v : V} {b : Int} (r : Rep K S v (.int b)) : v = .int b := by cases r; rfl
theorem Rep.str_inv {K : PySem.W.Frag} {S : Hp} {v : V} {b : Str} (r : Rep K S v (.str b)) : v = .str b := by cases r; rfl
theorem Rep.non_inv {K : PySem.W.Frag} {S : Hp} {v : V} (r : Rep K S v .non) : v = .non := by cases r; rfl
variable {PT : Bool → Env → Prop}
theorem wt_test (h : W G te ρ fun x ρ1 => ∃ b, x = .bl b ∧ PT b ρ1) : WT G (tTest te) ρ PT := fun w σ Q o e q =>
  h w σ _ o e fun v w1 x ρ1 ⟨b, ex, p⟩ l1 o1 r1 => by
    subst ex
    exact ⟨b, r1.bl_inv, q b w1 ρ1 p l1 o1⟩
theorem wt_B (h : W G te ρ fun x ρ1 => ∃ b, x = .bl b ∧ PT b ρ1) : WT G (tB te) ρ PT := wt_test h
theorem wt_and (h : WT G t ρ fun b ρ1 => if b = true then WT G u ρ1 PT else PT false ρ1) : WT G (tAnd t u) ρ PT := fun w σ Q o e q =>
  h w σ _ o e fun b w1 ρ1 p l1 o1 => by
    cases b with
    | true => exact p w1 σ Q o1 (e.later l1) fun b w2 ρ2 p2 l2 => q b w2 ρ2 p2 (l1.trans l2)
    | false => exact q false w1 ρ1 p l1 o1
theorem wt_or (h : WT G t ρ fun b ρ1 => if b = true then PT true ρ1 else WT G u ρ1 PT) : WT G (tOr t u) ρ PT := fun w σ Q o e q =>
  h w σ _ o e fun b w1 ρ1 p l1 o1 => by
    cases b with
    | false => exact p w1 σ Q o1 (e.later l1) fun b w2 ρ2 p2 l2 => q b w2 ρ2 p2 (l1.trans l2)
    | true => exact q true w1 ρ1 p l1 o1
theorem wt_not (h : WT G t ρ fun b ρ1 => PT (!b) ρ1) : WT G (tNot t) ρ PT := fun w σ Q o e q => h w σ _ o e fun b w1 ρ1 p l1 o1 => q (!b) w1 ρ1 p l1 o1
theorem WT.imp {PT' : Bool → Env → Prop} (h : WT G t ρ PT) (f : ∀ b ρ', PT b ρ' → PT' b ρ') : WT G t ρ PT' := fun w σ Q o e q => h w σ Q o e fun b w' ρ' p => q b w' ρ' (f b ρ' p)
theorem w_ifE (h : WT G t ρ fun b ρ1 => if b = true then W G ta ρ1 P else W G tb ρ1 P) : W G (tIf t ta tb) ρ P := fun w σ Q o e q =>
  h w σ _ o e fun b w1 ρ1 p l1 o1 => by
    cases b with
    | true => exact p w1 σ Q o1 (e.later l1) fun v w2 d ρ2 p2 l2 => q v w2 d ρ2 p2 (l1.trans l2)
    | false => exact p w1 σ Q o1 (e.later l1) fun v w2 d ρ2 p2 l2 => q v w2 d ρ2 p2 (l1.trans l2)
theorem w_andV (h : W G ta ρ fun x ρ1 => ∃ b, x = .bl b ∧ if b = true then W G tb ρ1 P else P (.bl false) ρ1) : W G (tAndV ta tb) ρ P := fun w σ Q o e q =>
  h w σ _ o e fun v w1 x ρ1 ⟨b, ex, p⟩ l1 o1 r1 => by
    subst ex
    refine ⟨b, r1.bl_inv, ?_⟩
    cases b with
    | true => exact p w1 σ Q o1 (e.later l1) fun v w2 d ρ2 p2 l2 => q v w2 d ρ2 p2 (l1.trans l2)
    | false => exact q _ w1 _ ρ1 p l1 o1 (.bl false)
theorem w_orV (h : W G ta ρ fun x ρ1 => ∃ b, x = .bl b ∧ if b = true then P (.bl true) ρ1 else W G tb ρ1 P) : W G (tOrV ta tb) ρ P := fun w σ Q o e q =>
  h w σ _ o e fun v w1 x ρ1 ⟨b, ex, p⟩ l1 o1 r1 => by
    subst ex
    refine ⟨b, r1.bl_inv, ?_⟩
    cases b with
    | false => exact p w1 σ Q o1 (e.later l1) fun v w2 d ρ2 p2 l2 => q v w2 d ρ2 p2 (l1.trans l2)
    | true => exact q _ w1 _ ρ1 p l1 o1 (.bl true)
theorem w_notV (h : W G ta ρ fun x ρ1 => ∃ b, x = .bl b ∧ P (.bl (!b)) ρ1) : W G (tNotV ta) ρ P := fun w σ Q o e q =>
  h w σ _ o e fun v w1 x ρ1 ⟨b, ex, p⟩ l1 o1 r1 => by
    subst ex
    exact ⟨b, r1.bl_inv, q _ w1 _ ρ1 p l1 o1 (.bl _)⟩
theorem w_chain {r r' : R2} (h : W G ta ρ fun x ρ1 => W G tb ρ1 fun y ρ2 => RD G.K r x y fun z => ∃ b, z = .bl b ∧ if b = true then W G tc ρ2 fun x3 ρ3 => RD G.K r' y x3 fun z' => P z' ρ3 else P (.bl false) ρ2) : W G (tChain r r' ta tb tc) ρ P := fun w σ Q o e q =>
  h w σ _ o e fun v w1 x ρ1 h1 l1 o1 r1 => h1 w1 σ _ o1 (e.later l1) fun u w2 y ρ2 h2 l2 o2 r2 => h2 w2 v u _ o2.sub (r1.mono l2.s) r2 fun z w3 vz pz l3 s3 r3 => by
    obtain ⟨b, ez, p⟩ := pz
    subst ez
    have o3 := o2.grow l3 s3
    have l03 := (l1.trans l2).trans l3.le
    refine ⟨b, r3.bl_inv, ?_⟩
    cases b with
    | true => exact p w3 σ _ o3 (e.later l03) fun v4 w4 x4 ρ4 h4 l4 o4 r4 => h4 w4 u v4 Q o4.sub ((r2.mono l3.s).mono l4.s) r4 fun z w5 vz pz l5 s5 r5 => q vz w5 z ρ4 pz ((l03.trans l4).trans l5.le) (o4.grow l5 s5) r5
    | false => exact q _ w3 _ ρ2 p l03 o3 (.bl false)

/-! ### arguments, displays -/
variable {PA : List D → Env → Prop} {tr t1 : TA}
theorem wa_nil (k : PA [] ρ) : WA G tNil ρ PA := fun w _ _ o _ q => q [] w [] ρ k (Le.refl w) o .nil
theorem wa_cons (h : W G ta ρ fun x ρ1 => WA G tr ρ1 fun xs ρ2 => PA (x :: xs) ρ2) : WA G (tCons ta tr) ρ PA := fun w σ Q o e q =>
  h w σ _ o e fun v w1 x ρ1 h1 l1 o1 r1 => h1 w1 σ _ o1 (e.later l1) fun vs w2 xs ρ2 h2 l2 o2 r2 => q (v :: vs) w2 (x :: xs) ρ2 h2 (l1.trans l2) o2 (.cons (r1.mono l2.s) r2)
theorem RepL.len {K : PySem.W.Frag} {S : Hp} : ∀ {vs : List V} {ds : List D}, RepL K S vs ds → vs.length = ds.length
  | _, _, .nil => rfl
  | _, _, .cons _ r => by rw [List.length_cons, List.length_cons, RepL.len r]
theorem sz_of {n : Nat} (few : n ≤ 100000) : n ≤ sizeLine := Nat.le_trans few (by decide)
theorem w_tup (h : WA G t1 ρ fun xs ρ1 => xs.length ≤ 100000 ∧ P (.tup xs) ρ1) : W G (tTup t1) ρ P := fun w σ Q o e q =>
  h w σ _ o e fun vs w1 xs ρ1 ⟨hl, p⟩ l1 o1 r1 => ⟨sz_of (by rw [r1.len]; exact hl), fun a ha => by
    have l2 := Wd.le_add (o := .tup vs) o1.sub ha
    have s2 := Wd.sub_add (p := a) (o := .tup vs) o1.sub ha
    exact q (.ref a) (w1.add a (.tup vs)) _ ρ1 p (l1.trans l2.le) (o1.grow l2 s2) (.tup (SqT.of upd_same) (r1.mono l2.s))⟩
theorem w_lst (h : WA G t1 ρ fun xs ρ1 => xs.length ≤ 100000 ∧ P (.lst xs) ρ1) : W G (tLst t1) ρ P := fun w σ Q o e q =>
  h w σ _ o e fun vs w1 xs ρ1 ⟨hl, p⟩ l1 o1 r1 => ⟨sz_of (by rw [r1.len]; exact hl), fun a ha => by
    have l2 := Wd.le_add (o := .lst vs) o1.sub ha
    have s2 := Wd.sub_add (p := a) (o := .lst vs) o1.sub ha
    exact q (.ref a) (w1.add a (.lst vs)) _ ρ1 p (l1.trans l2.le) (o1.grow l2 s2) (.lst (.inl upd_same) (r1.mono l2.s))⟩
/-- something new that is owned -/
def Wd.own (w : Wd) (p : Addr) (o : HO) : Wd := ⟨w.S, upd w.H p o, w.F ++ [p]⟩
theorem Wd.le_own {w : Wd} {p : Addr} {o : HO} (h : w.H p = none) : Le w (w.own p o) := ⟨Ex.refl _, fun x u hx _ => .inl (Ex.new h x u hx), fun _ _ _ q => q, fun x hx => by
  rcases List.mem_append.mp hx with z | z
  · exact .inl z
  · obtain rfl : x = p := by simpa using z
    exact .inr h⟩
theorem Wd.sub_own {w : Wd} {p : Addr} {o : HO} (s : Sub w.S w.H) (h : w.H p = none) : Sub (w.own p o).S (w.own p o).H := fun a u e => by
  have z : a ≠ p := fun z => by
    have q := s.free h
    rw [← z] at q
    rw [show w.S a = some u from e] at q
    cases q
  show SubAt _ (upd w.H p o a) u
  rw [upd_ne z]
  exact s a u e
theorem OkE.own {w : Wd} {σ : St} {p : Addr} {o : HO} (k : Ok G w σ ρ) (h : w.H p = none) : OkE G (w.own p o) σ ρ [p] := by
  have at_ := k.at_
  obtain ⟨fps, e, f⟩ := k.env
  have f2 : w.F = fps.flatten := by rw [f, List.append_nil]
  refine ⟨Wd.sub_own k.sub h, ⟨fps, e.keep (Ex.refl _) (fun x q => (at_ x (f2 ▸ q)).1) (fun x _ u hu => .inl (Ex.new h x u hu)), by show w.F ++ [p] = _; rw [f2]⟩, ?_, k.px⟩
  show (w.F ++ [p]).Nodup
  refine List.nodup_append.mpr ⟨k.nd, by simp, fun x hx y hy z => ?_⟩
  obtain rfl : y = p := by simpa using hy
  subst z
  exact (at_ x hx).2 h
theorem ownL_of {K : PySem.W.Frag} {S H : Hp} : ∀ {vs : List V} {ds : List D}, RepL K S vs ds → OwnL K S H vs (ds.map .sh) []
  | _, _, .nil => .nil
  | _, _, .cons r q => OwnL.cons (f := []) (g := []) (.sh r) (ownL_of q)
variable {PO : M → Env → Prop}
theorem wo_lst (h : WA G t1 ρ fun xs ρ1 => xs.length ≤ 100000 ∧ PO (.lst (xs.map .sh)) ρ1) : WO G (tLst t1) ρ PO := fun w σ Q o e q =>
  h w σ _ o e fun vs w1 xs ρ1 ⟨hl, p⟩ l1 o1 r1 => ⟨sz_of (by rw [r1.len]; exact hl), fun a ha => by
    exact q (.ref a) (w1.own a (.lst vs)) _ ρ1 [a] p (l1.trans (Wd.le_own ha)) (o1.own ha) (.lst (o1.sub.free ha) upd_same (ownL_of r1))⟩
theorem wo_sh (h : W G te ρ fun d ρ1 => PO (.sh d) ρ1) : WO G te ρ PO := fun w σ Q o e q => h w σ Q o e fun v w1 d ρ1 p l1 o1 r1 => q v w1 _ ρ1 [] p l1 o1 (.sh r1)
end
end DL

namespace DL
open PySem L2

/-! ### environments that know less -/
def Drops (ρ' ρ : Env) : Prop := ρ'.length = ρ.length ∧ ∀ (j : Nat) (m : M), ρ'[j]? = some (some m) → ρ[j]? = some (some m)
theorem EnvR.congr {K : PySem.W.Frag} {S H : Hp} : ∀ {σ : St} {ρ : Env} {fps : List (List Addr)} {σ' : St} {ρ' : Env}, EnvR K S H σ ρ fps → σ'.length = σ.length → ρ'.length = ρ.length →
    (∀ (j : Nat) (m : M), ρ'[j]? = some (some m) → ρ[j]? = some (some m) ∧ σ'[j]? = σ[j]?) → ∃ fps', EnvR K S H σ' ρ' fps' ∧ fps'.flatten.Sublist fps.flatten
  | [], _, _, σ', ρ', .nil t, h1, h2, _ => by
    obtain rfl : σ' = [] := List.eq_nil_of_length_eq_zero h1
    obtain rfl : ρ' = [] := List.eq_nil_of_length_eq_zero h2
    exact ⟨[], .nil t, List.Sublist.refl _⟩
  | _ :: _, _ :: _, _, [], _, _, h1, _, _ => by simp at h1
  | _ :: _, _ :: _, _, _ :: _, [], _, _, h2, _ => by simp at h2
  | x :: σ, none :: ρ, _, y :: σ', b :: ρ', .no (fps := fps) r, h1, h2, h => by
    obtain ⟨fps', e, s⟩ := EnvR.congr r (σ' := σ') (ρ' := ρ') (by simpa using h1) (by simpa using h2) fun j m q => by
      have z := h (j + 1) m (by simpa using q)
      simpa using z
    cases b with
    | none => exact ⟨[] :: fps', .no e, by simpa using s⟩
    | some m => have z := (h 0 m rfl).1; simp at z
  | some v0 :: σ, some m0 :: ρ, _, y :: σ', b :: ρ', .ow (fp := fp) (fps := fps) q r, h1, h2, h => by
    obtain ⟨fps', e, s⟩ := EnvR.congr r (σ' := σ') (ρ' := ρ') (by simpa using h1) (by simpa using h2) fun j m q => by
      have z := h (j + 1) m (by simpa using q)
      simpa using z
    cases b with
    | none => exact ⟨[] :: fps', .no e, by
        rw [List.flatten_cons, List.flatten_cons]
        exact List.Sublist.trans s (List.sublist_append_right _ _)⟩
    | some m =>
      obtain ⟨z1, z2⟩ := h 0 m rfl
      have e1 := Option.some.inj (Option.some.inj (by simpa using z1))
      have e2 := Option.some.inj (by simpa using z2)
      subst e1
      rw [e2]
      exact ⟨fp :: fps', .ow q e, by
        rw [List.flatten_cons, List.flatten_cons]
        exact List.Sublist.append (List.Sublist.refl _) s⟩
section
variable {G : Gx} {ρ ρ' : Env} {w : Wd} {σ σ' : St}
/-- the same world, of which less is owned -/
def Wd.less (w : Wd) (F : List Addr) : Wd := ⟨w.S, w.H, F⟩
theorem Wd.le_less {F : List Addr} (h : ∀ x ∈ F, x ∈ w.F) : Le w (w.less F) := ⟨Ex.refl _, fun _ _ h _ => .inl h, fun _ _ _ h => h, fun x hx => .inl (h x hx)⟩
theorem OkE.congr (o : Ok G w σ ρ) (h1 : σ'.length = σ.length) (h2 : ρ'.length = ρ.length) (h : ∀ (j : Nat) (m : M), ρ'[j]? = some (some m) → ρ[j]? = some (some m) ∧ σ'[j]? = σ[j]?) (hp : ∀ i ∈ G.px, σ'[i]? = σ[i]?) :
    ∃ w', Le w w' ∧ w'.S = w.S ∧ w'.H = w.H ∧ (∀ x ∈ w'.F, x ∈ w.F) ∧ Ok G w' σ' ρ' := by
  obtain ⟨fps, e, f⟩ := o.env
  obtain ⟨fps', e', s⟩ := e.congr h1 h2 h
  have f2 : w.F = fps.flatten := by rw [f, List.append_nil]
  have sub : ∀ x ∈ fps'.flatten, x ∈ w.F := fun x hx => f2 ▸ s.subset hx
  exact ⟨w.less fps'.flatten, Wd.le_less sub, rfl, rfl, sub, o.sub, ⟨fps', e', by show fps'.flatten = _; rw [List.append_nil]⟩, by
    show fps'.flatten.Nodup
    have nd := o.nd
    rw [f2] at nd
    exact nd.sublist s, fun i hi => by rw [hp i hi]; exact o.px i hi⟩
theorem Ok.drop (o : Ok G w σ ρ) (d : Drops ρ' ρ) : ∃ w', Le w w' ∧ w'.S = w.S ∧ w'.H = w.H ∧ (∀ x ∈ w'.F, x ∈ w.F) ∧ Ok G w' σ ρ' := OkE.congr o rfl d.1 (fun j m q => ⟨d.2 j m q, rfl⟩) fun _ _ => rfl
theorem OkE.len (o : Ok G w σ ρ) : σ.length = ρ.length := by
  obtain ⟨fps, e, _⟩ := o.env
  exact e.len
/-- data at a name -/
theorem OkE.setSh {i : Nat} {v : V} {d : D} (o : Ok G w σ ρ) (r : Rep G.K w.S v d) (hi : i ∉ G.px) : ∃ w', Le w w' ∧ w'.S = w.S ∧ w'.H = w.H ∧ (∀ x ∈ w'.F, x ∈ w.F) ∧ Ok G w' (σ.set i (some v)) (ρ.set i (some (.sh d))) := by
  obtain ⟨fps, e, f⟩ := o.env
  have f2 : w.F = fps.flatten := by rw [f, List.append_nil]
  have sub : ∀ x ∈ (fps.set i []).flatten, x ∈ w.F := fun x hx => f2 ▸ mem_flatten_nil hx
  refine ⟨w.less (fps.set i []).flatten, Wd.le_less sub, rfl, rfl, sub, o.sub, ⟨_, e.set i (.sh r), by show (fps.set i []).flatten = _; rw [List.append_nil]⟩, ?_, fun j hj => ?_⟩
  · show (fps.set i []).flatten.Nodup
    have nd := o.nd
    rw [f2] at nd
    exact nodup_flatten_set nd (by simp) (fun x h => by cases h)
  · have ne : i ≠ j := fun z => hi (z ▸ hj)
    rw [List.getElem?_set_ne ne]
    exact o.px j hj
/-- what is owned, at a name -/
theorem OkE.setM {i : Nat} {v : V} {m : M} {fp : List Addr} (o : OkE G w σ ρ fp) (r : OwnR G.K w.S w.H v m fp) (hi : i ∉ G.px) (hl : i < ρ.length) : ∃ w', Le w w' ∧ w'.S = w.S ∧ w'.H = w.H ∧ (∀ x ∈ w'.F, x ∈ w.F) ∧ Ok G w' (σ.set i (some v)) (ρ.set i (some m)) := by
  obtain ⟨fps, e, f⟩ := o.env
  have nd := o.nd
  rw [f] at nd
  obtain ⟨nd1, nd2, nd3⟩ := List.nodup_append.mp nd
  have sub : ∀ x ∈ (fps.set i fp).flatten, x ∈ w.F := fun x hx => by
    rw [f]
    exact (mem_flatten_set hx).elim (List.mem_append_left _) (List.mem_append_right _)
  refine ⟨w.less (fps.set i fp).flatten, Wd.le_less sub, rfl, rfl, sub, o.sub, ⟨_, e.set i r, by show (fps.set i fp).flatten = _; rw [List.append_nil]⟩, ?_, fun j hj => ?_⟩
  · show (fps.set i fp).flatten.Nodup
    exact nodup_flatten_set nd1 nd2 (fun x h q => nd3 x (mem_flatten_nil q) x h rfl)
  · have ne : i ≠ j := fun z => hi (z ▸ hj)
    rw [List.getElem?_set_ne ne]
    exact o.px j hj
/-- what is owned by a name is taken out of it -/
theorem OkE.takeM {i : Nat} {m : M} (o : Ok G w σ ρ) (h : ρ[i]? = some (some m)) : ∃ v fp w', σ[i]? = some (some v) ∧ Le w w' ∧ w'.S = w.S ∧ w'.H = w.H ∧ OkE G w' σ (ρ.set i none) fp ∧ OwnR G.K w.S w.H v m fp := by
  obtain ⟨fps, e, f⟩ := o.env
  have f2 : w.F = fps.flatten := by rw [f, List.append_nil]
  obtain ⟨v, fp, h1, h2, h3⟩ := e.get h
  have nd := o.nd
  rw [f2] at nd
  have ap := flatten_apart nd h2
  have sub : ∀ x ∈ (fps.set i []).flatten ++ fp, x ∈ w.F := fun x hx => by
    rw [f2]
    exact (List.mem_append.mp hx).elim mem_flatten_nil (mem_flatten_get h2)
  refine ⟨v, fp, w.less ((fps.set i []).flatten ++ fp), h1, Wd.le_less sub, rfl, rfl, ⟨o.sub, ⟨_, e.forget i, rfl⟩, ?_, o.px⟩, h3⟩
  show ((fps.set i []).flatten ++ fp).Nodup
  refine List.nodup_append.mpr ⟨nodup_flatten_set nd (by simp) (fun x h => by cases h), ?_, fun x hx y hy z => ap y hy (z ▸ hx)⟩
  have q : fp.Sublist fps.flatten := by
    have hm := List.mem_of_getElem? h2
    exact List.sublist_flatten_of_mem hm
  exact nd.sublist q
end

/-! ### statements -/
section
variable {G : Gx} {te ta tb tc : TE} {t u : TS} {c : TT} {ρ ρ' : Env} {P : Post} {i j : Nat}
theorem ws_seq (h : WS G t ρ { P with nx := fun ρ' => WS G u ρ' P }) : WS G (tSeq t u) ρ P := fun w σ D o e m =>
  h w σ _ o e ⟨fun w' σ' ρ' q l o' => q w' σ' D o' (e.later l) (m.later l), m.rt, m.bk, m.ct⟩
theorem ws_next (h : P.nx ρ) : WS G tNext ρ P := fun w σ D o e m => m.nx w σ ρ h (Le.refl w) o
theorem ws_break (h : P.bk ρ) : WS G tBreak ρ P := fun w σ D o e m => m.bk w σ ρ h (Le.refl w) o
theorem ws_cont (h : P.ct ρ) : WS G tCont ρ P := fun w σ D o e m => m.ct w σ ρ h (Le.refl w) o
theorem ws_asg (hi : i ∉ G.px) (h : W G te ρ fun d ρ1 => P.nx (ρ1.set i (some (.sh d)))) : WS G (tAsg te (gName i)) ρ P := fun w σ D o e m =>
  h w σ _ o e fun v w1 d ρ1 p l1 o1 r1 => by
    obtain ⟨w2, l2, _, hH, _, o2⟩ := o1.setSh r1 hi
    have q := m.nx w2 _ _ p (l1.trans l2) o2
    rw [hH] at q
    exact q
theorem ws_asgO (hi : i ∉ G.px) (hl : i < ρ.length) (h : WO G te ρ fun a ρ1 => ρ1.length = ρ.length ∧ P.nx (ρ1.set i (some a))) : WS G (tAsg te (gName i)) ρ P := fun w σ D o e m =>
  h w σ _ o e fun v w1 d ρ1 fp ⟨hl1, p⟩ l1 o1 r1 => by
    obtain ⟨w2, l2, _, hH, _, o2⟩ := o1.setM r1 hi (by rw [hl1]; exact hl)
    have q := m.nx w2 _ _ p (l1.trans l2) o2
    rw [hH] at q
    exact q
theorem ws_drop (h : W G te ρ fun _ ρ1 => P.nx ρ1) : WS G (tDrop te) ρ P := fun w σ D o e m => h w σ _ o e fun v w1 d ρ1 p l1 o1 _ => m.nx w1 σ ρ1 p l1 o1
theorem ws_ret (h : W G te ρ fun d ρ1 => P.rt (.sh d) ρ1) : WS G (tRet te) ρ P := fun w σ D o e m => h w σ _ o e fun v w1 d ρ1 p l1 o1 r1 => m.rt v w1 σ _ ρ1 [] p l1 o1 (.sh r1)
theorem ws_retO (h : WO G te ρ P.rt) : WS G (tRet te) ρ P := fun w σ D o e m => h w σ _ o e fun v w1 a ρ1 fp p l1 o1 r1 => m.rt v w1 σ a ρ1 fp p l1 o1 r1
theorem ws_retN (h : P.rt (.sh .non) ρ) : WS G tRetN ρ P := fun w σ D o e m => m.rt .non w σ _ ρ [] h (Le.refl w) o (.sh .non)
theorem ws_retV {a : M} (h : ρ[i]? = some (some a)) (p : P.rt a (ρ.set i none)) : WS G (tRet (tVar i)) ρ P := fun w σ D o e m => by
  obtain ⟨v, fp, w', h1, l, hS, hH, o', r⟩ := o.takeM h
  have q := m.rt v w' σ a _ fp p l o' (by rw [hS, hH]; exact r)
  rw [hH] at q
  exact ⟨v, h1, q⟩
theorem ws_if (h : WT G c ρ fun b ρ1 => if b = true then WS G t ρ1 P else WS G u ρ1 P) : WS G (tIfS c t u) ρ P := fun w σ D o e m =>
  h w σ _ o e fun b w1 ρ1 p l1 o1 => by
    cases b with
    | true => exact p w1 σ D o1 (e.later l1) (m.later l1)
    | false => exact p w1 σ D o1 (e.later l1) (m.later l1)
theorem ws_drops (d : Drops ρ' ρ) (h : WS G t ρ' P) : WS G t ρ P := fun w σ D o e m => by
  obtain ⟨w', l, _, hH, _, o'⟩ := o.drop d
  have q := h w' σ D o' (e.later l) (m.later l)
  rw [hH] at q
  exact q
theorem ws_par {t1 : TA} (hi : i ∉ G.px) (hj : j ∉ G.px) (h : WA G t1 ρ fun ds ρ1 => ∃ x y, ds = [x, y] ∧ P.nx ((ρ1.set i (some (.sh x))).set j (some (.sh y)))) : WS G (tPar i j t1) ρ P := fun w σ D o e m =>
  h w σ _ o e fun vs w1 ds ρ1 ⟨x, y, ed, p⟩ l1 o1 r1 => by
    subst ed
    cases r1 with
    | cons ra r =>
      cases r with
      | cons rb r =>
        cases r
        obtain ⟨w2, l2, hS2, hH2, _, o2⟩ := o1.setSh ra hi
        obtain ⟨w3, l3, _, hH3, _, o3⟩ := o2.setSh (by rw [hS2]; exact rb) hj
        have q := m.nx w3 _ _ p ((l1.trans l2).trans l3) o3
        rw [hH3, hH2] at q
        exact ⟨_, _, rfl, q⟩
theorem ws_aug {f : Int → Int → Int} {a : Int} (hi : i ∉ G.px) (hv : ρ[i]? = some (some (.sh (.int a)))) (h : W G te ρ fun y ρ1 => ∃ b, y = .int b ∧ P.nx (ρ1.set i (some (.sh (.int (f a b)))))) : WS G (tAug i te (ipI f)) ρ P := fun w σ D o e m => by
  obtain ⟨v, h1, r⟩ := o.get hv
  obtain rfl := r.int_inv
  refine ⟨_, h1, h w σ _ o e fun u w1 y ρ1 ⟨b, ey, p⟩ l1 o1 r1 => ?_⟩
  subst ey
  obtain rfl := r1.int_inv
  refine ⟨a, b, rfl, rfl, ?_⟩
  obtain ⟨w2, l2, _, hH, _, o2⟩ := o1.setSh (i := i) (v := .int (f a b)) (d := .int (f a b)) (.int _) hi
  have q := m.nx w2 _ _ p (l1.trans l2) o2
  rw [hH] at q
  exact q

/-! ### targets -/
def WG (G : Gx) (g : TG) (d : D) (ρ : Env) (sl : List Nat) (P : Env → Prop) : Prop := ∀ w σ v (Q : St → Hp → Prop), Ok G w σ ρ → Rep G.K w.S v d →
  (∀ w' σ' ρ', P ρ' → Le w w' → w'.S = w.S → w'.H = w.H → Ok G w' σ' ρ' → σ'.length = σ.length → (∀ j, j ∉ sl → σ'[j]? = σ[j]?) → Q σ' w.H) → g v σ w.H Q
def WGs (G : Gx) (g : TGs) (ds : List D) (ρ : Env) (sl : List Nat) (P : Env → Prop) : Prop := ∀ w σ vs (Q : St → Hp → Prop), Ok G w σ ρ → RepL G.K w.S vs ds →
  (∀ w' σ' ρ', P ρ' → Le w w' → w'.S = w.S → w'.H = w.H → Ok G w' σ' ρ' → σ'.length = σ.length → (∀ j, j ∉ sl → σ'[j]? = σ[j]?) → Q σ' w.H) → g vs σ w.H Q
variable {d : D} {sl : List Nat} {PE_ : Env → Prop}
theorem wg_name (hi : i ∉ G.px) (hs : i ∈ sl) (h : PE_ (ρ.set i (some (.sh d)))) : WG G (gName i) d ρ sl PE_ := fun w σ v Q o r q => by
  obtain ⟨w', l, hS, hH, _, o'⟩ := o.setSh r hi
  exact q w' _ _ h l hS hH o' List.length_set fun j hj => List.getElem?_set_ne (fun z => hj (by rw [← z]; exact hs))
theorem wgs_nil (h : PE_ ρ) : WGs G gNil [] ρ sl PE_ := fun w σ vs Q o r q => by
  cases r
  exact ⟨rfl, q w σ ρ h (Le.refl w) rfl rfl o rfl fun _ _ => rfl⟩
theorem wgs_cons {g : TG} {gs : TGs} {ds : List D} (h : WG G g d ρ sl fun ρ1 => WGs G gs ds ρ1 sl PE_) : WGs G (gCons g gs) (d :: ds) ρ sl PE_ := fun w σ vs Q o r q => by
  cases r with
  | cons r1 r2 =>
    refine ⟨_, _, rfl, h w σ _ _ o r1 fun w1 σ1 ρ1 h1 l1 hS1 hH1 o1 n1 k1 => ?_⟩
    rw [← hH1]
    refine h1 w1 σ1 _ _ o1 (by rw [hS1]; exact r2) fun w2 σ2 ρ2 h2 l2 hS2 hH2 o2 n2 k2 => ?_
    rw [hH1]
    exact q w2 σ2 ρ2 h2 (l1.trans l2) (hS2.trans hS1) (hH2.trans hH1) o2 (n2.trans n1) fun j hj => (k2 j hj).trans (k1 j hj)
theorem wg_tup {gs : TGs} {ds : List D} {n : Nat} (hn : ds.length = n) (h : WGs G gs ds ρ sl PE_) : WG G (gTup G.K n gs) (.tup ds) ρ sl PE_ := fun w σ v Q o r q => by
  cases r with
  | tup h1 r1 => exact ⟨_, _, rfl, o.sub.st h1, by rw [r1.len, hn], h w σ _ Q o r1 q⟩
theorem wg_lst {gs : TGs} {ds : List D} {n : Nat} (hn : ds.length = n) (h : WGs G gs ds ρ sl PE_) : WG G (gLst G.K n gs) (.lst ds) ρ sl PE_ := fun w σ v Q o r q => by
  cases r with
  | lst h1 r1 => exact ⟨_, _, rfl, o.sub.sl (.inl h1), by rw [r1.len, hn], h w σ _ Q o r1 q⟩
/-- a, b = e, by a tuple | a list -/
theorem ws_asgG {g : TG} {sl : List Nat} (h : W G te ρ fun d ρ1 => WG G g d ρ1 sl P.nx) : WS G (tAsg te g) ρ P := fun w σ D o e m =>
  h w σ _ o e fun v w1 d ρ1 p l1 o1 r1 => p w1 σ v _ o1 r1 fun w2 σ2 ρ2 p2 l2 _ hH o2 _ _ => by
    have q := m.nx w2 σ2 ρ2 p2 (l1.trans l2) o2
    rw [hH] at q
    exact q

/-! ### what is walked -/
/-- J walks things that stand for ds, from w0 on -/
def Items (K : PySem.W.Frag) (J : It) (w0 : Wd) (ds : List D) : Prop := ∀ w, Le w0 w → Sub w.S w.H →
  (∀ i d, ds[i]? = some d → J.go i w.H ∧ ∀ x H', J.yld i w.H x H' → ∃ w', w'.H = H' ∧ LeP w w' ∧ Sub w'.S w'.H ∧ Rep K w'.S x d) ∧ J.stop ds.length w.H
def WI (G : Gx) (wi : TI) (ρ : Env) (P : List D → Env → Prop) : Prop := ∀ w σ (R : It → Hp → Prop), Ok G w σ ρ → Esc G w → (∀ J w' ds ρ', P ds ρ' → Le w w' → Ok G w' σ ρ' → Items G.K J w' ds → R J w'.H) → wi σ w.H R
theorem Items.later {K : PySem.W.Frag} {J : It} {w0 w1 : Wd} {ds : List D} (h : Items K J w0 ds) (l : Le w0 w1) : Items K J w1 ds := fun w l2 s => h w (l.trans l2) s
theorem RepL.get {K : PySem.W.Frag} {S : Hp} : ∀ {vs : List V} {ds : List D} {i : Nat} {d : D}, RepL K S vs ds → ds[i]? = some d → ∃ v, vs[i]? = some v ∧ Rep K S v d
  | _, _, _, _, .nil, h => by simp at h
  | _, _, 0, _, .cons r _, h => by
    have e := Option.some.inj (by simpa using h)
    subst e
    exact ⟨_, rfl, r⟩
  | _, _, i + 1, _, .cons _ r, h => by
    obtain ⟨v, h1, h2⟩ := RepL.get (i := i) r (by simpa using h)
    exact ⟨v, by simpa using h1, h2⟩
variable {PI_ : List D → Env → Prop}
theorem wi_list {tl : TE} (h : W G tl ρ fun x ρ1 => ∃ ds, x = .lst ds ∧ PI_ ds ρ1) : WI G (iList G.K tl) ρ PI_ := fun w σ R o e q =>
  h w σ _ o e fun v w1 x ρ1 ⟨ds, ex, p⟩ l1 o1 r1 => by
    subst ex
    cases r1 with
    | @lst a xs _ h0 r1 =>
      have h1 : SqL G.K w1.S a xs := .inl h0
      refine ⟨_, rfl, ⟨_, o1.sub.sl h1⟩, q _ w1 ds ρ1 p l1 o1 fun w2 l2 s2 => ⟨fun i d hd => ?_, ⟨xs, s2.sl (l2.s.sl h1), by rw [r1.len]; exact Nat.le_refl _⟩⟩⟩
      obtain ⟨x, hx, rx⟩ := r1.get hd
      refine ⟨⟨xs, x, s2.sl (l2.s.sl h1), hx⟩, fun y H' ⟨eH, k⟩ => ⟨w2, eH.symm, LeP.refl w2, s2, ?_⟩⟩
      have e2 := (k xs (s2.sl (l2.s.sl h1))).symm.trans hx
      rw [Option.some.inj e2]
      exact rx.mono l2.s
theorem wi_rol {tl : TE} (h : W G tl ρ fun x ρ1 => ∃ ds, x = .rol ds ∧ PI_ ds ρ1) : WI G (iList G.K tl) ρ PI_ := fun w σ R o e q =>
  h w σ _ o e fun v w1 x ρ1 ⟨ds, ex, p⟩ l1 o1 r1 => by
    subst ex
    cases r1 with
    | @rol a xs _ h1 r1 =>
      refine ⟨_, rfl, ⟨_, o1.sub.sl h1⟩, q _ w1 ds ρ1 p l1 o1 fun w2 l2 s2 => ⟨fun i d hd => ?_, ⟨xs, s2.sl (l2.s.sl h1), by rw [r1.len]; exact Nat.le_refl _⟩⟩⟩
      obtain ⟨x, hx, rx⟩ := r1.get hd
      refine ⟨⟨xs, x, s2.sl (l2.s.sl h1), hx⟩, fun y H' ⟨eH, k⟩ => ⟨w2, eH.symm, LeP.refl w2, s2, ?_⟩⟩
      have e2 := (k xs (s2.sl (l2.s.sl h1))).symm.trans hx
      rw [Option.some.inj e2]
      exact rx.mono l2.s
theorem wi_tup {tl : TE} (h : W G tl ρ fun x ρ1 => ∃ ds, x = .tup ds ∧ PI_ ds ρ1) : WI G (iTup G.K tl) ρ PI_ := fun w σ R o e q =>
  h w σ _ o e fun v w1 x ρ1 ⟨ds, ex, p⟩ l1 o1 r1 => by
    subst ex
    cases r1 with
    | @tup a xs _ h1 r1 =>
      refine ⟨_, rfl, ⟨_, o1.sub.st h1⟩, q _ w1 ds ρ1 p l1 o1 fun w2 l2 s2 => ⟨fun i d hd => ?_, ⟨xs, s2.st (l2.s.st h1), by rw [r1.len]; exact Nat.le_refl _⟩⟩⟩
      obtain ⟨x, hx, rx⟩ := r1.get hd
      refine ⟨⟨xs, x, s2.st (l2.s.st h1), hx⟩, fun y H' ⟨eH, k⟩ => ⟨w2, eH.symm, LeP.refl w2, s2, ?_⟩⟩
      have e2 := (k xs (s2.st (l2.s.st h1))).symm.trans hx
      rw [Option.some.inj e2]
      exact rx.mono l2.s
/-- lo, lo + 1, .., n of them -/
def intsD (lo : Int) (n : Nat) : List D := (List.range n).map fun (i : Nat) => .int (lo + (i : Int))
theorem intsD_get {lo : Int} {n i : Nat} {d : D} (h : (intsD lo n)[i]? = some d) : i < n ∧ d = .int (lo + (i : Int)) := by
  unfold intsD at h
  rw [List.getElem?_map] at h
  by_cases hi : i < n
  · rw [List.getElem?_range hi] at h
    exact ⟨hi, (Option.some.inj h).symm⟩
  · rw [List.getElem?_eq_none (by rw [List.length_range]; omega)] at h
    cases h
theorem intsD_len {lo : Int} {n : Nat} : (intsD lo n).length = n := by unfold intsD; rw [List.length_map, List.length_range]
theorem items_rng {K : PySem.W.Frag} {lo : Int} {n : Nat} {w : Wd} : Items K (Itr lo n) w (intsD lo n) := fun w2 _ s2 => ⟨fun i d hd => by
  obtain ⟨hi, rfl⟩ := intsD_get hd
  exact ⟨hi, fun x H' ⟨eH, ex⟩ => ⟨w2, eH.symm, LeP.refl w2, s2, by rw [ex]; exact .int _⟩⟩, by rw [intsD_len]; exact Nat.le_refl _⟩
theorem wi_rng1 {t1 : TA} (h : WA G t1 ρ fun xs ρ1 => ∃ n, xs = [.int n] ∧ (-(2 ^ 62) ≤ n ∧ n < 2 ^ 62) ∧ PI_ (intsD 0 n.toNat) ρ1) : WI G (iRng1 t1) ρ PI_ := fun w σ R o e q =>
  h w σ _ o e fun vs w1 xs ρ1 ⟨n, ex, hn, p⟩ l1 o1 r1 => by
    subst ex
    cases r1 with
    | cons ra r =>
      cases r
      obtain rfl := ra.int_inv
      exact ⟨n, rfl, hn.1, hn.2, q _ w1 _ ρ1 p l1 o1 items_rng⟩
theorem wi_rng2 {t1 : TA} (h : WA G t1 ρ fun xs ρ1 => ∃ a n, xs = [.int a, .int n] ∧ (-(2 ^ 62) ≤ a ∧ a < 2 ^ 62 ∧ -(2 ^ 62) ≤ n ∧ n < 2 ^ 62) ∧ PI_ (intsD a (n - a).toNat) ρ1) : WI G (iRng2 t1) ρ PI_ := fun w σ R o e q =>
  h w σ _ o e fun vs w1 xs ρ1 ⟨a, n, ex, hn, p⟩ l1 o1 r1 => by
    subst ex
    cases r1 with
    | cons ra r =>
      cases r with
      | cons rb r =>
        cases r
        obtain rfl := ra.int_inv
        obtain rfl := rb.int_inv
        exact ⟨a, n, rfl, hn, q _ w1 _ ρ1 p l1 o1 items_rng⟩

/-! ### loops -/
theorem ws_for {wi : TI} {g : TG} {sl : List Nat} (h : WI G wi ρ fun ds ρ1 => ∃ I : Nat → Env → Prop, I 0 ρ1 ∧
      (∀ i d ρ2, ds[i]? = some d → I i ρ2 → WG G g d ρ2 sl fun ρ3 => WS G t ρ3 { P with nx := I (i + 1), ct := I (i + 1), bk := P.nx }) ∧ ∀ ρ2, I ds.length ρ2 → P.nx ρ2) : WS G (tFor wi g t) ρ P := fun w σ D o e m =>
  h w σ _ o e fun J w1 ds ρ1 ⟨I, i0, step, fin⟩ l1 o1 it => by
    refine ⟨fun i n σ' H' => ∃ w' ρ', w'.H = H' ∧ Le w1 w' ∧ Ok G w' σ' ρ' ∧ i ≤ ds.length ∧ n = ds.length - i ∧ I i ρ', ⟨_, w1, ρ1, rfl, Le.refl w1, o1, Nat.zero_le _, rfl, i0⟩, ?_⟩
    rintro i n σ' H' ⟨w', ρ', rfl, l', o', hi, rfl, p⟩
    obtain ⟨go, stop⟩ := it w' l' o'.sub
    by_cases hlt : i < ds.length
    · obtain ⟨g1, g2⟩ := go i ds[i] (List.getElem?_eq_getElem hlt)
      refine .inr ⟨g1, fun σ2 H2 => ∃ w2 ρ2, w2.H = H2 ∧ Le w1 w2 ∧ Ok G w2 σ2 ρ2 ∧ I (i + 1) ρ2, fun σ2 H2 ⟨w2, ρ2, e2, l2, o2, p2⟩ => ⟨ds.length - (i + 1), by omega, w2, ρ2, e2, l2, o2, hlt, rfl, p2⟩, fun x H2 y => ?_⟩
      obtain ⟨w2, rfl, l2, s2, r2⟩ := g2 x H2 y
      have o2 := o'.grow l2 s2
      refine step i ds[i] ρ' (List.getElem?_eq_getElem hlt) p w2 σ' x _ o2 r2 fun w3 σ3 ρ3 p3 l3 _ hH3 o3 _ _ => ?_
      have lw : Le w1 w3 := (l'.trans l2.le).trans l3
      have lww : Le w w3 := l1.trans lw
      rw [← hH3]
      exact p3 w3 σ3 _ o3 (e.later lww) ⟨fun w4 σ4 ρ4 q l4 o4 => ⟨w4, ρ4, rfl, lw.trans l4, o4, q⟩, fun v w4 σ4 a ρ4 fp q l4 o4 r4 => m.rt v w4 σ4 a ρ4 fp q (lww.trans l4) o4 r4,
        fun w4 σ4 ρ4 q l4 o4 => m.nx w4 σ4 ρ4 q (lww.trans l4) o4, fun w4 σ4 ρ4 q l4 o4 => ⟨w4, ρ4, rfl, lw.trans l4, o4, q⟩⟩
    · have ei : i = ds.length := by omega
      subst ei
      exact .inl ⟨stop, m.nx w' σ' ρ' (fin ρ' p) (l1.trans l') o'⟩
theorem ws_while {c : TT} (I : Nat → Env → Prop) (n0 : Nat) (h0 : I n0 ρ) (h : ∀ n ρ1, I n ρ1 → WT G c ρ1 fun b ρ2 => if b = true then WS G t ρ2 { P with nx := fun ρ3 => ∃ n', n' < n ∧ I n' ρ3, ct := fun ρ3 => ∃ n', n' < n ∧ I n' ρ3, bk := P.nx } else P.nx ρ2) :
    WS G (tWhile c t) ρ P := fun w σ D o e m => by
  refine ⟨fun n σ' H' => ∃ w' ρ', w'.H = H' ∧ Le w w' ∧ Ok G w' σ' ρ' ∧ I n ρ', ⟨n0, w, ρ, rfl, Le.refl w, o, h0⟩, ?_⟩
  rintro n σ' H' ⟨w', ρ', rfl, l', o', p⟩
  refine h n ρ' p w' σ' _ o' (e.later l') fun b w2 ρ2 q l2 o2 => ?_
  have lw := l'.trans l2
  cases b with
  | false => exact m.nx w2 σ' ρ2 q lw o2
  | true =>
    refine ⟨fun σ3 H3 => ∃ n', n' < n ∧ ∃ w3 ρ3, w3.H = H3 ∧ Le w w3 ∧ Ok G w3 σ3 ρ3 ∧ I n' ρ3, fun σ3 H3 ⟨n', hn, z⟩ => ⟨n', hn, z⟩, ?_⟩
    exact q w2 σ' _ o2 (e.later lw) ⟨fun w4 σ4 ρ4 ⟨n', hn, q4⟩ l4 o4 => ⟨n', hn, w4, ρ4, rfl, lw.trans l4, o4, q4⟩, fun v w4 σ4 a ρ4 fp q4 l4 o4 r4 => m.rt v w4 σ4 a ρ4 fp q4 (lw.trans l4) o4 r4,
      fun w4 σ4 ρ4 q4 l4 o4 => m.nx w4 σ4 ρ4 q4 (lw.trans l4) o4, fun w4 σ4 ρ4 ⟨n', hn, q4⟩ l4 o4 => ⟨n', hn, w4, ρ4, rfl, lw.trans l4, o4, q4⟩⟩
end
end DL

namespace DL
open PySem L2

/-! ### what is owned is let be -/
mutual
inductive Frz : M → D → Prop
  | sh (d : D) : Frz (.sh d) d
  | lst {ms : List M} {ds : List D} : FrzL ms ds → Frz (.lst ms) (.lst ds)
  | dic {ms : List (Key × M)} {ds : List (Key × D)} : FrzK ms ds → Frz (.dic ms) (.dic ds)
  | dit {ms : List (List Key × M)} {ds : List (List Key × D)} : FrzT ms ds → Frz (.dit ms) (.dit ds)
  | obj {c : Str} {ms : List (Str × M)} {ds : List (Str × D)} : FrzF ms ds → Frz (.obj c ms) (.obj c ds)
  | tup {ms : List M} {ds : List D} : FrzL ms ds → Frz (.tup ms) (.tup ds)
inductive FrzL : List M → List D → Prop
  | nil : FrzL [] []
  | cons {m : M} {d : D} {ms : List M} {ds : List D} : Frz m d → FrzL ms ds → FrzL (m :: ms) (d :: ds)
inductive FrzK : List (Key × M) → List (Key × D) → Prop
  | nil : FrzK [] []
  | cons {k : Key} {m : M} {d : D} {ms : List (Key × M)} {ds : List (Key × D)} : Frz m d → FrzK ms ds → FrzK ((k, m) :: ms) ((k, d) :: ds)
inductive FrzT : List (List Key × M) → List (List Key × D) → Prop
  | nil : FrzT [] []
  | cons {k : List Key} {m : M} {d : D} {ms : List (List Key × M)} {ds : List (List Key × D)} : Frz m d → FrzT ms ds → FrzT ((k, m) :: ms) ((k, d) :: ds)
inductive FrzF : List (Str × M) → List (Str × D) → Prop
  | nil : FrzF [] []
  | cons {k : Str} {m : M} {d : D} {ms : List (Str × M)} {ds : List (Str × D)} : Frz m d → FrzF ms ds → FrzF ((k, m) :: ms) ((k, d) :: ds)
end
theorem frzL_sh : ∀ ds : List D, FrzL (ds.map .sh) ds
  | [] => .nil
  | _ :: r => .cons (.sh _) (frzL_sh r)
theorem frzK_sh : ∀ ds : List (Key × D), FrzK (ds.map fun p => (p.1, .sh p.2)) ds
  | [] => .nil
  | _ :: r => .cons (.sh _) (frzK_sh r)
theorem frzT_sh : ∀ ds : List (List Key × D), FrzT (ds.map fun p => (p.1, .sh p.2)) ds
  | [] => .nil
  | _ :: r => .cons (.sh _) (frzT_sh r)
theorem frz_lst {ds : List D} : Frz (.lst (ds.map .sh)) (.lst ds) := .lst (frzL_sh ds)
theorem frz_dic {ds : List (Key × D)} : Frz (.dic (ds.map fun p => (p.1, .sh p.2))) (.dic ds) := .dic (frzK_sh ds)
theorem frz_dit {ds : List (List Key × D)} : Frz (.dit (ds.map fun p => (p.1, .sh p.2))) (.dit ds) := .dit (frzT_sh ds)
section
variable {K : PySem.W.Frag} {S S' H : Hp}
mutual
theorem OwnR.frz (e : Ex S S') : ∀ {v : V} {m : M} {fp : List Addr} {d : D}, OwnR K S H v m fp → (∀ x ∈ fp, S' x = H x) → Frz m d → Rep K S' v d
  | _, _, _, _, .sh r, _, .sh _ => r.mono e
  | _, _, _, _, .lst h1 h2 r, a, .lst f => .lst (.inl ((a _ List.mem_cons_self).trans h2)) (OwnL.frz e r (fun x h => a x (List.mem_cons_of_mem _ h)) f)
  | _, _, _, _, .dic h1 h2 r, a, .dic f => .dic (.inl ((a _ List.mem_cons_self).trans h2)) (OwnK.frz e r (fun x h => a x (List.mem_cons_of_mem _ h)) f)
  | _, _, _, _, .dit h1 h2 r, a, .dit f => .dit (.inl ((a _ List.mem_cons_self).trans h2)) (OwnT.frz e r (fun x h => a x (List.mem_cons_of_mem _ h)) f)
  | _, _, _, _, .obj h1 h2 r, a, .obj f => .obj ((a _ List.mem_cons_self).trans h2) (OwnF.frz e r (fun x h => a x (List.mem_cons_of_mem _ h)) f)
  | _, _, _, _, .tup h r, a, .tup f => .tup (e.st h) (OwnL.frz e r a f)
theorem OwnL.frz (e : Ex S S') : ∀ {v : List V} {m : List M} {fp : List Addr} {d : List D}, OwnL K S H v m fp → (∀ x ∈ fp, S' x = H x) → FrzL m d → RepL K S' v d
  | _, _, _, _, .nil, _, .nil => .nil
  | _, _, _, _, .cons h r, a, .cons f g => .cons (OwnR.frz e h (fun x q => a x (List.mem_append_left _ q)) f) (OwnL.frz e r (fun x q => a x (List.mem_append_right _ q)) g)
theorem OwnK.frz (e : Ex S S') : ∀ {v : List (Key × V)} {m : List (Key × M)} {fp : List Addr} {d : List (Key × D)}, OwnK K S H v m fp → (∀ x ∈ fp, S' x = H x) → FrzK m d → RepK K S' v d
  | _, _, _, _, .nil, _, .nil => .nil
  | _, _, _, _, .cons h r, a, .cons f g => .cons (OwnR.frz e h (fun x q => a x (List.mem_append_left _ q)) f) (OwnK.frz e r (fun x q => a x (List.mem_append_right _ q)) g)
theorem OwnT.frz (e : Ex S S') : ∀ {v : List (List Key × V)} {m : List (List Key × M)} {fp : List Addr} {d : List (List Key × D)}, OwnT K S H v m fp → (∀ x ∈ fp, S' x = H x) → FrzT m d → RepT K S' v d
  | _, _, _, _, .nil, _, .nil => .nil
  | _, _, _, _, .cons h r, a, .cons f g => .cons (OwnR.frz e h (fun x q => a x (List.mem_append_left _ q)) f) (OwnT.frz e r (fun x q => a x (List.mem_append_right _ q)) g)
theorem OwnF.frz (e : Ex S S') : ∀ {v : List (Str × V)} {m : List (Str × M)} {fp : List Addr} {d : List (Str × D)}, OwnF K S H v m fp → (∀ x ∈ fp, S' x = H x) → FrzF m d → RepF K S' v d
  | _, _, _, _, .nil, _, .nil => .nil
  | _, _, _, _, .cons h r, a, .cons f g => .cons (OwnR.frz e h (fun x q => a x (List.mem_append_left _ q)) f) (OwnF.frz e r (fun x q => a x (List.mem_append_right _ q)) g)
end
end
/-- S with what stands in H at fp -/
def letBe (S H : Hp) (fp : List Addr) : Hp := fun x => if x ∈ fp then H x else S x
section
variable {G : Gx} {te : TE} {ρ : Env} {P : D → Env → Prop} {w : Wd} {σ : St}
theorem OkE.freeze {v : V} {m : M} {d : D} {fp : List Addr} (o : OkE G w σ ρ fp) (r : OwnR G.K w.S w.H v m fp) (f : Frz m d) : ∃ w', Le w w' ∧ w'.H = w.H ∧ Ok G w' σ ρ ∧ Rep G.K w'.S v d := by
  obtain ⟨fps, e, ef⟩ := o.env
  have nd := o.nd
  rw [ef] at nd
  obtain ⟨nd1, nd2, nd3⟩ := List.nodup_append.mp nd
  have at_ := r.at_
  have ex : Ex w.S (letBe w.S w.H fp) := fun x u h => by
    unfold letBe
    rw [if_neg (fun q => by rw [(at_ x q).1] at h; cases h)]
    exact h
  have on : ∀ x ∈ fp, letBe w.S w.H fp x = w.H x := fun x h => if_pos h
  have off : ∀ x, x ∉ fp → letBe w.S w.H fp x = w.S x := fun x h => if_neg h
  refine ⟨⟨letBe w.S w.H fp, w.H, fps.flatten⟩, ⟨ex, fun _ _ h _ => .inl h, fun x h1 h2 h3 => ?_, fun x h => .inl (by rw [ef]; exact List.mem_append_left _ h)⟩, rfl, ⟨fun x u h => ?_, ⟨fps, e.keep ex (fun x h => ?_) (fun _ _ _ h => .inl h), by rw [List.append_nil]⟩, nd1, o.px⟩, r.frz ex on f⟩
  · exact (off x (fun q => h2 (by rw [ef]; exact List.mem_append_right _ q))).trans h3
  · by_cases q : x ∈ fp
    · exact .inl ((on x q).symm.trans h)
    · exact (o.sub x u ((off x q).symm.trans h)).mono ex
  · exact (off x (fun q => nd3 x h x q rfl)).trans (e.at_ x h).1
theorem w_frz (h : WO G te ρ fun m ρ1 => ∃ d, Frz m d ∧ P d ρ1) : W G te ρ P := fun w σ Q o e q =>
  h w σ Q o e fun v w1 m ρ1 fp ⟨d, f, p⟩ l1 o1 r1 => by
    obtain ⟨w2, l2, hH, o2, r2⟩ := o1.freeze r1 f
    have z := q v w2 d ρ1 p (l1.trans l2) o2 r2
    rw [hH] at z
    exact z
/-- a name's own thing is let be -/
theorem ws_letBe {t : TS} {P : Post} {i : Nat} {m : M} {d : D} (hi : ρ[i]? = some (some m)) (f : Frz m d) (hp : i ∉ G.px) (h : WS G t (ρ.set i (some (.sh d))) P) : WS G t ρ P := fun w σ D o e q => by
  obtain ⟨v, fp, w1, h1, l1, hS, hH, o1, r1⟩ := o.takeM hi
  obtain ⟨w2, l2, hH2, o2, r2⟩ := o1.freeze (by rw [hS, hH]; exact r1) f
  obtain ⟨w3, l3, _, hH3, _, o3⟩ := o2.setSh r2 hp
  have es : σ.set i (some v) = σ := by
    apply List.ext_getElem?
    intro j
    by_cases z : i = j
    · subst z
      have hl : i < σ.length := (List.getElem?_eq_some_iff.mp h1).1
      rw [List.getElem?_set_self hl, h1]
    · rw [List.getElem?_set_ne z]
  have er : (ρ.set i none).set i (some (.sh d)) = ρ.set i (some (.sh d)) := by rw [List.set_set]
  rw [es, er] at o3
  have l : Le w w3 := (l1.trans l2).trans l3
  have z := h w3 σ D o3 (e.later l) (q.later l)
  rw [hH3, hH2, hH] at z
  exact z
end

/-! ### a comprehension's own names -/
def keepSh : Option M → Option M
  | some (.sh d) => some (.sh d)
  | _ => none
def wipeE (p : Nat → Bool) : Nat → Env → Env
  | _, [] => []
  | n, a :: ρ => (if p n then none else a) :: wipeE p (n + 1) ρ
def mixE (p : Nat → Bool) : Nat → Env → Env → Env
  | n, a :: ρ, b :: ρ' => (if p n then keepSh a else b) :: mixE p (n + 1) ρ ρ'
  | _, _, _ => []
theorem wipeE_len {p : Nat → Bool} : ∀ {n : Nat} {ρ : Env}, (wipeE p n ρ).length = ρ.length
  | _, [] => rfl
  | n, a :: ρ => by unfold wipeE; rw [List.length_cons, List.length_cons, wipeE_len]
theorem wipeE_get {p : Nat → Bool} : ∀ {n : Nat} {ρ : Env} {j : Nat} {m : M}, (wipeE p n ρ)[j]? = some (some m) → ρ[j]? = some (some m) ∧ p (n + j) = false
  | _, [], _, _, h => by simp [wipeE] at h
  | n, a :: ρ, 0, m, h => by
    unfold wipeE at h
    rw [List.getElem?_cons_zero] at h
    rw [Nat.add_zero]
    cases q : p n with
    | true => rw [q] at h; simp at h
    | false =>
      rw [q] at h
      exact ⟨by simpa using h, rfl⟩
  | n, a :: ρ, j + 1, m, h => by
    unfold wipeE at h
    rw [List.getElem?_cons_succ] at h
    obtain ⟨h1, h2⟩ := wipeE_get h
    exact ⟨by rw [List.getElem?_cons_succ]; exact h1, by rw [← h2]; congr 1; omega⟩
theorem wipe_get {σ : St} {j : Nat} : ∀ {vs : List Nat}, j ∉ vs → (wipe σ vs)[j]? = σ[j]?
  | [], _ => rfl
  | v :: vs, h => by
    unfold wipe
    rw [List.getElem?_set_ne (fun z => h (by rw [z]; exact List.mem_cons_self))]
    exact wipe_get fun q => h (List.mem_cons_of_mem _ q)
theorem wipe_in {σ : St} {j : Nat} (hj : j < σ.length) : ∀ {vs : List Nat}, j ∈ vs → (wipe σ vs)[j]? = some none
  | v :: vs, h => by
    unfold wipe
    by_cases z : v = j
    · subst z
      rw [List.getElem?_set_self (by rw [wipe_length]; exact hj)]
    · rw [List.getElem?_set_ne z]
      exact wipe_in hj ((List.mem_cons.mp h).resolve_left fun q => z q.symm)
theorem wipe_eq {σ σ2 : St} {vs : List Nat} (hl : σ2.length = σ.length) (h : ∀ j, j ∉ vs → σ2[j]? = σ[j]?) : wipe σ2 vs = wipe σ vs := by
  apply List.ext_getElem?
  intro j
  by_cases q : j ∈ vs
  · by_cases z : j < σ.length
    · rw [wipe_in z q, wipe_in (by rw [hl]; exact z) q]
    · rw [List.getElem?_eq_none (by rw [wipe_length]; omega), List.getElem?_eq_none (by rw [wipe_length]; omega)]
  · rw [wipe_get q, wipe_get q, h j q]
theorem EnvR.mix {K : PySem.W.Frag} {S0 S H0 H : Hp} {p : Nat → Bool} (e : Ex S0 S) : ∀ {n : Nat} {σ : St} {ρ0 ρ5 : Env} {fp0 fps : List (List Addr)}, EnvR K S0 H0 σ ρ0 fp0 → EnvR K S H σ (wipeE p n ρ5) fps → EnvR K S H σ (mixE p n ρ0 ρ5) fps
  | n, _, [], [], _, _, .nil t, r => by
    have z : wipeE p n [] = [] := rfl
    rw [z] at r
    cases r
    exact .nil (t.mono e)
  | n, _, [], b :: ρ5, _, _, .nil _, r => by
    unfold wipeE at r
    cases r
  | n, _, a :: ρ0, [], _, _, h, r => by
    have z : wipeE p n [] = [] := rfl
    rw [z] at r
    cases r
    cases h
  | n, x :: σ, a :: ρ0, b :: ρ5, _, _, h, r => by
    unfold wipeE at r
    unfold mixE
    cases q : p n with
    | false =>
      rw [q] at r
      have r2 : EnvR K S H (x :: σ) (b :: wipeE p (n + 1) ρ5) _ := r
      show EnvR K S H (x :: σ) (b :: mixE p (n + 1) ρ0 ρ5) _
      cases r2 with
      | no r2 =>
        cases h with
        | no h => exact .no (EnvR.mix e h r2)
        | ow _ h => exact .no (EnvR.mix e h r2)
      | ow z r2 =>
        cases h with
        | no h => exact .ow z (EnvR.mix e h r2)
        | ow _ h => exact .ow z (EnvR.mix e h r2)
    | true =>
      rw [q] at r
      have r2 : EnvR K S H (x :: σ) (none :: wipeE p (n + 1) ρ5) _ := r
      show EnvR K S H (x :: σ) (keepSh a :: mixE p (n + 1) ρ0 ρ5) _
      cases r2 with
      | no r2 =>
        cases h with
        | no h => exact .no (EnvR.mix e h r2)
        | ow z h =>
          cases z with
          | sh z => exact .ow (.sh (z.mono e)) (EnvR.mix e h r2)
          | lst _ _ _ => exact .no (EnvR.mix e h r2)
          | dic _ _ _ => exact .no (EnvR.mix e h r2)
          | dit _ _ _ => exact .no (EnvR.mix e h r2)
          | obj _ _ _ => exact .no (EnvR.mix e h r2)
          | tup _ _ => exact .no (EnvR.mix e h r2)
          | ex _ _ => exact .no (EnvR.mix e h r2)
  | n, [], a :: ρ0, b :: ρ5, _, _, h, r => by cases h
def inL (vs : List Nat) : Nat → Bool := fun j => vs.contains j
theorem inL_iff {vs : List Nat} {j : Nat} : inL vs j = false ↔ j ∉ vs := by
  unfold inL
  rw [← Bool.not_eq_true, List.contains_iff_mem]
/-- no exception -/
abbrev Gx.nox (G : Gx) : Gx := { G with Wx := fun _ _ _ _ => False, er := fun _ _ _ => False }
section
variable {G : Gx} {ρ ρ0 ρ5 : Env} {w w0 : Wd} {σ σ2 : St} {vs : List Nat} {fx : List Addr}
theorem OkE.nox (o : OkE G w σ ρ fx) : OkE G.nox w σ ρ fx := ⟨o.sub, o.env, o.nd, o.px⟩
theorem OkE.unnox (o : OkE G.nox w σ ρ fx) : OkE G w σ ρ fx := ⟨o.sub, o.env, o.nd, o.px⟩
theorem esc_nox : Esc G.nox w := fun _ _ _ _ _ _ h => False.elim h
theorem OkE.wipe (o : Ok G w σ ρ) (hv : ∀ i ∈ G.px, i ∉ vs) : ∃ w', Le w w' ∧ w'.S = w.S ∧ w'.H = w.H ∧ (∀ x ∈ w'.F, x ∈ w.F) ∧ Ok G w' (wipe σ vs) (wipeE (inL vs) 0 ρ) :=
  OkE.congr o (wipe_length _ _) wipeE_len (fun j m h => by
    obtain ⟨h1, h2⟩ := wipeE_get h
    rw [Nat.zero_add] at h2
    exact ⟨h1, wipe_get (inL_iff.mp h2)⟩) fun i hi => wipe_get (hv i hi)
theorem OkE.mix (o0 : Ok G w0 σ ρ0) (l : Le w0 w) (o : Ok G w σ2 ρ5) (hl : σ2.length = σ.length) (hs : ∀ j, j ∉ vs → σ2[j]? = σ[j]?) : ∃ w', Le w w' ∧ w'.S = w.S ∧ w'.H = w.H ∧ (∀ x ∈ w'.F, x ∈ w.F) ∧ Ok G w' σ (mixE (inL vs) 0 ρ0 ρ5) := by
  obtain ⟨w', l', hS, hH, hF, o'⟩ := OkE.congr (σ' := σ) (ρ' := wipeE (inL vs) 0 ρ5) o hl.symm wipeE_len (fun j m h => by
    obtain ⟨h1, h2⟩ := wipeE_get h
    rw [Nat.zero_add] at h2
    exact ⟨h1, (hs j (inL_iff.mp h2)).symm⟩) fun i hi => (o0.px i hi).trans (o.px i hi).symm
  obtain ⟨fp0, e0, _⟩ := o0.env
  obtain ⟨fps, e, f⟩ := o'.env
  exact ⟨w', l', hS, hH, hF, o'.sub, ⟨fps, EnvR.mix (by rw [hS]; exact l.s) e0 e, f⟩, o'.nd, o'.px⟩
theorem Le.stays {w w' : Wd} (l : Le w w') {a : Addr} {o : HO} (h : w.H a = some o) (n : a ∉ w.F) (s : w.S a = none) (hd : Hard o := by exact True.intro) : w'.H a = some o ∧ a ∉ w'.F ∧ w'.S a = none :=
  ⟨(l.h a o h n).eq hd, ⟨fun q => (l.f a q).elim n (fun z => by rw [h] at z; cases z), l.n a (by rw [h]; exact Option.some_ne_none _) n s⟩⟩
end
theorem RepL.app {K : PySem.W.Frag} {S : Hp} : ∀ {vs ws : List V} {ds es : List D}, RepL K S vs ds → RepL K S ws es → RepL K S (vs ++ ws) (ds ++ es)
  | _, _, _, _, .nil, r => r
  | _, _, _, _, .cons h r, q => .cons h (RepL.app r q)
section
variable {G : Gx} {te : TE} {tt : TT} {wi : TI} {g : TG} {ρ : Env} {vs sl : List Nat} {PO : M → Env → Prop}
/-- a comprehension from its walk on -/
def lcBody (J : It) (g : TG) (tt : TT) (te : TE) (vs : List Nat) (σ : St) (H1 : Hp) (Q : VK) : Prop := tLc (fun _ H R => R J H) g tt te vs σ H1 Q
theorem lc_at {w w1 : Wd} {σ : St} {Q : VK} {J : It} {ds : List D} {ρ1 : Env} (hv : ∀ i ∈ G.px, i ∉ vs) (hsl : ∀ j ∈ sl, j ∈ vs) (hl : ds.length ≤ 90000) (I : Nat → List D → Env → Prop) (i0 : I 0 [] ρ1)
      (step : ∀ i d acc ρ2, ds[i]? = some d → I i acc ρ2 → WG G.nox g d (wipeE (inL vs) 0 ρ2) sl fun ρ3 => WT G.nox tt ρ3 fun b ρ4 =>
        if b = true then W G.nox te ρ4 fun y ρ5 => I (i + 1) (acc ++ [y]) (mixE (inL vs) 0 ρ2 ρ5) else I (i + 1) acc (mixE (inL vs) 0 ρ2 ρ4))
      (fin : ∀ acc ρ2, I ds.length acc ρ2 → PO (.lst (acc.map .sh)) ρ2) (l1 : Le w w1) (o1 : Ok G w1 σ ρ1) (it : Items G.K J w1 ds)
      (q : ∀ v w' m ρ' fp, PO m ρ' → Le w w' → OkE G w' σ ρ' fp → OwnR G.K w'.S w'.H v m fp → Q v w'.H) : lcBody J g tt te vs σ w1.H Q := fun Dl hD => by
    have sD : w1.S Dl = none := o1.sub.free hD
    have nF : Dl ∉ w1.F := fun z => (o1.at_ Dl z).2 hD
    have lp : LeP w1 ⟨w1.S, upd w1.H Dl (.lst []), w1.F⟩ := ⟨Ex.refl _, (Ex.new hD).keeps, fun _ _ z => z, rfl⟩
    have offD : ∀ {S H : Hp} {o' : HO}, Sub S H → S Dl = none → Sub S (upd H Dl o') := fun {S H o'} s z a u ha => by
      have ne : a ≠ Dl := fun y => by rw [y, z] at ha; cases ha
      show SubAt _ (upd H Dl o' a) u
      rw [upd_ne ne]
      exact s a u ha
    refine ⟨fun i n H' => ∃ w' ρ' xs acc, w'.H = H' ∧ Le w1 w' ∧ w'.H Dl = some (.lst xs) ∧ w'.S Dl = none ∧ Dl ∉ w'.F ∧ RepL G.K w'.S xs acc ∧ Ok G w' σ ρ' ∧ i ≤ ds.length ∧ n = ds.length - i ∧ acc.length ≤ i ∧ I i acc ρ',
      ⟨_, ⟨w1.S, upd w1.H Dl (.lst []), w1.F⟩, ρ1, [], [], rfl, lp.le, upd_same, sD, nF, .nil, o1.grow lp (offD o1.sub sD), Nat.zero_le _, rfl, Nat.le_refl _, i0⟩, ?_⟩
    rintro i n H' ⟨w', ρ', xs, acc, rfl, l', hL, hS, hF, rl, o', hi, rfl, ha, p⟩
    obtain ⟨go, stop⟩ := it w' l' o'.sub
    by_cases hlt : i < ds.length
    · obtain ⟨g1, g2⟩ := go i ds[i] (List.getElem?_eq_getElem hlt)
      refine .inr ⟨g1, fun H2 => ∃ w' ρ' xs acc, w'.H = H2 ∧ Le w1 w' ∧ w'.H Dl = some (.lst xs) ∧ w'.S Dl = none ∧ Dl ∉ w'.F ∧ RepL G.K w'.S xs acc ∧ Ok G w' σ ρ' ∧ acc.length ≤ i + 1 ∧ I (i + 1) acc ρ', fun H2 ⟨w', ρ', xs, acc, h1, h2, h3, h4, h5, h6, h7, h8, h9⟩ =>
        ⟨ds.length - (i + 1), by omega, w', ρ', xs, acc, h1, h2, h3, h4, h5, h6, h7, hlt, rfl, h8, h9⟩, fun x H2 y => ?_⟩
      obtain ⟨w2, rfl, l2, s2, r2⟩ := g2 x H2 y
      have o2 := o'.grow l2 s2
      obtain ⟨k2, k2f, k2s⟩ := l2.le.stays hL hF hS
      obtain ⟨w3, l3, hS3, hH3, hF3, o3⟩ := o2.wipe hv
      obtain ⟨k3, k3f, k3s⟩ := l3.stays k2 k2f k2s
      rw [← hH3]
      refine step i ds[i] acc ρ' (List.getElem?_eq_getElem hlt) p w3 _ x _ o3.nox (by show Rep G.K w3.S x _; rw [hS3]; exact r2) fun w4 σ4 ρ3 p4 l4 _ hH4 o4 n4 e4 => ?_
      obtain ⟨k4, k4f, k4s⟩ := l4.stays k3 k3f k3s
      have nσ : σ4.length = σ.length := by rw [n4, wipe_length]
      have eσ : ∀ j, j ∉ vs → σ4[j]? = σ[j]? := fun j hj => by rw [e4 j (fun z => hj (hsl j z)), wipe_get hj]
      refine ⟨wipe_eq nσ eσ, ?_⟩
      have lw4 : Le w' w4 := (l2.le.trans l3).trans l4
      rw [← hH4]
      refine p4 w4 σ4 _ o4 esc_nox fun b w5 ρ4 p5 l5 o5 => ?_
      obtain ⟨k5, k5f, k5s⟩ := l5.stays k4 k4f k4s
      cases b with
      | false =>
        have p5' : I (i + 1) acc (mixE (inL vs) 0 ρ' ρ4) := p5
        obtain ⟨w6, l6, hS6, hH6, hF6, o6⟩ := OkE.mix o' (lw4.trans l5) o5.unnox nσ eσ
        obtain ⟨k6, k6f, k6s⟩ := l6.stays k5 k5f k5s
        exact ⟨w6, _, xs, acc, hH6, ((l'.trans lw4).trans l5).trans l6, k6, k6s, k6f, rl.mono ((lw4.trans l5).trans l6).s, o6, by omega, p5'⟩
      | true =>
        refine (show W G.nox te ρ4 fun y ρ5 => I (i + 1) (acc ++ [y]) (mixE (inL vs) 0 ρ' ρ5) from p5) w5 σ4 _ o5 esc_nox fun v w6 y ρ5 p6 l6 o6 r6 => ?_
        obtain ⟨k6, k6f, k6s⟩ := l6.stays k5 k5f k5s
        have lw6 : Le w' w6 := (lw4.trans l5).trans l6
        refine ⟨xs, k6, by rw [rl.len]; exact Nat.lt_of_le_of_lt (show acc.length ≤ 90000 by omega) (by decide), ?_⟩
        obtain ⟨fps, en, f⟩ := o6.env
        have o7 : Ok G ⟨w6.S, upd w6.H Dl (.lst (xs ++ [v])), w6.F⟩ σ4 ρ5 := ⟨offD o6.sub k6s, ⟨fps, en.keep (Ex.refl _) (fun x hx => (en.at_ x hx).1) (fun x hx u hu => by
          show Keeps u (upd w6.H Dl _ x)
          rw [upd_ne (fun z => k6f (by rw [← z, f]; exact List.mem_append_left _ hx))]
          exact .inl hu), f⟩, o6.nd, o6.px⟩
        have lb : Le w1 w6 := l'.trans lw6
        have l7 : Le w1 ⟨w6.S, upd w6.H Dl (.lst (xs ++ [v])), w6.F⟩ := ⟨lb.s, fun x u hx hn => by
          show Keeps u (upd w6.H Dl _ x)
          rw [upd_ne (ne_of_none hx hD)]
          exact lb.h x u hx hn, lb.n, lb.f⟩
        have s7 : Ex w'.S w6.S := lw6.s
        -- the outer names
        have o0 : Ok G ⟨w'.S, upd w'.H Dl (.lst (xs ++ [v])), w'.F⟩ σ ρ' := by
          obtain ⟨fps, en, f⟩ := o'.env
          exact ⟨offD o'.sub hS, ⟨fps, en.keep (Ex.refl _) (fun x hx => (en.at_ x hx).1) (fun x hx u hu => by
            show Keeps u (upd w'.H Dl _ x)
            rw [upd_ne (fun z => hF (by rw [← z, f]; exact List.mem_append_left _ hx))]
            exact .inl hu), f⟩, o'.nd, o'.px⟩
        have l07 : Le ⟨w'.S, upd w'.H Dl (.lst (xs ++ [v])), w'.F⟩ ⟨w6.S, upd w6.H Dl (.lst (xs ++ [v])), w6.F⟩ := ⟨s7, fun x u hx hn => by
          by_cases z : x = Dl
          · subst z
            have hx' : upd w'.H x (.lst (xs ++ [v])) x = some u := hx
            rw [upd_same] at hx'
            show Keeps u (upd w6.H x _ x)
            rw [upd_same]
            exact .inl hx'
          · have hx' : upd w'.H Dl (.lst (xs ++ [v])) x = some u := hx
            rw [upd_ne z] at hx'
            show Keeps u (upd w6.H Dl _ x)
            rw [upd_ne z]
            exact lw6.h x u hx' hn, fun x hx hn hs => by
          by_cases z : x = Dl
          · subst z
            exact k6s
          · refine lw6.n x (fun y => hx ?_) hn hs
            show upd w'.H Dl _ x = none
            rw [upd_ne z]
            exact y, fun x hx => by
          rcases lw6.f x hx with y | y
          · exact .inl y
          · refine .inr ?_
            have z : x ≠ Dl := fun z => k6f (z ▸ hx)
            show upd w'.H Dl _ x = none
            rw [upd_ne z]
            exact y⟩
        obtain ⟨w8, l8, hS8, hH8, hF8, o8⟩ := OkE.mix o0 l07 o7 nσ eσ
        refine ⟨w8, _, xs ++ [v], acc ++ [y], hH8, l7.trans l8, ?_, ?_, fun z => k6f (hF8 Dl z), ?_, o8, by rw [List.length_append, List.length_singleton]; omega, p6⟩
        · rw [hH8]
          exact upd_same
        · rw [hS8]
          exact k6s
        · rw [hS8]
          exact (rl.mono s7).app (.cons r6 .nil)
    · have ei : i = ds.length := by omega
      subst ei
      refine .inl ⟨stop, ?_⟩
      have z := q (.ref Dl) ⟨w'.S, w'.H, w'.F ++ [Dl]⟩ (.lst (acc.map .sh)) ρ' [Dl] (fin acc ρ' p) ?_ ?_ (.lst hS hL (ownL_of rl))
      · exact z
      · have lw := l1.trans l'
        exact ⟨lw.s, lw.h, lw.n, fun x hx => by
          rcases List.mem_append.mp hx with y | y
          · exact lw.f x y
          · obtain rfl : x = Dl := by simpa using y
            by_cases hf : x ∈ w.F
            · exact .inl hf
            · refine .inr ?_
              cases e3 : w.H x with
              | none => rfl
              | some u => exact absurd hD (l1.h x u e3 hf).ex⟩
      · obtain ⟨fps, en, f⟩ := o'.env
        refine ⟨o'.sub, ⟨fps, en, by show w'.F ++ [Dl] = _; rw [f, List.append_nil]⟩, ?_, o'.px⟩
        show (w'.F ++ [Dl]).Nodup
        refine List.nodup_append.mpr ⟨o'.nd, by simp, fun x hx y hy z => hF ?_⟩
        obtain rfl : y = Dl := by simpa using hy
        rw [← z]
        exact hx
theorem wo_lc (hv : ∀ i ∈ G.px, i ∉ vs) (hsl : ∀ j ∈ sl, j ∈ vs) (h : WI G wi ρ fun ds ρ1 => ds.length ≤ 90000 ∧ ∃ I : Nat → List D → Env → Prop, I 0 [] ρ1 ∧
      (∀ i d acc ρ2, ds[i]? = some d → I i acc ρ2 → WG G.nox g d (wipeE (inL vs) 0 ρ2) sl fun ρ3 => WT G.nox tt ρ3 fun b ρ4 =>
        if b = true then W G.nox te ρ4 fun y ρ5 => I (i + 1) (acc ++ [y]) (mixE (inL vs) 0 ρ2 ρ5) else I (i + 1) acc (mixE (inL vs) 0 ρ2 ρ4)) ∧
      ∀ acc ρ2, I ds.length acc ρ2 → PO (.lst (acc.map .sh)) ρ2) : WO G (tLc wi g tt te vs) ρ PO := fun w σ Q o e q =>
  h w σ _ o e fun J w1 ds ρ1 ⟨hl, I, i0, step, fin⟩ l1 o1 it => lc_at hv hsl hl I i0 step fin l1 o1 it q
/-- the list as data -/
theorem w_lc {P : D → Env → Prop} (hv : ∀ i ∈ G.px, i ∉ vs) (hsl : ∀ j ∈ sl, j ∈ vs) (h : WI G wi ρ fun ds ρ1 => ds.length ≤ 90000 ∧ ∃ I : Nat → List D → Env → Prop, I 0 [] ρ1 ∧
      (∀ i d acc ρ2, ds[i]? = some d → I i acc ρ2 → WG G.nox g d (wipeE (inL vs) 0 ρ2) sl fun ρ3 => WT G.nox tt ρ3 fun b ρ4 =>
        if b = true then W G.nox te ρ4 fun y ρ5 => I (i + 1) (acc ++ [y]) (mixE (inL vs) 0 ρ2 ρ5) else I (i + 1) acc (mixE (inL vs) 0 ρ2 ρ4)) ∧
      ∀ acc ρ2, I ds.length acc ρ2 → P (.lst acc) ρ2) : W G (tLc wi g tt te vs) ρ P :=
  w_frz (wo_lc hv hsl fun w σ R o e q => h w σ R o e fun J w' ds ρ' ⟨a, I, b, c, d⟩ => q J w' ds ρ' ⟨a, I, b, c, fun acc ρ2 i => ⟨_, frz_lst, d acc ρ2 i⟩⟩)
end
end DL

namespace DL
open PySem L2

/-! ### what a value is, as data of the library -/
mutual
def D.py : D → Option PyData
  | .non => some .none
  | .bl b => some (.bool b)
  | .int i => some (.int i)
  | .str x => some (.str x)
  | .tup ds => (D.pys ds).map .tuple
  | .lst ds => (D.pys ds).map .list
  | .rol ds => (D.pys ds).map .list
  | _ => none
def D.pys : List D → Option (List PyData)
  | [] => some []
  | d :: ds => match D.py d with
    | some p => (D.pys ds).map (p :: ·)
    | none => none
end
mutual
theorem Rep.dp {K : PySem.W.Frag} {S H : Hp} (s : Sub S H) : ∀ {d : D} {v : V} {p : PyData}, Rep K S v d → d.py = some p → Dp K H v p
  | .non, _, _, r, e => by
    cases r
    cases (Option.some.inj e)
    exact .non
  | .bl b, _, _, r, e => by
    cases r
    cases (Option.some.inj e)
    exact .bl b
  | .int i, _, _, r, e => by
    cases r
    cases (Option.some.inj e)
    exact .int i
  | .str x, _, _, r, e => by
    cases r
    cases (Option.some.inj e)
    exact .str x
  | .tup ds, _, _, r, e => by
    cases r with
    | tup h1 r1 =>
      obtain ⟨ps, e1, e2⟩ := Option.map_eq_some_iff.mp e
      subst e2
      exact .tup (s.st h1) (RepL.dp s r1 e1)
  | .lst ds, _, _, r, e => by
    cases r with
    | lst h1 r1 =>
      obtain ⟨ps, e1, e2⟩ := Option.map_eq_some_iff.mp e
      subst e2
      exact .lst (s.sl (.inl h1)) (RepL.dp s r1 e1)
  | .rol ds, _, _, r, e => by
    cases r with
    | rol h1 r1 =>
      obtain ⟨ps, e1, e2⟩ := Option.map_eq_some_iff.mp e
      subst e2
      exact .lst (s.sl h1) (RepL.dp s r1 e1)
  | .ty _, _, _, _, e => by cases e
  | .fun_ _, _, _, _, e => by cases e
  | .dic _, _, _, _, e => by cases e
  | .dit _, _, _, _, e => by cases e
  | .obj _ _, _, _, _, e => by cases e
  | .exc _ _ _ _, _, _, _, e => by cases e
theorem RepL.dp {K : PySem.W.Frag} {S H : Hp} (s : Sub S H) : ∀ {ds : List D} {vs : List V} {ps : List PyData}, RepL K S vs ds → D.pys ds = some ps → DpAll K H vs ps
  | [], _, _, r, e => by
    cases r
    cases (Option.some.inj e)
    exact .nil
  | d :: ds, _, _, r, e => by
    cases r with
    | cons r1 r2 =>
      unfold D.pys at e
      cases q : D.py d with
      | none =>
        rw [q] at e
        cases e
      | some p =>
        rw [q] at e
        obtain ⟨ps, e1, e2⟩ := Option.map_eq_some_iff.mp e
        subst e2
        exact .cons (Rep.dp s r1 q) (RepL.dp s r2 e1)
end

/-! ### operators: all kinds of values at once -/
section
variable {X : Cx}
def rCatR (K : PySem.W.Frag) : R2 := fun x y H Q => ∃ l b xs zs, x = .ref l ∧ y = .ref b ∧ SqL K H l xs ∧ SqL K H b zs ∧ xs.length + zs.length ≤ sizeLine ∧ ∀ p, H p = none → Q (.ref p) (upd H p (.lst (xs ++ zs)))
theorem o_catR : OpR X (binaryOp .Add) (rCatR X.K) := by
  intro pins s σ H x y v u Q I rx ry ⟨l, b, xs, zs, ex, ey, h1, h2, hz, q⟩
  subst ex
  subst ey
  cases rx
  cases ry
  obtain ⟨its, r, ⟨ob, n, e, c1, c2, c3⟩, z⟩ := I.list h1
  obtain ⟨its2, r2, ⟨ob2, n2, e2, d1, d2, d3⟩, z2⟩ := I.list h2
  have l1 := r.length
  have l2 := r2.length
  obtain ⟨oc, od, dt, sl⟩ := ob
  obtain ⟨oc2, od2, dt2, sl2⟩ := ob2
  simp only at c1 c2 c3 d1 d2 d3
  subst c1 c2 c3 d1 d2 d3
  have both : its.toArray ++ its2.toArray = (its ++ its2).toArray := by simp
  have hs : its.toArray.size + its2.toArray.size ≤ sizeLine := by rw [List.size_toArray, List.size_toArray]; omega
  refine concat_meets ⟨_, e, rfl⟩ ⟨_, e2, rfl⟩ noFill_list_add seq_list_add PySem.F.slot_list_add PySem.F.entry_list_add (PySem.F.args_list_add_2 _ _) (PyProof.Rows.list_addW l b its.toArray its2.toArray n n2 _ _ sl sl2 hs) ⟨e, e2, ?_⟩
  rw [both]
  exact ⟨.ref _, _, I.lnew (t' := s.toks) (r.append r2) (show (xs ++ zs).length ≤ sizeLine by rw [List.length_append]; omega), rfl, q _ I.fresh⟩

def rAddS : R2 := fun x y H Q => ∃ i j, x = .str i ∧ y = .str j ∧ i.length + j.length ≤ sizeLine ∧ Q (.str (i ++ j)) H
def gAdd (K : PySem.W.Frag) : R2 := fun x y H Q => rI0 (fun i j => .int (i + j)) x y H Q ∨ rAddS x y H Q ∨ rCatR K x y H Q ∨ rCatT K x y H Q
theorem o_add : OpR X (binaryOp .Add) (gAdd X.K) := op_add.or (op_add_str.or (o_catR.or op_catT))
def gMul : R2 := fun x y H Q => rI CMulW (fun i j => .int (i * j)) x y H Q ∨ rRep x y H Q
theorem o_mul : OpR X (binaryOp .Mult) gMul := op_mulW.or op_rep
def CPowW (i j : Int) : Prop := 0 ≤ j ∧ (Builtin.Int.intBits i : Int) * j ≤ 2 ^ 27
theorem o_pow : OpR X (binaryOp .Pow) (rI CPowW fun i j => .int (i ^ j.toNat)) := opI fun _ _ _ _ _ _ _ hc q => PyProof.Rows.pow_int hc.1 hc.2 q
def gLt : R2 := fun x y H Q => rI0 (fun i j => .bl (decide (i < j))) x y H Q ∨ ∃ i j, x = .str i ∧ y = .str j ∧ Q (.bl (decide (i.cps.toList < j.cps.toList))) H
theorem o_lt : OpR X (compareOp .Lt) gLt := op_lt.or op_lt_str
def gLe : R2 := fun x y H Q => rI0 (fun i j => .bl (decide (i ≤ j))) x y H Q ∨ ∃ i j, x = .str i ∧ y = .str j ∧ Q (.bl (!decide (j.cps.toList < i.cps.toList))) H
theorem o_le : OpR X (compareOp .LtE) gLe := op_le.or op_le_str
def gGt : R2 := fun x y H Q => rI0 (fun i j => .bl (decide (j < i))) x y H Q ∨ ∃ i j, x = .str i ∧ y = .str j ∧ Q (.bl (decide (j.cps.toList < i.cps.toList))) H
theorem o_gt : OpR X (compareOp .Gt) gGt := op_gt.or op_gt_str
def gGe : R2 := fun x y H Q => rI0 (fun i j => .bl (decide (j ≤ i))) x y H Q ∨ ∃ i j, x = .str i ∧ y = .str j ∧ Q (.bl (!decide (i.cps.toList < j.cps.toList))) H
theorem o_ge : OpR X (compareOp .GtE) gGe := op_ge.or op_ge_str
def rInS (neg : Bool) : R2 := fun x y H Q => ∃ (c : Nat) (z : Str), x = .str ⟨#[c]⟩ ∧ y = .str z ∧ Q (.bl (if neg then !decide (c ∈ z.cps.toList) else decide (c ∈ z.cps.toList))) H
def gIn (K : PySem.W.Frag) : R2 := fun x y H Q => rIn K false x y H Q ∨ rInS false x y H Q
theorem o_in : OpR X (compareOp .In) (gIn X.K) := op_in_seq.or op_in_sign
def gNi (K : PySem.W.Frag) : R2 := fun x y H Q => rIn K true x y H Q ∨ rInS true x y H Q
theorem o_notIn : OpR X (compareOp .NotIn) (gNi X.K) := op_notIn_seq.or op_notIn_sign
end

/-! ### the same at the data -/
section
variable {K : PySem.W.Frag} {k : D → Prop} {i j : Int} {a b : Str} {xs ys : List D} {x y : D}
theorem rd_i2 {g : Int → Int → V} {C : Int → Int → Prop} {z : D} (hz : ∀ S, Rep K S (g i j) z) (c : C i j) (p : k z) : RD K (rI C g) (.int i) (.int j) k := rd_val _ hz p fun w v u Q s rx ry q => by
  obtain rfl := rx.int_inv
  obtain rfl := ry.int_inv
  exact ⟨i, j, rfl, rfl, c, q⟩
theorem rd_i20 {g : Int → Int → V} {z : D} (hz : ∀ S, Rep K S (g i j) z) (p : k z) : RD K (rI0 g) (.int i) (.int j) k := rd_val _ hz p fun w v u Q s rx ry q => by
  obtain rfl := rx.int_inv
  obtain rfl := ry.int_inv
  exact ⟨i, j, rfl, rfl, q⟩
theorem rd_s2 {g : Str → Str → V} {z : D} (hz : ∀ S, Rep K S (g a b) z) (p : k z) : RD K (fun x y H Q => ∃ i j, x = .str i ∧ y = .str j ∧ Q (g i j) H) (.str a) (.str b) k := rd_val _ hz p fun w v u Q s rx ry q => by
  obtain rfl := rx.str_inv
  obtain rfl := ry.str_inv
  exact ⟨a, b, rfl, rfl, q⟩
theorem RD.l {r r' : R2} (h : RD K r x y k) : RD K (fun x y H Q => r x y H Q ∨ r' x y H Q) x y k := fun w v u Q s rx ry q => .inl (h w v u Q s rx ry q)
theorem RD.r {r r' : R2} (h : RD K r' x y k) : RD K (fun x y H Q => r x y H Q ∨ r' x y H Q) x y k := fun w v u Q s rx ry q => .inr (h w v u Q s rx ry q)
theorem rd_add (p : k (.int (i + j))) : RD K (gAdd K) (.int i) (.int j) k := RD.l (rd_i20 (fun _ => .int _) p)
theorem rd_addS (h : a.length + b.length ≤ 100000) (p : k (.str (a ++ b))) : RD K (gAdd K) (.str a) (.str b) k := RD.r (RD.l (rd_val (.str (a ++ b)) (fun _ => .str _) p fun w v u Q s rx ry q => by
  obtain rfl := rx.str_inv
  obtain rfl := ry.str_inv
  exact ⟨a, b, rfl, rfl, sz_of h, q⟩))
theorem Rep.lst_inv {S : Hp} {v : V} (r : Rep K S v (.lst xs)) : ∃ p vs, v = .ref p ∧ SqL K S p vs ∧ RepL K S vs xs := by
  cases r with
  | lst h r => exact ⟨_, _, rfl, .inl h, r⟩
theorem Rep.rol_inv {S : Hp} {v : V} (r : Rep K S v (.rol xs)) : ∃ p vs, v = .ref p ∧ SqL K S p vs ∧ RepL K S vs xs := by
  cases r with
  | rol h r => exact ⟨_, _, rfl, h, r⟩
theorem Rep.tup_inv {S : Hp} {v : V} (r : Rep K S v (.tup xs)) : ∃ p vs, v = .ref p ∧ SqT K S p vs ∧ RepL K S vs xs := by
  cases r with
  | tup h r => exact ⟨_, _, rfl, h, r⟩
/-- a list as data, be it of the script -/
inductive IsL : D → List D → Prop
  | lst (ds : List D) : IsL (.lst ds) ds
  | rol (ds : List D) : IsL (.rol ds) ds
theorem Rep.isL_inv {S : Hp} {v : V} {d : D} (h : IsL d xs) (r : Rep K S v d) : ∃ p vs, v = .ref p ∧ SqL K S p vs ∧ RepL K S vs xs := by
  cases h with
  | lst => exact r.lst_inv
  | rol => exact r.rol_inv
theorem Wd.repNew {w : Wd} {p : Addr} {vs : List V} (s : Sub w.S w.H) (hp : w.H p = none) (r : RepL K w.S vs xs) : LeP w (w.add p (.lst vs)) ∧ Sub (w.add p (.lst vs)).S (w.add p (.lst vs)).H ∧ Rep K (w.add p (.lst vs)).S (.ref p) (.lst xs) := by
  have l := Wd.le_add (o := .lst vs) s hp
  exact ⟨l, Wd.sub_add s hp, .lst (.inl upd_same) (r.mono l.s)⟩
theorem Wd.repNewT {w : Wd} {p : Addr} {vs : List V} (s : Sub w.S w.H) (hp : w.H p = none) (r : RepL K w.S vs xs) : LeP w (w.add p (.tup vs)) ∧ Sub (w.add p (.tup vs)).S (w.add p (.tup vs)).H ∧ Rep K (w.add p (.tup vs)).S (.ref p) (.tup xs) := by
  have l := Wd.le_add (o := .tup vs) s hp
  exact ⟨l, Wd.sub_add s hp, .tup (SqT.of upd_same) (r.mono l.s)⟩
theorem rd_addL (hx : IsL x xs) (hy : IsL y ys) (h : xs.length + ys.length ≤ 100000) (p : k (.lst (xs ++ ys))) : RD K (gAdd K) x y k := RD.r (RD.r (RD.l fun w v u Q s rx ry q => by
  obtain ⟨l, vs, rfl, h1, r1⟩ := Rep.isL_inv hx rx
  obtain ⟨m, us, rfl, h2, r2⟩ := Rep.isL_inv hy ry
  refine ⟨l, m, vs, us, rfl, rfl, s.sl h1, s.sl h2, sz_of (by rw [r1.len, r2.len]; exact h), fun q' hq => ?_⟩
  obtain ⟨a1, a2, a3⟩ := Wd.repNew s hq (r1.app r2)
  exact q _ _ _ p a1 a2 a3))
theorem rd_addT (hn : xs ≠ []) (h : xs.length + ys.length ≤ 100000) (p : k (.tup (xs ++ ys))) : RD K (gAdd K) (.tup xs) (.tup ys) k := RD.r (RD.r (RD.r fun w v u Q s rx ry q => by
  obtain ⟨l, vs, rfl, h1, r1⟩ := rx.tup_inv
  obtain ⟨m, us, rfl, h2, r2⟩ := ry.tup_inv
  have l1 := r1.len
  have l2 := r2.len
  refine ⟨l, m, vs, us, rfl, rfl, s.st h1, s.st h2, fun z => hn (List.eq_nil_of_length_eq_zero (by rw [← l1, z]; rfl)), sz_of (by omega), ?_, ?_⟩
  · intro z
    obtain rfl : ys = [] := List.eq_nil_of_length_eq_zero (by rw [← l2, z]; rfl)
    rw [List.append_nil] at p
    exact q _ _ _ p (LeP.refl w) s (.tup h1 r1)
  · intro z q' hq
    obtain ⟨a1, a2, a3⟩ := Wd.repNewT s hq (r1.app r2)
    exact q _ _ _ p a1 a2 a3))
theorem rd_sub (p : k (.int (i - j))) : RD K (rI0 fun i j => .int (i - j)) (.int i) (.int j) k := rd_i20 (fun _ => .int _) p
theorem cmulW {a b : Nat} (h1 : i.natAbs < 2 ^ a) (h2 : j.natAbs < 2 ^ b) (h : a + b ≤ 999000) : CMulW i j := by
  refine wide_mul (a := a + 1) (b := b + 1) (Nat.lt_of_lt_of_le h1 (Nat.pow_le_pow_right (by decide) (by omega))) (Nat.lt_of_lt_of_le h2 (Nat.pow_le_pow_right (by decide) (by omega))) (by omega) (by omega) (by omega)
theorem rd_mul (c : CMulW i j) (p : k (.int (i * j))) : RD K gMul (.int i) (.int j) k := RD.l (rd_i2 (fun _ => .int _) c p)
theorem rd_div (c : CDivW i j) (p : k (.int (i / j))) : RD K (rI CDivW fun i j => .int (i / j)) (.int i) (.int j) k := rd_i2 (fun _ => .int _) c p
theorem rd_mod (c : 0 < j) (p : k (.int (i % j))) : RD K (rI (fun _ j => 0 < j) fun i j => .int (i % j)) (.int i) (.int j) k := rd_i2 (fun _ => .int _) c p
theorem rd_pow (c : CPowW i j) (p : k (.int (i ^ j.toNat))) : RD K (rI CPowW fun i j => .int (i ^ j.toNat)) (.int i) (.int j) k := rd_i2 (fun _ => .int _) c p
theorem rd_lt (p : k (.bl (decide (i < j)))) : RD K gLt (.int i) (.int j) k := RD.l (rd_i20 (fun _ => .bl _) p)
theorem rd_le (p : k (.bl (decide (i ≤ j)))) : RD K gLe (.int i) (.int j) k := RD.l (rd_i20 (fun _ => .bl _) p)
theorem rd_gt (p : k (.bl (decide (j < i)))) : RD K gGt (.int i) (.int j) k := RD.l (rd_i20 (fun _ => .bl _) p)
theorem rd_ge (p : k (.bl (decide (j ≤ i)))) : RD K gGe (.int i) (.int j) k := RD.l (rd_i20 (fun _ => .bl _) p)
theorem rd_ltS (p : k (.bl (decide (a.cps.toList < b.cps.toList)))) : RD K gLt (.str a) (.str b) k := RD.r (rd_s2 (g := fun i j => .bl (decide (i.cps.toList < j.cps.toList))) (fun _ => .bl _) p)
theorem rd_leS (p : k (.bl (!decide (b.cps.toList < a.cps.toList)))) : RD K gLe (.str a) (.str b) k := RD.r (rd_s2 (g := fun i j => .bl (!decide (j.cps.toList < i.cps.toList))) (fun _ => .bl _) p)
theorem rd_gtS (p : k (.bl (decide (b.cps.toList < a.cps.toList)))) : RD K gGt (.str a) (.str b) k := RD.r (rd_s2 (g := fun i j => .bl (decide (j.cps.toList < i.cps.toList))) (fun _ => .bl _) p)
theorem rd_geS (p : k (.bl (!decide (a.cps.toList < b.cps.toList)))) : RD K gGe (.str a) (.str b) k := RD.r (rd_s2 (g := fun i j => .bl (!decide (i.cps.toList < j.cps.toList))) (fun _ => .bl _) p)
theorem rd_isN (p : k (.bl (match x with | .non => true | _ => false))) : RD K (fun x y H Q => y = .non ∧ Q (.bl (decide (x = .non))) H) x .non k := fun w v u Q s rx ry q => by
  refine ⟨ry.non_inv, q _ w _ p (LeP.refl w) s ?_⟩
  cases rx with
  | bl => rw [decide_eq_false (by simp)]; exact .bl _
  | _ => first | exact .bl _ | (rw [decide_eq_false (by simp)]; exact .bl _)
theorem rd_notN (p : k (.bl (match x with | .non => false | _ => true))) : RD K (fun x y H Q => y = .non ∧ Q (.bl (!decide (x = .non))) H) x .non k := fun w v u Q s rx ry q => by
  refine ⟨ry.non_inv, q _ w _ p (LeP.refl w) s ?_⟩
  cases rx with
  | bl => rw [decide_eq_false (by simp)]; exact .bl _
  | _ => first | exact .bl _ | (rw [decide_eq_false (by simp)]; exact .bl _)
theorem rd_eqD {p q : PyData} (hx : x.py = some p) (hy : y.py = some q) (sp : SeqAt.shaped p = true) (sq : SeqAt.shaped q = true) (c : k (.bl (PyData.eqv p q))) : RD K (rEqD K) x y k := rd_val (.bl (PyData.eqv p q)) (fun _ => .bl _) c fun w v u Q s rx ry z => ⟨p, q, rx.dp s hx, ry.dp s hy, sp, sq, z⟩
theorem rd_neD {p q : PyData} (hx : x.py = some p) (hy : y.py = some q) (sp : SeqAt.shaped p = true) (sq : SeqAt.shaped q = true) (c : k (.bl (!PyData.eqv p q))) : RD K (rNeD K) x y k := rd_val (.bl (!PyData.eqv p q)) (fun _ => .bl _) c fun w v u Q s rx ry z => ⟨p, q, rx.dp s hx, ry.dp s hy, sp, sq, z⟩
/-- places -/
theorem RepL.atI {S : Hp} {vs : List V} {d : D} (r : RepL K S vs xs) (h : atI xs i = some d) : ∃ v, atI vs i = some v ∧ Rep K S v d := by
  unfold L2.atI at h ⊢
  rw [r.len]
  cases e : (ixN xs.length i) with
  | none => rw [e] at h ; cases h
  | some n =>
    rw [e] at h
    exact r.get h
theorem rd_ixL {d : D} (hx : IsL x xs) (h : atI xs i = some d) (p : k d) : RD K (rIx K) x (.int i) k := fun w v u Q s rx ry q => by
  obtain ⟨l, vs, rfl, h1, r1⟩ := Rep.isL_inv hx rx
  obtain rfl := ry.int_inv
  obtain ⟨v, e, r⟩ := r1.atI h
  exact .inl ⟨l, vs, i, v, rfl, rfl, s.sl h1, e, q _ w _ p (LeP.refl w) s r⟩
theorem rd_ixT {d : D} (h : atI xs i = some d) (p : k d) : RD K (rIx K) (.tup xs) (.int i) k := fun w v u Q s rx ry q => by
  obtain ⟨l, vs, rfl, h1, r1⟩ := rx.tup_inv
  obtain rfl := ry.int_inv
  obtain ⟨v, e, r⟩ := r1.atI h
  exact .inr (.inl ⟨l, vs, i, v, rfl, rfl, s.st h1, e, q _ w _ p (LeP.refl w) s r⟩)
theorem rd_ixS {c : Nat} (hl : a.length ≤ 100000) (h : atI a.cps.toList i = some c) (p : k (.str ⟨#[c]⟩)) : RD K (rIx K) (.str a) (.int i) k := fun w v u Q s rx ry q => by
  obtain rfl := rx.str_inv
  obtain rfl := ry.int_inv
  exact .inr (.inr ⟨a, i, c, rfl, rfl, sz_of hl, h, q _ w _ p (LeP.refl w) s (.str _)⟩)
end
end DL

namespace DL
open PySem L2

/-! ### calls of builtins, fields, slices -/
section
variable {G : Gx} {ρ : Env} {P : D → Env → Prop} {ta te : TE} {t : TA} {tl th : TO}
theorem w_call {r : List V → Hp → VK → Prop} (h : WA G t ρ fun xs ρ1 => RC G.K r xs fun z => P z ρ1) : W G (tCB r t) ρ P := fun w σ Q o e q =>
  h w σ _ o e fun vs w1 xs ρ1 h1 l1 o1 r1 => h1 w1 vs _ o1.sub r1 fun z w2 vz pz l2 s2 r2 => q vz w2 z ρ1 pz (l1.trans l2.le) (o1.grow l2 s2) r2
theorem RepF.get {K : PySem.W.Frag} {S : Hp} {f : Str} {d : D} : ∀ {vs : List (Str × V)} {ds : List (Str × D)}, RepF K S vs ds → ds.lookup f = some d → ∃ v, vs.lookup f = some v ∧ Rep K S v d
  | _, _, .nil, h => by cases h
  | (g, v) :: vs, (_, e) :: ds, .cons r1 r2, h => by
    rw [List.lookup_cons] at h ⊢
    cases q : f == g with
    | true =>
      rw [q] at h
      have z := Option.some.inj h
      subst z
      exact ⟨v, rfl, r1⟩
    | false =>
      rw [q] at h
      exact RepF.get r2 h
theorem w_fld {f : Str} (h : W G ta ρ fun x ρ1 => ∃ c fs d, x = .obj c fs ∧ Cls G.K (clsAt G.K c) ∧ NoAttr G.K (clsAt G.K c) f ∧ fs.lookup f = some d ∧ P d ρ1) : W G (tFld G.K ta f) ρ P := fun w σ Q o e q =>
  h w σ _ o e fun v w1 x ρ1 ⟨c, fs, d, ex, hc, hn, hl, p⟩ l1 o1 r1 => by
    subst ex
    cases r1 with
    | @obj a dx _ xs _ h1 r1 =>
      obtain ⟨u, hu, ru⟩ := r1.get hl
      exact ⟨a, _, dx, xs, u, rfl, o1.sub.ins h1, hc, hn, hu, q u w1 d ρ1 p l1 o1 ru⟩
/-- the parts of a slice -/
def WP (G : Gx) (t : TO) (ρ : Env) (P : Option Int → Env → Prop) : Prop := ∀ w σ (Q : Option Int → Hp → Prop), Ok G w σ ρ → Esc G w → (∀ i w' ρ', P i ρ' → Le w w' → Ok G w' σ ρ' → Q i w'.H) → t σ w.H Q
variable {PP : Option Int → Env → Prop}
theorem wp_no (k : PP none ρ) : WP G tNoPart ρ PP := fun w _ _ o _ q => q none w ρ k (Le.refl w) o
theorem wp_int (h : W G te ρ fun x ρ1 => ∃ i, x = .int i ∧ PP (some i) ρ1) : WP G (tPart te) ρ PP := fun w σ Q o e q =>
  h w σ _ o e fun v w1 x ρ1 ⟨i, ex, p⟩ l1 o1 r1 => by
    subst ex
    exact ⟨i, r1.int_inv, q (some i) w1 ρ1 p l1 o1⟩
def RS (K : PySem.W.Frag) (r : V → Option Int → Option Int → Hp → VK → Prop) (x : D) (lo hi : Option Int) (k : D → Prop) : Prop := ∀ w v (Q : VK), Sub w.S w.H → Rep K w.S v x →
  (∀ z w' vz, k z → LeP w w' → Sub w'.S w'.H → Rep K w'.S vz z → Q vz w'.H) → r v lo hi w.H Q
theorem w_slice {r : V → Option Int → Option Int → Hp → VK → Prop} (h : W G te ρ fun x ρ1 => WP G tl ρ1 fun lo ρ2 => WP G th ρ2 fun hi ρ3 => RS G.K r x lo hi fun z => P z ρ3) : W G (tSl r te tl th) ρ P := fun w σ Q o e q =>
  h w σ _ o e fun v w1 x ρ1 h1 l1 o1 r1 => h1 w1 σ _ o1 (e.later l1) fun lo w2 ρ2 h2 l2 o2 => h2 w2 σ _ o2 (e.later (l1.trans l2)) fun hi w3 ρ3 h3 l3 o3 =>
    h3 w3 v Q o3.sub ((r1.mono l2.s).mono l3.s) fun z w4 vz pz l4 s4 r4 => q vz w4 z ρ3 pz (((l1.trans l2).trans l3).trans l4.le) (o3.grow l4 s4) r4
end
section
variable {X : Cx}
def gSl (K : PySem.W.Frag) : V → Option Int → Option Int → Hp → VK → Prop := fun x lo hi H Q => rSlL K x lo hi H Q ∨ rSlS x lo hi H Q ∨ rSlA K x lo hi H Q
theorem o_sl : SlR X (gSl X.K) := sl_list.or (sl_str.or sl_tupA)
end
def cutD (ds : List D) (lo hi : Option Int) : List D := (ds.drop (HT.sIx ds.length 0 lo)).take (HT.sIx ds.length ds.length hi - HT.sIx ds.length 0 lo)
section
variable {K : PySem.W.Frag} {k : D → Prop} {xs : List D} {x : D} {lo hi : Option Int} {a : Str}
theorem RepL.drop {S : Hp} : ∀ (n : Nat) {vs : List V} {ds : List D}, RepL K S vs ds → RepL K S (vs.drop n) (ds.drop n)
  | 0, _, _, r => r
  | _ + 1, _, _, .nil => .nil
  | n + 1, _, _, .cons _ r => RepL.drop n r
theorem RepL.take {S : Hp} : ∀ (n : Nat) {vs : List V} {ds : List D}, RepL K S vs ds → RepL K S (vs.take n) (ds.take n)
  | 0, _, _, _ => .nil
  | _ + 1, _, _, .nil => .nil
  | n + 1, _, _, .cons h r => .cons h (RepL.take n r)
theorem RepL.cut {S : Hp} {vs : List V} (r : RepL K S vs xs) : RepL K S (cutV vs lo hi) (cutD xs lo hi) := by
  unfold cutV cutD
  rw [r.len]
  exact RepL.take _ (RepL.drop _ r)
theorem rs_list (hx : IsL x xs) (p : k (.lst (cutD xs lo hi))) : RS K (gSl K) x lo hi k := fun w v Q s rx q => by
  obtain ⟨l, vs, rfl, h1, r1⟩ := Rep.isL_inv hx rx
  refine .inl ⟨l, vs, rfl, s.sl h1, fun q' hq => ?_⟩
  obtain ⟨a1, a2, a3⟩ := Wd.repNew s hq (r1.cut (lo := lo) (hi := hi))
  exact q _ _ _ p a1 a2 a3
theorem rs_str (h : a.length ≤ 100000) (p : k (.str (cutS a lo hi))) : RS K (gSl K) (.str a) lo hi k := fun w v Q s rx q => by
  obtain rfl := rx.str_inv
  exact .inr (.inl ⟨a, rfl, sz_of h, q _ w _ p (LeP.refl w) s (.str _)⟩)
end

/-! ### builtins at the data -/
section
variable {K : PySem.W.Frag} {k : D → Prop} {i j : Int} {a b : Str} {xs ys : List D} {x y : D}
theorem RepL.one {S : Hp} {vs : List V} (r : RepL K S vs [x]) : ∃ v, vs = [v] ∧ Rep K S v x := by
  cases r with
  | cons r1 r2 =>
    cases r2
    exact ⟨_, rfl, r1⟩
theorem RepL.two {S : Hp} {vs : List V} (r : RepL K S vs [x, y]) : ∃ v u, vs = [v, u] ∧ Rep K S v x ∧ Rep K S u y := by
  cases r with
  | cons r1 r2 =>
    obtain ⟨u, rfl, r3⟩ := r2.one
    exact ⟨_, u, rfl, r1, r3⟩
theorem rc_abs (p : k (.int (if i < 0 then -i else i))) : RC K (fun xs H Q => ∃ i, xs = [.int i] ∧ Q (.int (if i < 0 then -i else i)) H) [.int i] k := fun w vs Q s r q => by
  obtain ⟨v, rfl, r1⟩ := r.one
  obtain rfl := r1.int_inv
  exact ⟨i, rfl, q _ w _ p (LeP.refl w) s (.int _)⟩
theorem rc_int1 (p : k (.int i)) : RC K (fun xs H Q => (∃ i, xs = [.int i] ∧ Q (.int i) H) ∨ ∃ k, xs = [.bl k] ∧ Q (.int (if k then 1 else 0)) H) [.int i] k := fun w vs Q s r q => by
  obtain ⟨v, rfl, r1⟩ := r.one
  obtain rfl := r1.int_inv
  exact .inl ⟨i, rfl, q _ w _ p (LeP.refl w) s (.int _)⟩
theorem rc_lenL (hx : IsL x xs) (p : k (.int xs.length)) : RC K (fun xs H Q => ∃ x n, xs = [x] ∧ LenV K x H n ∧ Q (.int n) H) [x] k := fun w vs Q s r q => by
  obtain ⟨v, rfl, r1⟩ := r.one
  obtain ⟨l, vs, rfl, h1, r1⟩ := Rep.isL_inv hx r1
  exact ⟨_, xs.length, rfl, .inl ⟨vs, s.sl h1, r1.len.symm⟩, q _ w _ p (LeP.refl w) s (.int _)⟩
theorem rc_lenT (p : k (.int xs.length)) : RC K (fun xs H Q => ∃ x n, xs = [x] ∧ LenV K x H n ∧ Q (.int n) H) [.tup xs] k := fun w vs Q s r q => by
  obtain ⟨v, rfl, r1⟩ := r.one
  obtain ⟨l, vs, rfl, h1, r1⟩ := r1.tup_inv
  exact ⟨_, xs.length, rfl, .inr ⟨vs, s.st h1, r1.len.symm⟩, q _ w _ p (LeP.refl w) s (.int _)⟩
theorem rc_lenS (h : a.length ≤ 100000) (p : k (.int a.length)) : RC K (fun xs H Q => ∃ x n, xs = [x] ∧ LenV K x H n ∧ Q (.int n) H) [.str a] k := fun w vs Q s r q => by
  obtain ⟨v, rfl, r1⟩ := r.one
  obtain rfl := r1.str_inv
  exact ⟨_, a.length, rfl, ⟨sz_of h, rfl⟩, q _ w _ p (LeP.refl w) s (.int _)⟩
theorem rc_min2 (p : k (.int (if j < i then j else i))) : RC K (fun xs H Q => ∃ i j, xs = [.int i, .int j] ∧ Q (.int (if j < i then j else i)) H) [.int i, .int j] k := fun w vs Q s r q => by
  obtain ⟨v, u, rfl, r1, r2⟩ := r.two
  obtain rfl := r1.int_inv
  obtain rfl := r2.int_inv
  exact ⟨i, j, rfl, q _ w _ p (LeP.refl w) s (.int _)⟩
theorem rc_max2 (p : k (.int (if j > i then j else i))) : RC K (fun xs H Q => ∃ i j, xs = [.int i, .int j] ∧ Q (.int (if j > i then j else i)) H) [.int i, .int j] k := fun w vs Q s r q => by
  obtain ⟨v, u, rfl, r1, r2⟩ := r.two
  obtain rfl := r1.int_inv
  obtain rfl := r2.int_inv
  exact ⟨i, j, rfl, q _ w _ p (LeP.refl w) s (.int _)⟩
theorem RepL.ints {S : Hp} : ∀ {vs : List V} {ns : List Int}, RepL K S vs (ns.map .int) → vs = ns.map .int
  | _, [], .nil => rfl
  | _, _ :: _, .cons r1 r2 => by rw [r1.int_inv, RepL.ints r2]; rfl
theorem RepL.strs {S : Hp} : ∀ {vs : List V} {ns : List Str}, RepL K S vs (ns.map .str) → vs = ns.map .str
  | _, [], .nil => rfl
  | _, _ :: _, .cons r1 r2 => by rw [r1.str_inv, RepL.strs r2]; rfl
theorem RepL.bls {S : Hp} : ∀ {vs : List V} {ns : List Bool}, RepL K S vs (ns.map .bl) → vs = ns.map .bl
  | _, [], .nil => rfl
  | _, _ :: _, .cons r1 r2 => by rw [r1.bl_inv, RepL.bls r2]; rfl
theorem rc_sum {ns : List Int} (hx : IsL x (ns.map .int)) (p : k (.int ns.sum)) : RC K (rSum K) [x] k := fun w vs Q s r q => by
  obtain ⟨v, rfl, r1⟩ := r.one
  obtain ⟨l, vs, rfl, h1, r1⟩ := Rep.isL_inv hx r1
  rw [r1.ints] at h1
  exact ⟨l, ns, rfl, s.sl h1, q _ w _ p (LeP.refl w) s (.int _)⟩
theorem rc_all {ns : List Bool} (hx : IsL x (ns.map .bl)) (p : k (.bl (ns.all id))) : RC K (rAll K) [x] k := fun w vs Q s r q => by
  obtain ⟨v, rfl, r1⟩ := r.one
  obtain ⟨l, vs, rfl, h1, r1⟩ := Rep.isL_inv hx r1
  rw [r1.bls] at h1
  exact ⟨l, ns, rfl, s.sl h1, q _ w _ p (LeP.refl w) s (.bl _)⟩
theorem rc_any {ns : List Bool} (hx : IsL x (ns.map .bl)) (p : k (.bl (ns.any id))) : RC K (rAny K) [x] k := fun w vs Q s r q => by
  obtain ⟨v, rfl, r1⟩ := r.one
  obtain ⟨l, vs, rfl, h1, r1⟩ := Rep.isL_inv hx r1
  rw [r1.bls] at h1
  exact ⟨l, ns, rfl, s.sl h1, q _ w _ p (LeP.refl w) s (.bl _)⟩
theorem rc_str (h : i.natAbs.log2 < 1920) (p : k (.str (Str.ofString (toString i)))) : RC K (fun xs H Q => ∃ i, xs = [.int i] ∧ i.natAbs.log2 < 1920 ∧ Q (.str (Str.ofString (toString i))) H) [.int i] k := fun w vs Q s r q => by
  obtain ⟨v, rfl, r1⟩ := r.one
  obtain rfl := r1.int_inv
  exact ⟨i, rfl, h, q _ w _ p (LeP.refl w) s (.str _)⟩
theorem rc_list (hx : IsL x xs) (p : k (.lst xs)) : RC K (fun xs H Q => ∃ p ys, xs = [.ref p] ∧ (SqL K H p ys ∨ SqT K H p ys) ∧ ∀ l, H l = none → Q (.ref l) (upd H l (.lst ys))) [x] k := fun w vs Q s r q => by
  obtain ⟨v, rfl, r1⟩ := r.one
  obtain ⟨l, vs, rfl, h1, r1⟩ := Rep.isL_inv hx r1
  refine ⟨l, vs, rfl, .inl (s.sl h1), fun q' hq => ?_⟩
  obtain ⟨a1, a2, a3⟩ := Wd.repNew s hq r1
  exact q _ _ _ p a1 a2 a3
/-- built-in types -/
inductive TyB : D → String → Prop
  | non : TyB .non "NoneType"
  | bl (b : Bool) : TyB (.bl b) "bool"
  | int (i : Int) : TyB (.int i) "int"
  | str (x : Str) : TyB (.str x) "str"
  | tup (ds : List D) : TyB (.tup ds) "tuple"
  | lst (ds : List D) : TyB (.lst ds) "list"
  | dic (ds : List (Key × D)) : TyB (.dic ds) "dict"
theorem TyB.ty {S H : Hp} {v : V} {n : String} (s : Sub S H) (t : TyB x n) (r : Rep K S v x) : TyX K H v (.type n) := by
  cases t with
  | non => obtain rfl := r.non_inv; exact .base .non
  | bl b => obtain rfl := r.bl_inv; exact .base (.bl b)
  | int i => obtain rfl := r.int_inv; exact .base (.int i)
  | str x => obtain rfl := r.str_inv; exact .base (.str x)
  | tup ds =>
    obtain ⟨p, vs, rfl, h1, _⟩ := r.tup_inv
    rcases s.st h1 with h | ⟨o, its, n, hk, hc, _⟩
    · rcases h with h | ⟨o, h⟩
      · exact .base (.tup h)
      · exact .fTuple h
    · exact .kTuple hk hc
  | lst ds =>
    cases r with
    | lst h r =>
      rcases s.rd h (fun _ _ z => by cases z) with h | ⟨o, h⟩
      · exact .base (.lst h)
      · exact .base (.frz h)
  | dic ds =>
    cases r with
    | dic h r =>
      rcases s.dk h with h | ⟨o, h⟩
      · exact .base (.dK h)
      · exact .fDict h
theorem rc_isi {n m : String} {b : Bool} (t : TyB x m) (h : kitB m n = some b) (p : k (.bl b)) : RC K (rIsi K) [x, .ty n] k := fun w vs Q s r q => by
  obtain ⟨v, u, rfl, r1, r2⟩ := r.two
  cases r2
  exact ⟨v, .ty n, .type m, .type n, b, rfl, .ty n, t.ty s r1, kit_ty h, q _ w _ p (LeP.refl w) s (.bl _)⟩
end
end DL

namespace DC
open PySem L2 PySem.Spec PyProof.Rows
abbrev St := L2.St

/-! ### defs while nothing is being shown -/
/-- as the kit's promise of a def, where no repr is under way -/
structure FnG (prg : Program) (wd : World) (K : PySem.W.Frag) (mg : Str → Option Value) (bs : Heap) (CX : CXT) (lv : Nat) (f : Addr) (fd : FuncData) (names : List Str) (sp : Sp) : Prop where
  ln : ∀ xs H Q E, sp xs H Q E → xs.length = names.length
  go : ∀ (A : Around) (fr : List Env) (s : Shared) (H : Hp) (given : Args) (us : List Value) (xs : List V) (Q : VK) (E : XK), A.guards = some [] → Room lv A → Env0 prg wd K mg bs A fr s H → BindsTo s fd given (names.zip us) → Vals xs us → sp xs H Q E →
    codeAny (model prg wd) A (.call (.ref f) given) (CR CX fr prg wd H s Q E) s
theorem FnG.up {prg : Program} {wd : World} {K : PySem.W.Frag} {mg : Str → Option Value} {bs : Heap} {CX : CXT} {lv lw : Nat} {f : Addr} {fd : FuncData} {names : List Str} {sp : Sp} (F : FnG prg wd K mg bs CX lv f fd names sp) (h : lv ≤ lw) : FnG prg wd K mg bs CX lw f fd names sp :=
  ⟨F.ln, fun A fr s H given us xs Q E hg hr => F.go A fr s H given us xs Q E hg (hr.mono h)⟩
section
variable {X : Cx} {CX : CXT} {lv : Nat} {f : Addr} {fd : FuncData} {names : List Str} {sp : Sp} {dvs : List V} {dus : List Value} {E : St → XK}
/-- the callee's run, from bound arguments -/
theorem goesTo {E1 : XK} {pins : List (Addr × Obj)} {σ : St} {H : Hp} {s : Shared} {Q : VK} {given : Args} {us : List Value} {xs : List V} (F : FnG X.prog X.w X.K X.mg X.base CX lv f fd names sp) (gd : X.A.guards = some []) (room : Room lv X.A) (bnd : BindsTo s fd given (names.zip us))
    (esc : ∀ e s', CX X.stack H s E1 e s' → X.xe e s') (J : Inv X pins σ H s) (rel : Vals xs us) (wish : sp xs H Q E1) : codeAny (model X.prog X.w) X.A (.call (.ref f) given) (fun r s' => match r with
      | .ok (.ret u) => EP X pins σ Q u s'
      | .ok _ => False
      | .error e => X.xe e s') s :=
  codeAny_mono (F.go X.A X.stack s H given us xs Q E1 gd room J.env0 bnd rel wish) fun out s' got => by
    match out, got with
    | .error e, got => exact esc e s' got
    | .ok (.ret u), got => exact J.after got
    | .ok .next, got => exact got.elim
    | .ok .brk, got => exact got.elim
    | .ok .cont, got => exact got.elim
theorem goes {pins : List (Addr × Obj)} {σ : St} {H : Hp} {s : Shared} {Q : VK} {us : List Value} {xs : List V} (F : FnG X.prog X.w X.K X.mg X.base CX lv f fd names sp) (gd : X.A.guards = some []) (room : Room lv X.A) (bnd : Binds X.K fd names dus) (dv : Vals dvs dus)
    (esc : PassesAt CX X σ (E σ)) (J : Inv X pins σ H s) (rel : Vals xs us) (wish : sp (xs ++ dvs) H Q (E σ)) : wpAny (model X.prog X.w) X.A (call (.ref f) us) (EP X pins σ Q) X.xe s := by
  have rel2 := rel.append dv
  have cnt : (us ++ dus).length = names.length := rel2.length.symm.trans (F.ln _ _ _ _ wish)
  refine wpAny_call (codeAny_mono (goesTo F gd room (bnd s us J.kIn cnt) (fun e s' c => esc pins H s e s' J c) J rel2 wish) fun out s' got => ?_)
  match out, got with
  | .error e, got => exact got
  | .ok (.ret u), got => exact got
  | .ok .next, got => exact got
  | .ok .brk, got => exact got
  | .ok .cont, got => exact got
variable {x m : Str} {p pos apos : Pos} {e o : Expr} {es : List Expr} {ta : TE} {t : TA}
theorem pe_callG (F : FnG X.prog X.w X.K X.mg X.base CX lv f fd names sp) (gd : X.A.guards = some []) (room : Room lv X.A) (gl : Gl X x) (at_ : X.mg x = some (.ref f)) (kept : PySem.W.keepIn X.K (.ref f) = true) (bnd : Binds X.K fd names dus) (dv : Vals dvs dus) (esc : ∀ σ, PassesAt CX X σ (E σ))
    (args : PA X (e :: es) t) (nodbg : (x == ("__debug__" : Str)) = false := by decide) (st : starEach (e :: es) X.env = (false, eval e X.env) :: starEach es X.env := by rfl) (pln : (backTo pos (starEach es X.env)).any (·.1) = false := by rfl) :
    PE X (.Call (.Name x p) (e :: es) [] pos) (tCallSD sp dvs E t) :=
  ⟨fun pins s σ H Q J wish => wpAny_Call_Name_kw (ld_glob J gl at_ (PySem.W.callWith_K (h₀ := X.base) J.ok.mod.kin kept (thn (args.run pos pins s σ H _ J wish) fun us s1 ⟨xs, H1, J1, rel, q⟩ => ⟨J1.kIn, goes F gd room bnd dv (esc σ) J1 rel q⟩) st pln) nodbg)⟩
theorem pe_callG0 (F : FnG X.prog X.w X.K X.mg X.base CX lv f fd names sp) (gd : X.A.guards = some []) (room : Room lv X.A) (gl : Gl X x) (at_ : X.mg x = some (.ref f)) (kept : PySem.W.keepIn X.K (.ref f) = true) (bnd : Binds X.K fd names dus) (dv : Vals dvs dus) (esc : ∀ σ, PassesAt CX X σ (E σ))
    (nodbg : (x == ("__debug__" : Str)) = false := by decide) : PE X (.Call (.Name x p) [] [] pos) (tCallSD sp dvs E tNil) :=
  ⟨fun pins s σ H Q J wish => wpAny_Call_Name_kw (ld_glob J gl at_ (PySem.W.callWith_K0 J.kIn kept (goes (us := []) (xs := []) F gd room bnd dv (esc σ) J .nil wish)) nodbg)⟩
/-- o.m(..), what is raised by the caller's slots -/
def tMethS (C : Addr) (m : Str) (sp : Sp) (dvs : List V) (E : St → XK) (ta : TE) (t : TA) : TE := fun σ H Q => ta σ H fun x H1 => ∃ a dx fs, x = .ref a ∧ H1 a = some (.ins C dx fs) ∧ fs.lookup m = none ∧
  t σ H1 fun vs H2 => sp (x :: (vs ++ dvs)) H2 Q (E σ)
variable {C : Addr}
theorem pe_methG {pl : Sem Bool} (ob : PE X o ta) (cl : Cls X.K C) (me : Meth X.K C m f) (F : FnG X.prog X.w X.K X.mg X.base CX lv f fd names sp) (gd : X.A.guards = some []) (room : Room lv X.A) (bnd : Binds X.K fd names dus) (dv : Vals dvs dus) (esc : ∀ σ, PassesAt CX X σ (E σ)) (args : PA X (e :: es) t)
    (st : starEach (e :: es) X.env = (false, eval e X.env) :: starEach es X.env := by rfl) (pln : (backTo pos (starEach es X.env)).any (·.1) = false := by rfl)
    (ev : eval (.Call (.Attribute o m apos) (e :: es) [] pos) X.env = (do
      let self ← eval o X.env
      standAt apos.atName
      let (g, fst) ← holding [self] (getMethod self m pl)
      callWith pos g fst (backTo pos (starEach (e :: es) X.env)) (backToKw pos (keywordEach [] X.env))) := by rfl) :
    PE X (.Call (.Attribute o m apos) (e :: es) [] pos) (tMethS C m sp dvs E ta t) :=
  ⟨fun pins s σ H Q J wish => PySem.W.methodCall_KW (pl := pl) (thn (ob.run pins s σ H _ J wish) fun u s1 ⟨x, H1, J1, rx, a, dx, fs, ex, ea, l, q⟩ => by
    subst ex
    cases (show u = .ref a from rx)
    exact getmeth_ok J1 ea cl me l (PySem.W.callWith_K (first := [.ref a]) (h₀ := X.base) J.ok.mod.kin me.kp (thn (args.run pos pins s1 σ H1 _ J1 q) fun us s2 ⟨xs, H2, J2, rel, q2⟩ => ⟨J2.kIn, goes (us := .ref a :: us) (xs := .ref a :: xs) F gd room bnd dv (esc σ) J2 (.cons rfl rel) q2⟩) st pln)) ev⟩
theorem pe_methG0 {pl : Sem Bool} (ob : PE X o ta) (cl : Cls X.K C) (me : Meth X.K C m f) (F : FnG X.prog X.w X.K X.mg X.base CX lv f fd names sp) (gd : X.A.guards = some []) (room : Room lv X.A) (bnd : Binds X.K fd names dus) (dv : Vals dvs dus) (esc : ∀ σ, PassesAt CX X σ (E σ))
    (ev : eval (.Call (.Attribute o m apos) [] [] pos) X.env = (do
      let self ← eval o X.env
      standAt apos.atName
      let (g, fst) ← holding [self] (getMethod self m pl)
      callWith pos g fst (backTo pos (starEach [] X.env)) (backToKw pos (keywordEach [] X.env))) := by rfl) :
    PE X (.Call (.Attribute o m apos) [] [] pos) (tMethS C m sp dvs E ta tNil) :=
  ⟨fun pins s σ H Q J wish => PySem.W.methodCall_KW (pl := pl) (thn (ob.run pins s σ H _ J wish) fun u s1 ⟨x, H1, J1, rx, a, dx, fs, ex, ea, l, q⟩ => by
    subst ex
    cases (show u = .ref a from rx)
    exact getmeth_ok J1 ea cl me l (PySem.W.callWith_K0 (first := [.ref a]) J1.kIn me.kp (goes (us := [.ref a]) (xs := [.ref a]) F gd room bnd dv (esc σ) J1 (.cons rfl .nil) q))) ev⟩
/-- C(..) -/
def tMakeS (C : Addr) (sp : Sp) (dvs : List V) (E : St → XK) (t : TA) : TE := fun σ H Q => t σ H fun vs H1 => ∀ x dx, H1 x = none → H1 dx = none → dx ≠ x →
  sp (.ref x :: (vs ++ dvs)) (upd (upd H1 dx (.own x)) x (.ins C dx [])) (fun v H2 => v = .non ∧ Q (.ref x) H2) (E σ)
theorem guards_make {A : Around} {us : List Value} {kw : List (Str × Value)} (h : A.guards = some []) : (A.under (.builtin "type.__call__" ⟨.ref C :: us, kw⟩)).guards = some [] := by
  simp [Around.under, Code.guards, Code.isGuard, guardIds, pushGuards, h]
theorem pe_makeG (mk : Mk X.K C f) (F : FnG X.prog X.w X.K X.mg X.base CX lv f fd names sp) (gd : X.A.guards = some []) (room : Room (lv + 1) X.A) (gl : Gl X x) (at_ : X.mg x = some (.ref C)) (bnd : Binds X.K fd names dus) (dv : Vals dvs dus) (esc : ∀ σ, PassesAt CX X σ (E σ)) (args : PA X (e :: es) t)
    (nodbg : (x == ("__debug__" : Str)) = false := by decide) (st : starEach (e :: es) X.env = (false, eval e X.env) :: starEach es X.env := by rfl) (pln : (backTo pos (starEach es X.env)).any (·.1) = false := by rfl) :
    PE X (.Call (.Name x p) (e :: es) [] pos) (tMakeS C sp dvs E t) :=
  ⟨fun pins s σ H Q J wish => wpAny_Call_Name_kw (ld_glob J gl at_ (PySem.W.callWith_K (h₀ := X.base) J.ok.mod.kin mk.kp (thn (args.run pos pins s σ H _ J wish) fun us s1 ⟨xs, H1, J1, rel, q⟩ => ⟨J1.kIn, by
    have q2 := q (s1.heap.objs.size + 1) s1.heap.objs.size (J1.hok.fresh (Nat.le_succ _)) (J1.hok.fresh (Nat.le_refl _)) (Nat.ne_of_lt (Nat.lt_succ_self _))
    have J2 := Inv.made (C := C) J1
    have rel2 : Vals (V.ref (s1.heap.objs.size + 1) :: (xs ++ dvs)) (Value.ref (s1.heap.objs.size + 1) :: (us ++ dus)) := .cons rfl (rel.append dv)
    have cnt : (Value.ref (s1.heap.objs.size + 1) :: us ++ dus).length = names.length := rel2.length.symm.trans (F.ln _ _ _ _ q2)
    refine wpAny_call (make_map (f := f) J1.kIn mk.makes mk.init (beq_iff_eq.mp mk.fn) (codeAny_mono (F.go _ X.stack _ _ ⟨Value.ref (s1.heap.objs.size + 1) :: us, []⟩ (Value.ref (s1.heap.objs.size + 1) :: (us ++ dus)) _ _ (E σ) (guards_make gd) (room.make C us [])
      (J2.env0.make C us []) (bnd _ (Value.ref (s1.heap.objs.size + 1) :: us) J2.kIn cnt) rel2 q2) fun out s' got => ?_))
    match out, got with
    | .error er, got => exact esc σ pins _ _ er s' J2 got
    | .ok (.ret u), got =>
      obtain ⟨v, H', J3, rv, ev, q3⟩ := J2.after got
      subst ev
      exact ⟨rv, ⟨V.ref (s1.heap.objs.size + 1), H', J3, rfl, q3⟩⟩
    | .ok .next, got => exact got.elim
    | .ok .brk, got => exact got.elim
    | .ok .cont, got => exact got.elim⟩) st pln) nodbg)⟩
end
section
variable {prg : Program} {wd : World} {K : PySem.W.Frag} {mg : Str → Option Value} {bs : Heap}
theorem guards_deeper {A : Around} {env : Env} (h : A.guards = some []) : (A.deeper env).guards = some [] := h
/-- a def of the text, by its body -/
theorem fnG_of {x qual : Str} {params : Arguments} {body : List Stmt} {scp : Scope} {dfl : List V} {kwd : List (Str × V)} {f : Addr} {fd : FuncData} {N names : List Str} {lv : Nat} {sp : Sp} (F : FunD K x qual params body scp dfl kwd f fd) (sc : FnScope N names scp) (ln : ∀ xs H Q E, sp xs H Q E → xs.length = names.length)
    (bd : ∀ (cdv : Value) (A : Around) (fr : List Env) (s : Shared) (H : Hp) (xs : List V) (Q : VK) (E : XK), (A.deeper (envOfC qual scp s.heap.objs.size f cdv)).guards = some [] → Room lv (A.deeper (envOfC qual scp s.heap.objs.size f cdv)) → sp xs H Q E →
      ∃ t, PSs (cxOf (L2.CX prg wd) prg wd K mg bs N qual scp f cdv A fr s H E) body t ∧ t { nx := fun _ H' => Q .non H', rt := Q } (start N xs) H) : FnG prg wd K mg bs (L2.CX prg wd) (lv + 1) f fd names sp := by
  obtain ⟨oc, od, dV, kV, dc, pm, an, cdv, ct, os_, rfl, lk, hcd, _, _⟩ := F.ex
  refine ⟨ln, fun A fr s H given us xs Q E gd room e0 bnd rel wish => ?_⟩
  have cnt := ln _ _ _ _ wish
  have kin : K.In s.heap := e0.mod.kin.keeps fun b o z => (e0.bs b o z).1
  have nol : s.heap.NoLimit := e0.mod.nolimit.keeps fun b o z => (e0.bs b o z).1
  have kinds : ∀ y ∈ names.zip us, scp.names.lookup y.1 = some .local ∨ (scp.names.lookup y.1 = some .cell ∧ ((cellsFrom (s.heap.objs.size + 1) scp.names []).lookup y.1).isSome = true) := by
    rintro ⟨n, v⟩ mem
    cases sc.par n (List.of_mem_zip mem).1 with
    | inl q => exact .inl q
    | inr q => exact .inr ⟨q, PySem.W.cellsFrom_some _ _ _ (.inl q)⟩
  refine codeAny_call_function room.depth (kin _ _ lk) rfl sc.co sc.gen rfl (PySem.W.codeRec_of kin hcd) (bnd _ _ _ _ (wpAny_newFunctionEnv_cells sc.kind kinds fun env he s1 y => ?_))
  subst he
  refine ⟨nol.keeps y.toInCall.keep, codeAny_func ?_⟩
  obtain ⟨t, ht, hq⟩ := bd cdv A fr s H xs Q E (guards_deeper gd) (room.deeper _) wish
  have J : Inv (cxOf (L2.CX prg wd) prg wd K mg bs N qual scp f cdv A fr s H E) [] (start N xs) H s1 := inv_start sc room.hd e0 cnt rel y
  refine wpAny_mono (ht.run [] s1 (start N xs) H _ J hq) (fun out s' got => ?_) fun e s' got => got
  match out, got with
  | .ret u, ⟨v, σ', H', J', rv, q⟩ => exact ⟨v, H', J'.os, J'.bare, J'.base, J'.hok, rv, q⟩
  | .next, ⟨σ', H', J', q⟩ => exact ⟨V.non, H', J'.os, J'.bare, J'.base, J'.hok, rfl, q⟩
  | .brk, ⟨_, _, _, q⟩ => exact False.elim q
  | .cont, ⟨_, _, _, q⟩ => exact False.elim q
end
end DC

namespace DL
open PySem L2

/-! ### contracts -/
inductive Out where
  | ret (m : M)
  | err (c : Str) (fs : List (Str × D))
/-- what a def wishes of its arguments, so that k holds of its end and the arguments then -/
structure Con where
  c : List M → (Out → List M → Prop) → Prop
  mono : ∀ ms k k', (∀ o m, k o m → k' o m) → c ms k → c ms k'
def EndC (K : PySem.W.Frag) (w : Wd) (vs : List V) (Q : VK) (E : XK) (o : Out) (ms' : List M) : Prop := ∀ w' fp', Le w w' → Sub w'.S w'.H → OwnL K w'.S w'.H vs ms' fp' → match o with
  | .ret m => ∀ v fr, OwnR K w'.S w'.H v m fr → w'.F = fp' ++ fr → w'.F.Nodup → Q v w'.H
  | .err c fs => ∀ d, ExcAt K w'.S c fs d → w'.F = fp' → w'.F.Nodup → E (.ref (clsAt K c)) d w'.H
def toSp (K : PySem.W.Frag) (n : Nat) (C : Con) : Sp := fun vs H Q E => ∃ (w : Wd) (ms : List M), w.H = H ∧ Sub w.S w.H ∧ OwnL K w.S w.H vs ms w.F ∧ w.F.Nodup ∧ ms.length = n ∧ TbK K w.S ∧ C.c ms (EndC K w vs Q E)
theorem OwnL.len {K : PySem.W.Frag} {S H : Hp} : ∀ {vs : List V} {ms : List M} {fp : List Addr}, OwnL K S H vs ms fp → vs.length = ms.length
  | _, _, _, .nil => rfl
  | _, _, _, .cons _ r => by rw [List.length_cons, List.length_cons, OwnL.len r]
theorem RepF.none {K : PySem.W.Frag} {S : Hp} {f : Str} : ∀ {vs : List (Str × V)} {ds : List (Str × D)}, RepF K S vs ds → ds.lookup f = none → vs.lookup f = none
  | _, _, .nil, _ => rfl
  | (g, v) :: vs, (_, e) :: ds, .cons r1 r2, h => by
    rw [List.lookup_cons] at h ⊢
    cases q : f == g with
    | true =>
      rw [q] at h
      cases h
    | false =>
      rw [q] at h
      exact RepF.none r2 h
theorem toSp_len {K : PySem.W.Frag} {n : Nat} {C : Con} {ps : List Str} (h : ps.length = n) : ∀ vs H Q E, toSp K n C vs H Q E → vs.length = ps.length := fun vs H Q E ⟨w, ms, _, _, o, _, hl, _⟩ => by rw [o.len, hl, h]

section
variable {G : Gx} {ρ : Env} {t : TA} {PO : M → Env → Prop} {C : Con} {n : Nat} {dvs : List V} {dds : List D}
theorem ownL_inv {K : PySem.W.Frag} {S H : Hp} : ∀ {vs : List V} {ds : List D} {fp : List Addr}, OwnL K S H vs (ds.map .sh) fp → RepL K S vs ds ∧ fp = []
  | _, [], _, .nil => ⟨.nil, rfl⟩
  | _, _ :: _, _, .cons (.sh r) q => by
    obtain ⟨h1, h2⟩ := ownL_inv q
    subst h2
    exact ⟨.cons r h1, rfl⟩
/-- the caller's world again behind a callee that owned fp of it -/
theorem OkE.back {w : Wd} {σ : St} {fp fr : List Addr} {w' : Wd} (o : OkE G w σ ρ fp) (l : Le ⟨w.S, w.H, fp⟩ w') (s : Sub w'.S w'.H) (hf : w'.F = fr) (nd : w'.F.Nodup) : ∃ w2, Le w w2 ∧ w2.S = w'.S ∧ w2.H = w'.H ∧ OkE G w2 σ ρ fr := by
  obtain ⟨fps, e, ef⟩ := o.env
  have ndw := o.nd
  rw [ef] at ndw
  obtain ⟨n1, n2, n3⟩ := List.nodup_append.mp ndw
  have at_ := e.at_
  have nfp : ∀ x ∈ fps.flatten, x ∉ fp := fun x h1 h2 => n3 x h1 x h2 rfl
  have hr : ∀ x ∈ fr, x ∈ fp ∨ w.H x = none := fun x hx => l.f x (by rw [hf]; exact hx)
  refine ⟨⟨w'.S, w'.H, fps.flatten ++ fr⟩, ⟨l.s, fun x u h hn => l.h x u h (fun z => hn (by rw [ef]; exact List.mem_append_right _ z)), fun x h hn => l.n x h (fun z => hn (by rw [ef]; exact List.mem_append_right _ z)), fun x hx => ?_⟩, rfl, rfl, s, ⟨fps, e.keep l.s (fun x hx => l.n x (at_ x hx).2 (nfp x hx) (at_ x hx).1) (fun x hx u hu => l.h x u hu (nfp x hx)), rfl⟩, ?_, o.px⟩
  · rcases List.mem_append.mp hx with h | h
    · exact .inl (by rw [ef]; exact List.mem_append_left _ h)
    · rcases hr x h with h | h
      · exact .inl (by rw [ef]; exact List.mem_append_right _ h)
      · exact .inr h
  · refine List.nodup_append.mpr ⟨n1, by rw [← hf]; exact nd, fun x hx y hy z => ?_⟩
    subst z
    rcases hr x hy with h | h
    · exact nfp x hx h
    · exact (at_ x hx).2 h
/-- a call, all arguments data -/
theorem wo_callD (hd : ∀ S, RepL G.K S dvs dds) (h : WA G t ρ fun ds ρ1 => (ds ++ dds).length = n ∧ C.c ((ds ++ dds).map .sh) (fun o _ => match o with | .ret m => PO m ρ1 | .err c fs => G.er c fs ρ1)) :
    WO G (tCallSD (toSp G.K n C) dvs (fun σ cls d H => G.Wx cls d σ H) t) ρ PO := fun w σ Q o e q =>
  h w σ _ o e fun vs w1 ds ρ1 ⟨hl, hc⟩ l1 o1 r1 => by
    have r2 := r1.app (hd w1.S)
    refine ⟨⟨w1.S, w1.H, []⟩, (ds ++ dds).map .sh, rfl, o1.sub, ownL_of r2, List.nodup_nil, by rw [List.length_map]; exact hl, o1.tb, C.mono _ _ _ (fun oc ms' hk => ?_) hc⟩
    intro w' fp' l s ow
    cases oc with
    | ret m =>
      intro v fr om hF nd
      have nd2 : (w'.less fr).F.Nodup := by
        show fr.Nodup
        rw [hF] at nd
        exact (List.nodup_append.mp nd).2.1
      have l2 : Le ⟨w1.S, w1.H, []⟩ (w'.less fr) := l.trans (Wd.le_less fun x hx => by rw [hF]; exact List.mem_append_right _ hx)
      obtain ⟨w2, l3, eS, eH, o2⟩ := OkE.back (fp := []) o1 l2 s rfl nd2
      have z := q v w2 m ρ1 fr hk (l1.trans l3) o2 (by rw [eS, eH]; exact om)
      rw [eH] at z
      exact z
    | err c fs =>
      intro d ex hF nd
      have l2 : Le ⟨w1.S, w1.H, []⟩ (w'.less []) := l.trans (Wd.le_less fun x hx => by cases hx)
      obtain ⟨w2, l3, eS, eH, o2⟩ := OkE.back (fp := []) o1 l2 s rfl List.nodup_nil
      have z := e w2 σ ρ1 c fs d hk (l1.trans l3) o2 (by rw [eS]; exact ex)
      rw [eH] at z
      exact z
/-- o.m(..), all of them data -/
theorem wo_methD {ta : TE} {CA : Addr} {m : Str} (hd : ∀ S, RepL G.K S dvs dds) (h : W G ta ρ fun x ρ1 => ∃ c fs, x = .obj c fs ∧ CA = clsAt G.K c ∧ fs.lookup m = none ∧ WA G t ρ1 fun ds ρ2 => (x :: (ds ++ dds)).length = n ∧
      C.c ((x :: (ds ++ dds)).map .sh) (fun o _ => match o with | .ret m => PO m ρ2 | .err c fs => G.er c fs ρ2)) :
    WO G (DC.tMethS CA m (toSp G.K n C) dvs (fun σ cls d H => G.Wx cls d σ H) ta t) ρ PO := fun w σ Q o e q =>
  h w σ _ o e fun v0 w0 x ρ0 ⟨c, fs, ex, eC, hlk, h1⟩ l0 o0 r0 => by
    subst ex
    subst eC
    have r00 := r0
    cases r0 with
    | @obj a dx _ xs _ ha rf =>
      have hno : xs.lookup m = none := rf.none hlk
      refine ⟨a, dx, xs, rfl, o0.sub.ins ha, hno, h1 w0 σ _ o0 (e.later l0) fun vs w1 ds ρ1 ⟨hl, hc⟩ l1 o1 r1 => ?_⟩
      have r2 : RepL G.K w1.S (.ref a :: (vs ++ dvs)) (.obj c fs :: (ds ++ dds)) := .cons (r00.mono l1.s) (r1.app (hd w1.S))
      refine ⟨⟨w1.S, w1.H, []⟩, (.obj c fs :: (ds ++ dds)).map .sh, rfl, o1.sub, ownL_of r2, List.nodup_nil, by rw [List.length_map]; exact hl, o1.tb, C.mono _ _ _ (fun oc ms' hk => ?_) hc⟩
      intro w' fp' l s ow
      have l01 := l0.trans l1
      cases oc with
      | ret m =>
        intro v fr om hF nd
        have nd2 : (w'.less fr).F.Nodup := by
          show fr.Nodup
          rw [hF] at nd
          exact (List.nodup_append.mp nd).2.1
        have l2 : Le ⟨w1.S, w1.H, []⟩ (w'.less fr) := l.trans (Wd.le_less fun x hx => by rw [hF]; exact List.mem_append_right _ hx)
        obtain ⟨w2, l3, eS, eH, o2⟩ := OkE.back (fp := []) o1 l2 s rfl nd2
        have z := q v w2 m ρ1 fr hk (l01.trans l3) o2 (by rw [eS, eH]; exact om)
        rw [eH] at z
        exact z
      | err c' fs' =>
        intro d ex hF nd
        have l2 : Le ⟨w1.S, w1.H, []⟩ (w'.less []) := l.trans (Wd.le_less fun x hx => by cases hx)
        obtain ⟨w2, l3, eS, eH, o2⟩ := OkE.back (fp := []) o1 l2 s rfl List.nodup_nil
        have z := e w2 σ ρ1 c' fs' d hk (l01.trans l3) o2 (by rw [eS]; exact ex)
        rw [eH] at z
        exact z
/-- a call, the first argument a name's own thing -/
theorem OkE.putBack {w : Wd} {σ : St} {i : Nat} {v : V} {m : M} {fp fr : List Addr} (o : OkE G w σ (ρ.set i none) (fp ++ fr)) (hv : σ[i]? = some (some v)) (r : OwnR G.K w.S w.H v m fp) (hl : i < ρ.length) : ∃ w', Le w w' ∧ w'.S = w.S ∧ w'.H = w.H ∧ OkE G w' σ (ρ.set i (some m)) fr := by
  obtain ⟨fps, e, f⟩ := o.env
  have nd := o.nd
  rw [f] at nd
  obtain ⟨nd1, nd2, nd3⟩ := List.nodup_append.mp nd
  obtain ⟨nd4, nd5, nd6⟩ := List.nodup_append.mp nd2
  have es : σ.set i (some v) = σ := by
    apply List.ext_getElem?
    intro j
    by_cases z : i = j
    · subst z
      have hl : i < σ.length := (List.getElem?_eq_some_iff.mp hv).1
      rw [List.getElem?_set_self hl, hv]
    · rw [List.getElem?_set_ne z]
  have e2 := e.set i r
  rw [es, List.set_set] at e2
  have sub : ∀ x ∈ (fps.set i fp).flatten ++ fr, x ∈ w.F := fun x hx => by
    rw [f]
    rcases List.mem_append.mp hx with h | h
    · rcases mem_flatten_set h with h | h
      · exact List.mem_append_left _ h
      · exact List.mem_append_right _ (List.mem_append_left _ h)
    · exact List.mem_append_right _ (List.mem_append_right _ h)
  refine ⟨w.less ((fps.set i fp).flatten ++ fr), Wd.le_less sub, rfl, rfl, o.sub, ⟨_, e2, rfl⟩, ?_, o.px⟩
  show ((fps.set i fp).flatten ++ fr).Nodup
  refine List.nodup_append.mpr ⟨nodup_flatten_set nd1 nd4 (fun x h q => nd3 x (mem_flatten_nil q) x (List.mem_append_left _ h) rfl), nd5, fun x hx y hy z => ?_⟩
  subst z
  rcases mem_flatten_set hx with h | h
  · exact nd3 x h x (List.mem_append_right _ hy) rfl
  · exact nd6 x h x hy rfl
theorem wo_callO {i : Nat} (hd : ∀ S, RepL G.K S dvs dds) (hp : ∃ m, ρ[i]? = some (some m)) (h : WA G t ρ fun ds ρ1 => ∃ m, ρ1[i]? = some (some m) ∧ (m :: (ds ++ dds).map .sh).length = n ∧
      C.c (m :: (ds ++ dds).map .sh) (fun o ms' => ∃ m' r, ms' = m' :: r ∧ match o with | .ret a => PO a (ρ1.set i (some m')) | .err c fs => G.er c fs (ρ1.set i (some m')))) :
    WO G (tCallSD (toSp G.K n C) dvs (fun σ cls d H => G.Wx cls d σ H) (tCons (tVar i) t)) ρ PO := fun w σ Q o e q => by
  obtain ⟨m0, hm0⟩ := hp
  obtain ⟨v, _, _, hv, _⟩ := o.takeM hm0
  refine ⟨v, hv, h w σ _ o e fun vs w1 ds ρ1 ⟨m, hm, hl, hc⟩ l1 o1 r1 => ?_⟩
  obtain ⟨v', fp, w2, hv', l2, eS, eH, o2, om⟩ := o1.takeM hm
  obtain rfl : v' = v := by
    rw [hv] at hv'
    exact (Option.some.inj (Option.some.inj hv')).symm
  have hil : i < ρ1.length := (List.getElem?_eq_some_iff.mp hm).1
  have r2 := r1.app (hd w1.S)
  have ndf : fp.Nodup := by
    have nd := o2.nd
    obtain ⟨fps, _, ef⟩ := o2.env
    rw [ef] at nd
    exact (List.nodup_append.mp nd).2.1
  refine ⟨⟨w1.S, w1.H, fp⟩, m :: (ds ++ dds).map .sh, rfl, o1.sub, by
    have z : OwnL G.K w1.S w1.H (v' :: (vs ++ dvs)) (m :: (ds ++ dds).map .sh) (fp ++ []) := .cons om (ownL_of r2)
    rw [List.append_nil] at z
    exact z, ndf, hl, o1.tb, C.mono _ _ _ (fun oc ms' hk => ?_) hc⟩
  obtain ⟨m', rr, ems, hk⟩ := hk
  subst ems
  intro w' fp' l s ow
  have lb : Le ⟨w2.S, w2.H, fp⟩ w' := by rw [eS, eH]; exact l
  have l12 := l1.trans l2
  cases ow with
  | @cons _ _ _ _ f1 f2 ow1 ow2 =>
    cases oc with
    | ret a =>
      intro u fr oa hF nd
      have hF2 : (w'.less (f1 ++ fr)).F = f1 ++ fr := rfl
      have sb : ∀ x ∈ f1 ++ fr, x ∈ w'.F := fun x hx => by
        rw [hF]
        rcases List.mem_append.mp hx with h | h
        · exact List.mem_append_left _ (List.mem_append_left _ h)
        · exact List.mem_append_right _ h
      have nd2 : (w'.less (f1 ++ fr)).F.Nodup := by
        show (f1 ++ fr).Nodup
        rw [hF] at nd
        obtain ⟨a1, a2, a3⟩ := List.nodup_append.mp nd
        exact List.nodup_append.mpr ⟨(List.nodup_append.mp a1).1, a2, fun x hx y hy z => a3 x (List.mem_append_left _ hx) y hy z⟩
      obtain ⟨w3, l3, eS3, eH3, o3⟩ := OkE.back (fp := fp) o2 (lb.trans (Wd.le_less sb)) s hF2 nd2
      obtain ⟨w4, l4, eS4, eH4, o4⟩ := OkE.putBack (m := m') o3 hv (by rw [eS3, eH3]; exact ow1) hil
      have z := q u w4 a _ fr hk ((l12.trans l3).trans l4) o4 (by rw [eS4, eH4, eS3, eH3]; exact oa)
      rw [eH4, eH3] at z
      exact z
    | err c fs =>
      intro d ex hF nd
      have sb : ∀ x ∈ f1 ++ [], x ∈ w'.F := fun x hx => by
        rw [hF]
        rw [List.append_nil] at hx
        exact List.mem_append_left _ hx
      have nd2 : (w'.less (f1 ++ [])).F.Nodup := by
        show (f1 ++ []).Nodup
        rw [hF] at nd
        rw [List.append_nil]
        exact (List.nodup_append.mp nd).1
      obtain ⟨w3, l3, eS3, eH3, o3⟩ := OkE.back (fp := fp) o2 (lb.trans (Wd.le_less sb)) s rfl nd2
      obtain ⟨w4, l4, eS4, eH4, o4⟩ := OkE.putBack (fr := []) (m := m') o3 hv (by rw [eS3, eH3]; exact ow1) hil
      have z := e w4 σ _ c fs d hk ((l12.trans l3).trans l4) o4 (by rw [eS4, eS3]; exact ex)
      rw [eH4, eH3] at z
      exact z
end
end DL

namespace DL
open PySem L2

/-! ### contracts of two kinds -/
/-- all arguments data -/
structure CD where
  c : List D → (Out → Prop) → Prop
  mono : ∀ ds k k', (∀ o, k o → k' o) → c ds k → c ds k'
def CD.con (C : CD) : Con := ⟨fun ms k => ∃ ds : List D, ms = ds.map M.sh ∧ C.c ds fun o => k o ms, by
  intro ms k k' h hk
  obtain ⟨ds, e, q⟩ := hk
  exact ⟨ds, e, C.mono _ _ _ (fun o => h o ms) q⟩⟩
/-- the first argument may be changed -/
structure CO where
  c : M → List D → (Out → M → Prop) → Prop
  mono : ∀ m ds k k', (∀ o a, k o a → k' o a) → c m ds k → c m ds k'
def CO.con (C : CO) : Con := ⟨fun ms k => ∃ (m : M) (ds : List D), ms = m :: ds.map M.sh ∧ C.c m ds fun o m' => k o (m' :: ds.map M.sh), by
  intro ms k k' h hk
  obtain ⟨m, ds, e, q⟩ := hk
  exact ⟨m, ds, e, C.mono _ _ _ _ (fun o a => h o _) q⟩⟩
section
variable {G : Gx} {ρ : Env} {t : TA} {PO : M → Env → Prop} {P : D → Env → Prop} {n i : Nat} {dvs : List V} {dds : List D} {ta : TE} {CA : Addr} {m : Str}
theorem wo_cd {C : CD} (hd : ∀ S, RepL G.K S dvs dds) (h : WA G t ρ fun ds ρ1 => (ds ++ dds).length = n ∧ C.c (ds ++ dds) fun o => match o with | .ret m => PO m ρ1 | .err c fs => G.er c fs ρ1) :
    WO G (tCallSD (toSp G.K n C.con) dvs (fun σ cls d H => G.Wx cls d σ H) t) ρ PO := wo_callD hd fun w σ Q o e q => h w σ Q o e fun vs w1 ds ρ1 ⟨a, b⟩ => q vs w1 ds ρ1 ⟨a, ds ++ dds, rfl, C.mono _ _ _ (fun o h => h) b⟩
theorem wo_md {C : CD} (hd : ∀ S, RepL G.K S dvs dds) (h : W G ta ρ fun x ρ1 => ∃ c fs, x = .obj c fs ∧ CA = clsAt G.K c ∧ fs.lookup m = none ∧ WA G t ρ1 fun ds ρ2 => (x :: (ds ++ dds)).length = n ∧
      C.c (x :: (ds ++ dds)) fun o => match o with | .ret m => PO m ρ2 | .err c fs => G.er c fs ρ2) : WO G (DC.tMethS CA m (toSp G.K n C.con) dvs (fun σ cls d H => G.Wx cls d σ H) ta t) ρ PO :=
  wo_methD hd fun w σ Q o e q => h w σ Q o e fun v w1 x ρ1 ⟨c, fs, e1, e2, e3, z⟩ => q v w1 x ρ1 ⟨c, fs, e1, e2, e3, fun w σ Q o e q => z w σ Q o e fun vs w1 ds ρ1 ⟨a, b⟩ => q vs w1 ds ρ1 ⟨a, x :: (ds ++ dds), rfl, C.mono _ _ _ (fun o h => h) b⟩⟩
theorem wo_co {C : CO} (hd : ∀ S, RepL G.K S dvs dds) (hp : ∃ m, ρ[i]? = some (some m)) (h : WA G t ρ fun ds ρ1 => ∃ m, ρ1[i]? = some (some m) ∧ (ds ++ dds).length + 1 = n ∧
      C.c m (ds ++ dds) fun o m' => match o with | .ret a => PO a (ρ1.set i (some m')) | .err c fs => G.er c fs (ρ1.set i (some m'))) :
    WO G (tCallSD (toSp G.K n C.con) dvs (fun σ cls d H => G.Wx cls d σ H) (tCons (tVar i) t)) ρ PO := wo_callO hd hp fun w σ Q o e q => h w σ Q o e fun vs w1 ds ρ1 ⟨m, a, b, c⟩ => q vs w1 ds ρ1 ⟨m, a, by rw [List.length_cons, List.length_map]; exact b, m, ds ++ dds, rfl, C.mono _ _ _ _ (fun o m' h => ⟨m', _, rfl, h⟩) c⟩
/-- C(..) -/
theorem OkE.ins {w : Wd} {σ : St} {x dx : Addr} {o1 o2 : HO} (k : Ok G w σ ρ) (hx : w.H x = none) (hdx : w.H dx = none) : Le w ⟨w.S, upd (upd w.H dx o1) x o2, w.F ++ [x]⟩ ∧ OkE G ⟨w.S, upd (upd w.H dx o1) x o2, w.F ++ [x]⟩ σ ρ [x] := by
  have keep : ∀ y u, w.H y = some u → upd (upd w.H dx o1) x o2 y = some u := fun y u h => by
    rw [upd_ne (ne_of_none h hx), upd_ne (ne_of_none h hdx)]
    exact h
  have at_ := k.at_
  obtain ⟨fps, e, f⟩ := k.env
  have f2 : w.F = fps.flatten := by rw [f, List.append_nil]
  refine ⟨⟨Ex.refl _, fun y u h _ => .inl (keep y u h), fun _ _ _ h => h, fun y hy => ?_⟩, ⟨fun y u h => ?_, ⟨fps, e.keep (Ex.refl _) (fun y hy => (at_ y (f2 ▸ hy)).1) (fun y _ u hu => .inl (keep y u hu)), by show w.F ++ [x] = _; rw [f2]⟩, ?_, k.px⟩⟩
  · rcases List.mem_append.mp hy with z | z
    · exact .inl z
    · obtain rfl : y = x := by simpa using z
      exact .inr hx
  · rcases k.sub y u h with z | ⟨d, ob, z⟩ | ⟨q, ps, z1, z2, z3⟩
    · exact .inl (keep y _ z)
    · exact .inr (.inl ⟨d, ob, keep y _ z⟩)
    · exact .inr (.inr ⟨q, ps, z1, keep y _ z2, z3⟩)
  · show (w.F ++ [x]).Nodup
    refine List.nodup_append.mpr ⟨k.nd, by simp, fun y hy z hz q => ?_⟩
    obtain rfl : z = x := by simpa using hz
    subst q
    exact (at_ y hy).2 hx
theorem wo_mk {C : CO} {c : Str} (hd : ∀ S, RepL G.K S dvs dds) (h : WA G t ρ fun ds ρ1 => CA = clsAt G.K c ∧ (ds ++ dds).length + 1 = n ∧ C.c (.obj c []) (ds ++ dds) fun o m' => match o with | .ret a => a = .sh .non ∧ PO m' ρ1 | .err c fs => G.er c fs ρ1) :
    WO G (DC.tMakeS CA (toSp G.K n C.con) dvs (fun σ cls d H => G.Wx cls d σ H) t) ρ PO := fun w σ Q o e q =>
  h w σ _ o e fun vs w1 ds ρ1 ⟨eC, hl, hc⟩ l1 o1 r1 => by
    subst eC
    intro x dx hx hdx ne
    have r2 := r1.app (hd w1.S)
    obtain ⟨l2, o2⟩ := OkE.ins (o1 := .own x) (o2 := .ins (clsAt G.K c) dx []) o1 hx hdx
    refine ⟨⟨w1.S, upd (upd w1.H dx (.own x)) x (.ins (clsAt G.K c) dx []), [x]⟩, .obj c [] :: (ds ++ dds).map .sh, rfl, o2.sub, ?_, by simp, by rw [List.length_cons, List.length_map]; exact hl, o1.tb, .obj c [], ds ++ dds, rfl, C.mono _ _ _ _ (fun oc m' hk => ?_) hc⟩
    · have z : OwnL G.K w1.S (upd (upd w1.H dx (.own x)) x (.ins (clsAt G.K c) dx [])) (.ref x :: (vs ++ dvs)) (.obj c [] :: (ds ++ dds).map .sh) ([x] ++ []) := .cons (.obj (o1.sub.free hx) upd_same .nil) (ownL_of r2)
      exact z
    · intro w' fp' l s ow
      cases ow with
      | @cons _ _ _ _ f1 f2 ow1 ow2 =>
        obtain ⟨_, rfl⟩ := ownL_inv ow2
        cases oc with
        | ret a =>
          intro u fr oa hF nd
          obtain ⟨ea, hk⟩ := hk
          subst ea
          have eu : u = .non := by
            cases oa with
            | sh r => exact r.non_inv
          have sb : ∀ y ∈ f1, y ∈ w'.F := fun y hy => by
            rw [hF]
            exact List.mem_append_left _ (List.mem_append_left _ hy)
          have nd2 : (w'.less f1).F.Nodup := by
            show f1.Nodup
            rw [hF] at nd
            exact (List.nodup_append.mp (List.nodup_append.mp nd).1).1
          obtain ⟨w3, l3, eS3, eH3, o3⟩ := OkE.back (fp := [x]) o2 (l.trans (Wd.le_less sb)) s rfl nd2
          have z := q (.ref x) w3 m' ρ1 f1 hk ((l1.trans l2).trans l3) o3 (by rw [eS3, eH3]; exact ow1)
          rw [eH3] at z
          exact ⟨eu, z⟩
        | err c' fs =>
          intro d ex hF nd
          have l4 : Le ⟨w1.S, upd (upd w1.H dx (.own x)) x (.ins (clsAt G.K c) dx []), [x]⟩ (w'.less []) := l.trans (Wd.le_less fun y hy => by cases hy)
          obtain ⟨w3, l3, eS3, eH3, o3⟩ := OkE.back (fp := [x]) (fr := []) o2 l4 s rfl List.nodup_nil
          have z := e w3 σ ρ1 c' fs d hk ((l1.trans l2).trans l3) o3 (by rw [eS3]; exact ex)
          rw [eH3] at z
          exact z

/-! ### fields of a name's own instance -/
def putM (f : Str) (m : M) : List (Str × M) → List (Str × M)
  | [] => [(f, m)]
  | (g, a) :: r => if g = f then (g, m) :: r else (g, a) :: putM f m r
theorem OwnF.putS {K : PySem.W.Frag} {S H : Hp} {f : Str} {u : V} {d : D} (r : Rep K S u d) : ∀ {vs : List (Str × V)} {ms : List (Str × M)} {fp : List Addr}, OwnF K S H vs ms fp → ∃ fp', OwnF K S H (putF f u vs) (putM f (.sh d) ms) fp' ∧ fp'.Sublist fp
  | _, _, _, .nil => ⟨[], .cons (f := []) (g := []) (.sh r) .nil, List.Sublist.refl _⟩
  | (g, v) :: vs, (_, a) :: ms, _, .cons (f := f1) (g := f2) h q => by
    by_cases e : g = f
    · refine ⟨[] ++ f2, ?_, List.Sublist.append (List.nil_sublist _) (List.Sublist.refl _)⟩
      unfold putF putM
      rw [if_pos e, if_pos e]
      exact .cons (.sh r) q
    · obtain ⟨f3, h3, s3⟩ := OwnF.putS r q
      refine ⟨f1 ++ f3, ?_, List.Sublist.append (List.Sublist.refl _) s3⟩
      unfold putF putM
      rw [if_neg e, if_neg e]
      exact .cons h h3
theorem OwnF.len {K : PySem.W.Frag} {S H : Hp} : ∀ {vs : List (Str × V)} {ms : List (Str × M)} {fp : List Addr}, OwnF K S H vs ms fp → vs.length = ms.length
  | _, _, _, .nil => rfl
  | _, _, _, .cons _ r => by rw [List.length_cons, List.length_cons, OwnF.len r]
/-- one object of what was taken is written -/
theorem OkE.write {w : Wd} {σ : St} {fp fp' : List Addr} {a : Addr} {ob : HO} (k : OkE G w σ ρ fp) (ha : a ∈ fp) (at_ : w.S a = none) (sub : ∀ x ∈ fp', x ∈ fp) (nd : fp'.Nodup) : ∃ w', Le w w' ∧ w'.S = w.S ∧ w'.H = upd w.H a ob ∧ OkE G w' σ ρ fp' := by
  obtain ⟨fps, e, ef⟩ := k.env
  have ndw := k.nd
  rw [ef] at ndw
  obtain ⟨n1, n2, n3⟩ := List.nodup_append.mp ndw
  have haF : a ∈ w.F := by rw [ef]; exact List.mem_append_right _ ha
  refine ⟨⟨w.S, upd w.H a ob, fps.flatten ++ fp'⟩, ⟨Ex.refl _, fun x u h hn => ?_, fun _ _ _ h => h, fun x hx => .inl ?_⟩, rfl, rfl, ⟨fun x u h => ?_, ⟨fps, e.keep (Ex.refl _) (fun x hx => (e.at_ x hx).1) (fun x hx u hu => ?_), rfl⟩, ?_, k.px⟩⟩
  · show Keeps u (upd w.H a ob x)
    rw [upd_ne (fun z : x = a => hn (by rw [z]; exact haF))]
    exact .inl h
  · rw [ef]
    rcases List.mem_append.mp hx with h | h
    · exact List.mem_append_left _ h
    · exact List.mem_append_right _ (sub x h)
  · have ne : x ≠ a := fun z => by
      rw [z] at h
      have h2 : w.S a = some u := h
      rw [at_] at h2
      cases h2
    show SubAt _ (upd w.H a ob x) u
    rw [upd_ne ne]
    exact k.sub x u h
  · show Keeps u (upd w.H a ob x)
    rw [upd_ne (fun z => n3 x hx a ha z)]
    exact .inl hu
  · exact List.nodup_append.mpr ⟨n1, nd, fun x hx y hy z => n3 x hx y (sub y hy) z⟩
theorem OkE.nodupFx {w : Wd} {σ : St} {fp : List Addr} (k : OkE G w σ ρ fp) : fp.Nodup := by
  obtain ⟨fps, e, ef⟩ := k.env
  have ndw := k.nd
  rw [ef] at ndw
  exact (List.nodup_append.mp ndw).2.1
theorem ws_fld {f : Str} {P : Post} {te : TE} (hpx : ∃ m, ρ[i]? = some (some m)) (h : W G te ρ fun d ρ1 => ∃ c ms, ρ1[i]? = some (some (.obj c ms)) ∧ Cls G.K (clsAt G.K c) ∧ NoAttr G.K (clsAt G.K c) f ∧ ms.length ≤ 900 ∧ P.nx (ρ1.set i (some (.obj c (putM f (.sh d) ms))))) :
    WS G (sFld G.K (tVar i) te f) ρ P := fun w σ D o e q =>
  h w σ _ o e fun u w1 d ρ1 ⟨c, ms, hi, hc, hn, hl, p⟩ l1 o1 r1 => by
    obtain ⟨v, fp, w2, hv, l2, eS, eH, o2, om⟩ := o1.takeM hi
    have hil : i < ρ1.length := (List.getElem?_eq_some_iff.mp hi).1
    have ndf := o2.nodupFx
    cases om with
    | @obj a dx _ xs _ fp1 hS hH of =>
      obtain ⟨fp2, of2, sl⟩ := of.putS (f := f) r1
      have nd1 := (List.nodup_cons.mp ndf)
      refine ⟨_, hv, a, _, dx, xs, rfl, hH, hc, hn, by rw [of.len]; omega, ?_⟩
      obtain ⟨w3, l3, eS3, eH3, o3⟩ := OkE.write (a := a) (ob := .ins (clsAt G.K c) dx (putF f u xs)) (fp' := (a :: fp2) ++ []) o2 List.mem_cons_self (by rw [eS]; exact hS) (fun x hx => by
        rw [List.append_nil] at hx
        exact (List.mem_cons.mp hx).elim (fun z => z ▸ List.mem_cons_self) fun z => List.mem_cons_of_mem _ (sl.subset z)) (by
        rw [List.append_nil]
        exact List.nodup_cons.mpr ⟨fun z => nd1.1 (sl.subset z), nd1.2.sublist sl⟩)
      have own : OwnR G.K w3.S w3.H (.ref a) (.obj c (putM f (.sh d) ms)) (a :: fp2) := by
        rw [eS3, eH3, eS, eH]
        refine .obj hS upd_same (of2.keep (Ex.refl _) (fun x hx => (of2.at_ x hx).1) fun x hx o ho => ?_)
        rw [upd_ne (fun z : x = a => nd1.1 (by rw [← z]; exact sl.subset hx))]
        exact .inl ho
      obtain ⟨w4, l4, eS4, eH4, o4⟩ := OkE.putBack (fr := []) o3 hv own hil
      have z := q.nx w4 σ _ p (((l1.trans l2).trans l3).trans l4) o4
      rw [eH4, eH3, eH] at z
      exact z

/-! ### a def, by its body at the data -/
theorem envOf {K : PySem.W.Frag} {S H : Hp} : ∀ {vs : List V} {ms : List M} {fp : List Addr} (j : Nat), TbK K S → OwnL K S H vs ms fp → ∃ fps, EnvR K S H (vs.map some ++ List.replicate j none) (ms.map some ++ List.replicate j none) fps ∧ fps.flatten = fp
  | _, _, _, 0, t, .nil => ⟨[], .nil t, rfl⟩
  | _, _, _, j + 1, t, .nil => by
    obtain ⟨fps, e, f⟩ := envOf (K := K) (S := S) (H := H) (vs := []) (ms := []) (fp := []) j t .nil
    exact ⟨[] :: fps, .no e, by rw [List.flatten_cons, f]; rfl⟩
  | _, _, _, j, t, .cons h r => by
    obtain ⟨fps, e, f⟩ := envOf j t r
    exact ⟨_ :: fps, .ow h e, by rw [List.flatten_cons, f]⟩
end
/-- the names at the entry -/
def env0 (ms : List M) (j : Nat) : Env := ms.map some ++ List.replicate j none
def envD (ds : List D) (j : Nat) : Env := ds.map (fun d => some (.sh d)) ++ List.replicate j none
theorem envD_eq (ds : List D) (j : Nat) : envD ds j = env0 (ds.map .sh) j := by
  unfold envD env0
  rw [List.map_map]
  rfl
/-- where the body of a def stands whose arguments are data -/
abbrev gxD (K : PySem.W.Frag) (E : XK) (kk : Out → Prop) : Gx := ⟨K, [], fun _ => .non, fun cls d _ H => E cls d H, fun c fs _ => kk (.err c fs)⟩
abbrev postD (kk : Out → Prop) : Post := { nx := fun _ => kk (.ret (.sh .non)), rt := fun m _ => kk (.ret m) }
abbrev gxO (K : PySem.W.Frag) (E : XK) (v : V) (kk : Out → M → Prop) : Gx := ⟨K, [0], fun _ => v, fun cls d _ H => E cls d H, fun c fs ρ => ∃ m, ρ[0]? = some (some m) ∧ kk (.err c fs) m⟩
abbrev postO (kk : Out → M → Prop) : Post := { nx := fun ρ => ∃ m, ρ[0]? = some (some m) ∧ kk (.ret (.sh .non)) m, rt := fun a ρ => ∃ m, ρ[0]? = some (some m) ∧ kk (.ret a) m }
section
variable {prg : Program} {wd : World} {K : PySem.W.Frag} {mg : Str → Option Value} {bs : Heap} {x qual : Str} {params : Arguments} {body : List Stmt} {scp : Scope} {dfl : List V} {kwd : List (Str × V)} {f : Addr} {fd : FuncData} {N names : List Str} {lv n : Nat}
theorem def_D {C : CD} (F : FunD K x qual params body scp dfl kwd f fd) (sc : FnScope N names scp) (hn : names.length = n)
    (bd : ∀ (cdv : Value) (A : Around) (fr : List PySem.Env) (s : Shared) (H : Hp) (E : XK) (ds : List D) (kk : Out → Prop), (A.deeper (PyProof.Rows.envOfC qual scp s.heap.objs.size f cdv)).guards = some [] → Room lv (A.deeper (PyProof.Rows.envOfC qual scp s.heap.objs.size f cdv)) → C.c ds kk → ds.length = n →
      ∃ t, PSs (cxOf (L2.CX prg wd) prg wd K mg bs N qual scp f cdv A fr s H E) body t ∧ WS (gxD K E kk) t (envD ds (N.length - n)) (postD kk)) :
    DC.FnG prg wd K mg bs (L2.CX prg wd) (lv + 1) f fd names (toSp K n C.con) :=
  DC.fnG_of F sc (toSp_len hn) fun cdv A fr s H xs Q E gd room ⟨w, ms, eH, hs, ow, ndF, hl, tbk, ds, ems, hc⟩ => by
    subst ems
    subst eH
    obtain ⟨r, eF⟩ := ownL_inv ow
    have hl2 : ds.length = n := by rw [List.length_map] at hl; exact hl
    obtain ⟨t, ht, hw⟩ := bd cdv A fr s w.H E ds (fun o => EndC K w xs Q E o (ds.map .sh)) gd room hc hl2
    refine ⟨t, ht, ?_⟩
    obtain ⟨fps, e, ef⟩ := envOf (N.length - n) tbk ow
    have o0 : Ok (gxD K E fun o => EndC K w xs Q E o (ds.map .sh)) w (L2.start N xs) (envD ds (N.length - n)) := by
      refine ⟨hs, ⟨fps, ?_, by rw [ef, List.append_nil]⟩, ndF, fun i hi => by cases hi⟩
      have el : xs.length = n := by rw [r.len, hl2]
      unfold L2.start
      rw [envD_eq, el]
      exact e
    refine hw w _ _ o0 (fun w' σ ρ' c fs d he l o' ex => ?_) ⟨fun w' σ' ρ' h l o' => ?_, fun v w' σ' m ρ' fp h l o' om => ?_, fun _ _ _ h => h.elim, fun _ _ _ h => h.elim⟩
    · exact he (w'.less []) [] (l.trans (Wd.le_less fun x hx => by cases hx)) o'.sub (ownL_of (r.mono l.s)) d ex rfl List.nodup_nil
    · exact h (w'.less []) [] (l.trans (Wd.le_less fun x hx => by cases hx)) o'.sub (ownL_of (r.mono l.s)) .non [] (.sh .non) rfl List.nodup_nil
    · have nd := o'.nodupFx
      obtain ⟨fps', _, ef'⟩ := o'.env
      exact h (w'.less fp) [] (l.trans (Wd.le_less fun x hx => by rw [ef']; exact List.mem_append_right _ hx)) o'.sub (ownL_of (r.mono l.s)) v fp om rfl nd
theorem def_O {C : CO} (F : FunD K x qual params body scp dfl kwd f fd) (sc : FnScope N names scp) (hn : names.length = n)
    (bd : ∀ (cdv : Value) (A : Around) (fr : List PySem.Env) (s : Shared) (H : Hp) (E : XK) (v0 : V) (m : M) (ds : List D) (kk : Out → M → Prop), (A.deeper (PyProof.Rows.envOfC qual scp s.heap.objs.size f cdv)).guards = some [] → Room lv (A.deeper (PyProof.Rows.envOfC qual scp s.heap.objs.size f cdv)) → C.c m ds kk → ds.length + 1 = n →
      ∃ t, PSs (cxOf (L2.CX prg wd) prg wd K mg bs N qual scp f cdv A fr s H E) body t ∧ WS (gxO K E v0 kk) t (some m :: envD ds (N.length - n)) (postO kk)) :
    DC.FnG prg wd K mg bs (L2.CX prg wd) (lv + 1) f fd names (toSp K n C.con) :=
  DC.fnG_of F sc (toSp_len hn) fun cdv A fr s H xs Q E gd room ⟨w, ms, eH, hs, ow, ndF, hl, tbk, m0, ds, ems, hc⟩ => by
    subst ems
    subst eH
    have hl2 : ds.length + 1 = n := by rw [List.length_cons, List.length_map] at hl; exact hl
    generalize hF : w.F = F0 at ow
    have ow' := ow
    cases ow with
    | @cons v0 vs _ _ f1 f2 ow1 ow2 =>
      obtain ⟨r, eF⟩ := ownL_inv ow2
      subst eF
      obtain ⟨t, ht, hw⟩ := bd cdv A fr s w.H E v0 m0 ds (fun o m' => EndC K w (v0 :: vs) Q E o (m' :: ds.map .sh)) gd room hc hl2
      refine ⟨t, ht, ?_⟩
      obtain ⟨fps, e, ef⟩ := envOf (N.length - n) tbk ow'
      have el : vs.length + 1 = n := by rw [r.len, hl2]
      have o0 : Ok (gxO K E v0 fun o m' => EndC K w (v0 :: vs) Q E o (m' :: ds.map .sh)) w (L2.start N (v0 :: vs)) (some m0 :: envD ds (N.length - n)) := by
        refine ⟨hs, ⟨fps, ?_, by rw [ef, List.append_nil]; exact hF⟩, ndF, fun i hi => ?_⟩
        · unfold L2.start
          rw [envD_eq, List.length_cons, el]
          exact e
        · obtain rfl : i = 0 := by simpa [gxO] using hi
          rfl
      have px : ∀ {w' σ' ρ' fp}, OkE (gxO K E v0 fun o m' => EndC K w (v0 :: vs) Q E o (m' :: ds.map .sh)) w' σ' ρ' fp → σ'[0]? = some (some v0) := fun {w' σ' ρ' fp} o' => o'.px 0 (by simp [gxO])
      -- what the first argument owns, apart from what is handed back
      have fin : ∀ {w' σ' ρ' fp m}, Le w w' → OkE (gxO K E v0 fun o m' => EndC K w (v0 :: vs) Q E o (m' :: ds.map .sh)) w' σ' ρ' fp → ρ'[0]? = some (some m) → ∃ g, Le w (w'.less (g ++ fp)) ∧ (g ++ fp).Nodup ∧ OwnL K w'.S w'.H (v0 :: vs) (m :: ds.map .sh) g := fun {w' σ' ρ' fp m} l o' hm => by
        have p0 := px o'
        obtain ⟨fps', e', ef'⟩ := o'.env
        obtain ⟨v', g, h1, h2, h3⟩ := e'.get hm
        rw [p0] at h1
        have z := Option.some.inj (Option.some.inj h1)
        subst z
        have nd := o'.nd
        rw [ef'] at nd
        obtain ⟨n1, n2, n3⟩ := List.nodup_append.mp nd
        have gs : ∀ x ∈ g, x ∈ fps'.flatten := fun x hx => mem_flatten_get h2 hx
        refine ⟨g, l.trans (Wd.le_less fun x hx => ?_), List.nodup_append.mpr ⟨n1.sublist (List.sublist_flatten_of_mem (List.mem_of_getElem? h2)), n2, fun x hx y hy z => n3 x (gs x hx) y hy z⟩, ?_⟩
        · rw [ef']
          exact (List.mem_append.mp hx).elim (fun h => List.mem_append_left _ (gs x h)) fun h => List.mem_append_right _ h
        · have z : OwnL K w'.S w'.H (v0 :: vs) (m :: ds.map .sh) (g ++ []) := .cons h3 (ownL_of (r.mono l.s))
          rw [List.append_nil] at z
          exact z
      refine hw w _ _ o0 (fun w' σ ρ' c fs d he l o' ex => ?_) ⟨fun w' σ' ρ' h l o' => ?_, fun v w' σ' a ρ' fp h l o' om => ?_, fun _ _ _ h => h.elim, fun _ _ _ h => h.elim⟩
      · obtain ⟨m, hm, hk⟩ := he
        obtain ⟨g, l2, nd, own⟩ := fin (fp := []) l o' hm
        rw [List.append_nil] at l2 nd
        exact hk (w'.less g) g l2 o'.sub own d ex rfl nd
      · obtain ⟨m, hm, hk⟩ := h
        obtain ⟨g, l2, nd, own⟩ := fin (fp := []) l o' hm
        exact hk (w'.less (g ++ [])) g l2 o'.sub own .non [] (.sh .non) rfl nd
      · obtain ⟨m, hm, hk⟩ := h
        obtain ⟨g, l2, nd, own⟩ := fin l o' hm
        exact hk (w'.less (g ++ fp)) g l2 o'.sub own v fp om rfl nd
end
end DL

namespace DC
open PySem L2 PySem.Spec PyProof.Rows
/-! several except clauses, some of them with a name -/
abbrev Suite := Addr → Obj → Value → Option Addr → List (Addr × Obj) → TS
abbrev Clause := Value × Option Nat × Suite
def endAs (i : Nat) (D : Ends) : Ends := { nx := fun σ H => D.nx (σ.set i none) H, rt := D.rt, bk := fun σ H => D.bk (σ.set i none) H, ct := fun σ H => D.ct (σ.set i none) H }
def inSuite (n : Option Nat) (ts : Suite) (a : Addr) (cls : Value) (d : Option Addr) (D : Ends) (σ : St) (H : Hp) : Prop := match n with
  | none => ∀ ob pn, ts a ob cls d pn D σ H
  | some i => ∀ ob pn, ts a ob cls d pn (endAs i D) (σ.set i (some (.ref a))) H
def wClauses (K : PySem.W.Frag) (out : WX) (D : Ends) : List Clause → WX
  | [] => out
  | (c, n, ts) :: more => fun cls d σ H => ∃ yes, PySem.W.exmOne K cls c = some yes ∧ if yes = true then ∀ a, H a = none → inSuite n ts a cls d D σ H else wClauses K out D more cls d σ H
inductive ClausesOk (X : Cx) : List ExceptHandler → List Clause → Prop
  | nil : ClausesOk X [] []
  | plain {x : Str} {c : Value} {ts : Suite} {st : Stmt} {sts : List Stmt} {p1 p2 : Pos} {hs : List ExceptHandler} {l : List Clause} (nm : Names X x c)
      (su : ∀ (a : Addr) (ob : Obj) (cls : Value) (d : Option Addr) (pn : List (Addr × Obj)), Zc cls d ob → (∃ vs, ob.data = .fields vs) → PSs (X.suite a ((a, ob) :: pn)) (st :: sts) (ts a ob cls d pn)) (more : ClausesOk X hs l) :
      ClausesOk X (.ExceptHandler (some (.Name x p1)) none (st :: sts) p2 :: hs) ((c, none, ts) :: l)
  | named {x n : Str} {i : Nat} {c : Value} {ts : Suite} {st : Stmt} {sts : List Stmt} {p1 p2 : Pos} {hs : List ExceptHandler} {l : List Clause} (nm : Names X x c) (nd : X.N.Nodup) (pl : X.N[i]? = some n) (lo : X.env.kindOf n = some .local)
      (su : ∀ (a : Addr) (ob : Obj) (cls : Value) (d : Option Addr) (pn : List (Addr × Obj)), Zc cls d ob → (∃ vs, ob.data = .fields vs) → PSs (X.suite a ((a, ob) :: pn)) (st :: sts) (ts a ob cls d pn)) (more : ClausesOk X hs l) :
      ClausesOk X (.ExceptHandler (some (.Name x p1)) (some n) (st :: sts) p2 :: hs) ((c, some i, ts) :: l)
/-- the reading of a try -/
def tTry (K : PySem.W.Frag) (out : WX) (tb : WX → List (Addr × Obj) → (Value → Shared → Prop) → TS) (l : List Clause) : TS := fun D σ H => ∀ pn xe, tb (wClauses K out D l) pn xe D σ H
section
variable {X : Cx} {body : List Stmt} {h₀ : ExceptHandler} {hs : List ExceptHandler} {l : List Clause} {pos : Pos} {tb : WX → List (Addr × Obj) → (Value → Shared → Prop) → TS} {out : WX}
theorem ps_tryC (stk : X.stack = X.env :: X.outer) (frm : X.env.frame = some X.env.locals) (tk : Takes X out)
    (bd : ∀ (W : WX) (pn : List (Addr × Obj)) (xe : Value → Shared → Prop), Takes (X.tr pn xe) W → PassesOwn (model X.prog X.w) X.A X.env xe → PSs (X.tr pn xe) body (tb W pn xe)) (cl : ClausesOk X (h₀ :: hs) l) : PS X (.Try body (h₀ :: hs) [] [] pos) (tTry X.K out tb l) := by
  refine ⟨fun pins s σ H D J wish => wpAny_Try_except ?_⟩
  have okX := J.ok
  have frames : X.A.frames = some (X.env :: X.outer) := okX.frames.trans (congrArg some stk)
  refine wpAny_mono ((bd (wClauses X.K out D l) (X.pn ++ pins) (fun e s1 => wpAny (model X.prog X.w) X.A (noteFrame e X.env) (fun _ s2 => wpAny (model X.prog X.w) X.A (setFlight e none) (fun _ s3 => wpAny (model X.prog X.w) X.A (handleBy e X.env (h₀ :: hs)) (SP X pins D) X.xe s3) X.xe s2) X.xe s1)
    (fun u s' air => ?_) PassesOwn.looking).run [] s σ H D (J.toTry _) (wish _ _)) (fun fl s1 got => ?_) (fun _ _ z => z)
  · obtain ⟨a, B, sI, _, σ', H', cls, d, rfl, Jt, nb, up, sky, na, os, ag, w⟩ := air
    have JI : Inv X pins σ' H' sI := Jt.ofTry okX
    rw [stk] at sky
    show wpAny (model X.prog X.w) X.A (noteFrame (Value.ref a) X.env) _ _ _
    refine Sky.land Zc.steady frames frm sky fun h3 fly up3 => ?_
    have ups := up.trans up3
    have J3 : Inv X pins σ' H' { s' with heap := h3 } := JI.landed nb fly.1 ups os ag
    obtain ⟨ob3, vs3, at3, z3, d3⟩ := fly.there
    have off : a ∉ frs (X.env :: X.outer) := fun mem => by
      obtain ⟨_, ob', at', nf⟩ := fly.2.2.1.mem mem
      rw [at3] at at'
      cases at'
      exact nf _ d3
    have offL : a ≠ X.env.locals := fun z => off (List.mem_filterMap.mpr ⟨X.env, List.mem_cons_self, by rw [frm, z]⟩)
    have offF : a ∉ X.fs := fun mem => by
      obtain ⟨e, he, q⟩ := List.mem_filterMap.mp mem
      exact off (List.mem_filterMap.mpr ⟨e, List.mem_cons_of_mem _ he, q⟩)
    have S3 := J3.suite at3 d3 na offL offF
    have looks : PySem.W.Looks (model X.prog X.w) h3 (typeOf (.ref a)) cls := fun A Q E s k q => wpAny_typeOf_ref (k _ _ at3) (by rw [z3.1]; exact q)
    have tells : ∀ {x : Str} {c : Value} {p1 : Pos} {Q E : Value → Shared → Prop}, Names X x c → Q c { s' with heap := h3 } → wpAny (model X.prog X.w) (X.A.mark (some (.ref a))) (eval (.Name x p1) X.env) Q E { s' with heap := h3 } := fun {x c p1 Q E} nm q => by
      obtain ⟨g, dbg, own | ⟨own, blt, nn⟩⟩ := nm
      · exact ld_glob (X := X.suite a ((a, ob3) :: (X.pn ++ pins))) S3 g own q dbg
      · exact ld_blt (X := X.suite a ((a, ob3) :: (X.pn ++ pins))) S3 g own blt q nn dbg
    have go : ∀ {hs' : List ExceptHandler} {l' : List Clause}, ClausesOk X hs' l' → wClauses X.K out D l' cls d σ' H' → wpAny (model X.prog X.w) X.A (handleBy (.ref a) X.env hs') (SP X pins D) X.xe { s' with heap := h3 } := fun {hs' l'} ok => by
      induction ok with
      | nil =>
        intro w
        refine wpAny_handleBy_nil ?_
        obtain ⟨_, _, _, ob, vs, tb, oT, ts', hat, _, hd, h1, _⟩ := id fly
        have up1 : wpAny (model X.prog X.w) X.A (setFlight (.ref a) X.env.frame) (fun _ s4 => wpAny (model X.prog X.w) X.A (throw (.ref a) : Sem Flow) (SP X pins D) X.xe s4) X.xe { s' with heap := h3 } := by
          rw [frm]
          exact HandSPX.setFlight_upZ fly fun h4 held up4 => wpAny_throw (tk _ _ ⟨a, B, sI, pins, σ', H', cls, d, rfl, JI, nb, ups.trans up4, .inr (.inr (stk ▸ held)), na, os, ag, w⟩)
        unfold PySem.passOn
        refine wpAny_bind (wpAny_field hat hd h1 ?_)
        rw [if_neg (show ¬ ((Value.ref tb == Value.none) = true) by simp)]
        first
          | exact wpAny_bind (wpAny_pure (wpAny_bind up1))
          | exact wpAny_bind up1
      | plain nm su _ ih =>
        intro ⟨yes, he, w⟩
        refine wpAny_handleBy_cons (codeAny_handlers_test (tells nm ((PySem.W.exm_one (M := model X.prog X.w) J3.kIn looks he).here ?_))) (by intro q; cases q)
        cases yes with
        | false => exact ih w
        | true =>
          refine codeAny_handlers_suite (HandSPX.lands_againZ fly fun h4 fly4 up4 => ?_)
          have J4 : Inv X pins σ' H' { s' with heap := h4 } := JI.landed nb fly4.1 (ups.trans up4) os ag
          obtain ⟨ob4, vs4, at4, z4, d4⟩ := fly4.there
          have w2 := (show ∀ ob pn, _ from w a na) ob4 (X.pn ++ pins)
          refine wpAny_mono ((su a ob4 cls d (X.pn ++ pins) z4 ⟨_, d4⟩).run [] _ _ H' _ (J4.suite at4 d4 na offL offF) w2) (fun f6 s6 got => ?_) (fun _ _ z => z.elim)
          match f6, got with
          | .next, ⟨σ6, H6, S6, q6⟩ => exact ⟨_, _, S6.unsuite okX, q6⟩
          | .brk, ⟨σ6, H6, S6, q6⟩ => exact ⟨_, _, S6.unsuite okX, q6⟩
          | .cont, ⟨σ6, H6, S6, q6⟩ => exact ⟨_, _, S6.unsuite okX, q6⟩
          | .ret u, ⟨v6, σ6, H6, S6, r6, q6⟩ => exact ⟨_, _, _, S6.unsuite okX, r6, q6⟩
      | @named x n i c ts st sts p1 p2 hs2 l2 nm nd pl lo su _ ih =>
        intro ⟨yes, he, w⟩
        refine wpAny_handleBy_cons (codeAny_handlers_test (tells nm ((PySem.W.exm_one (M := model X.prog X.w) J3.kIn looks he).here ?_))) (by intro q; cases q)
        cases yes with
        | false => exact ih w
        | true =>
          refine codeAny_handlers_suite_as (HandSPX.lands_againZ fly fun h4 fly4 up4 => ?_)
          have J4 : Inv X pins σ' H' { s' with heap := h4 } := JI.landed nb fly4.1 (ups.trans up4) os ag
          obtain ⟨ob4, vs4, at4, z4, d4⟩ := fly4.there
          have w2 : ts a ob4 cls d (X.pn ++ pins) (endAs i D) (σ'.set i (some (.ref a))) H' := w a na ob4 (X.pn ++ pins)
          refine store_ok (X := X.suite a ((a, ob4) :: (X.pn ++ pins))) (v := .ref a) (J4.suite at4 d4 na offL offF) nd pl (.inl lo) rfl (fun s5 S5 => ?_) (.inr lo)
          refine wpAny_mono ((su a ob4 cls d (X.pn ++ pins) z4 ⟨_, d4⟩).run [] s5 _ H' _ S5 w2) (fun f6 s6 got => ?_) (fun _ _ z => z.elim)
          have ends : ∀ {σ6 : St} {H6 : Hp} {Q : Shared → Prop}, Inv (X.suite a ((a, ob4) :: (X.pn ++ pins))) [] σ6 H6 s6 → (∀ s7, Inv X pins (σ6.set i none) H6 s7 → Q s7) → wpAny (model X.prog X.w) X.A (do bindName X.env n .none; unbindBehindTheSuite X.env n p2) (fun _ s7 => Q s7) X.xe s6 :=
            fun S6 k => gone_ok (S6.unsuite okX) nd pl lo k
          match f6, got with
          | .next, ⟨σ6, H6, S6, q6⟩ => exact ends S6 fun s7 J7 => ⟨_, _, J7, q6⟩
          | .brk, ⟨σ6, H6, S6, q6⟩ => exact ends S6 fun s7 J7 => ⟨_, _, J7, q6⟩
          | .cont, ⟨σ6, H6, S6, q6⟩ => exact ends S6 fun s7 J7 => ⟨_, _, J7, q6⟩
          | .ret u, ⟨v6, σ6, H6, S6, r6, q6⟩ => exact ends S6 fun s7 J7 => ⟨_, _, _, J7, r6, q6⟩
    exact go cl w
  · match fl, got with
    | .next, ⟨σ', H', J', q⟩ => exact wpAny_execs_nil ⟨σ', H', J'.ofTry okX, q⟩
    | .brk, ⟨σ', H', J', q⟩ => exact ⟨σ', H', J'.ofTry okX, q⟩
    | .cont, ⟨σ', H', J', q⟩ => exact ⟨σ', H', J'.ofTry okX, q⟩
    | .ret u, ⟨v, σ', H', J', r, q⟩ => exact ⟨v, σ', H', J'.ofTry okX, r, q⟩
end
end DC
namespace DC
open PySem L2 PySem.Spec PyProof.Rows
section
variable {X : Cx}
/-- X(), X an own exception class without own __init__ -/
theorem pmk_bare {C : Addr} {bmB : List Value} {B newId initId : String} {x : Str} {p pos : Pos} (F : ExcBaseFacts B newId initId bmB) (q : PySem.W.excIn X.K C bmB newId = true) (gC : X.mg x = some (.ref C)) (kC : PySem.W.keepIn X.K (.ref C) = true) (r : Raises X (.ref C)) (hg : Gl X x)
    (nodbg : (x == ("__debug__" : Str)) = false := by decide) : PMk X (.Call (.Name x p) [] [] pos) (fun _ H Q => Q (.ref C) none H) := fun pins s σ H Q J wish =>
  wpAny_Call_Name_kw (ld_glob J hg gC (PySem.W.callWith_K0 J.kIn kC (by
    obtain ⟨bm, N, nm, qn, bs, hdct, sn, sub, ab, col, dd, k0, k1, k2, k3, k5, mN, hC, hN, hni, T⟩ := exc_obj J.kIn q
    exact wpAny_call_exc_subT F T hC hN hni (fun h' e hm => mk_of J hm r wish (J.hok.gone hm.new)) (Nat.zero_le _))) nodbg)
/-- repr(x) of data, while nothing else is being shown -/
def rRepr (K : PySem.W.Frag) : List V → Hp → VK → Prop := fun xs H Q => ∃ x d, xs = [x] ∧ Dp K H x d ∧ d.showable = true ∧ d.canLay0 = true ∧ d.depth ≤ 64 ∧ d.shown.length ≤ sizeLine ∧ Q (.str d.shown) H
theorem call_reprG (gd : X.A.guards = some []) (hu : X.A.units + 70 < cLine) : CallR X (.builtin "repr") (rRepr X.K) := by
  intro pins s σ H xs us Q J rel ⟨x, d, ex, hd, sh, cl, dp, sz, q⟩
  subst ex
  obtain ⟨u, rfl, ru⟩ := vals1 rel
  cases hd with
  | non =>
    cases ru
    exact PySem.P.repr_of_none ⟨.str _, H, J.tok _, ⟨_, rfl⟩, q⟩
  | bl b =>
    cases ru
    exact PySem.P.repr_of_bool ⟨.str _, H, J.tok _, ⟨_, rfl⟩, q⟩
  | int i =>
    obtain ⟨t, rfl⟩ := ru
    exact PySem.P.repr_of_int (of_decide_eq_true sh) ⟨.str _, H, J.tok _, ⟨_, rfl⟩, q⟩
  | str y =>
    obtain ⟨t, rfl⟩ := ru
    exact PySem.P.repr_of_str ⟨.str _, H, J.tok _, ⟨_, rfl⟩, q⟩ sz
  | @lst a ys ds h1 h2 =>
    obtain ⟨as, rd⟩ := Dp.reads J _ _ u (.lst h1 h2) ru
    cases ru
    exact repr_of_reads' rd sh (PyData.noDict_hsm (PyData.hasDict_of_canLay _ cl)) gd (by omega) (fun _ _ e => e) (fun h' v tk keep => ⟨.str _, H, J.kept (t' := tk) keep, ⟨_, rfl⟩, q⟩) sz
  | @tup a ys ds h1 h2 =>
    obtain ⟨as, rd⟩ := Dp.reads J _ _ u (.tup h1 h2) ru
    cases ru
    exact repr_of_reads' rd sh (PyData.noDict_hsm (PyData.hasDict_of_canLay _ cl)) gd (by omega) (fun _ _ e => e) (fun h' v tk keep => ⟨.str _, H, J.kept (t' := tk) keep, ⟨_, rfl⟩, q⟩) sz
end
end DC
namespace DC
open PySem L2 PySem.Spec PyProof.Rows
section
variable {X : Cx}
/-- repr of an empty dict -/
def rReprE : List V → Hp → VK → Prop := fun xs H Q => ∃ a, xs = [.ref a] ∧ Rd H a (.dK []) ∧ Q (.str (PyData.shown (.dict []))) H
theorem call_reprE (gd : X.A.guards = some []) (hu : X.A.units + 70 < cLine) : CallR X (.builtin "repr") rReprE := by
  intro pins s σ H xs us Q J rel ⟨a, ex, hd, q⟩
  subst ex
  obtain ⟨u, rfl, ru⟩ := vals1 rel
  cases ru
  obtain ⟨_, ns, vs, kv, o, es, ep, g, xd, od, _, pr, _⟩ := hd.ok J.hok
  cases kv
  have e0 : es.toList = [] := by
    have pr2 := pr
    generalize es.toList = l at pr2
    cases pr2
    rfl
  have rd : Reads s.heap (.ref a) (.dict []) [a] := by
    have z : Reads s.heap (.ref a) (.dict []) (a :: [] ++ []) := .dict g xd.1 od (by rw [e0]; exact .nil) (by rw [e0]; exact .nil)
    exact z
  refine repr_of_reads' rd rfl (fun _ m => ?_) gd (by show X.A.units + (1 + 1) < cLine; omega) (fun _ _ e => e) (fun h' v tk keep => ⟨.str _, H, J.kept (t' := tk) keep, ⟨_, rfl⟩, q⟩) (by decide +kernel)
  obtain rfl : sysModules = a := by simpa using m
  simp at ns
end
end DC

namespace DL
open PySem L2

/-! ### raise -/
/-- the promise of an exception class's own __init__ that keeps its arguments in fields -/
def spIni (K : PySem.W.Frag) : List Str → Sp
  | [f] => fun vs H Q _ => ∃ a C y, vs = [.ref a, y] ∧ OexC K C ∧ NoAttr K C f ∧ H a = some (exo a C none) ∧ ∀ dx, H dx = none → dx ≠ a → Q .non (upd (upd H dx (exd dx [(f, y)])) a (exo a C (some dx)))
  | [f, g] => fun vs H Q _ => ∃ a C y z, vs = [.ref a, y, z] ∧ OexC K C ∧ NoAttr K C f ∧ NoAttr K C g ∧ H a = some (exo a C none) ∧ ∀ dx, H dx = none → dx ≠ a → Q .non (upd (upd (upd H dx (exd dx [(f, y)])) a (exo a C (some dx))) dx (exd dx [(g, z), (f, y)]))
  | _ => fun _ _ _ _ => False
section
variable {G : Gx} {ρ : Env} {P : Post} {ta : TA} {CA : Addr} {c : Str} {f g : Str} {k : D → Prop}
theorem upd_del {H1 : Hp} {a dx : Addr} {o1 o2 o3 u : HO} (hn : H1 a = none) (ne : dx ≠ a) : upd (del (upd (upd (upd H1 a o1) dx o2) a o3) a) dx u = upd H1 dx u := by
  funext b
  by_cases h1 : b = dx
  · subst h1
    rw [upd_same, upd_same]
  · rw [upd_ne h1, upd_ne h1]
    by_cases h2 : b = a
    · subst h2
      rw [del_same, hn]
    · rw [del_ne h2, upd_ne h2, upd_ne h1, upd_ne h2]
theorem upd_del2 {H1 : Hp} {a dx : Addr} {o1 o2 o3 o4 u : HO} (hn : H1 a = none) (ne : dx ≠ a) : upd (del (upd (upd (upd (upd H1 a o1) dx o2) a o3) dx o4) a) dx u = upd H1 dx u := by
  funext b
  by_cases h1 : b = dx
  · subst h1
    rw [upd_same, upd_same]
  · rw [upd_ne h1, upd_ne h1]
    by_cases h2 : b = a
    · subst h2
      rw [del_same, hn]
    · rw [del_ne h2, upd_ne h1, upd_ne h2, upd_ne h1, upd_ne h2]
theorem ws_raise1 (h : WA G ta ρ fun ds ρ1 => ∃ y, ds = [y] ∧ CA = clsAt G.K c ∧ OexC G.K (clsAt G.K c) ∧ NoAttr G.K (clsAt G.K c) f ∧ G.er c [(f, y)] ρ1) :
    WS G (fun _ σ H => tMkO CA (spIni G.K [f]) [] ta σ H fun cls d H' => G.Wx cls d σ H') ρ P := fun w σ D o e m =>
  h w σ _ o e fun vs w1 ds ρ1 ⟨y, ed, eC, oe, na, he⟩ l1 o1 r1 => by
    subst ed
    subst eC
    obtain ⟨v, rfl, rv⟩ := r1.one
    refine ⟨by show 1 ≤ 1000; decide, fun a ha => ⟨a, _, v, rfl, oe, na, upd_same, fun dx hdx ne => ⟨rfl, dx, [(f, v)], upd_same, by rw [upd_ne ne]; exact upd_same, ?_, ?_⟩⟩⟩
    · rw [upd_ne ne] at hdx
      exact hdx
    · rw [upd_del ha ne]
      have hd1 : w1.H dx = none := by rw [upd_ne ne] at hdx; exact hdx
      have l2 := Wd.le_add (o := .xd [(f, v)]) o1.sub hd1
      exact e (w1.add dx (.xd [(f, v)])) σ ρ1 c [(f, y)] (some dx) he (l1.trans l2.le) (o1.grow l2 (Wd.sub_add o1.sub hd1)) (.inr ⟨dx, _, rfl, upd_same, .cons (rv.mono l2.s) .nil⟩)
theorem ws_raise2 (h : WA G ta ρ fun ds ρ1 => ∃ y z, ds = [y, z] ∧ CA = clsAt G.K c ∧ OexC G.K (clsAt G.K c) ∧ NoAttr G.K (clsAt G.K c) f ∧ NoAttr G.K (clsAt G.K c) g ∧ G.er c [(g, z), (f, y)] ρ1) :
    WS G (fun _ σ H => tMkO CA (spIni G.K [f, g]) [] ta σ H fun cls d H' => G.Wx cls d σ H') ρ P := fun w σ D o e m =>
  h w σ _ o e fun vs w1 ds ρ1 ⟨y, z, ed, eC, oe, na, na2, he⟩ l1 o1 r1 => by
    subst ed
    subst eC
    obtain ⟨v, u, rfl, rv, ru⟩ := r1.two
    refine ⟨by show 2 ≤ 1000; decide, fun a ha => ⟨a, _, v, u, rfl, oe, na, na2, upd_same, fun dx hdx ne => ⟨rfl, dx, [(g, u), (f, v)], by rw [upd_ne (Ne.symm ne)]; exact upd_same, upd_same, ?_, ?_⟩⟩⟩
    · rw [upd_ne ne] at hdx
      exact hdx
    · rw [upd_del2 ha ne]
      have hd1 : w1.H dx = none := by rw [upd_ne ne] at hdx; exact hdx
      have l2 := Wd.le_add (o := .xd [(g, u), (f, v)]) o1.sub hd1
      exact e (w1.add dx (.xd [(g, u), (f, v)])) σ ρ1 c [(g, z), (f, y)] (some dx) he (l1.trans l2.le) (o1.grow l2 (Wd.sub_add o1.sub hd1)) (.inr ⟨dx, _, rfl, upd_same, .cons (ru.mono l2.s) (.cons (rv.mono l2.s) .nil)⟩)
theorem ws_raise0 (eC : CA = clsAt G.K c) (he : G.er c [] ρ) : WS G (fun _ σ H => (fun (_ : St) (H : Hp) (Q : XK) => Q (.ref CA) none H) σ H fun cls d H' => G.Wx cls d σ H') ρ P := fun w σ D o e m => by
  subst eC
  exact e w σ ρ c [] none he (Le.refl w) o (.inl ⟨rfl, rfl⟩)

/-! ### try -/
/-- the clauses at the data -/
def clD (G : Gx) (P : Post) : List DC.Clause → Str → List (Str × D) → Env → Prop
  | [], c, fs, ρ => G.er c fs ρ
  | (cv, none, ts) :: more, c, fs, ρ => ∃ yes, PySem.W.exmOne G.K (.ref (clsAt G.K c)) cv = some yes ∧ if yes = true then ∀ a ob d pn, WS G.nox (ts a ob (.ref (clsAt G.K c)) d pn) ρ P else clD G P more c fs ρ
  | (cv, some i, ts) :: more, c, fs, ρ => ∃ yes, PySem.W.exmOne G.K (.ref (clsAt G.K c)) cv = some yes ∧ if yes = true then fs ≠ [] ∧ i ∉ G.px ∧ ∀ a ob dd pn, WS G.nox (ts a ob (.ref (clsAt G.K c)) (some dd) pn) (ρ.set i (some (.sh (.exc a dd c fs))))
      { nx := fun ρ => P.nx (ρ.set i none), rt := P.rt, bk := fun ρ => P.bk (ρ.set i none), ct := fun ρ => P.ct (ρ.set i none) } else clD G P more c fs ρ
theorem OkE.unset {w : Wd} {σ : St} {i : Nat} (o : Ok G w σ ρ) (hi : i ∉ G.px) : ∃ w', Le w w' ∧ w'.S = w.S ∧ w'.H = w.H ∧ Ok G w' (σ.set i none) (ρ.set i none) := by
  obtain ⟨fps, e, f⟩ := o.env
  have f2 : w.F = fps.flatten := by rw [f, List.append_nil]
  refine ⟨w.less (fps.set i []).flatten, Wd.le_less fun x hx => f2 ▸ mem_flatten_nil hx, rfl, rfl, o.sub, ⟨_, e.unset i none, by show (fps.set i []).flatten = _; rw [List.append_nil]⟩, ?_, fun j hj => ?_⟩
  · show (fps.set i []).flatten.Nodup
    have nd := o.nd
    rw [f2] at nd
    exact nodup_flatten_set nd (by simp) (fun x h => by cases h)
  · have ne : i ≠ j := fun z => hi (z ▸ hj)
    rw [List.getElem?_set_ne ne]
    exact o.px j hj
theorem Meets.nox {w : Wd} {D : Ends} (m : Meets G w D P) : Meets G.nox w D P := ⟨fun w' σ' ρ' h l o => m.nx w' σ' ρ' h l o.unnox, fun v w' σ' a ρ' fp h l o r => m.rt v w' σ' a ρ' fp h l o.unnox r, fun w' σ' ρ' h l o => m.bk w' σ' ρ' h l o.unnox, fun w' σ' ρ' h l o => m.ct w' σ' ρ' h l o.unnox⟩
theorem ws_try {tb : WX → List (Addr × Obj) → (Value → Shared → Prop) → TS} {l : List DC.Clause} (h : ∀ W pn xe, WS { G with Wx := W, er := clD G P l } (tb W pn xe) ρ P) : WS G (DC.tTry G.K G.Wx tb l) ρ P := fun w σ D o e m => by
  intro pn xe
  refine h _ pn xe w σ D ⟨o.sub, o.env, o.nd, o.px⟩ (fun w' σ' ρ' c fs d he l' o' ex => ?_) ⟨fun w' σ' ρ' h l o => m.nx w' σ' ρ' h l ⟨o.sub, o.env, o.nd, o.px⟩, fun v w' σ' a ρ' fp h l o r => m.rt v w' σ' a ρ' fp h l ⟨o.sub, o.env, o.nd, o.px⟩ r, fun w' σ' ρ' h l o => m.bk w' σ' ρ' h l ⟨o.sub, o.env, o.nd, o.px⟩, fun w' σ' ρ' h l o => m.ct w' σ' ρ' h l ⟨o.sub, o.env, o.nd, o.px⟩⟩
  have o2 : Ok G w' σ' ρ' := ⟨o'.sub, o'.env, o'.nd, o'.px⟩
  have ml := m.later l'
  have ex2 : ExcAt G.K w'.S c fs d := ex
  clear h o' ex
  show DC.wClauses G.K G.Wx D l (.ref (clsAt G.K c)) d σ' w'.H
  induction l with
  | nil => exact e w' σ' ρ' c fs d he l' o2 ex2
  | cons cl more ih =>
    obtain ⟨cv, n, ts⟩ := cl
    cases n with
    | none =>
      obtain ⟨yes, hy, hk⟩ := (show ∃ yes, _ ∧ _ from he)
      refine ⟨yes, hy, ?_⟩
      cases yes with
      | true =>
        rw [if_pos rfl] at hk ⊢
        exact fun a _ ob pn => hk a ob d pn w' σ' D o2.nox esc_nox ml.nox
      | false =>
        rw [if_neg Bool.false_ne_true] at hk ⊢
        exact ih hk
    | some i =>
      obtain ⟨yes, hy, hk⟩ := (show ∃ yes, _ ∧ _ from he)
      refine ⟨yes, hy, ?_⟩
      cases yes with
      | true =>
        rw [if_pos rfl] at hk ⊢
        obtain ⟨nf, hi, hk⟩ := hk
        intro a _ ob pn
        rcases ex2 with ⟨ef, _⟩ | ⟨dd, xs, ed, hS, rf⟩
        · exact absurd ef nf
        · subst ed
          obtain ⟨w2, l2, eS, eH, _, o3⟩ := o2.setSh (i := i) (v := .ref a) (d := .exc a dd c fs) (.exc hS rf) hi
          have ml2 := ml.later l2
          have z := hk a ob dd pn w2 _ (DC.endAs i D) o3.nox esc_nox ⟨fun w3 σ3 ρ3 h l o => ?_, fun v w3 σ3 a ρ3 fp h l o r => ml2.rt v w3 σ3 a ρ3 fp h l o.unnox r, fun w3 σ3 ρ3 h l o => ?_, fun w3 σ3 ρ3 h l o => ?_⟩
          · rw [eH] at z
            exact z
          · obtain ⟨w4, l4, _, eH4, o4⟩ := OkE.unset o.unnox hi
            have y := ml2.nx w4 _ _ h (l.trans l4) o4
            rw [eH4] at y
            exact y
          · obtain ⟨w4, l4, _, eH4, o4⟩ := OkE.unset o.unnox hi
            have y := ml2.bk w4 _ _ h (l.trans l4) o4
            rw [eH4] at y
            exact y
          · obtain ⟨w4, l4, _, eH4, o4⟩ := OkE.unset o.unnox hi
            have y := ml2.ct w4 _ _ h (l.trans l4) o4
            rw [eH4] at y
            exact y
      | false =>
        rw [if_neg Bool.false_ne_true] at hk ⊢
        exact ih hk
/-- e.f -/
theorem w_xf {te : TE} {a dd : Addr} {PD : D → Env → Prop} (h : W G te ρ fun x ρ1 => ∃ fs d, x = .exc a dd c fs ∧ CA = clsAt G.K c ∧ fs.lookup f = some d ∧ PD d ρ1) : W G (tXf a (.ref (clsAt G.K c)) (some dd) CA f te) ρ PD := fun w σ Q o e q =>
  h w σ _ o e fun v w1 x ρ1 ⟨fs, d, ex, eC, hl, p⟩ l1 o1 r1 => by
    subst ex
    subst eC
    cases r1 with
    | @exc _ _ _ xs _ hS rf =>
      obtain ⟨u, hu, ru⟩ := rf.get hl
      exact ⟨rfl, rfl, dd, xs, u, rfl, o1.sub.xd hS, hu, q u w1 d ρ1 p l1 o1 ru⟩
/-! ### repr -/
def gRepr (K : PySem.W.Frag) : List V → Hp → VK → Prop := fun xs H Q => DC.rRepr K xs H Q ∨ DC.rReprE xs H Q
theorem o_repr {X : Cx} (gd : X.A.guards = some []) (hu : X.A.units + 70 < cLine) : CallR X (.builtin "repr") (gRepr X.K) := (DC.call_reprG gd hu).or (DC.call_reprE gd hu)
theorem rc_repr {K : PySem.W.Frag} {x : D} {p : PyData} (hx : x.py = some p) (sh : p.showable = true) (cl : p.canLay0 = true) (dp : p.depth ≤ 64) (sz : p.shown.length ≤ 100000) (h : k (.str p.shown)) : RC K (gRepr K) [x] k := fun w vs Q s r q => by
  obtain ⟨v, rfl, r1⟩ := r.one
  exact .inl ⟨v, p, rfl, r1.dp s hx, sh, cl, dp, sz_of sz, q _ w _ h (LeP.refl w) s (.str _)⟩
theorem rc_reprE {K : PySem.W.Frag} (h : k (.str (PyData.shown (.dict [])))) : RC K (gRepr K) [.dic []] k := fun w vs Q s r q => by
  obtain ⟨v, rfl, r1⟩ := r.one
  cases r1 with
  | dic h1 h2 =>
    cases h2
    exact .inr ⟨_, rfl, s.dk h1, q _ w _ h (LeP.refl w) s (.str _)⟩
end
end DL

namespace DC
open PySem L2 PySem.Spec PyProof.Rows
/-! the law's own call -/
theorem lawG {prg : Program} {wd : World} {K : PySem.W.Frag} {mg mb : Str → Option Value} {lv : Nat} {fa a : Addr} {fd : FuncData} {x : Str} {sp : Sp} {st : Shared} {vs : List Value} {ns : List Int}
    (kin : K.In st.heap) (globs : st.heap.Ns mainGlobals mg) (blts : st.heap.Ns builtinsNs mb) (boot : ∀ x : Str, x ≠ "__name__" → mb x = bootBuiltins x) (nol : st.heap.NoLimit) (nog : st.gens = #[])
    (script : st.heap.get? a = some { cls := .type "list", data := .seq vs.toArray }) (areInts : IntsAre vs ns) (short : ns.length ≤ sizeLine) (room : Room lv callerA)
    (F : ∀ bs : Heap, K.In bs → bs.Ns mainGlobals mg → FnG prg wd K mg bs (L2.CX prg wd) lv fa fd [x] sp) (bnd : ∀ (s : Shared) (u : Value), BindsTo s fd ⟨[u], []⟩ [(x, u)])
    (wish : ∀ H : Hp, SqL K H a (ns.map V.int) → sp [.ref a] H (fun v _ => v = .bl true) fun _ _ _ => False) :
    codeAny (model prg wd) callerA (.call (.ref fa) ⟨[.ref a], []⟩) (fun r s' => r = .ok (.ret (.bool true)) ∧ OldK st.heap s'.heap ∧ s'.os = st.os ∧ AllBare s'.gens) st := by
  have rel := vals_ints areInts
  have key : ∀ H : Hp, (∀ b u, H b = some u → b = a ∧ ∃ o xs, u = .frz o (.lst xs)) → SqL K H a (ns.map V.int) → HOk prg wd H st.heap → (H a ≠ none → K.lookup a = none) →
      codeAny (model prg wd) callerA (.call (.ref fa) ⟨[.ref a], []⟩) (fun r s' => r = .ok (.ret (.bool true)) ∧ OldK st.heap s'.heap ∧ s'.os = st.os ∧ AllBare s'.gens) st := fun H only sq hok out => by
    have free : ∀ {b : Addr}, b ≠ a → H b = none := fun {b} ne => by
      cases q : H b with
      | none => rfl
      | some u => exact absurd (only b u q).1 ne
    have below : ∀ {b : Addr} {o : Obj}, st.heap.get? b = some o → H b = none → (hidT st.heap H).get? b = some o := fun e n => hidT_get e n
    have nsB : ∀ {b : Addr} {m : Str → Option Value}, st.heap.Ns b m → (hidT st.heap H).Ns b m := fun {b m} ⟨o, es, ep, e, d, r⟩ => ⟨o, es, ep, below e (free fun z => by
      rw [z, script] at e
      cases (Option.some.inj e)
      cases (show Data.seq vs.toArray _ = Data.dict es ep from d)), d, r⟩
    have kinB : K.In (hidT st.heap H) := fun b o e => below (kin b o e) (by
      cases q : H b with
      | none => rfl
      | some u =>
        obtain ⟨z, _⟩ := only b u q
        subst z
        rw [out (by rw [q]; exact Option.some_ne_none _)] at e
        cases e)
    obtain ⟨mc, l1, l2⟩ := nol
    have md : Mod K mg (hidT st.heap H) := ⟨kinB, nsB globs, ⟨mb, nsB blts, boot⟩, mc, nsB l1, l2⟩
    have env : Env0 prg wd K mg (hidT st.heap H) callerA [] st H := ⟨rfl, md, fun b o e => of_hidT e, Nat.le_of_eq (hidT_size _ _), trivial, (fun b mem => by cases mem), hok, .of_eq nog⟩
    refine codeAny_mono ((F _ kinB (nsB globs)).go callerA [] st H ⟨[.ref a], []⟩ [.ref a] [.ref a] _ _ rfl room env (bnd st (.ref a)) (.cons rfl .nil) (wish H sq)) fun out s' got => ?_
    match out, got with
    | .error e, got =>
      obtain ⟨_, _, _, _, _, _, _, _, _, _, _, _, z⟩ := got
      exact z.elim
    | .ok .next, got => exact got.elim
    | .ok .brk, got => exact got.elim
    | .ok .cont, got => exact got.elim
    | .ok (.ret u), ⟨v, H', os, bare, un, hok', r', q⟩ =>
      have ev : v = .bl true := q
      subst ev
      cases (show u = Value.bool true from r')
      refine ⟨rfl, OldK.of_keep (fun b o e => ?_), os, bare⟩
      cases q : H b with
      | none => exact un.keep b o e q (fun z => by cases z) (fun z => by cases z)
      | some u =>
        obtain ⟨_, ob, xs, eu⟩ := only b u q
        subst eu
        have q1 := (hok b _ q).1
        have q2 := (hok' b _ (un.frzs b ob _ q)).1
        rw [e] at q1
        cases (Option.some.inj q1)
        exact q2
  cases hk : K.lookup a with
  | some o =>
    have e := kin a o hk
    rw [script] at e
    cases (Option.some.inj e)
    exact key (fun _ => none) (fun b u z => by cases (show (none : Option HO) = some u from z)) (.inr ⟨_, vs.toArray, _, hk, rfl, rfl, rfl, by rw [List.size_toArray, areInts.length]; exact short, by simpa using rel⟩) (fun b u z => by cases (show (none : Option HO) = some u from z)) (fun z => absurd rfl z)
  | none =>
    have here : ∀ {b : Addr} {u : HO}, upd (fun _ => none) a (.frz { cls := .type "list", data := .seq vs.toArray } (.lst (ns.map V.int))) b = some u → b = a ∧ u = .frz { cls := .type "list", data := .seq vs.toArray } (.lst (ns.map V.int)) := fun {b u} z => by
      by_cases hb : b = a
      · subst hb
        rw [upd_same] at z
        exact ⟨rfl, (Option.some.inj z).symm⟩
      · rw [upd_ne hb] at z
        cases z
    refine key (upd (fun _ => none) a (.frz { cls := .type "list", data := .seq vs.toArray } (.lst (ns.map V.int)))) (fun b u z => ⟨(here z).1, _, _, (here z).2⟩) (.inl (.inr ⟨_, upd_same⟩)) (fun b u z => ?_) fun _ => hk
    obtain ⟨e1, e2⟩ := here z
    subst e1
    subst e2
    exact ⟨script, by rw [List.length_map]; exact short, vs, _, rel, script⟩
end DC
namespace DL
open PySem L2 PySem.Spec PyProof.Rows
/-- the walk's end, from the law's contract -/
theorem walk_DL {l : PySem.W.OpenLaw} {n lv : Nat} {q : Program} {loose : List Str} {XP : (Str → Option Value) → Heap → Prop} {YP : World → Heap → Prop} {d : DefRec} {x : Str} {C : CD} (most : l.most = some n) (few : n ≤ sizeLine) (nodfl : d.params.defaults = []) (room : Room lv callerA)
    (F : ∀ (w : World) (mg : Str → Option Value) (fa : Addr) (h : Heap), YP w h → h.Ns mainGlobals mg → mg d.name = some (.ref fa) → ∃ (K : PySem.W.Frag) (fd : FuncData), K.In h ∧ (∀ (s : Shared) (u : Value), BindsTo s fd ⟨[u], []⟩ [(x, u)]) ∧ (∀ S, TbK K S) ∧
        ∀ bs : Heap, K.In bs → bs.Ns mainGlobals mg → DC.FnG l.prog w K mg bs (L2.CX l.prog w) lv fa fd [x] (toSp K 1 C.con))
    (wish : ∀ ns : List Int, ns.length ≤ n → (∀ z ∈ ns, Builtin.Int.intBits z ≤ 1048576) → C.c [.rol (ns.map .int)] fun o => o = .ret (.sh (.bl true))) : PySem.W.WalkO q loose XP YP l.row.toRowW d [] (fun f vs => PySem.call f vs) := by
  refine Att.attach_callB most nodfl fun w s₀ s₁ mg mb fa o pm cd doc a vs ns G Y ho hd hcd hmg hobj hints hlen hbits hg => ?_
  obtain ⟨K, fd, kin, bnd, nt, hF⟩ := F w mg fa _ Y G.T.g hmg
  refine DC.lawG kin G.T.g G.T.b G.T.builtins G.T.nolimit hg hobj hints (Nat.le_trans hlen few) room hF bnd fun H sq => ?_
  refine ⟨⟨H, H, []⟩, [.sh (.rol (ns.map .int))], rfl, fun _ _ h => .inl h, OwnL.cons (f := []) (g := []) (.sh (.rol sq ?_)) .nil, List.nodup_nil, rfl, nt _, [.rol (ns.map .int)], rfl, C.mono _ _ _ (fun o ho => ?_) (wish ns hlen hbits)⟩
  · clear hints hlen hbits sq
    induction ns with
    | nil => exact .nil
    | cons i r ih => exact .cons (.int i) ih
  · subst ho
    intro w' fp' l s ow v fr om hF nd
    cases om with
    | sh r => exact r.bl_inv
end DL

namespace DL
open PySem L2
/-! ### facts of exception classes, of a module's tuple, by a Bool each -/
def oexB (K : PySem.W.Frag) (C : Addr) : Bool := (match K.lookup C with
    | some ⟨.type "type", _, .cls cd, slots⟩ => (match cd.mro, slots.toList with
      | .ref D :: up, [_, _, _, _, some (.builtin n), _] => D == C && (n == "ValueError.__new__" && (!cd.hasDel && (cd.hasDict && PySem.HandSPX.refsVE up)))
      | _, _ => false)
    | _ => false) && (decide (PySem.W.findIn K (.ref C) "__setattr__" = some (some (.builtin "object.__setattr__"))) && (decide (PySem.W.subIn K (.ref C) (.type "BaseException") = some true) && (decide (PySem.W.typeIn K (.ref C) = some (.type "type")) && PySem.W.keepIn K (.ref C))))
theorem oexB_ok {K : PySem.W.Frag} {C : Addr} (h : oexB K C = true) : OexC K C := by
  obtain ⟨h1, h⟩ := (Bool.and_eq_true_iff.mp h)
  obtain ⟨h2, h⟩ := (Bool.and_eq_true_iff.mp h)
  obtain ⟨h3, h⟩ := Bool.and_eq_true_iff.mp h
  obtain ⟨h4, h5⟩ := Bool.and_eq_true_iff.mp h
  refine ⟨?_, of_decide_eq_true h2, of_decide_eq_true h3, of_decide_eq_true h4, h5⟩
  split at h1
  · rename_i dict cd sl at_
    split at h1
    · rename_i D up s0 s1 s2 s3 n s5 em es
      simp only [Bool.and_eq_true, beq_iff_eq, Bool.not_eq_true'] at h1
      obtain ⟨rfl, rfl, nodel, hasd, tail⟩ := h1
      obtain ⟨nm, bases, mro, space, qn, hd, sn, sub, ab, col, del⟩ := cd
      dsimp only at em nodel hasd
      subst em nodel hasd
      obtain ⟨l⟩ := sl
      simp only at es
      subst es
      exact ⟨nm, qn, space, bases, up, sn, sub, ab, col, dict, s0, s1, s2, s3, s5, at_, tail⟩
    · cases h1
  · cases h1
/-- an exception class's own __init__ -/
def iniB (K : PySem.W.Frag) (C : Addr) : Bool := decide (PySem.W.findIn K (.ref C) "__init__" = some (some (.ref (He.ma K C "__init__")))) && decide (PySem.W.typeIn K (.ref (He.ma K C "__init__")) = some (.type "function"))
theorem iniB_ok {K : PySem.W.Frag} {C : Addr} (h : iniB K C = true) : PySem.W.findIn K (.ref C) "__init__" = some (some (.ref (He.ma K C "__init__"))) ∧ PySem.W.typeIn K (.ref (He.ma K C "__init__")) = some (.type "function") := by
  obtain ⟨h1, h2⟩ := Bool.and_eq_true_iff.mp h
  exact ⟨of_decide_eq_true h1, of_decide_eq_true h2⟩
/-- a tuple of texts that stands in the written part -/
def strsB : List Value → List Str → Bool
  | [], [] => true
  | .str x _ :: r, y :: s => decide (x = y) && strsB r s
  | _, _ => false
theorem strsB_ok : ∀ {us : List Value} {xs : List Str}, strsB us xs = true → Vals (xs.map V.str) us
  | [], [], _ => .nil
  | [], _ :: _, h => by cases h
  | u :: r, [], h => by cases u <;> cases h
  | u :: r, y :: s, h => by
    cases u with
    | str x t =>
      obtain ⟨h1, h2⟩ := Bool.and_eq_true_iff.mp (show (decide (x = y) && strsB r s) = true from h)
      have e : x = y := of_decide_eq_true h1
      subst e
      exact .cons ⟨t, rfl⟩ (strsB_ok h2)
    | _ => cases h
def tupB (K : PySem.W.Frag) (x : Str) (xs : List Str) : Bool := match K.lookup (He.ga K x) with
  | some ⟨.type "tuple", _, .seq its _, _⟩ => strsB its.toList xs && decide (its.size ≤ 1000)
  | _ => false
theorem repL_strs {K : PySem.W.Frag} {S : Hp} : ∀ xs : List Str, RepL K S (xs.map .str) (xs.map .str)
  | [] => .nil
  | x :: r => .cons (.str x) (repL_strs r)
theorem tupB_ok {K : PySem.W.Frag} {x : Str} {xs : List Str} (h : tupB K x xs = true) (S : Hp) : Rep K S (.ref (He.ga K x)) (.tup (xs.map .str)) := by
  unfold tupB at h
  split at h
  · rename_i dict its n sl at_
    obtain ⟨h1, h2⟩ := Bool.and_eq_true_iff.mp h
    have z : its.size ≤ 1000 := of_decide_eq_true h2
    exact .tup (.inr ⟨_, its, n, at_, rfl, rfl, sz_of (by omega), strsB_ok h1⟩) (repL_strs xs)
  · cases h
theorem w_glob {G : Gx} {ρ : Env} {P : D → Env → Prop} {v : V} {d : D} (r : ∀ S, Rep G.K S v d) (k : P d ρ) : W G (tC v) ρ P := fun w _ _ o _ q => q _ w _ ρ k (Le.refl w) o (r w.S)
theorem room70 {k : Nat} {A : Around} (r : Room k A) : A.units + 70 < cLine := by have := r.un; omega
end DL

namespace DL
open PySem L2
section
variable {G : Gx} {ρ : Env} {t : TA} {P : D → Env → Prop} {PO : M → Env → Prop} {n i : Nat} {dvs : List V} {dds : List D} {ta te : TE} {CA : Addr} {m : Str} {PS_ : Post}
/-- calls that give data -/
theorem w_cd {C : CD} (hd : ∀ S, RepL G.K S dvs dds) (h : WA G t ρ fun ds ρ1 => (ds ++ dds).length = n ∧ C.c (ds ++ dds) fun o => match o with | .ret m => ∃ d, Frz m d ∧ P d ρ1 | .err c fs => G.er c fs ρ1) :
    W G (tCallSD (toSp G.K n C.con) dvs (fun σ cls d H => G.Wx cls d σ H) t) ρ P := w_frz (wo_cd hd h)
theorem w_md {C : CD} (hd : ∀ S, RepL G.K S dvs dds) (h : W G ta ρ fun x ρ1 => ∃ c fs, x = .obj c fs ∧ CA = clsAt G.K c ∧ fs.lookup m = none ∧ WA G t ρ1 fun ds ρ2 => (x :: (ds ++ dds)).length = n ∧
      C.c (x :: (ds ++ dds)) fun o => match o with | .ret m => ∃ d, Frz m d ∧ P d ρ2 | .err c fs => G.er c fs ρ2) : W G (DC.tMethS CA m (toSp G.K n C.con) dvs (fun σ cls d H => G.Wx cls d σ H) ta t) ρ P := w_frz (wo_md hd h)
theorem w_co {C : CO} (hd : ∀ S, RepL G.K S dvs dds) (hp : ∃ m, ρ[i]? = some (some m)) (h : WA G t ρ fun ds ρ1 => ∃ m, ρ1[i]? = some (some m) ∧ (ds ++ dds).length + 1 = n ∧
      C.c m (ds ++ dds) fun o m' => match o with | .ret a => ∃ d, Frz a d ∧ P d (ρ1.set i (some m')) | .err c fs => G.er c fs (ρ1.set i (some m'))) :
    W G (tCallSD (toSp G.K n C.con) dvs (fun σ cls d H => G.Wx cls d σ H) (tCons (tVar i) t)) ρ P := w_frz (wo_co hd hp h)
theorem w_mk {C : CO} {c : Str} (hd : ∀ S, RepL G.K S dvs dds) (h : WA G t ρ fun ds ρ1 => CA = clsAt G.K c ∧ (ds ++ dds).length + 1 = n ∧ C.c (.obj c []) (ds ++ dds) fun o m' => match o with | .ret a => a = .sh .non ∧ ∃ d, Frz m' d ∧ P d ρ1 | .err c fs => G.er c fs ρ1) :
    W G (DC.tMakeS CA (toSp G.K n C.con) dvs (fun σ cls d H => G.Wx cls d σ H) t) ρ P := w_frz (wo_mk hd h)
theorem repL_nil {K : PySem.W.Frag} : ∀ S : Hp, RepL K S [] [] := fun _ => .nil
theorem repL_int {K : PySem.W.Frag} (i : Int) : ∀ S : Hp, RepL K S [.int i] [.int i] := fun _ => .cons (.int i) .nil
/-- xs.append(e), xs a name's own list -/
theorem ws_append (hpx : ∃ m, ρ[i]? = some (some (.lst m))) (h : W G te ρ fun d ρ1 => ∃ ms, ρ1[i]? = some (some (.lst ms)) ∧ ms.length ≤ 90000 ∧ PS_.nx (ρ1.set i (some (.lst (ms ++ [.sh d]))))) (stay : ∀ w σ, Ok G w σ ρ → True := fun _ _ _ => trivial) :
    WS G (tDrop (tBM G.K "list" rAppend (tVar i) (tCons te tNil))) ρ PS_ := fun w σ D o e q => by
  obtain ⟨m0, hm0⟩ := hpx
  obtain ⟨v, fp0, w0, hv, l0, _, _, _, om0⟩ := o.takeM hm0
  refine ⟨v, hv, ?_, ?_⟩
  · cases om0 with
    | lst hS hH ol => exact .inl ⟨rfl, _, .inl (.inl hH)⟩
  refine h w σ _ o e fun u w1 d ρ1 ⟨ms, hi, hl, p⟩ l1 o1 r1 => ?_
  obtain ⟨v', fp, w2, hv', l2, eS, eH, o2, om⟩ := o1.takeM hi
  obtain rfl : v' = v := by
    rw [hv] at hv'
    exact (Option.some.inj (Option.some.inj hv')).symm
  have hil : i < ρ1.length := (List.getElem?_eq_some_iff.mp hi).1
  have ndf := o2.nodupFx
  cases om with
  | @lst a vs _ fp1 hS hH ol =>
    have nd1 := List.nodup_cons.mp ndf
    refine ⟨a, vs, u, rfl, rfl, hH, by rw [ol.len]; exact Nat.lt_of_le_of_lt hl (by decide), ?_⟩
    obtain ⟨w3, l3, eS3, eH3, o3⟩ := OkE.write (a := a) (ob := .lst (vs ++ [u])) (fp' := (a :: fp1) ++ []) o2 List.mem_cons_self (by rw [eS]; exact hS) (fun x hx => by rw [List.append_nil] at hx; exact hx) (by rw [List.append_nil]; exact ndf)
    have own : OwnR G.K w3.S w3.H (.ref a) (.lst (ms ++ [.sh d])) (a :: fp1) := by
      rw [eS3, eH3, eS, eH]
      refine .lst hS upd_same ?_
      have k1 : OwnL G.K w1.S (upd w1.H a (.lst (vs ++ [u]))) vs ms fp1 := ol.keep (Ex.refl _) (fun x hx => (ol.at_ x hx).1) fun x hx ob ho => by
        rw [upd_ne (fun z : x = a => nd1.1 (by rw [← z]; exact hx))]
        exact .inl ho
      have app : ∀ {vs : List V} {ms : List M} {fp : List Addr} {S H : Hp}, OwnL G.K S H vs ms fp → Rep G.K S u d → OwnL G.K S H (vs ++ [u]) (ms ++ [.sh d]) fp := by
        intro vs ms fp S H k r
        induction vs generalizing ms fp with
        | nil =>
          cases k
          exact OwnL.cons (f := []) (g := []) (.sh r) .nil
        | cons b vs ih =>
          cases k with
          | cons k1 k2 => exact .cons k1 (ih k2)
      exact app k1 r1
    obtain ⟨w4, l4, eS4, eH4, o4⟩ := OkE.putBack (fr := []) o3 hv own hil
    have z := q.nx w4 σ _ p (((l1.trans l2).trans l3).trans l4) o4
    rw [eH4, eH3, eH] at z
    exact z
/-- len(xs), xs a name's own list -/
theorem w_lenO {ms : List M} (hm : ρ[i]? = some (some (.lst ms))) (k : P (.int ms.length) ρ) : W G (tCB (fun xs H Q => ∃ x n, xs = [x] ∧ LenV G.K x H n ∧ Q (.int n) H) (tCons (tVar i) tNil)) ρ P := fun w σ Q o e q => by
  obtain ⟨v, fp, w0, hv, _, _, _, _, om⟩ := o.takeM hm
  refine ⟨v, hv, ?_⟩
  cases om with
  | @lst a vs _ _ hS hH ol => exact ⟨_, ms.length, rfl, .inl ⟨vs, .inl (.inl hH), ol.len.symm⟩, q _ w _ ρ k (Le.refl w) o (.int _)⟩
end
theorem FrzL.shs {ds : List D} : Frz (.lst (ds.map .sh)) (.lst ds) := frz_lst

/-! ### an if at the data -/
theorem if_dec {p : Prop} [Decidable p] {A B : Prop} (h : p → A) (h' : ¬ p → B) : if decide p = true then A else B := by
  by_cases q : p
  · rw [decide_eq_true q, if_pos rfl]
    exact h q
  · rw [decide_eq_false q, if_neg Bool.false_ne_true]
    exact h' q
theorem if_ndec {p : Prop} [Decidable p] {A B : Prop} (h : ¬ p → A) (h' : p → B) : if (!decide p) = true then A else B := by
  by_cases q : p
  · rw [decide_eq_true q]
    exact h' q
  · rw [decide_eq_false q]
    exact h q
theorem if_b {b : Bool} {A B : Prop} (h : b = true → A) (h' : b = false → B) : if b = true then A else B := by
  cases b with
  | true => exact h rfl
  | false => exact h' rfl
theorem if_nb {b : Bool} {A B : Prop} (h : b = false → A) (h' : b = true → B) : if (!b) = true then A else B := by
  cases b with
  | true => exact h' rfl
  | false => exact h rfl
/-! ### signs of a text -/
theorem wi_str {G : Gx} {ρ : Env} {te : TE} {P : List D → Env → Prop} (h : W G te ρ fun x ρ1 => ∃ a, x = .str a ∧ P (a.cps.toList.map fun c => .str ⟨#[c]⟩) ρ1) : WI G (iStr te) ρ P := fun w σ R o e q =>
  h w σ _ o e fun v w1 x ρ1 ⟨a, ex, p⟩ l1 o1 r1 => by
    subst ex
    refine ⟨a, r1.str_inv, q _ w1 _ ρ1 p l1 o1 fun w2 _ s2 => ⟨fun i d hd => ?_, by
      show a.cps.size ≤ (a.cps.toList.map fun c => D.str ⟨#[c]⟩).length
      (rw [List.length_map, Array.length_toList])
      exact Nat.le_refl _⟩⟩
    rw [List.getElem?_map] at hd
    cases e1 : a.cps.toList[i]? with
    | none =>
      rw [e1] at hd
      cases hd
    | some c =>
      rw [e1] at hd
      have ed := Option.some.inj hd
      subst ed
      rw [Array.getElem?_toList] at e1
      refine ⟨(Array.getElem?_eq_some_iff.mp e1).1, fun x H' ⟨eH, c', e2, ex⟩ => ⟨w2, eH.symm, LeP.refl w2, s2, ?_⟩⟩
      rw [e1] at e2
      cases (Option.some.inj e2)
      subst ex
      exact .str _
/-! ### in, not in -/
def D.flat : D → Bool
  | .non => true
  | .bl _ => true
  | .int _ => true
  | .str _ => true
  | _ => false
def dEq : D → D → Bool
  | .non, .non => true
  | .bl a, .bl b => a == b
  | .bl truth, .int b => (if truth then 1 else 0) == b
  | .int a, .bl truth => a == (if truth then 1 else 0)
  | .int a, .int b => a == b
  | .str a, .str b => a == b
  | _, _ => false
theorem Rep.flat_eq {K : PySem.W.Frag} {S : Hp} {v u : V} {x y : D} (r : Rep K S v x) (fx : x.flat = true) (q : Rep K S u y) (fy : y.flat = true) : flatV v = true ∧ eqV v u = dEq x y := by
  cases x <;> first | cases fx | skip
  all_goals cases y <;> first | cases fy | skip
  all_goals cases r
  all_goals cases q
  all_goals exact ⟨rfl, rfl⟩
theorem RepL.flats {K : PySem.W.Frag} {S : Hp} {u : V} {y : D} (q : Rep K S u y) (fy : y.flat = true) : ∀ {vs : List V} {ds : List D}, RepL K S vs ds → ds.all D.flat = true → vs.all flatV = true ∧ inV u vs = ds.any fun z => dEq z y
  | _, _, .nil, _ => ⟨rfl, rfl⟩
  | v :: vs, d :: ds, .cons r1 r2, h => by
    (rw [List.all_cons, Bool.and_eq_true] at h)
    obtain ⟨a1, a2⟩ := RepL.flats q fy r2 h.2
    obtain ⟨b1, b2⟩ := r1.flat_eq h.1 q fy
    unfold inV at a2 ⊢
    rw [List.all_cons, List.any_cons, List.any_cons, b1, a1, b2, a2]
    exact ⟨rfl, rfl⟩
section
variable {K : PySem.W.Frag} {k : D → Prop} {x y : D} {ys : List D}
theorem rd_in (hy : IsL y ys ∨ y = .tup ys) (fx : x.flat = true) (fys : ys.all D.flat = true) (p : k (.bl (ys.any fun z => dEq z x))) : RD K (gIn K) x y k := RD.l fun w v u Q s rx ry q => by
  have z : ∃ p vs, u = .ref p ∧ (SqL K w.H p vs ∨ SqT K w.H p vs) ∧ RepL K w.S vs ys := by
    rcases hy with hy | hy
    · obtain ⟨l, vs, e, h1, r1⟩ := Rep.isL_inv hy ry
      exact ⟨l, vs, e, .inl (s.sl h1), r1⟩
    · subst hy
      obtain ⟨l, vs, e, h1, r1⟩ := ry.tup_inv
      exact ⟨l, vs, e, .inr (s.st h1), r1⟩
  obtain ⟨l, vs, eu, h1, r1⟩ := z
  obtain ⟨a1, a2⟩ := RepL.flats rx fx r1 fys
  refine ⟨l, vs, eu, h1, (rx.flat_eq fx rx fx).1, a1, ?_⟩
  show Q (.bl (if false = true then !inV v vs else inV v vs)) w.H
  rw [if_neg Bool.false_ne_true, a2]
  exact q _ w _ p (LeP.refl w) s (.bl _)
theorem rd_ni (hy : IsL y ys ∨ y = .tup ys) (fx : x.flat = true) (fys : ys.all D.flat = true) (p : k (.bl (!ys.any fun z => dEq z x))) : RD K (gNi K) x y k := RD.l fun w v u Q s rx ry q => by
  have z : ∃ p vs, u = .ref p ∧ (SqL K w.H p vs ∨ SqT K w.H p vs) ∧ RepL K w.S vs ys := by
    rcases hy with hy | hy
    · obtain ⟨l, vs, e, h1, r1⟩ := Rep.isL_inv hy ry
      exact ⟨l, vs, e, .inl (s.sl h1), r1⟩
    · subst hy
      obtain ⟨l, vs, e, h1, r1⟩ := ry.tup_inv
      exact ⟨l, vs, e, .inr (s.st h1), r1⟩
  obtain ⟨l, vs, eu, h1, r1⟩ := z
  obtain ⟨a1, a2⟩ := RepL.flats rx fx r1 fys
  refine ⟨l, vs, eu, h1, (rx.flat_eq fx rx fx).1, a1, ?_⟩
  show Q (.bl (if true = true then !inV v vs else inV v vs)) w.H
  rw [if_pos rfl, a2]
  exact q _ w _ p (LeP.refl w) s (.bl _)
end
section
variable {X : Cx}
def rGetL (K : PySem.W.Frag) : V → V → Hp → VK → Prop := fun x y H Q => ∃ p xs i v, x = .ref p ∧ y = .int i ∧ SqL K H p xs ∧ 0 ≤ i ∧ i < 2 ^ 62 ∧ xs[i.toNat]? = some v ∧ Q v H
theorem get_list : PGet X (rGetL X.K) := by
  intro pins s σ H x y xv yv Q I rx ry ⟨p, xs, i, v, ex, ey, hq, h0, h1, hv, q⟩
  subst ex
  subst ey
  cases rx
  obtain ⟨t, rfl⟩ := ry
  obtain ⟨its, r, pl, _⟩ := I.list hq
  obtain ⟨w, ew, rw'⟩ := r.get hv
  exact wpAny_getItem_list pl.isList h0 (by omega) (by simpa using ew) ⟨v, H, I, rw', q⟩
end
end DL

namespace DL
open PySem L2
section
variable {K : PySem.W.Frag} {k : D → Prop} {i j : Int} {x y : D} {a b : Str}
theorem rd_eqI (p : k (.bl (decide (i = j)))) : RD K (rEqD K) (.int i) (.int j) k := rd_eqD rfl rfl rfl rfl (by
  have e : PyData.eqv (.int i) (.int j) = decide (i = j) := by
    show (i == j) = _
    rw [Bool.eq_iff_iff]
    simp
  rw [e]
  exact p)
theorem rd_neI (p : k (.bl (!decide (i = j)))) : RD K (rNeD K) (.int i) (.int j) k := rd_neD rfl rfl rfl rfl (by
  have e : PyData.eqv (.int i) (.int j) = decide (i = j) := by
    show (i == j) = _
    rw [Bool.eq_iff_iff]
    simp
  rw [e]
  exact p)
end
theorem bind_all {K : PySem.W.Frag} {fd : FuncData} {ps : List Str} {dvs : List V} (h : ∃ ds, Vals (dvs.drop dvs.length) ds ∧ L2.Binds K fd ps ds) : L2.Binds K fd ps [] := by
  obtain ⟨ds, v, b⟩ := h
  rw [List.drop_length] at v
  cases v
  exact b
def isI : D → Bool
  | .int _ => true
  | .bl _ => true
  | _ => false
def isB : D → Bool
  | .bl _ => true
  | _ => false
def isS : D → Bool
  | .str _ => true
  | _ => false
def isT : D → Bool
  | .tup _ => true
  | _ => false
def isLs : D → Bool
  | .lst _ => true
  | _ => false
def isDc : D → Bool
  | .dic _ => true
  | _ => false
section
variable {K : PySem.W.Frag} {k : D → Prop} {x : D}
theorem rc_isInt (t : ∃ m, TyB x m) (p : k (.bl (isI x))) : RC K (rIsi K) [x, .ty "int"] k := by
  obtain ⟨m, t⟩ := t
  cases t <;> first | exact rc_isi (b := true) (by constructor) (by decide +kernel) p | exact rc_isi (b := false) (by constructor) (by decide +kernel) p
theorem rc_isBool (t : ∃ m, TyB x m) (p : k (.bl (isB x))) : RC K (rIsi K) [x, .ty "bool"] k := by
  obtain ⟨m, t⟩ := t
  cases t <;> first | exact rc_isi (b := true) (by constructor) (by decide +kernel) p | exact rc_isi (b := false) (by constructor) (by decide +kernel) p
theorem rc_isStr (t : ∃ m, TyB x m) (p : k (.bl (isS x))) : RC K (rIsi K) [x, .ty "str"] k := by
  obtain ⟨m, t⟩ := t
  cases t <;> first | exact rc_isi (b := true) (by constructor) (by decide +kernel) p | exact rc_isi (b := false) (by constructor) (by decide +kernel) p
theorem rc_isTuple (t : ∃ m, TyB x m) (p : k (.bl (isT x))) : RC K (rIsi K) [x, .ty "tuple"] k := by
  obtain ⟨m, t⟩ := t
  cases t <;> first | exact rc_isi (b := true) (by constructor) (by decide +kernel) p | exact rc_isi (b := false) (by constructor) (by decide +kernel) p
theorem rc_isList (t : ∃ m, TyB x m) (p : k (.bl (isLs x))) : RC K (rIsi K) [x, .ty "list"] k := by
  obtain ⟨m, t⟩ := t
  cases t <;> first | exact rc_isi (b := true) (by constructor) (by decide +kernel) p | exact rc_isi (b := false) (by constructor) (by decide +kernel) p
theorem rc_isDict (t : ∃ m, TyB x m) (p : k (.bl (isDc x))) : RC K (rIsi K) [x, .ty "dict"] k := by
  obtain ⟨m, t⟩ := t
  cases t <;> first | exact rc_isi (b := true) (by constructor) (by decide +kernel) p | exact rc_isi (b := false) (by constructor) (by decide +kernel) p
end
theorem wt_yes {G : Gx} {ρ : Env} {PT : Bool → Env → Prop} (k : PT true ρ) : WT G tYes ρ PT := fun w _ _ o _ q => q true w ρ k (Le.refl w) o
theorem w_globI {G : Gx} {ρ : Env} {P : D → Env → Prop} {i : Int} (k : P (.int i) ρ) : W G (tC (.int i)) ρ P := w_int k
theorem ru_neg {K : PySem.W.Frag} {i : Int} {k : D → Prop} (p : k (.int (-i))) : RU K (rU fun i => .int (-i)) (.int i) k := fun w v Q s r q => by
  obtain rfl := r.int_inv
  exact ⟨i, rfl, q _ w _ p (LeP.refl w) s (.int _)⟩
theorem bind_all0 {K : PySem.W.Frag} {fd : FuncData} {ps : List Str} (h : ∃ ds, Vals [] ds ∧ L2.Binds K fd ps ds) : L2.Binds K fd ps [] := by
  obtain ⟨ds, v, b⟩ := h
  cases v
  exact b
section
variable {G : Gx} {P : Post} {c : Str} {fs : List (Str × D)} {ρ : Env} {cv : Value} {n : Option Nat} {i : Nat} {ts : DC.Suite} {more : List DC.Clause}
theorem clD_no (h : PySem.W.exmOne G.K (.ref (clsAt G.K c)) cv = some false) (k : clD G P more c fs ρ) : clD G P ((cv, n, ts) :: more) c fs ρ := by
  cases n with
  | none => exact ⟨false, h, by rw [if_neg Bool.false_ne_true]; exact k⟩
  | some i => exact ⟨false, h, by rw [if_neg Bool.false_ne_true]; exact k⟩
theorem clD_yes (h : PySem.W.exmOne G.K (.ref (clsAt G.K c)) cv = some true) (k : ∀ a ob d pn, WS G.nox (ts a ob (.ref (clsAt G.K c)) d pn) ρ P) : clD G P ((cv, none, ts) :: more) c fs ρ := ⟨true, h, by rw [if_pos rfl]; exact k⟩
theorem clD_as (h : PySem.W.exmOne G.K (.ref (clsAt G.K c)) cv = some true) (hf : fs ≠ []) (hi : i ∉ G.px) (k : ∀ a ob dd pn, WS G.nox (ts a ob (.ref (clsAt G.K c)) (some dd) pn) (ρ.set i (some (.sh (.exc a dd c fs))))
      { nx := fun ρ => P.nx (ρ.set i none), rt := P.rt, bk := fun ρ => P.bk (ρ.set i none), ct := fun ρ => P.ct (ρ.set i none) }) : clD G P ((cv, some i, ts) :: more) c fs ρ := ⟨true, h, by rw [if_pos rfl]; exact ⟨hf, hi, k⟩⟩
end
end DL

namespace DL
open PySem L2
/-! ### the same rules with K named (within a comprehension) -/
section
variable {X : Cx} {K : PySem.W.Frag}
theorem o_addK (hk : X.K = K) : OpR X (binaryOp .Add) (gAdd K) := hk ▸ o_add
theorem o_inK (hk : X.K = K) : OpR X (compareOp .In) (gIn K) := hk ▸ o_in
theorem o_notInK (hk : X.K = K) : OpR X (compareOp .NotIn) (gNi K) := hk ▸ o_notIn
theorem o_eqK (hk : X.K = K) (hu : X.A.units + 64 < cLine) : OpR X (compareOp .Eq) (rEqD K) := hk ▸ op_eqD hu
theorem o_neK (hk : X.K = K) (hu : X.A.units + 64 < cLine) : OpR X (compareOp .NotEq) (rNeD K) := hk ▸ op_neD hu
theorem o_ixK (hk : X.K = K) : IxR X (rIx K) := hk ▸ ix_seq
theorem o_slK (hk : X.K = K) : SlR X (gSl K) := hk ▸ o_sl
theorem pe_fldK {e : Expr} {f : Str} {ta : TE} {pos : Pos} (hk : X.K = K) (he : PE X e ta) (hb : attributeBase e f X.env (eval e X.env) = eval e X.env) : PE X (.Attribute e f pos) (tFld K ta f) := hk ▸ pe_fld he hb
end
/-- {} -/
theorem w_dnew {G : Gx} {ρ : Env} {P : D → Env → Prop} (k : P (.dic []) ρ) : W G tDNewK ρ P := fun w σ Q o e q p hp => by
  have l := Wd.le_add (o := .dK []) o.sub hp
  have s := Wd.sub_add (p := p) (o := .dK []) o.sub hp
  exact q (.ref p) (w.add p (.dK [])) _ ρ k l.le (o.grow l s) (.dic (.inl upd_same) .nil)
/-- a younger state counts as an older one -/
theorem exP.up {n k : Nat} {m : M} (h : exP n m) (l : n ≤ k) : exP k m := by
  obtain ⟨bs, cs, i, e, h1, h2, r⟩ := h
  exact ⟨bs, cs, i, e, h1, by omega, r⟩
/-- a display whose first item is new -/
theorem wo_lst1 {G : Gx} {ρ : Env} {ta : TE} {tr : TA} {PO : M → Env → Prop} (h : WO G ta ρ fun m ρ1 => WA G tr ρ1 fun ds ρ2 => ds.length ≤ 1000 ∧ PO (.lst (m :: ds.map .sh)) ρ2) : WO G (tLst (tCons ta tr)) ρ PO := fun w σ Q o e q =>
  h w σ _ o e fun v w1 m ρ1 fp h1 l1 o1 r1 => by
    obtain ⟨fps, e1, ef⟩ := o1.env
    have nd := o1.nd
    rw [ef] at nd
    obtain ⟨n1, n2, n3⟩ := List.nodup_append.mp nd
    have o1' : Ok G (w1.less fps.flatten) σ ρ1 := ⟨o1.sub, ⟨fps, e1, by show fps.flatten = _; rw [List.append_nil]⟩, n1, o1.px⟩
    have lw : Le w1 (w1.less fps.flatten) := Wd.le_less fun x hx => by rw [ef]; exact List.mem_append_left _ hx
    refine h1 (w1.less fps.flatten) σ _ o1' (e.later (l1.trans lw)) fun vs w2 ds ρ2 ⟨hl, p⟩ l2 o2 r2 => ⟨sz_of (by rw [List.length_cons, r2.len]; omega), fun a ha => ?_⟩
    have at1 := r1.at_
    have nf : ∀ x ∈ fp, x ∉ fps.flatten := fun x hx z => n3 x z x hx rfl
    -- what the first item owns stands
    have keepH : ∀ x ∈ fp, ∀ u, w1.H x = some u → Keeps u (w2.H x) := fun x hx u hu => l2.h x u hu (nf x hx)
    have keepS : ∀ x ∈ fp, w2.S x = none := fun x hx => l2.n x (at1 x hx).2 (nf x hx) (at1 x hx).1
    have own2 : OwnR G.K w2.S w2.H v m fp := r1.keep l2.s keepS keepH
    have nf2 : ∀ x ∈ fp, x ∉ w2.F := fun x hx z => by
      rcases l2.f x z with z | z
      · exact nf x hx z
      · exact (at1 x hx).2 z
    have hfp : ∀ x ∈ fp, w2.H x ≠ none := fun x hx z => by
      cases q1 : w1.H x with
      | none => exact (at1 x hx).2 q1
      | some u => exact (keepH x hx u q1).ex z
    obtain ⟨fps2, e2, ef2⟩ := o2.env
    have at2 := e2.at_
    have ne : ∀ x, w2.H x ≠ none → x ≠ a := fun x hx z => hx (z ▸ ha)
    have kp : ∀ x u, w2.H x = some u → upd w2.H a (.lst (v :: vs)) x = some u := fun x u hx => by
      rw [upd_ne (ne x (by rw [hx]; exact Option.some_ne_none _))]
      exact hx
    have f2 : w2.F = fps2.flatten := by rw [ef2, List.append_nil]
    refine q (.ref a) ⟨w2.S, upd w2.H a (.lst (v :: vs)), fps2.flatten ++ (a :: fp)⟩ _ ρ2 (a :: fp) p ?_ ?_ ?_
    · have l12 := l1.trans (lw.trans l2)
      refine ⟨l12.s, fun x u hx hn => (l12.h x u hx hn).next fun y hy => .inl (kp x y hy), l12.n, fun x hx => ?_⟩
      rcases List.mem_append.mp hx with z | z
      · exact l12.f x (by rw [f2]; exact z)
      · rcases (List.mem_cons.mp z) with z | z
        · subst z
          by_cases hF : x ∈ w.F
          · exact .inl hF
          · refine .inr ?_
            cases q1 : w.H x with
            | none => rfl
            | some u => exact absurd ha (l12.h x u q1 hF).ex
        · exact l1.f x (by rw [ef]; exact List.mem_append_right _ z)
    · refine ⟨fun x u hx => ?_, ⟨fps2, e2.keep (Ex.refl _) (fun x hx => (at2 x hx).1) (fun x _ u hu => (.inl (kp x u hu))), rfl⟩, ?_, o2.px⟩
      · exact (o2.sub x u hx).imp fun y hy => kp x y hy
      · have nd2 := o2.nd
        rw [f2] at nd2
        refine List.nodup_append.mpr ⟨nd2, List.nodup_cons.mpr ⟨fun z => hfp a z ha, n2⟩, fun x hx y hy z => ?_⟩
        subst z
        rcases List.mem_cons.mp hy with z | z
        · exact (at2 x hx).2 (by rw [z]; exact ha)
        · exact nf2 x z (by rw [f2]; exact hx)
    · refine .lst (o2.sub.free ha) upd_same ?_
      have z : OwnL G.K w2.S (upd w2.H a (.lst (v :: vs))) (v :: vs) (m :: ds.map .sh) (fp ++ []) := .cons (own2.keep (Ex.refl _) keepS fun x hx u hu => (.inl (kp x u hu))) (ownL_of r2)
      rw [List.append_nil] at z
      exact z
theorem wo_ex {G : Gx} {ρ : Env} {te : TE} {PO : M → Env → Prop} {k : Nat} (h : WO G te ρ fun m ρ1 => exP k m ∧ PO (.ex k) ρ1) : WO G te ρ PO := fun w σ Q o e q =>
  h w σ Q o e fun v w1 m ρ1 fp ⟨hx, p⟩ l1 o1 r1 => q v w1 (.ex k) ρ1 fp p l1 o1 (.ex hx r1)
theorem w_join {G : Gx} {ρ : Env} {to te : TE} {P : D → Env → Prop} (h : W G to ρ fun x ρ1 => ∃ a, x = .str a ∧ W G te ρ1 fun y ρ2 => ∃ ys : List Str, IsL y (ys.map .str) ∧ (ys.map (·.length)).sum + ys.length * a.length ≤ 16777216 ∧ P (.str (Txt.join a ys)) ρ2) :
    W G (tM1 (fun x xs H Q => ∃ a p, ∃ ys : List Str, x = .str a ∧ xs = [.ref p] ∧ (SqL G.K H p (ys.map V.str) ∨ SqT G.K H p (ys.map V.str)) ∧ (ys.map (·.length)).sum + ys.length * a.length ≤ 16777216 ∧ Q (.str (Txt.join a ys)) H) to te) ρ P := fun w σ Q o e q =>
  h w σ _ o e fun v w1 x ρ1 ⟨a, ex, h1⟩ l1 o1 r1 => by
    subst ex
    obtain rfl := r1.str_inv
    refine ⟨⟨a, rfl⟩, h1 w1 σ _ o1 (e.later l1) fun u w2 y ρ2 ⟨ys, hy, hz, p⟩ l2 o2 r2 => ?_⟩
    obtain ⟨l, vs, rfl, h2, r3⟩ := Rep.isL_inv hy r2
    rw [r3.strs] at h2
    exact ⟨a, l, ys, rfl, rfl, .inl (o2.sub.sl h2), hz, q _ w2 _ ρ2 p (l1.trans l2) o2 (.str _)⟩
end DL

namespace DC
open PySem L2 PySem.Spec PyProof.Rows
/-- list(s), sign by sign -/
def rListS : List V → Hp → VK → Prop := fun xs H Q => ∃ a : Str, xs = [.str a] ∧ a.cps.size ≤ sizeLine ∧ ∀ l, H l = none → Q (.ref l) (upd H l (.lst (a.cps.toList.map fun c => .str ⟨#[c]⟩)))
theorem vals_signs {a : Str} {acc : List Value} (hl : acc.length = a.cps.toList.length) (h : ∀ (i : Nat) (c : Nat), a.cps.toList[i]? = some c → ∃ t : Tok, acc[i]? = some (Value.str ⟨#[c]⟩ t)) : Vals (a.cps.toList.map fun c => V.str ⟨#[c]⟩) acc := by
  generalize a.cps.toList = l at hl h
  induction (l) generalizing acc with
  | nil =>
    cases acc with
    | nil => exact .nil
    | cons _ _ => simp at hl
  | cons c r ih =>
    cases acc with
    | nil => simp at hl
    | cons v vs =>
      obtain ⟨t, ht⟩ := h 0 c rfl
      refine .cons ⟨t, by simpa using ht⟩ (ih (by simpa using hl) fun i d hd => ?_)
      obtain ⟨t, ht⟩ := h (i + 1) d (by simpa using hd)
      exact ⟨t, by simpa using ht⟩
theorem call_listS {X : Cx} (hc : X.calm = true) : CallR X (.type "list") rListS := by
  intro pins s σ H xs us Q J rel ⟨a, ex, sz, q⟩
  subst ex
  obtain ⟨u, rfl, t, rfl⟩ := vals1 rel
  refine call_list_str (J.ok.hd hc) a t (fun h' tk acc c keep at_ items => ?_) sz
  have v : Vals (a.cps.toList.map fun c => V.str ⟨#[c]⟩) acc.toList := by
    obtain ⟨n, each⟩ := items
    refine vals_signs (by rw [Array.length_toList, Array.length_toList, n]) fun i ch hi => ?_
    have hlt : i < acc.size := by
      rw [n]
      have z := (List.getElem?_eq_some_iff.mp hi).1
      rw [Array.length_toList] at z
      exact z
    obtain ⟨c', u', e1, e2⟩ := each i acc[i] (Array.getElem?_eq_getElem hlt)
    (rw [Array.getElem?_toList] at hi)
    rw [hi] at e1
    cases (Option.some.inj e1)
    exact ⟨u', by rw [Array.getElem?_toList, Array.getElem?_eq_getElem hlt, e2]⟩
  have I2 := J.laid (t' := tk) (o := .lst (a.cps.toList.map fun c => V.str ⟨#[c]⟩)) (h' := h') keep (Nat.le_refl _) (show ObjOk X.prog X.w _ h' _ (.lst _) from ⟨by rw [List.length_map, Array.length_toList]; exact sz, acc.toList, c, v, at_⟩)
  exact ⟨.ref _, _, I2, rfl, q _ (J.hok.fresh (Nat.le_refl _))⟩
end DC
namespace DL
open PySem L2
def gList (K : PySem.W.Frag) : List V → Hp → VK → Prop := fun xs H Q => (fun xs H Q => ∃ p ys, xs = [.ref p] ∧ (SqL K H p ys ∨ SqT K H p ys) ∧ ∀ l, H l = none → Q (.ref l) (upd H l (.lst ys))) xs H Q ∨ DC.rListS xs H Q
theorem o_list {X : Cx} (hc : X.calm = true) : CallR X (.type "list") (gList X.K) := call_list_of.or (DC.call_listS hc)
theorem rc_listL {K : PySem.W.Frag} {k : D → Prop} {x : D} {xs : List D} (hx : IsL x xs) (p : k (.lst xs)) : RC K (gList K) [x] k := fun w vs Q s r q => .inl (rc_list hx p w vs Q s r q)
theorem rc_listS {K : PySem.W.Frag} {k : D → Prop} {a : Str} (h : a.length ≤ 100000) (p : k (.lst (a.cps.toList.map fun c => .str ⟨#[c]⟩))) : RC K (gList K) [.str a] k := fun w vs Q s r q => by
  obtain ⟨v, rfl, r1⟩ := r.one
  obtain rfl := r1.str_inv
  refine .inr ⟨a, rfl, sz_of h, fun l hl => ?_⟩
  have rep : RepL K w.S (a.cps.toList.map fun c => V.str ⟨#[c]⟩) (a.cps.toList.map fun c => D.str ⟨#[c]⟩) := by
    generalize a.cps.toList = l
    induction l with
    | nil => exact .nil
    | cons c r ih => exact .cons (.str _) ih
  obtain ⟨a1, a2, a3⟩ := Wd.repNew s hl rep
  exact q _ _ _ p a1 a2 a3
end DL

namespace DL
open PySem L2
/-! ### the draw state of the laws: a list of the digits that are left, the cells, a count -/
def StM (bl cs : List Int) (k : Int) : M := .lst [.lst (bl.map fun i => .sh (.int i)), .sh (.lst (cs.map .int)), .sh (.int k)]
section
variable {K : PySem.W.Frag} {S H : Hp}
theorem ownL_ints : ∀ {vs : List V} {bl : List Int} {fp : List Addr}, OwnL K S H vs (bl.map fun i => M.sh (.int i)) fp → vs = bl.map .int ∧ fp = []
  | _, [], _, .nil => ⟨rfl, rfl⟩
  | _, _ :: _, _, .cons (.sh r) q => by
    obtain ⟨h1, h2⟩ := ownL_ints q
    subst h1
    subst h2
    exact ⟨by rw [r.int_inv]; rfl, rfl⟩
theorem ints_ownL : ∀ bl : List Int, OwnL K S H (bl.map .int) (bl.map fun i => M.sh (.int i)) []
  | [] => .nil
  | b :: r => OwnL.cons (f := []) (g := []) (.sh (.int b)) (ints_ownL r)
structure StA (K : PySem.W.Frag) (S H : Hp) (a a0 : Addr) (v1 : V) (bl cs : List Int) (k : Int) : Prop where
  sa : S a = none
  sb : S a0 = none
  ha : H a = some (.lst [.ref a0, v1, .int k])
  hb : H a0 = some (.lst (bl.map .int))
  rc : Rep K S v1 (.lst (cs.map .int))
theorem st_inv {v : V} {bl cs : List Int} {k : Int} {fp : List Addr} (o : OwnR K S H v (StM bl cs k) fp) : ∃ a a0 v1, v = .ref a ∧ fp = [a, a0] ∧ StA K S H a a0 v1 bl cs k := by
  unfold StM at o
  cases o with
  | @lst a _ _ _ h1 h2 r =>
    cases r with
    | cons o1 r =>
      cases o1 with
      | @lst a0 _ _ _ h3 h4 r0 =>
        obtain ⟨e1, e2⟩ := ownL_ints r0
        subst e1
        subst e2
        cases r with
        | cons o2 r =>
          cases o2 with
          | sh r2 =>
            cases r with
            | cons o3 r =>
              cases o3 with
              | sh r3 =>
                cases r
                rw [r3.int_inv] at h2
                exact ⟨a, a0, _, rfl, rfl, h1, h3, h2, h4, r2⟩
theorem st_mk {a a0 : Addr} {v1 : V} {bl cs : List Int} {k : Int} (s : StA K S H a a0 v1 bl cs k) : OwnR K S H (.ref a) (StM bl cs k) [a, a0] :=
  .lst s.sa s.ha (OwnL.cons (f := [a0]) (g := []) (.lst s.sb s.hb (ints_ownL bl)) (OwnL.cons (f := []) (g := []) (.sh s.rc) (OwnL.cons (f := []) (g := []) (.sh (.int k)) .nil)))
end
theorem exP.st {n : Nat} {m : M} (h : exP n m) : ∃ bl cs k, m = StM bl cs k ∧ 0 ≤ k ∧ k ≤ n ∧ cs ≠ [] ∧ cs.length ≤ 64 ∧ bl.length ≤ 63 ∧ (∀ b ∈ bl, 0 ≤ b) ∧ (∀ b ∈ bl, Builtin.Int.intBits b ≤ 1048576) ∧ ∀ c ∈ cs, Builtin.Int.intBits c ≤ 1048576 := h
section
variable {G : Gx} {ρ : Env} {P : D → Env → Prop} {PS_ : Post} {i : Nat} {bl cs : List Int} {k j : Int} {te : TE}
/-- a name's own tree under its seal, opened | sealed -/
theorem ws_open {t : TS} {n : Nat} (h0 : ρ[i]? = some (some (.ex n))) (h : ∀ m, exP n m → WS G t (ρ.set i (some m)) PS_) : WS G t ρ PS_ := fun w σ D o e q => by
  obtain ⟨v, fp, w1, h1, l1, hS, hH, o1, r1⟩ := o.takeM h0
  have hil : i < ρ.length := (List.getElem?_eq_some_iff.mp h0).1
  cases r1 with
  | @ex _ _ m _ hx r =>
    obtain ⟨w2, l2, hS2, hH2, o2⟩ := OkE.putBack (fp := fp) (fr := []) (by rw [List.append_nil]; exact o1) h1 (by rw [hS, hH]; exact r) hil
    have z := h m hx w2 σ D o2 (e.later (l1.trans l2)) (q.later (l1.trans l2))
    rw [hH2, hH] at z
    exact z
theorem w_seal {n : Nat} (h : W G te ρ fun d ρ1 => ∃ m, ρ1[i]? = some (some m) ∧ exP n m ∧ P d (ρ1.set i (some (.ex n)))) : W G te ρ P := fun w σ Q o e q =>
  h w σ Q o e fun v w1 d ρ1 ⟨m, hm, hx, p⟩ l1 o1 r1 => by
    obtain ⟨u, fp, w2, h1, l2, hS, hH, o2, om⟩ := o1.takeM hm
    have hil : i < ρ1.length := (List.getElem?_eq_some_iff.mp hm).1
    obtain ⟨w3, l3, hS3, hH3, o3⟩ := OkE.putBack (m := .ex n) (fp := fp) (fr := []) (by rw [List.append_nil]; exact o2) h1 (.ex hx (by rw [hS, hH]; exact om)) hil
    have z := q v w3 d _ p ((l1.trans l2).trans l3) o3 (by rw [hS3, hS]; exact r1)
    rw [hH3, hH] at z
    exact z
/-- what is read of it -/
theorem w_st {j : Int} {d : D} (h0 : ρ[i]? = some (some (StM bl cs k))) (hj : (j = 1 ∧ d = .lst (cs.map .int)) ∨ (j = 2 ∧ d = .int k)) (p : P d ρ) : W G (tOp (rIx G.K) (tVar i) (tC (.int j))) ρ P := fun w σ Q o e q => by
  obtain ⟨v, fp, w1, h1, l1, hS, hH, o1, r1⟩ := o.takeM h0
  obtain ⟨a, a0, v1, rfl, rfl, st⟩ := st_inv r1
  refine ⟨_, h1, ?_⟩
  rcases hj with ⟨rfl, rfl⟩ | ⟨rfl, rfl⟩
  · exact .inl ⟨a, _, 1, v1, rfl, rfl, .inl (.inl st.ha), rfl, q v1 w _ ρ p (Le.refl w) o st.rc⟩
  · exact .inl ⟨a, _, 2, .int k, rfl, rfl, .inl (.inl st.ha), rfl, q _ w _ ρ p (Le.refl w) o (.int k)⟩
theorem w_st00 {b : Int} (h0 : ρ[i]? = some (some (StM (b :: bl) cs k))) (p : P (.int b) ρ) : W G (tOp (rIx G.K) (tOp (rIx G.K) (tVar i) (tC (.int 0))) (tC (.int 0))) ρ P := fun w σ Q o e q => by
  obtain ⟨v, fp, w1, h1, l1, hS, hH, o1, r1⟩ := o.takeM h0
  obtain ⟨a, a0, v1, rfl, rfl, st⟩ := st_inv r1
  exact ⟨_, h1, .inl ⟨a, _, 0, .ref a0, rfl, rfl, .inl (.inl st.ha), rfl, .inl ⟨a0, _, 0, .int b, rfl, rfl, .inl (.inl st.hb), atI_nat (j := 0) rfl, q _ w _ ρ p (Le.refl w) o (.int b)⟩⟩⟩
theorem dp_ints {K : PySem.W.Frag} {H : Hp} : ∀ bl : List Int, DpAll K H (bl.map .int) (bl.map .int)
  | [] => .nil
  | b :: r => .cons (.int b) (dp_ints r)
theorem lay_ints : ∀ bl : List Int, PyData.canLayAll0 (bl.map .int) = true
  | [] => rfl
  | b :: r => by
    show (true && PyData.canLayAll0 (r.map .int)) = true
    rw [lay_ints r]
    rfl
theorem depth_ints : ∀ bl : List Int, PyData.depthAll (bl.map .int) ≤ 1
  | [] => by (simp [PyData.depthAll])
  | b :: r => by
    have := depth_ints r
    simp only [PyData.depthAll, PyData.depth, List.map_cons]
    omega
theorem shaped_ints (bl : List Int) : SeqAt.shaped (.list (bl.map .int)) = true := by
  have e : PyData.canLay0 (.list (bl.map .int)) = true := lay_ints bl
  have d : (PyData.list (bl.map .int)).depth ≤ 64 := by
    have := depth_ints bl
    simp only [PyData.depth]
    omega
  unfold SeqAt.shaped
  rw [e, decide_eq_true d]
  rfl
/-- state[0] != [] -/
theorem w_stNe (h0 : ρ[i]? = some (some (StM bl cs k))) (p : P (.bl (!bl.isEmpty)) ρ) : W G (tOp (rNeD G.K) (tOp (rIx G.K) (tVar i) (tC (.int 0))) (tLst tNil)) ρ P := fun w σ Q o e q => by
  obtain ⟨v, fp, w1, h1, l1, hS, hH, o1, r1⟩ := o.takeM h0
  obtain ⟨a, a0, v1, rfl, rfl, st⟩ := st_inv r1
  refine ⟨_, h1, .inl ⟨a, _, 0, .ref a0, rfl, rfl, .inl (.inl st.ha), rfl, Nat.zero_le _, fun x hx => ?_⟩⟩
  have l := Wd.le_add (o := .lst []) o.sub hx
  have s := Wd.sub_add (p := x) (o := .lst []) o.sub hx
  refine ⟨.list (bl.map .int), .list [], .lst (.inl (.inl ?_)) (dp_ints bl), .lst (.inl (.inl upd_same)) .nil, shaped_ints bl, rfl, ?_⟩
  · show upd w.H x _ a0 = _
    rw [upd_ne (ne_of_none st.hb hx)]
    exact st.hb
  · have e2 : (!PyData.eqv (.list (bl.map .int)) (.list [])) = !bl.isEmpty := by
      cases bl <;> rfl
    rw [e2]
    exact q _ (w.add x (.lst [])) _ ρ p l.le (o.grow l s) (.bl _)
/-- state[2] += 1 -/
theorem ws_stInc (h0 : ρ[i]? = some (some (StM bl cs k))) (p : PS_.nx (ρ.set i (some (StM bl cs (k + 1))))) : WS G (tAugS (tVar i) (tC (.int 2)) (tC (.int 1)) (rGetL G.K) (ipI fun i j => i + j) rSetL) ρ PS_ := fun w σ D o e q => by
  obtain ⟨v, fp, w1, h1, l1, hS, hH, o1, r1⟩ := o.takeM h0
  have hil : i < ρ.length := (List.getElem?_eq_some_iff.mp h0).1
  obtain ⟨a, a0, v1, rfl, rfl, st⟩ := st_inv r1
  have ne : a0 ≠ a := fun z => by
    have z2 := st.hb
    rw [z, st.ha] at z2
    have z3 := Option.some.inj z2
    cases bl with
    | nil => cases z3
    | cons b r => cases z3
  refine ⟨_, h1, a, _, 2, .int k, rfl, rfl, .inl (.inl st.ha), by decide, by decide, rfl, k, 1, rfl, rfl, a, _, 2, 2, rfl, rfl, st.ha, rfl, ?_⟩
  obtain ⟨w2, l2, hS2, hH2, o2⟩ := OkE.write (a := a) (ob := .lst [.ref a0, v1, .int (k + 1)]) (fp' := [a, a0] ++ []) o1 List.mem_cons_self (by rw [hS]; exact st.sa) (fun x hx => by simpa using hx) (by simpa using o1.nodupFx)
  have st2 : StA G.K w2.S w2.H a a0 v1 bl cs (k + 1) := by
    rw [hS2, hH2, hS, hH]
    exact ⟨st.sa, st.sb, upd_same, by rw [upd_ne ne]; exact st.hb, st.rc⟩
  obtain ⟨w3, l3, hS3, hH3, o3⟩ := OkE.putBack (fr := []) o2 h1 (st_mk st2) hil
  have z := q.nx w3 σ _ p ((l1.trans l2).trans l3) o3
  rw [hH3, hH2, hH] at z
  exact z
/-- state[0] = state[0][1:] -/
theorem ws_stTail {b : Int} (h0 : ρ[i]? = some (some (StM (b :: bl) cs k))) (p : PS_.nx (ρ.set i (some (StM bl cs k)))) : WS G (tAsg (tSl (gSl G.K) (tOp (rIx G.K) (tVar i) (tC (.int 0))) (tPart (tC (.int 1))) tNoPart) (gSub (tVar i) (tC (.int 0)) rSetL)) ρ PS_ := fun w σ D o e q => by
  obtain ⟨v, fp, w1, h1, l1, hS, hH, o1, r1⟩ := o.takeM h0
  have hil : i < ρ.length := (List.getElem?_eq_some_iff.mp h0).1
  obtain ⟨a, a0, v1, rfl, rfl, st⟩ := st_inv r1
  have cut : cutV ((b :: bl).map V.int) (some 1) none = bl.map .int := by
    unfold cutV
    have e1 : HT.sIx ((b :: bl).map V.int).length 0 (some 1) = 1 := by
      have z := HT.sIx_nat ((b :: bl).map V.int).length 0 1
      rw [show ((1 : Nat) : Int) = 1 from rfl] at z
      rw [z, List.length_map, List.length_cons]
      omega
    rw [e1, HT.sIx_none, List.length_map, List.length_cons]
    show (bl.map V.int).take (bl.length + 1 - 1) = _
    rw [Nat.add_sub_cancel, List.take_of_length_le (by rw [List.length_map]; exact Nat.le_refl _)]
  refine ⟨_, h1, .inl ⟨a, _, 0, .ref a0, rfl, rfl, .inl (.inl st.ha), rfl, 1, rfl, .inl ⟨a0, _, rfl, .inl (.inl st.hb), fun x hx => ?_⟩⟩⟩
  rw [cut]
  have nxa : a ≠ x := ne_of_none st.ha hx
  have hx1 : w1.H x = none := by rw [hH]; exact hx
  refine ⟨_, h1, a, _, 0, 0, rfl, rfl, by rw [upd_ne nxa]; exact st.ha, rfl, ?_⟩
  -- the new list is owned beside
  obtain ⟨fps, e1, ef⟩ := o1.env
  have nd := o1.nd
  rw [ef] at nd
  obtain ⟨n1, n2, n3⟩ := List.nodup_append.mp nd
  have at1 := e1.at_
  have keep : ∀ y u, w1.H y = some u → upd w1.H x (.lst (bl.map .int)) y = some u := fun y u hy => Ex.new hx1 y u hy
  have sub1 : Sub w1.S (upd w1.H x (.lst (bl.map .int))) := fun y u hy => by
    have z : y ≠ x := fun z => by
      have q1 := o1.sub.free hx1
      rw [← z, hy] at q1
      cases q1
    exact (o1.sub y u hy).imp fun v hv => keep y v hv
  have o2 : OkE G ⟨w1.S, upd w1.H x (.lst (bl.map .int)), fps.flatten ++ [a, x]⟩ σ (ρ.set i none) [a, x] := by
    refine ⟨sub1, ⟨fps, e1.keep (Ex.refl _) (fun y hy => (at1 y hy).1) (fun y _ u hu => (.inl (keep y u hu))), rfl⟩, ?_, o1.px⟩
    show (fps.flatten ++ [a, x]).Nodup
    refine List.nodup_append.mpr ⟨n1, by simp [nxa], fun y hy z hz e3 => ?_⟩
    subst e3
    rcases List.mem_cons.mp hz with h | h
    · subst h
      exact n3 y hy y List.mem_cons_self rfl
    · obtain rfl : y = x := by simpa using h
      exact (at1 y hy).2 hx1
  have l2 : Le w1 ⟨w1.S, upd w1.H x (.lst (bl.map .int)), fps.flatten ++ [a, x]⟩ := ⟨Ex.refl _, fun y u hy _ => (.inl (keep y u hy)), fun _ _ _ h => h, fun y hy => by
    rcases List.mem_append.mp hy with h | h
    · exact .inl (by rw [ef]; exact List.mem_append_left _ h)
    · rcases List.mem_cons.mp h with h | h
      · subst h
        exact .inl (by rw [ef]; exact List.mem_append_right _ List.mem_cons_self)
      · obtain rfl : y = x := by simpa using h
        exact .inr hx1⟩
  obtain ⟨w3, l3, hS3, hH3, o3⟩ := OkE.write (a := a) (ob := .lst [.ref x, v1, .int k]) (fp' := [a, x] ++ []) o2 List.mem_cons_self (by show w1.S a = none; rw [hS]; exact st.sa) (fun y hy => by simpa using hy) (by simpa using o2.nodupFx)
  have st2 : StA G.K w3.S w3.H a x v1 bl cs k := by
    rw [hS3, hH3]
    refine ⟨by show w1.S a = none; rw [hS]; exact st.sa, o1.sub.free hx1, upd_same, ?_, by show Rep G.K w1.S v1 _; rw [hS]; exact st.rc⟩
    rw [upd_ne (Ne.symm nxa)]
    exact upd_same
  obtain ⟨w4, l4, hS4, hH4, o4⟩ := OkE.putBack (fr := []) o3 h1 (st_mk st2) hil
  have z := q.nx w4 σ _ p (((l1.trans l2).trans l3).trans l4) o4
  rw [hH4, hH3, hH] at z
  exact z
/-- state[0][0] = e -/
theorem ws_stHead {b : Int} (h0 : ∃ m, ρ[i]? = some (some m)) (h : W G te ρ fun d ρ1 => ∃ b', d = .int b' ∧ ρ1[i]? = some (some (StM (b :: bl) cs k)) ∧ PS_.nx (ρ1.set i (some (StM (b' :: bl) cs k)))) : WS G (tAsg te (gSub (tOp (rIx G.K) (tVar i) (tC (.int 0))) (tC (.int 0)) rSetL)) ρ PS_ := fun w σ D o e q =>
  h w σ _ o e fun u w0 d ρ1 ⟨b', ed, hi, p⟩ l0 o0 r0 => by
    subst ed
    obtain rfl := r0.int_inv
    obtain ⟨v, fp, w1, h1, l1, hS, hH, o1, r1⟩ := o0.takeM hi
    have hil : i < ρ1.length := (List.getElem?_eq_some_iff.mp hi).1
    obtain ⟨a, a0, v1, rfl, rfl, st⟩ := st_inv r1
    have ne : a0 ≠ a := fun z => by
      have z2 := st.hb
      rw [z, st.ha] at z2
      cases (Option.some.inj z2)
    refine ⟨_, h1, .inl ⟨a, _, 0, .ref a0, rfl, rfl, .inl (.inl st.ha), rfl, a0, (b :: bl).map .int, 0, 0, rfl, rfl, st.hb, ?_, ?_⟩⟩
    · unfold ixN
      rw [if_pos (by decide), if_pos (by rw [List.length_map, List.length_cons]; omega)]
      rfl
    obtain ⟨w2, l2, hS2, hH2, o2⟩ := OkE.write (a := a0) (ob := .lst ((b' :: bl).map .int)) (fp' := [a, a0] ++ []) o1 (List.mem_cons_of_mem _ List.mem_cons_self) (by rw [hS]; exact st.sb) (fun x hx => by simpa using hx) (by simpa using o1.nodupFx)
    have st2 : StA G.K w2.S w2.H a a0 v1 (b' :: bl) cs k := by
      rw [hS2, hH2, hS, hH]
      exact ⟨st.sa, st.sb, by rw [upd_ne (Ne.symm ne)]; exact st.ha, upd_same, st.rc⟩
    obtain ⟨w3, l3, hS3, hH3, o3⟩ := OkE.putBack (fr := []) o2 h1 (st_mk st2) hil
    have z := q.nx w3 σ _ p (((l0.trans l1).trans l2).trans l3) o3
    rw [hH3, hH2, hH] at z
    exact z
end
end DL

namespace DC
open PySem L2 PySem.Spec PyProof.Rows
variable {X : Cx}
/-! ### xs[::-1] -/
def tRev (K : PySem.W.Frag) (te : TE) (tl th tk : TO) : TE := fun σ H Q => te σ H fun x H1 => tl σ H1 fun l H2 => th σ H2 fun u H3 => tk σ H3 fun k H4 => l = none ∧ u = none ∧ k = some (-1) ∧ ∃ a xs, x = .ref a ∧ SqL K H4 a xs ∧ ∀ p, H4 p = none → Q (.ref p) (upd H4 p (.lst xs.reverse))
theorem vals_rev : ∀ {vs : List V} {us : List Value}, Vals vs us → Vals vs.reverse us.reverse
  | _, _, .nil => .nil
  | _ :: _, _ :: _, .cons r t => by
    simp only [List.reverse_cons]
    exact (vals_rev t).append (.cons r .nil)
theorem pe_rev {e : Expr} {lo hi : Option Expr} {st : Expr} {te : TE} {tl th tk : TO} {p2 pos : Pos} (he : PE X e te) (hl : PO X lo tl) (hu : PO X hi th) (hk : PO X (some st) tk) : PE X (.Subscript e (.Slice lo hi (some st) p2) pos) (tRev X.K te tl th tk) := by
  refine ⟨fun pins s0 σ H Q J0 wish => ?_⟩
  refine Subscript_ (thn (he.run pins s0 σ H _ J0 wish) fun v s1 ⟨x, H1, J1, r1, q1⟩ => ?_)
  refine wpAny_Slice (thn (hl.run pins s1 σ H1 _ J1 q1) fun vl s2 ⟨l, H2, J2, pl, q2⟩ => thn (hu.run pins s2 σ H2 _ J2 q2) fun vu s3 ⟨u, H3, J3, pu, q3⟩ => thn (hk.run pins s3 σ H3 _ J3 q3) fun vk s4 ⟨k, H4, J4, pk, q4⟩ => ?_)
  obtain ⟨rfl, rfl, rfl, a, xs, rfl, hx, q⟩ := q4
  cases r1
  have J5 : Inv X pins σ H4 { s4 with heap := s4.heap.push { cls := .type "slice", data := .fields #[vl, vu, vk] } } := J4.kept (t' := s4.toks) fun b ob q => Heap.get?_push_of_some _ q
  obtain ⟨its, rv, ht, hz⟩ := J5.list hx
  have hlen := rv.length
  show wpAny (model X.prog X.w) X.A (subscriptTail e (.Slice lo hi (some st) p2) (.ref a) (.ref s4.heap.objs.size)) (EP X pins σ Q) X.xe { s4 with heap := s4.heap.push { cls := .type "slice", data := .fields #[vl, vu, vk] } }
  refine tail_any (ops := [.ref a, .ref s4.heap.objs.size]) ht.isList.typeIs slot_list_getitem.lookup ?_ (by with_unfolding_all rfl)
  refine wpAny_getItem_list_slice ht.isList (Heap.IsSliceOf.new ..) pl pu pk (by decide) ?_ (by rw [List.size_toArray] <;> omega)
  rw [PySem.W.krv_pick]
  refine ⟨.ref _, _, J5.laid (t' := s4.toks) (o := .lst xs.reverse) (fun _ _ kept => Heap.get?_push_of_some _ kept) (Nat.le_refl _) ?_, rfl, q _ (J5.hok.fresh (Nat.le_refl _))⟩
  exact ⟨by rw [List.length_reverse]; exact hz, _, 0, vals_rev rv, Heap.get?_push_size _ rfl⟩
end DC

namespace DC
open PySem L2 PySem.Spec PyProof.Rows
/-! ### == and != by a class's own __eq__ -/
/-- what is asked of the class at C whose __eq__ stands at f -/
structure EqC (K : PySem.W.Frag) (C f : Addr) : Prop where
  eq : PySem.W.findIn K (.ref C) "__eq__" = some (some (.ref f))
  ne : PySem.W.findIn K (.ref C) "__ne__" = some (some (.builtin "object.__ne__"))
  ob : PySem.W.mroIn K C (.type "object") = some true
  own : PySem.W.notFirst K C (.ref C) = true
  tup : PySem.W.notFirst K C (.type "tuple") = true
  isf : PySem.W.isFn K (.ref f) = true
  cls : Cls K C
  kl : PySem.W.findIn K (.ref C) "__class__" = some (some (.builtin "object.__class__"))
  sp : PySem.W.specialIn K (.builtin "object.__class__") "__get__" = some (some (.builtin "getset_descriptor.__get__"))
  tk : PySem.W.takesIn K (.builtin "object.__class__") = some true
  iO : PySem.W.kitOne K (.ref C) (.ref C) = some true
  iT : PySem.W.kitOne K (.type "tuple") (.ref C) = some false
/-- what may stand on the right: an own one, or a tuple -/
def YK (K : PySem.W.Frag) (C : Addr) (H : Hp) (y : V) : Prop := ∃ a, y = .ref a ∧ ((∃ dx fs, H a = some (.ins C dx fs)) ∨ ∃ xs, SqT K H a xs)
def rOwnC (neg : Bool) (K : PySem.W.Frag) (C : Addr) (sp : Sp) : R2 := fun x y H Q => ∃ a dx fs, x = .ref a ∧ H a = some (.ins C dx fs) ∧ YK K C H y ∧ sp [x, y] H (fun v H' => ∃ b, v = .bl b ∧ Q (.bl (if neg then !b else b)) H') fun _ _ _ => False
section
variable {X : Cx} {lv : Nat} {f C : Addr} {fd : FuncData} {names : List Str} {sp : Sp}
theorem own_call {A : Around} {pins : List (Addr × Obj)} {σ : L2.St} {H : Hp} {s : Shared} {Q : Bool → Hp → Prop} {x y : V} {u v : Value} (F : FnG X.prog X.w X.K X.mg X.base (L2.CX X.prog X.w) lv f fd names sp) (hfr : A.frames = X.A.frames) (gd : A.guards = some []) (room : Room lv A) (bnd : L2.Binds X.K fd names [])
    (I : Inv X pins σ H s) (rx : RelV x u) (ry : RelV y v) (wish : sp [x, y] H (fun v H' => ∃ b, v = .bl b ∧ Q b H') fun _ _ _ => False) :
    wpAny (model X.prog X.w) A (call (.ref f) [u, v]) (fun r s' => ∃ b, r = .bool b ∧ ∃ H', Inv X pins σ H' s' ∧ Q b H') X.xe s := by
  have at0 : Env0 X.prog X.w X.K X.mg X.base A X.stack s H := by
    have e := I.env0
    exact ⟨by rw [hfr]; exact e.frames, e.mod, e.bs, e.bsz, e.funs, e.frf, e.hok, e.bare⟩
  have hl := F.ln _ _ _ _ wish
  have r2 : Vals [x, y] [u, v] := .cons rx (.cons ry .nil)
  refine wpAny_call (codeAny_mono (F.go A X.stack s H ⟨[u, v], []⟩ [u, v] [x, y] _ _ gd room at0 (by
    have := bnd s [u, v] I.kIn (by simpa using hl)
    simpa using this) r2 wish) fun r s' hq => ?_)
  cases r with
  | error e => exact passL pins σ H s e s' I hq
  | ok fl =>
    cases fl with
    | ret w =>
      obtain ⟨z, H', I', rz, b, ez, q⟩ := I.after hq
      subst ez
      cases rz
      exact ⟨b, rfl, H', I', q⟩
    | next => exact False.elim hq
    | brk => exact False.elim hq
    | cont => exact False.elim hq
theorem yk_type {C : Addr} {pins : List (Addr × Obj)} {σ : L2.St} {H : Hp} {s : Shared} {y : V} {v : Value} (I : Inv X pins σ H s) (c : EqC X.K C f) (h : YK X.K C H y) (ry : RelV y v) : ∃ tb, PySem.W.Looks (model X.prog X.w) s.heap (typeOf v) tb ∧ PySem.W.notFirst X.K C tb = true := by
  obtain ⟨a, rfl, h⟩ := h
  cases (show v = Value.ref a from ry)
  rcases h with ⟨dx, fs, h⟩ | ⟨xs, h⟩
  · obtain ⟨_, J, _⟩ := ins_get I.hok h
    obtain ⟨od, J, _⟩ := J.look
    exact ⟨_, J.type, c.own⟩
  · obtain ⟨its, r, ht, z⟩ := I.tuple h
    exact ⟨.type "tuple", by
      obtain ⟨o, ho, hc, _⟩ := id ht
      intro A Q E s2 k q
      refine wpAny_typeOf_ref (k _ _ ho) ?_
      rw [hc]
      exact q, c.tup⟩
theorem op_ownEq (c : EqC X.K C f) (F : FnG X.prog X.w X.K X.mg X.base (L2.CX X.prog X.w) lv f fd names sp) (gd : X.A.guards = some []) (room : Room lv X.A) (bnd : L2.Binds X.K fd names []) : OpR X (compareOp .Eq) (rOwnC false X.K C sp) := by
  intro pins s σ H x y v u Q I rx ry ask
  obtain ⟨a, dx, fs, rfl, ha, hy, wish⟩ := ask
  have ev : v = Value.ref a := rx
  subst ev
  obtain ⟨_, J, _⟩ := ins_get I.hok ha
  obtain ⟨od, J, _⟩ := J.look
  obtain ⟨tb, ht, nf⟩ := yk_type I c hy ry
  obtain ⟨m, hF⟩ := I.fr
  show wpAny (model X.prog X.w) X.A (richCompare .Eq (.ref a) u) (EP X pins σ Q) X.xe s
  refine PySem.W.cmp_K (op := .Eq) room.units0 hF I.ok.mod.kin J ht nf c.eq c.isf (wpAny_mono (own_call (Q := fun b H' => Q (.bl b) H') F rfl gd room bnd I (show L2.RelV (.ref a) (.ref a) from rfl) ry wish) (fun r s' z => ?_) fun _ _ e => e)
  obtain ⟨b, rfl, H', I', q⟩ := z
  exact ⟨.bl b, H', I', rfl, q⟩
/-- object.__ne__ may be called with an own instance -/
theorem check_ne {K : PySem.W.Frag} {M : Model} {A : Around} {E : Value → Shared → Prop} {s : Shared} {x : Addr} {ox : Obj} {od : Option Obj} {b : Value} {Q : Unit → Shared → Prop} (kin : K.In s.heap) (I : PySem.W.InstAt s.heap x ox C od) (ob : PySem.W.mroIn K C (.type "object") = some true) (q : Q () s) :
    wpAny M A (checkBuiltinCall "object.__ne__" ⟨[.ref x, b], []⟩) Q E s := by
  simp only [checkBuiltinCall, PySem.F.cmpKind_ne, PySem.F.cmpSplit_ne]
  refine wpAny_bind ?_
  · unfold isInstance
    refine wpAny_bind (I.type.here ((PySem.W.looks_mroIn kin ob).here ?_))
    have ha := PySem.F.cmpArgs_ne (.ref x) b
    rw [if_neg (show ¬ (!true) = true by decide)]
    cases hsig : Manifest.signature? "object.__ne__" with
    | none => exact wpAny_pure q
    | some sig =>
      simp only [hsig, argsOk] at ha
      have h2 : Bind.checkArgs "object.__ne__" sig ⟨[.ref x, b], []⟩ = pure () := ha
      show wpAny M A (Bind.checkArgs "object.__ne__" sig ⟨[.ref x, b], []⟩) Q E _
      rw [h2]
      exact wpAny_pure q
theorem slot_ne : Slot "object" "__ne__" "object.__ne__" := PySem.F.slot_object_ne
theorem op_ownNe (c : EqC X.K C f) (F : FnG X.prog X.w X.K X.mg X.base (L2.CX X.prog X.w) lv f fd names sp) (gd : X.A.guards = some []) (room : Room (lv + 1) X.A) (bnd : L2.Binds X.K fd names []) : OpR X (compareOp .NotEq) (rOwnC true X.K C sp) := by
  intro pins s σ H x y v u Q I rx ry ask
  obtain ⟨a, dx, fs, rfl, ha, hy, wish⟩ := ask
  have ev : v = Value.ref a := rx
  subst ev
  obtain ⟨_, J, _⟩ := ins_get I.hok ha
  obtain ⟨od, J, _⟩ := J.look
  obtain ⟨tb, ht, nf⟩ := yk_type I c hy ry
  obtain ⟨m, hF⟩ := I.fr
  have kin := I.kIn
  show wpAny (model X.prog X.w) X.A (richCompare .NotEq (.ref a) u) (EP X pins σ Q) X.xe s
  have inner : wpAny (model X.prog X.w) X.A.in1 (Builtin.«object.__ne__» ⟨[.ref a, u], []⟩) (fun fin s' => ∃ w, fin = .done (.ret w) ∧ w ≠ .notImplemented ∧ EP X pins σ Q w s') X.xe s := by
    have roomI : Room lv X.A.in1 := room.in1
    have call_ : wpAny (model X.prog X.w) X.A.in1 (callSpecialIfBound? (.ref a) (Str.ofString "__eq__") [u]) (fun r s' => ∃ b, r = some (.bool b) ∧ ∃ H', L2.Inv X pins σ H' s' ∧ Q (.bl (!b)) H') X.xe s :=
      PySem.W.ifBound_K (name := "__eq__") kin J c.eq c.isf (wpAny_mono (own_call (Q := fun b H' => Q (.bl (!b)) H') F rfl gd roomI bnd I (show L2.RelV (.ref a) (.ref a) from rfl) ry wish) (fun r s' z => by
        obtain ⟨b, rfl, z⟩ := z
        exact ⟨b, rfl, z⟩) fun _ _ e => e)
    show wpAny _ _ (Builtin.«object.__ne__» _) _ _ _
    delta Builtin.«object.__ne__»
    repeat (first
      | with_reducible refine wpAny_cRoomFor roomI.units0 ?_
      | (refine wpAny_bind (m := callSpecialIfBound? (.ref a) (Str.ofString "__eq__") [u]) (wpAny_mono call_ (fun r s' hr => by
          obtain ⟨b, rfl, H', I', hq⟩ := hr
          repeat (first | exact ⟨_, rfl, (fun x => nomatch x), .bl (!b), H', I', rfl, hq⟩ | (refine wpAny_bind (m := truthy (.bool _)) (wpAny_truthy_bool ?_)) | wp_step)) fun _ _ e => e))
      | wp_step)
  have one : wpAny (model X.prog X.w) X.A (tryCompare (.ref a) (cmpInfo .NotEq).2.1 u) (fun r s' => ∃ w, r = some w ∧ EP X pins σ Q w s') X.xe s := by
    show wpAny (model X.prog X.w) X.A (tryCompare (.ref a) "__ne__" u) _ _ _
    unfold tryCompare
    refine wpAny_bind ?_
    simp only [bindSpecialIfBound?, callSpecialIfBound?]
    refine wpAny_holding (wpAny_bind (wpAny_bind (wpAny_bind (J.type.here ((PySem.W.looks_findIn kin c.ne).here ?_)))))
    refine wpAny_bind ?_
    refine wpAny_askSetting (wpAny_ite ?_)
    have fin : wpAny (model X.prog X.w) X.A (call (.builtin "object.__ne__") ([.ref a] ++ [u]) >>= fun v => pure (some v)) (fun a s' => wpAny (model X.prog X.w) X.A
              (match a with
              | some Value.notImplemented => pure none
              | none => pure none
              | some w => pure (some w))
              (fun r s' => ∃ w, r = some w ∧ EP X pins σ Q w s') X.xe s') X.xe s := by
      refine wpAny_bind (wpAny_call (codeAny_call_builtin slot_ne.plain PySem.F.cmpEntry_ne (check_ne kin J c.ob (wpAny_mono inner (fun r s' z => ?_) fun _ _ e => e))))
      obtain ⟨w, rfl, nn, q⟩ := z
      show wpAny _ _ (pure (some w)) _ _ s'
      refine wpAny_pure ?_
      cases w <;> first | exact absurd rfl nn | exact wpAny_pure ⟨_, rfl, q⟩
    split
    · refine wpAny_bind ?_
      rw [slot_ne.bind]
      exact wpAny_pure (wpAny_pure fin)
    · refine wpAny_tryCatch (wpAny_bind ?_)
      rw [slot_ne.bind]
      exact wpAny_pure (wpAny_pure fin)
  unfold richCompare
  simp only [oneThing_ref]
  refine wpAny_holding (wpAny_bind (wpAny_cRoomFor room.units0 ?_))
  refine wpAny_bind (J.type.here (wpAny_bind (ht.here ?_)))
  have last : wpAny (model X.prog X.w) X.A (tryCompare (.ref a) (cmpInfo .NotEq).2.1 u) (fun r s2 => ∃ w, r = some w ∧ EP X pins σ Q w s2) X.xe s := one
  split
  · rename_i other
    have sub0 : PySem.W.subIn X.K tb (.ref C) = some false := by
      cases Bool.or_eq_true_iff.mp nf with
      | inl same =>
        rw [beq_iff_eq.mp same] at other
        simp at other
      | inr no => exact beq_iff_eq.mp no
    refine wpAny_bind ((PySem.W.looks_subIn kin sub0).here ?_)
    simp only [if_false, Bool.false_eq_true]
    exact wpAny_bind (wpAny_mono last (fun r s2 ⟨w, er, got⟩ => er ▸ wpAny_pure got) fun _ _ err => err)
  · refine wpAny_bind ?_
    refine wpAny_pure ?_
    simp only [if_false, Bool.false_eq_true]
    exact wpAny_bind (wpAny_mono last (fun r s2 ⟨w, er, got⟩ => er ▸ wpAny_pure got) fun _ _ err => err)
end
end DC

namespace DL
open PySem L2
/-- the facts of a class with its own ==, by a Bool -/
def eqB (K : PySem.W.Frag) (x : Str) : Bool :=
  decide (PySem.W.findIn K (.ref (He.ga K x)) "__eq__" = some (some (.ref (He.ma K (He.ga K x) "__eq__")))) && (decide (PySem.W.findIn K (.ref (He.ga K x)) "__ne__" = some (some (.builtin "object.__ne__"))) &&
  (decide (PySem.W.mroIn K (He.ga K x) (.type "object") = some true) && (PySem.W.notFirst K (He.ga K x) (.ref (He.ga K x)) && (PySem.W.notFirst K (He.ga K x) (.type "tuple") && (PySem.W.isFn K (.ref (He.ma K (He.ga K x) "__eq__")) &&
  (decide (PySem.W.findIn K (.ref (He.ga K x)) "__class__" = some (some (.builtin "object.__class__"))) && (decide (PySem.W.specialIn K (.builtin "object.__class__") "__get__" = some (some (.builtin "getset_descriptor.__get__"))) &&
  (decide (PySem.W.takesIn K (.builtin "object.__class__") = some true) && (decide (PySem.W.kitOne K (.ref (He.ga K x)) (.ref (He.ga K x)) = some true) && decide (PySem.W.kitOne K (.type "tuple") (.ref (He.ga K x)) = some false))))))))))
theorem eqB_ok {K : PySem.W.Frag} {x : Str} (cl : Cls K (He.ga K x)) (h : eqB K x = true) : DC.EqC K (He.ga K x) (He.ma K (He.ga K x) "__eq__") := by
  obtain ⟨a1, h⟩ := Bool.and_eq_true_iff.mp h
  obtain ⟨a2, h⟩ := Bool.and_eq_true_iff.mp h
  obtain ⟨a3, h⟩ := Bool.and_eq_true_iff.mp h
  obtain ⟨a4, h⟩ := Bool.and_eq_true_iff.mp h
  obtain ⟨a5, h⟩ := Bool.and_eq_true_iff.mp h
  obtain ⟨a6, h⟩ := Bool.and_eq_true_iff.mp h
  obtain ⟨a7, h⟩ := Bool.and_eq_true_iff.mp h
  obtain ⟨a8, h⟩ := Bool.and_eq_true_iff.mp h
  obtain ⟨a9, h⟩ := Bool.and_eq_true_iff.mp h
  obtain ⟨b1, b2⟩ := Bool.and_eq_true_iff.mp h
  exact ⟨of_decide_eq_true a1, of_decide_eq_true a2, of_decide_eq_true a3, a4, a5, a6, cl, of_decide_eq_true a7, of_decide_eq_true a8, of_decide_eq_true a9, of_decide_eq_true b1, of_decide_eq_true b2⟩
/-- what may stand beside an own one in == -/
def Other (c : Str) (y : D) : Prop := (∃ gs, y = .obj c gs) ∨ ∃ ds, y = .tup ds
section
variable {G : Gx} {ρ : Env} {P : D → Env → Prop} {K : PySem.W.Frag} {k : D → Prop} {c : Str} {fs : List (Str × D)} {x y : D} {te tb : TE} {f : Addr} {xs : List D} {i : Nat}
theorem rd_own {neg : Bool} {C : CD} (nt : ∀ S, TbK K S) (hy : Other c y) (h : C.c [.obj c fs, y] fun o => match o with | .ret m => ∃ b, m = .sh (.bl b) ∧ k (.bl (if neg then !b else b)) | .err _ _ => False) : RD K (DC.rOwnC neg K (clsAt K c) (toSp K 2 C.con)) (.obj c fs) y k := fun w v u Q s rx ry q => by
  have rx0 := rx
  cases rx with
  | @obj a dx _ vs _ ha rf =>
    have yk : DC.YK K (clsAt K c) w.H u := by
      rcases hy with ⟨gs, rfl⟩ | ⟨ds, rfl⟩
      · cases ry with
        | @obj b dy _ us _ hb rg => exact ⟨b, rfl, .inl ⟨dy, us, s.ins hb⟩⟩
      · obtain ⟨p, us, rfl, h1, _⟩ := ry.tup_inv
        exact ⟨p, rfl, .inr ⟨us, s.st h1⟩⟩
    refine ⟨a, dx, vs, rfl, s.ins ha, yk, ⟨w.S, w.H, []⟩, [.sh (.obj c fs), .sh y], rfl, s, ownL_of (ds := [.obj c fs, y]) (.cons rx0 (.cons ry .nil)), List.nodup_nil, rfl, nt _, [.obj c fs, y], rfl, C.mono _ _ _ (fun oc hk => ?_) h⟩
    intro w' fp' l s' ow
    cases oc with
    | ret m =>
      intro z fr om hF nd
      obtain ⟨b, rfl, hk⟩ := hk
      cases om with
      | sh r =>
        obtain rfl := r.bl_inv
        exact ⟨b, rfl, q _ ⟨w'.S, w'.H, w.F⟩ _ hk ⟨l.s, fun x o hx => l.h x o hx (fun z => nomatch z), fun x hx hs => l.n x hx (fun z => nomatch z) hs, rfl⟩ s' (.bl _)⟩
    | err c' fs' => exact hk.elim
/-- isinstance(x, C), C an own class -/
theorem rc_isOwn (e : DC.EqC K (clsAt K c) f) (p : k (.bl true)) : RC K (rIsi K) [.obj c fs, .fun_ (clsAt K c)] k := fun w vs Q s r q => by
  obtain ⟨v, u, rfl, r1, r2⟩ := r.two
  cases r2
  cases r1 with
  | @obj a dx _ xs _ ha rf => exact ⟨_, _, _, _, true, rfl, .own _, .base (.ins (s.ins ha) e.cls e.kl e.sp e.tk e.ob), e.iO, q _ w _ p (LeP.refl w) s (.bl _)⟩
theorem rc_isOwnT (e : DC.EqC K (clsAt K c) f) (p : k (.bl false)) : RC K (rIsi K) [.tup xs, .fun_ (clsAt K c)] k := fun w vs Q s r q => by
  obtain ⟨v, u, rfl, r1, r2⟩ := r.two
  cases r2
  exact ⟨_, _, _, _, false, rfl, .own _, TyB.ty s (.tup xs) r1, e.iT, q _ w _ p (LeP.refl w) s (.bl _)⟩
theorem rc_sorted {ns : List Int} (hx : IsL x (ns.map .int)) (p : ∀ ns' : List Int, ns'.Perm ns → ns'.Pairwise (· ≤ ·) → k (.lst (ns'.map .int))) : RC K (rSortedI K) [x] k := fun w vs Q s r q => by
  obtain ⟨v, rfl, r1⟩ := r.one
  obtain ⟨l, vs, rfl, h1, r1⟩ := Rep.isL_inv hx r1
  obtain rfl := r1.ints
  refine ⟨l, ns, rfl, s.sl h1, fun ns' q' pm pw hq => ?_⟩
  have r3 : RepL K w.S (ns'.map V.int) (ns'.map D.int) := by
    clear pm pw
    induction ns' with
    | nil => exact .nil
    | cons n r ih => exact .cons (.int n) ih
  obtain ⟨a1, a2, a3⟩ := Wd.repNew s hq r3
  exact q _ _ _ (p ns' pm pw) a1 a2 a3
/-- xs[::-1] -/
theorem w_rev {tl th tk : TO} (h : W G te ρ fun x ρ1 => ∃ xs, IsL x xs ∧ WP G tl ρ1 fun lo ρ2 => lo = none ∧ WP G th ρ2 fun hi ρ3 => hi = none ∧ WP G tk ρ3 fun st ρ4 => st = some (-1) ∧ P (.lst xs.reverse) ρ4) : W G (DC.tRev G.K te tl th tk) ρ P := fun w σ Q o e q =>
  h w σ _ o e fun v w1 x ρ1 ⟨xs, hx, h1⟩ l1 o1 r1 => h1 w1 σ _ o1 (e.later l1) fun lo w2 ρ2 ⟨e2, h2⟩ l2 o2 => h2 w2 σ _ o2 (e.later (l1.trans l2)) fun hi w3 ρ3 ⟨e3, h3⟩ l3 o3 =>
    h3 w3 σ _ o3 (e.later ((l1.trans l2).trans l3)) fun st w4 ρ4 ⟨e4, p⟩ l4 o4 => by
      have l := ((l1.trans l2).trans l3).trans l4
      obtain ⟨a, vs, rfl, h1, r⟩ := Rep.isL_inv hx (((r1.mono l2.s).mono l3.s).mono l4.s)
      refine ⟨e2, e3, e4, a, vs, rfl, o4.sub.sl h1, fun p' hp => ?_⟩
      have rv : RepL G.K w4.S vs.reverse xs.reverse := by
        clear h1 p hx
        have go : ∀ {vs : List V} {xs : List D}, RepL G.K w4.S vs xs → RepL G.K w4.S vs.reverse xs.reverse := by
          intro vs xs r
          induction vs generalizing xs with
          | nil =>
            cases r
            exact .nil
          | cons v vs ih =>
            cases r with
            | cons r1 r2 =>
              simp only [List.reverse_cons]
              exact (ih r2).app (.cons r1 .nil)
        exact go r
      obtain ⟨a1, a2, a3⟩ := Wd.repNew o4.sub hp rv
      exact q _ _ _ ρ4 p (l.trans a1.le) (o4.grow a1 a2) a3
/-- [..] * n -/
theorem w_mulL {n : Int} (n0 : 0 ≤ n) (n1 : n ≤ 100) (h : WO G te ρ fun m ρ1 => ∃ ds : List D, m = .lst (ds.map .sh) ∧ ds.length ≤ 100 ∧ P (.lst (List.replicate n.toNat ds).flatten) ρ1) : W G (tOp gMul te (tC (.int n))) ρ P := fun w σ Q o e q =>
  h w σ _ o e fun v w1 m ρ1 fp ⟨ds, em, hl, p⟩ l1 o1 r1 => by
    subst em
    obtain ⟨w2, l2, hH, o2, r2⟩ := o1.freeze r1 frz_lst
    cases r1 with
    | @lst a vs _ fp1 hS hHa ol =>
      have lv : vs.length = ds.length := by rw [ol.len, List.length_map]
      refine .inr ⟨a, n, vs, rfl, rfl, hHa, by omega, by omega, ?_, fun p' hp => ?_⟩
      · rw [lv]
        refine sz_of (Nat.le_trans (Nat.mul_le_mul hl (show n.toNat ≤ 100 by omega)) (by decide))
      · rw [← hH] at hp ⊢
        cases r2 with
        | @lst _ us _ h1 r3 =>
        have eus : us = vs := by
          rw [← hH] at hHa
          rcases h1 with z | ⟨ob, z⟩
          · rcases (o2.sub _ _ z).two (fun q y => by unfold TabM at y; cases y) with z | ⟨d, _⟩
            · rw [hHa] at z
              cases z
              rfl
            · rcases d with ⟨_, d⟩ | ⟨_, d⟩ <;> cases d
          · rcases (o2.sub _ _ z).two (fun q y => by unfold TabM at y; cases y) with z | ⟨d, _⟩
            · rw [hHa] at z
              cases z
            · rcases d with ⟨_, d⟩ | ⟨_, d⟩ <;> cases d
        subst eus
        have rr : ∀ j : Nat, RepL G.K w2.S (List.replicate j us).flatten (List.replicate j ds).flatten := by
          intro j
          induction j with
          | zero => exact .nil
          | succ j ih =>
            simp only [List.replicate_succ, List.flatten_cons]
            exact r3.app ih
        obtain ⟨a1, a2, a3⟩ := Wd.repNew o2.sub hp (rr n.toNat)
        exact q _ _ _ ρ1 p ((l1.trans l2).trans a1.le) (o2.grow a1 a2) a3
/-- xs != e, xs a name's own list of data -/
theorem w_neO {ds : List D} {p : PyData} (hp : (D.lst ds).py = some p) (sp : SeqAt.shaped p = true) (hi : ρ[i]? = some (some (.lst (ds.map .sh)))) (h : W G tb ρ fun y ρ1 => ρ1 = ρ ∧ ∃ q, y.py = some q ∧ SeqAt.shaped q = true ∧ P (.bl (!PyData.eqv p q)) ρ1) : W G (tOp (rNeD G.K) (tVar i) tb) ρ P := fun w σ Q o e q => by
  obtain ⟨v, fp, w0, hv, _, _, _, _, _⟩ := o.takeM hi
  refine ⟨v, hv, h w σ _ o e fun u w1 y ρ1 ⟨e1, pq, hy, sq, p⟩ l1 o1 r1 => ?_⟩
  subst e1
  obtain ⟨v', fp1, w2, hv', l2, eS, eH, o2, r2⟩ := o1.takeM hi
  obtain rfl : v' = v := by
    rw [hv] at hv'
    exact (Option.some.inj (Option.some.inj hv')).symm
  obtain ⟨w3, l3, eH3, o3, r3⟩ := o2.freeze (by rw [eS, eH]; exact r2) frz_lst
  have dp := r3.dp o3.sub hp
  rw [eH3, eH] at dp
  exact ⟨_, pq, dp, r1.dp o1.sub hy, sp, sq, q _ w1 _ _ p l1 o1 (.bl _)⟩
end
end DL

namespace DL
open PySem L2
section
variable {G : Gx} {ρ : Env}
theorem wo_ifE {t : TT} {PO : M → Env → Prop} {ta tb : TE} (h : WT G t ρ fun b ρ1 => if b = true then WO G ta ρ1 PO else WO G tb ρ1 PO) : WO G (tIf t ta tb) ρ PO := fun w σ Q o e q =>
  h w σ _ o e fun b w1 ρ1 p l1 o1 => by
    cases b with
    | true => exact p w1 σ Q o1 (e.later l1) fun v w2 m ρ2 fp p2 l2 => q v w2 m ρ2 fp p2 (l1.trans l2)
    | false => exact p w1 σ Q o1 (e.later l1) fun v w2 m ρ2 fp p2 l2 => q v w2 m ρ2 fp p2 (l1.trans l2)
theorem py_ints : ∀ L : List Int, (D.lst (L.map .int)).py = some (.list (L.map .int)) := fun L => by
  have e : ∀ L : List Int, D.pys (L.map .int) = some (L.map .int) := fun L => by
    induction L with
    | nil => rfl
    | cons i r ih =>
      show (match D.py (.int i) with | some p => (D.pys (r.map .int)).map (p :: ·) | none => none) = _
      rw [ih]
      rfl
  show (D.pys (L.map .int)).map PyData.list = _
  rw [e]
  rfl
end
end DL

namespace DC
open PySem L2 PySem.Spec PyProof.Rows
/-! ### str(x), x of a class with its own __str__ -/
structure StrC (K : PySem.W.Frag) (C f : Addr) : Prop where
  str : PySem.W.findIn K (.ref C) "__str__" = some (some (.ref f))
  isf : PySem.W.isFn K (.ref f) = true
def rStrC (K : PySem.W.Frag) (C : Addr) (sp : Sp) : List V → Hp → VK → Prop := fun xs H Q => ∃ a dx fs, xs = [.ref a] ∧ H a = some (.ins C dx fs) ∧ sp [.ref a] H (fun v H' => ∃ x, v = .str x ∧ Q (.str x) H') fun _ _ _ => False
section
variable {X : Cx} {lv : Nat} {f C : Addr} {fd : FuncData} {names : List Str} {sp : Sp}
theorem own_call1 {A : Around} {pins : List (Addr × Obj)} {σ : L2.St} {H : Hp} {s : Shared} {Q : VK} {x : V} {u : Value} (F : FnG X.prog X.w X.K X.mg X.base (L2.CX X.prog X.w) lv f fd names sp) (hfr : A.frames = X.A.frames) (gd : A.guards = some []) (room : Room lv A) (bnd : L2.Binds X.K fd names [])
    (I : Inv X pins σ H s) (rx : RelV x u) (wish : sp [x] H (fun v H' => ∃ y, v = .str y ∧ Q (.str y) H') fun _ _ _ => False) :
    wpAny (model X.prog X.w) A (call (.ref f) [u]) (PySem.W.StrBack fun r s' => EP X pins σ Q r s') X.xe s := by
  have at0 : Env0 X.prog X.w X.K X.mg X.base A X.stack s H := by
    have e := I.env0
    exact ⟨by rw [hfr]; exact e.frames, e.mod, e.bs, e.bsz, e.funs, e.frf, e.hok, e.bare⟩
  have cnt := F.ln _ _ _ _ wish
  have r2 : Vals [x] [u] := .cons rx .nil
  refine wpAny_call (codeAny_mono (F.go A X.stack s H ⟨[u], []⟩ [u] [x] _ _ gd room at0 (by
    have := bnd s [u] I.kIn (by simpa using cnt)
    simpa using this) r2 wish) fun r s' hq => ?_)
  cases r with
  | error e => exact passL pins σ H s e s' I hq
  | ok fl =>
    cases fl with
    | ret w =>
      obtain ⟨z, H', I', rz, y, ez, q⟩ := I.after hq
      subst ez
      obtain ⟨t, rfl⟩ := rz
      exact ⟨.str y, H', I', ⟨t, rfl⟩, q⟩
    | next => exact False.elim hq
    | brk => exact False.elim hq
    | cont => exact False.elim hq
theorem call_strOwn (c : StrC X.K C f) (F : FnG X.prog X.w X.K X.mg X.base (L2.CX X.prog X.w) lv f fd names sp) (gd : X.A.guards = some []) (room : Room (lv + 2) X.A) (bnd : L2.Binds X.K fd names []) : CallR X (.type "str") (rStrC X.K C sp) := by
  intro pins s σ H xs us Q I rel ⟨a, dx, fs, ex, ha, wish⟩
  subst ex
  obtain ⟨u, rfl, ru⟩ := vals1 rel
  have eu : u = Value.ref a := ru
  subst eu
  obtain ⟨_, J, _⟩ := ins_get I.hok ha
  obtain ⟨od, J, _⟩ := J.look
  have rI : Room lv X.A.in1.in1 := room.in1.in1
  exact PySem.W.kso_call rI.units0 I.kIn J c.str c.isf (own_call1 F rfl gd rI bnd I (show L2.RelV (.ref a) (.ref a) from rfl) wish)
end

/-! ### a classmethod, read off its class; a class in a local name -/
section
variable {X : Cx} {CX : CXT} {lv : Nat} {f C p g : Addr} {fd : FuncData} {names : List Str} {sp : Sp} {dvs : List V} {dus : List Value} {E : L2.St → XK} {x m : Str} {np pos apos : Pos} {e o : Expr} {es : List Expr} {ta tf : TE} {t : TA}
/-- it is this class -/
def tIsC (C : Addr) (ta : TE) : TE := fun σ H Q => ta σ H fun x H1 => x = .ref C ∧ Q x H1
theorem pe_cmethG {mc : Value} {pl : Sem Bool} (he : PE X o ta) (r : ClX.CRead X.K C mc) (c : ClX.CMet X.K C mc m p f) (F : FnG X.prog X.w X.K X.mg X.base CX lv f fd names sp) (gd : X.A.guards = some []) (room : Room lv X.A) (bnd : Binds X.K fd names dus) (dv : Vals dvs dus) (esc : ∀ σ, PassesAt CX X σ (E σ)) (args : PA X (e :: es) t)
    (st : starEach (e :: es) X.env = (false, eval e X.env) :: starEach es X.env := by rfl) (pln : (backTo pos (starEach es X.env)).any (·.1) = false := by rfl)
    (ev : eval (.Call (.Attribute o m apos) (e :: es) [] pos) X.env = (do
      let self ← eval o X.env
      standAt apos.atName
      let (g, fst) ← holding [self] (getMethod self m pl)
      callWith pos g fst (backTo pos (starEach (e :: es) X.env)) (backToKw pos (keywordEach [] X.env))) := by rfl) :
    PE X (.Call (.Attribute o m apos) (e :: es) [] pos) (tCallSD sp dvs E (tCons (tIsC C ta) t)) := by
  refine ⟨fun pins s σ H Q J wish => ?_⟩
  refine PySem.W.methodCall_KW (pl := pl) (thn (he.run pins s σ H _ J wish) fun u s1 ⟨x, H1, J1, rx, ex, q⟩ => ?_) ev
  subst ex
  cases (show u = Value.ref C from rx)
  refine ClX.getmethcm_ok J1 r c fun s2 J2 => ?_
  refine ClX.callwith_cm J2 (ClX.base_none J1 (Nat.le_refl _)) c.fi (thn (args.run pos _ s2 σ H1 _ J2 q) fun us s3 ⟨vs, H2, J3, rv, q2⟩ => ⟨⟨ClX.pin_at J3, J3.kIn⟩, ?_⟩) st pln
  have rel2 : Vals (V.ref C :: (vs ++ dvs)) (Value.ref C :: (us ++ dus)) := .cons rfl (rv.append dv)
  have cnt : (Value.ref C :: (us ++ dus)).length = names.length := rel2.length.symm.trans (F.ln _ _ _ _ q2)
  have z : wpAny (model X.prog X.w) X.A (call (.ref s1.heap.objs.size) us) (EP X ((s1.heap.objs.size, PySem.W.methodObj (.ref f) (.ref C)) :: pins) σ Q) X.xe s3 :=
    wpAny_call (PySem.W.method_call (ClX.pin_at J3) (codeAny_mono (goesTo F gd room (bnd s3 (Value.ref C :: us) J3.kIn cnt) (fun e s' c => esc σ _ H2 s3 e s' J3 c) J3 rel2 q2) fun out s' got => by
      match out, got with
      | .error e, got => exact got
      | .ok (.ret u), got => exact got
      | .ok .next, got => exact got.elim
      | .ok .brk, got => exact got.elim
      | .ok .cont, got => exact got.elim))
  exact thn z fun _ _ y => ClX.unpinE y
/-- c(..), c a name that holds this class -/
def tMakeN (C : Addr) (sp : Sp) (dvs : List V) (E : L2.St → XK) (tf : TE) (t : TA) : TE := fun σ H Q => tf σ H fun x H1 => x = .ref C ∧ tMakeS C sp dvs E t σ H1 Q
theorem pe_makeN (mk : Mk X.K C f) (F : FnG X.prog X.w X.K X.mg X.base CX lv f fd names sp) (gd : X.A.guards = some []) (room : Room (lv + 1) X.A) (hf : PE X (.Name x np) tf) (bnd : Binds X.K fd names dus) (dv : Vals dvs dus) (esc : ∀ σ, PassesAt CX X σ (E σ)) (args : PA X (e :: es) t)
    (st : starEach (e :: es) X.env = (false, eval e X.env) :: starEach es X.env := by rfl) (pln : (backTo pos (starEach es X.env)).any (·.1) = false := by rfl) :
    PE X (.Call (.Name x np) (e :: es) [] pos) (tMakeN C sp dvs E tf t) := by
  refine ⟨fun pins s σ H Q J wish => ?_⟩
  refine wpAny_Call_Name_kw (thn (hf.run pins s σ H _ J wish) fun u s0 ⟨x, H0, J0, rx, ex, q0⟩ => ?_)
  subst ex
  cases (show u = Value.ref C from rx)
  refine PySem.W.callWith_K (h₀ := X.base) J0.ok.mod.kin mk.kp (thn (args.run pos pins s0 σ H0 _ J0 q0) fun us s1 ⟨xs, H1, J1, rel, q⟩ => ⟨J1.kIn, ?_⟩) st pln
  have q2 := q (s1.heap.objs.size + 1) s1.heap.objs.size (J1.hok.fresh (Nat.le_succ _)) (J1.hok.fresh (Nat.le_refl _)) (Nat.ne_of_lt (Nat.lt_succ_self _))
  have J2 := Inv.made (C := C) J1
  have rel2 : Vals (V.ref (s1.heap.objs.size + 1) :: (xs ++ dvs)) (Value.ref (s1.heap.objs.size + 1) :: (us ++ dus)) := .cons rfl (rel.append dv)
  have cnt : (Value.ref (s1.heap.objs.size + 1) :: us ++ dus).length = names.length := rel2.length.symm.trans (F.ln _ _ _ _ q2)
  refine wpAny_call (make_map (f := f) J1.kIn mk.makes mk.init (beq_iff_eq.mp mk.fn) (codeAny_mono (F.go _ X.stack _ _ ⟨Value.ref (s1.heap.objs.size + 1) :: us, []⟩ (Value.ref (s1.heap.objs.size + 1) :: (us ++ dus)) _ _ (E σ) (guards_make gd) (room.make C us [])
    (J2.env0.make C us []) (bnd _ (Value.ref (s1.heap.objs.size + 1) :: us) J2.kIn cnt) rel2 q2) fun out s' got => ?_))
  match out, got with
  | .error er, got => exact esc σ pins _ _ er s' J2 got
  | .ok (.ret u), got =>
    obtain ⟨v, H', J3, rv, ev, q3⟩ := J2.after got
    subst ev
    exact ⟨rv, ⟨V.ref (s1.heap.objs.size + 1), H', J3, rfl, q3⟩⟩
  | .ok .next, got => exact got.elim
  | .ok .brk, got => exact got.elim
  | .ok .cont, got => exact got.elim
/-- e.f as a target -/
def gFld (K : PySem.W.Frag) (ta : TE) (f : Str) : TG := fun y σ H Q => ta σ H fun x H1 => ∃ a C dx fs, x = .ref a ∧ H1 a = some (.ins C dx fs) ∧ Cls K C ∧ NoAttr K C f ∧ fs.length < 1000 ∧ Q σ (upd H1 a (.ins C dx (putF f y fs)))
theorem pg_fld {fl : Str} (ha : PE X o ta) : PG X (.Attribute o fl pos) (gFld X.K ta fl) := by
  refine ⟨fun pins s σ H v u Q J r wish => ?_⟩
  rw [assign_Attribute]
  refine wpAny_bind (wpAny_holding (thn (ha.run pins s σ H _ J wish) fun ov s2 ⟨x, H2, J2, rx, a, C, dx, fs, ex, ea, c, n, l, q2⟩ => ?_))
  subst ex
  cases (show ov = Value.ref a from rx)
  refine wpAny_bind (wpAny_standAt (wpAny_bind (wpAny_holding (setattr_ok J2 ea c n l r fun s3 J3 => ?_))))
  exact wpAny_release ⟨σ, _, J3, q2⟩
end
end DC

namespace DL
open PySem L2
section
variable {G : Gx} {ρ : Env} {P : D → Env → Prop} {PO : M → Env → Prop} {K : PySem.W.Frag} {k : D → Prop} {c : Str} {fs : List (Str × D)} {te ta tb tf : TE} {t : TA} {CA : Addr} {xs : List D} {i n : Nat} {dvs : List V} {dds : List D} {PS_ : Post}
theorem w_isC (h : W G ta ρ fun d ρ1 => d = .fun_ CA ∧ P d ρ1) : W G (DC.tIsC CA ta) ρ P := fun w σ Q o e q =>
  h w σ _ o e fun v w1 d ρ1 ⟨ed, p⟩ l1 o1 r1 => by
    subst ed
    have r0 := r1
    cases r1
    exact ⟨rfl, q _ w1 _ ρ1 p l1 o1 r0⟩
theorem wo_mkN {C : CO} {c : Str} (hd : ∀ S, RepL G.K S dvs dds) (h : W G tf ρ fun d ρ0 => d = .fun_ CA ∧ WA G t ρ0 fun ds ρ1 => CA = clsAt G.K c ∧ (ds ++ dds).length + 1 = n ∧ C.c (.obj c []) (ds ++ dds) fun o m' => match o with | .ret a => a = .sh .non ∧ PO m' ρ1 | .err c fs => G.er c fs ρ1) :
    WO G (DC.tMakeN CA (toSp G.K n C.con) dvs (fun σ cls d H => G.Wx cls d σ H) tf t) ρ PO := fun w σ Q o e q =>
  h w σ _ o e fun v w1 d ρ1 ⟨ed, p⟩ l1 o1 r1 => by
    subst ed
    cases r1
    exact ⟨rfl, wo_mk (C := C) hd p w1 σ Q o1 (e.later l1) fun v w2 m ρ2 fp p2 l2 => q v w2 m ρ2 fp p2 (l1.trans l2)⟩
/-! ### f-strings -/
theorem w_fmt (h : W G te ρ fun x ρ1 => (∃ y : Str, x = .str y ∧ y.length ≤ 100000 ∧ P (.str y) ρ1) ∨ ∃ i : Int, x = .int i ∧ i.natAbs.log2 < 1920 ∧ P (.str (Str.ofString (toString i))) ρ1) : W G (tFmt te) ρ P := fun w σ Q o e q =>
  h w σ _ o e fun v w1 d ρ1 hh l1 o1 r1 => by
    rcases hh with ⟨y, rfl, hz, p⟩ | ⟨j, rfl, hz, p⟩
    · obtain rfl := r1.str_inv
      exact .inl ⟨y, rfl, sz_of hz, q _ w1 _ ρ1 p l1 o1 (.str _)⟩
    · obtain rfl := r1.int_inv
      exact .inr ⟨j, rfl, hz, q _ w1 _ ρ1 p l1 o1 (.str _)⟩
def WJ (G : Gx) : List TE → Str → Env → (Str → Env → Prop) → Prop
  | [], acc, ρ, P => P acc ρ
  | t :: ts, acc, ρ, P => W G t ρ fun x ρ1 => ∃ y : Str, x = .str y ∧ (acc ++ y).length ≤ 100000 ∧ WJ G ts (acc ++ y) ρ1 P
theorem WJ.run {ts : List TE} {σ : St} {Q : Str → Hp → Prop} {PJ : Str → Env → Prop} : ∀ {acc : Str} {ρ : Env} {w : Wd}, WJ G ts acc ρ PJ → Ok G w σ ρ → Esc G w → (∀ y w' ρ', PJ y ρ' → Le w w' → Ok G w' σ ρ' → Q y w'.H) → tJs ts acc σ w.H Q := by
  induction ts with
  | nil => exact fun h o e q => q _ _ _ h (Le.refl _) o
  | cons t ts ih =>
    intro acc ρ w h o e q
    refine h w σ _ o e fun v w1 d ρ1 hh l1 o1 r1 => ?_
    obtain ⟨y, ed, hz, p⟩ := hh
    subst ed
    obtain rfl := r1.str_inv
    exact ⟨y, rfl, sz_of hz, ih p o1 (e.later l1) fun z w2 ρ2 p2 l2 => q z w2 ρ2 p2 (l1.trans l2)⟩
theorem w_joined {ts : List TE} (h : WJ G ts Str.empty ρ fun y ρ1 => P (.str y) ρ1) : W G (fun σ H Q => tJs ts Str.empty σ H fun out H1 => Q (.str out) H1) ρ P := fun w σ Q o e q =>
  WJ.run (Q := fun out H1 => Q (.str out) H1) h o e fun y w1 ρ1 p l1 o1 => q _ w1 _ ρ1 p l1 o1 (.str _)
/-! ### str(x), int(s) -/
theorem rc_strOwn {C : CD} (nt : ∀ S, TbK K S) (h : C.c [.obj c fs] fun o => match o with | .ret m => ∃ x, m = .sh (.str x) ∧ k (.str x) | .err _ _ => False) : RC K (DC.rStrC K (clsAt K c) (toSp K 1 C.con)) [.obj c fs] k := fun w vs Q s r q => by
  obtain ⟨v, rfl, r1⟩ := r.one
  have rx0 := r1
  cases r1 with
  | @obj a dx _ ys _ ha rf =>
    refine ⟨a, dx, ys, rfl, s.ins ha, ⟨w.S, w.H, []⟩, [.sh (.obj c fs)], rfl, s, ownL_of (ds := [.obj c fs]) (.cons rx0 .nil), List.nodup_nil, rfl, nt _, [.obj c fs], rfl, C.mono _ _ _ (fun oc hk => ?_) h⟩
    intro w' fp' l s' ow
    cases oc with
    | ret m =>
      intro z fr om hF nd
      obtain ⟨b, rfl, hk⟩ := hk
      cases om with
      | sh r =>
        obtain rfl := r.str_inv
        exact ⟨b, rfl, q _ ⟨w'.S, w'.H, w.F⟩ _ hk ⟨l.s, fun x o hx => l.h x o hx (fun z => nomatch z), fun x hx hs => l.n x hx (fun z => nomatch z) hs, rfl⟩ s' (.str _)⟩
    | err c' fs' => exact hk.elim
theorem rc_intS {a : Str} {j : Int} (h : PySem.intText? a = some j) (hl : a.length ≤ 640) (p : k (.int j)) : RC K (fun xs H Q => ∃ a n, xs = [.str a] ∧ PySem.intText? a = some n ∧ a.length ≤ 640 ∧ Q (.int n) H) [.str a] k := fun w vs Q s r q => by
  obtain ⟨v, rfl, r1⟩ := r.one
  obtain rfl := r1.str_inv
  exact ⟨a, j, rfl, h, hl, q _ w _ p (LeP.refl w) s (.int _)⟩
/-! ### s.split(t) -/
theorem repL_map_str {S : Hp} : ∀ ys : List Str, RepL K S (ys.map V.str) (ys.map D.str)
  | [] => .nil
  | y :: ys => .cons (.str y) (repL_map_str ys)
theorem wo_split (h : W G ta ρ fun x ρ1 => ∃ a, x = .str a ∧ a.length ≤ 99000 ∧ W G te ρ1 fun y ρ2 => ∃ b, y = .str b ∧ (b.length == 0) = false ∧ PO (.lst (((Txt.split a b).map D.str).map .sh)) ρ2) :
    WO G (tM1 (fun x xs H Q => ∃ a b, x = .str a ∧ xs = [.str b] ∧ (b.length == 0) = false ∧ a.length + 2 ≤ sizeLine ∧ rNewStrs (Txt.split a b) H Q) ta te) ρ PO := fun w σ Q o e q =>
  h w σ _ o e fun v w1 x ρ1 ⟨a, ex, hz, h1⟩ l1 o1 r1 => by
    subst ex
    obtain rfl := r1.str_inv
    refine ⟨⟨a, rfl⟩, h1 w1 σ _ o1 (e.later l1) fun u w2 y ρ2 ⟨b, ey, hb, p⟩ l2 o2 r2 => ?_⟩
    subst ey
    obtain rfl := r2.str_inv
    refine ⟨a, b, rfl, rfl, hb, sz_of (by omega), fun p' hp => ?_⟩
    exact q (.ref p') (w2.own p' (.lst _)) _ ρ2 [p'] p ((l1.trans l2).trans (Wd.le_own hp)) (o2.own hp) (.lst (o2.sub.free hp) upd_same (ownL_of (repL_map_str _)))
theorem w_split (h : W G ta ρ fun x ρ1 => ∃ a, x = .str a ∧ a.length ≤ 99000 ∧ W G te ρ1 fun y ρ2 => ∃ b, y = .str b ∧ (b.length == 0) = false ∧ P (.lst ((Txt.split a b).map D.str)) ρ2) :
    W G (tM1 (fun x xs H Q => ∃ a b, x = .str a ∧ xs = [.str b] ∧ (b.length == 0) = false ∧ a.length + 2 ≤ sizeLine ∧ rNewStrs (Txt.split a b) H Q) ta te) ρ P :=
  w_frz (wo_split (h.imp fun x ρ1 ⟨a, b, c, d⟩ => ⟨a, b, c, d.imp fun y ρ2 ⟨b, e, f, g⟩ => ⟨b, e, f, _, frz_lst, g⟩⟩))
/-! ### a name's own list of data -/
theorem OkE.ownLst {w : Wd} {σ : St} {ds : List D} (o : Ok G w σ ρ) (h : ρ[i]? = some (some (.lst (ds.map .sh)))) : ∃ a vs, σ[i]? = some (some (.ref a)) ∧ w.H a = some (.lst vs) ∧ RepL G.K w.S vs ds ∧
    ∀ vs' ds', RepL G.K w.S vs' ds' → ∃ w', Le w w' ∧ w'.S = w.S ∧ w'.H = upd w.H a (.lst vs') ∧ Ok G w' σ (ρ.set i (some (.lst (ds'.map .sh)))) := by
  obtain ⟨v, fp, w2, hv, l2, eS, eH, o2, om⟩ := o.takeM h
  have hil : i < ρ.length := (List.getElem?_eq_some_iff.mp h).1
  have ndf := o2.nodupFx
  cases om with
  | @lst a vs _ fp1 hS hH ol =>
    obtain ⟨rl, rfl⟩ := ownL_inv ol
    refine ⟨a, vs, hv, hH, rl, fun vs' ds' r' => ?_⟩
    obtain ⟨w3, l3, eS3, eH3, o3⟩ := OkE.write (a := a) (ob := .lst vs') (fp' := [a] ++ []) o2 List.mem_cons_self (by rw [eS]; exact hS) (fun x hx => by rw [List.append_nil] at hx; exact hx) (by rw [List.append_nil]; exact ndf)
    have own : OwnR G.K w3.S w3.H (.ref a) (.lst (ds'.map .sh)) [a] := by
      rw [eS3, eH3, eS, eH]
      exact .lst hS upd_same (ownL_of r')
    obtain ⟨w4, l4, eS4, eH4, o4⟩ := OkE.putBack (fr := []) o3 hv own hil
    exact ⟨w4, (l2.trans l3).trans l4, by rw [eS4, eS3, eS], by rw [eH4, eH3, eH], o4⟩
theorem RepL.set {S : Hp} {v : V} {d : D} (r : Rep K S v d) : ∀ {vs : List V} {ds : List D} (j : Nat), RepL K S vs ds → RepL K S (vs.set j v) (ds.set j d)
  | _, _, _, .nil => .nil
  | _, _, 0, .cons _ q => .cons r q
  | _, _, j + 1, .cons h q => .cons h (RepL.set r j q)
theorem RepL.erase {S : Hp} : ∀ {vs : List V} {ds : List D} (j : Nat), RepL K S vs ds → RepL K S (vs.eraseIdx j) (ds.eraseIdx j)
  | _, _, _, .nil => .nil
  | _, _, 0, .cons _ q => q
  | _, _, j + 1, .cons h q => .cons h (RepL.erase j q)
/-- xs[e], xs a name's own list of data -/
theorem w_ixO (hp : ∃ ds : List D, ρ[i]? = some (some (.lst (ds.map .sh)))) (h : W G te ρ fun y ρ1 => ∃ (ds : List D) (j : Int) (d : D), ρ1[i]? = some (some (.lst (ds.map .sh))) ∧ y = .int j ∧ atI ds j = some d ∧ P d ρ1) : W G (tOp (rIx G.K) (tVar i) te) ρ P := fun w σ Q o e q => by
  obtain ⟨ds0, h0⟩ := hp
  obtain ⟨a, _, hv, _, _, _⟩ := o.ownLst h0
  refine ⟨_, hv, h w σ _ o e fun u w1 y ρ1 ⟨ds, j, d, h1, ey, hj, p⟩ l1 o1 r1 => ?_⟩
  subst ey
  obtain rfl := r1.int_inv
  obtain ⟨a', vs, hv', hH, rl, _⟩ := o1.ownLst h1
  obtain rfl : a' = a := by
    rw [hv] at hv'
    exact (V.ref.inj (Option.some.inj (Option.some.inj hv'))).symm
  obtain ⟨z, hz, rz⟩ := rl.atI hj
  exact .inl ⟨a', vs, j, z, rfl, rfl, .inl (.inl hH), hz, q z w1 d ρ1 p l1 o1 rz⟩
/-- xs[e] = x -/
theorem ws_setO (h0 : ∃ m, ρ[i]? = some (some m)) (h : W G te ρ fun d ρ1 => (∃ ds : List D, ρ1[i]? = some (some (.lst (ds.map .sh)))) ∧ W G tb ρ1 fun y ρ2 => ∃ (ds : List D) (j : Int) (n : Nat), ρ2[i]? = some (some (.lst (ds.map .sh))) ∧ y = .int j ∧ ixN ds.length j = some n ∧ PS_.nx (ρ2.set i (some (.lst ((ds.set n d).map .sh))))) :
    WS G (tAsg te (gSub (tVar i) tb rSetL)) ρ PS_ := fun w σ D o e q =>
  h w σ _ o e fun v w1 d ρ1 ⟨⟨ds1, hd1⟩, h1⟩ l1 o1 r1 => by
    obtain ⟨a, _, hv, _, _, _⟩ := o1.ownLst hd1
    refine ⟨_, hv, h1 w1 σ _ o1 (e.later l1) fun u w2 y ρ2 ⟨ds, j, n, h2, ey, hj, p⟩ l2 o2 r2 => ?_⟩
    subst ey
    obtain rfl := r2.int_inv
    obtain ⟨a', vs, hv', hH, rl, put⟩ := o2.ownLst h2
    obtain rfl : a' = a := by
      rw [hv] at hv'
      exact (V.ref.inj (Option.some.inj (Option.some.inj hv'))).symm
    obtain ⟨w3, l3, eS, eH, o3⟩ := put _ _ (RepL.set (r1.mono l2.s) n rl)
    refine ⟨a', vs, j, n, rfl, rfl, hH, by rw [rl.len]; exact hj, ?_⟩
    have z := q.nx w3 σ _ p ((l1.trans l2).trans l3) o3
    rw [eH] at z
    exact z
theorem seqIx_of {j : Int} {n : Nat} (h0 : 0 ≤ j) (h1 : j < n) : seqIndex? j n = some j.toNat := by
  unfold seqIndex?
  simp only [h0, h1, and_self, if_true, if_false, Bool.and_self, decide_true, Int.not_lt.mpr h0]
theorem ws_popAt (h0 : ∃ ds : List D, ρ[i]? = some (some (.lst (ds.map .sh)))) (h : W G te ρ fun y ρ1 => ∃ (ds : List D) (j : Int), ρ1[i]? = some (some (.lst (ds.map .sh))) ∧ y = .int j ∧ 0 ≤ j ∧ j < ds.length ∧ ds.length ≤ 100000 ∧ PS_.nx (ρ1.set i (some (.lst ((ds.eraseIdx j.toNat).map .sh))))) :
    WS G (tDrop (tBM G.K "list" rPopAt (tVar i) (tCons te tNil))) ρ PS_ := fun w σ D o e q => by
  obtain ⟨ds0, hd0⟩ := h0
  obtain ⟨a, vs0, hv, hH0, _, _⟩ := o.ownLst hd0
  refine ⟨_, hv, .inl ⟨rfl, _, .inl (.inl hH0)⟩, ?_⟩
  refine h w σ _ o e fun u w1 y ρ1 ⟨ds, j, h1, ey, j0, j1, hz, p⟩ l1 o1 r1 => ?_
  subst ey
  obtain rfl := r1.int_inv
  obtain ⟨a', vs, hv', hH, rl, put⟩ := o1.ownLst h1
  obtain rfl : a' = a := by
    rw [hv] at hv'
    exact (V.ref.inj (Option.some.inj (Option.some.inj hv'))).symm
  obtain ⟨w3, l3, eS, eH, o3⟩ := put _ _ (RepL.erase j.toNat rl)
  have hlt : j.toNat < vs.length := by rw [rl.len]; omega
  refine ⟨a', vs, j, j.toNat, vs[j.toNat], rfl, rfl, hH, by omega, by omega, seqIx_of j0 (by rw [rl.len]; exact j1), List.getElem?_eq_getElem hlt, ?_⟩
  have z := q.nx w3 σ _ p (l1.trans l3) o3
  rw [eH] at z
  exact z
def rInsert : V → List V → Hp → VK → Prop := fun x vs H Q => ∃ (l : Addr) (xs : List V) (i : Int) (y : V), x = .ref l ∧ vs = [.int i, y] ∧ H l = some (.lst xs) ∧ xs.length < sizeLine ∧ 0 ≤ i ∧ i < 2 ^ 63 ∧
    Q .non (upd H l (.lst (xs.take i.toNat ++ [y] ++ xs.drop i.toNat)))
theorem ws_insert (h0 : ∃ ds : List D, ρ[i]? = some (some (.lst (ds.map .sh)))) (h : W G te ρ fun y ρ1 => W G tb ρ1 fun d ρ2 => ∃ (ds : List D) (j : Int), ρ2[i]? = some (some (.lst (ds.map .sh))) ∧ y = .int j ∧ 0 ≤ j ∧ j < 2 ^ 62 ∧ ds.length ≤ 90000 ∧ PS_.nx (ρ2.set i (some (.lst ((ds.take j.toNat ++ [d] ++ ds.drop j.toNat).map .sh))))) :
    WS G (tDrop (tBM G.K "list" rInsert (tVar i) (tCons te (tCons tb tNil)))) ρ PS_ := fun w σ D o e q => by
  obtain ⟨ds0, hd0⟩ := h0
  obtain ⟨a, vs0, hv, hH0, _, _⟩ := o.ownLst hd0
  refine ⟨_, hv, .inl ⟨rfl, _, .inl (.inl hH0)⟩, ?_⟩
  refine h w σ _ o e fun u w1 y ρ1 h1 l1 o1 r1 => h1 w1 σ _ o1 (e.later l1) fun u2 w2 d ρ2 ⟨ds, j, h2, ey, j0, j1, hz, p⟩ l2 o2 r2 => ?_
  subst ey
  obtain rfl := r1.int_inv
  obtain ⟨a', vs, hv', hH, rl, put⟩ := o2.ownLst h2
  obtain rfl : a' = a := by
    rw [hv] at hv'
    exact (V.ref.inj (Option.some.inj (Option.some.inj hv'))).symm
  obtain ⟨w3, l3, eS, eH, o3⟩ := put _ _ (((rl.take j.toNat).app (.cons r2 .nil)).app (rl.drop j.toNat))
  refine ⟨a', vs, j, u2, rfl, rfl, hH, by rw [rl.len]; exact Nat.lt_of_le_of_lt hz (by decide), j0, by omega, ?_⟩
  have z := q.nx w3 σ _ p ((l1.trans l2).trans l3) o3
  rw [eH] at z
  exact z
/-! ### a, b, c = e, the targets fields of a name's own instance -/
theorem OkE.putFld {w : Wd} {σ : St} {f : Str} {ms : List (Str × M)} {d : D} {v : V} (o : Ok G w σ ρ) (hi : ρ[i]? = some (some (.obj c ms))) (r : Rep G.K w.S v d) (hl : ms.length ≤ 900) : ∃ a dx ys, σ[i]? = some (some (.ref a)) ∧ w.H a = some (.ins (clsAt G.K c) dx ys) ∧ ys.length < 1000 ∧
    ∃ w', Le w w' ∧ w'.S = w.S ∧ w'.H = upd w.H a (.ins (clsAt G.K c) dx (putF f v ys)) ∧ Ok G w' σ (ρ.set i (some (.obj c (putM f (.sh d) ms)))) := by
  obtain ⟨x, fp, w2, hv, l2, eS, eH, o2, om⟩ := o.takeM hi
  have hil : i < ρ.length := (List.getElem?_eq_some_iff.mp hi).1
  have ndf := o2.nodupFx
  cases om with
  | @obj a dx _ ys _ fp1 hS hH of =>
    obtain ⟨fp2, of2, sl⟩ := of.putS (f := f) r
    have nd1 := (List.nodup_cons.mp ndf)
    obtain ⟨w3, l3, eS3, eH3, o3⟩ := OkE.write (a := a) (ob := .ins (clsAt G.K c) dx (putF f v ys)) (fp' := (a :: fp2) ++ []) o2 List.mem_cons_self (by rw [eS]; exact hS) (fun z hz => by
      rw [List.append_nil] at hz
      exact (List.mem_cons.mp hz).elim (fun y => y ▸ List.mem_cons_self) fun y => List.mem_cons_of_mem _ (sl.subset y)) (by
      rw [List.append_nil]
      exact List.nodup_cons.mpr ⟨fun z => nd1.1 (sl.subset z), nd1.2.sublist sl⟩)
    have own : OwnR G.K w3.S w3.H (.ref a) (.obj c (putM f (.sh d) ms)) (a :: fp2) := by
      rw [eS3, eH3, eS, eH]
      refine .obj hS upd_same (of2.keep (Ex.refl _) (fun z hz => (of2.at_ z hz).1) fun z hz u hu => ?_)
      rw [upd_ne (fun y : z = a => nd1.1 (by rw [← y]; exact sl.subset hz))]
      exact .inl hu
    obtain ⟨w4, l4, eS4, eH4, o4⟩ := OkE.putBack (fr := []) o3 hv own hil
    exact ⟨a, dx, ys, hv, hH, by rw [of.len]; omega, w4, (l2.trans l3).trans l4, by rw [eS4, eS3, eS], by rw [eH4, eH3, eH], o4⟩
/-- targets that write into the heap -/
def WF (G : Gx) (g : TG) (d : D) (ρ : Env) (P : Env → Prop) : Prop := ∀ w σ v (Q : St → Hp → Prop), Ok G w σ ρ → Rep G.K w.S v d → (∀ w' ρ', P ρ' → Le w w' → Ok G w' σ ρ' → Q σ w'.H) → g v σ w.H Q
def WFs (G : Gx) (g : TGs) (ds : List D) (ρ : Env) (P : Env → Prop) : Prop := ∀ w σ vs (Q : St → Hp → Prop), Ok G w σ ρ → RepL G.K w.S vs ds → (∀ w' ρ', P ρ' → Le w w' → Ok G w' σ ρ' → Q σ w'.H) → g vs σ w.H Q
theorem wf_fld {PE_ : Env → Prop} {d : D} {f : Str} {ms : List (Str × M)} (hi : ρ[i]? = some (some (.obj c ms))) (hc : Cls G.K (clsAt G.K c)) (hn : NoAttr G.K (clsAt G.K c) f) (hl : ms.length ≤ 900) (p : PE_ (ρ.set i (some (.obj c (putM f (.sh d) ms))))) : WF G (DC.gFld G.K (tVar i) f) d ρ PE_ := fun w σ v Q o r q => by
  obtain ⟨a, dx, ys, hv, hH, hz, w', l, eS, eH, o'⟩ := o.putFld (f := f) hi r hl
  refine ⟨_, hv, a, _, dx, ys, rfl, hH, hc, hn, hz, ?_⟩
  have z := q w' _ p l o'
  rw [eH] at z
  exact z
theorem wfs_nil {PE_ : Env → Prop} (p : PE_ ρ) : WFs G gNil [] ρ PE_ := fun w σ vs Q o r q => by
  cases r
  exact ⟨rfl, q w ρ p (Le.refl w) o⟩
theorem wfs_cons {PE_ : Env → Prop} {g : TG} {gs : TGs} {d : D} {ds : List D} (h : WF G g d ρ fun ρ1 => WFs G gs ds ρ1 PE_) : WFs G (gCons g gs) (d :: ds) ρ PE_ := fun w σ vs Q o r q => by
  cases r with
  | cons r1 r2 => exact ⟨_, _, rfl, h w σ _ _ o r1 fun w1 ρ1 p l1 o1 => p w1 σ _ Q o1 (r2.mono l1.s) fun w2 ρ2 p2 l2 => q w2 ρ2 p2 (l1.trans l2)⟩
theorem wf_lst {PE_ : Env → Prop} {gs : TGs} {ds : List D} {n : Nat} (hn : ds.length = n) (h : WFs G gs ds ρ PE_) : WF G (gLst G.K n gs) (.lst ds) ρ PE_ := fun w σ v Q o r q => by
  cases r with
  | lst h1 r1 => exact ⟨_, _, rfl, o.sub.sl (.inl h1), by rw [r1.len, hn], h w σ _ Q o r1 q⟩
theorem ws_asgF {g : TG} (h : W G te ρ fun d ρ1 => WF G g d ρ1 PS_.nx) : WS G (tAsg te g) ρ PS_ := fun w σ D o e m =>
  h w σ _ o e fun v w1 d ρ1 p l1 o1 r1 => p w1 σ v _ o1 r1 fun w2 ρ2 p2 l2 o2 => m.nx w2 σ ρ2 p2 (l1.trans l2) o2
end
end DL

namespace DL
open PySem L2 PySem.Spec PyProof.Rows
/-! ### data with dicts, as the library's data -/
def keyPy : Key → PyData
  | .inl i => .int i
  | .inr x => .str x
mutual
def D.pyR : D → Option PyData
  | .non => some .none
  | .bl b => some (.bool b)
  | .int i => some (.int i)
  | .str x => some (.str x)
  | .tup ds => (D.pysR ds).map .tuple
  | .lst ds => (D.pysR ds).map .list
  | .rol ds => (D.pysR ds).map .list
  | .dic kvs => (D.pykR kvs).map .dict
  | .dit kvs => (D.pytR kvs).map .dict
  | _ => none
def D.pysR : List D → Option (List PyData)
  | [] => some []
  | d :: ds => match D.pyR d with
    | some p => (D.pysR ds).map (p :: ·)
    | none => none
def D.pykR : List (Key × D) → Option (List (PyData × PyData))
  | [] => some []
  | (k, d) :: r => match D.pyR d with
    | some p => (D.pykR r).map ((keyPy k, p) :: ·)
    | none => none
def D.pytR : List (List Key × D) → Option (List (PyData × PyData))
  | [] => some []
  | (k, d) :: r => match D.pyR d with
    | some p => (D.pytR r).map ((.tuple (k.map keyPy), p) :: ·)
    | none => none
end
/-- the table of the modules is a dict -/
def SmK (K : PySem.W.Frag) : Prop := ∃ o, K.lookup sysModules = some o ∧ o.cls = .type "dict"
def smB (K : PySem.W.Frag) : Bool := match K.lookup sysModules with
  | some ⟨.type c, _, _, _⟩ => decide (c = "dict")
  | _ => false
theorem smB_ok {K : PySem.W.Frag} (h : smB K = true) : SmK K := by
  unfold smB at h
  cases q : K.lookup sysModules with
  | none => rw [q] at h; cases h
  | some o =>
    obtain ⟨oc, od, dt, sl⟩ := o
    rw [q] at h
    cases oc with
    | type c => exact ⟨_, q, congrArg Value.type (of_decide_eq_true h)⟩
    | _ => cases h
section
variable {X : Cx} {pins : List (Addr × Obj)} {σ : L2.St} {H : Hp} {s : Shared} {S : Hp}
theorem off_sm (I : Inv X pins σ H s) (m : SmK X.K) {a : Addr} {o : Obj} {T : String} (h : s.heap.get? a = some o) (hc : o.cls = .type T) (ne : T ≠ "dict") : a ≠ sysModules := fun e => by
  obtain ⟨u, hu, cu⟩ := m
  have z := I.kIn _ _ hu
  rw [e, z] at h
  cases h
  rw [cu] at hc
  injection hc with hc
  exact ne hc.symm
theorem keyRd (h : Heap) : ∀ {k : Key} {u : Value}, RelV (kV k) u → Reads h u (keyPy k) []
  | .inl i, _, r => by
    obtain ⟨t, rfl⟩ := r
    exact .int i t
  | .inr x, _, r => by
    obtain ⟨t, rfl⟩ := r
    exact .str x t
theorem keysRd (h : Heap) : ∀ {ks : List Key} {us : List Value}, Vals (ks.map kV) us → ReadsAll h us (ks.map keyPy) []
  | [], _, r => by
    cases r
    exact .nil
  | k :: ks, _, r => by
    cases r with
    | cons r1 r2 => exact ReadsAll.cons (as := []) (bs := []) (keyRd h r1) (keysRd h r2)
theorem keyRel {k : Key} {v : Value} (same : keyIs k v = true) : RelV (kV k) v := by
  rcases keyIs_shape same with ⟨i, t, rfl, rfl⟩ | ⟨x, t, rfl, rfl⟩
  · exact ⟨t, rfl⟩
  · exact ⟨t, rfl⟩
mutual
theorem Rep.rdR (I : Inv X pins σ H s) (m : SmK X.K) (b : Sub S H) : ∀ {d : D} {v : V} {u : Value} {p : PyData}, Rep X.K S v d → d.pyR = some p → RelV v u → ∃ as, Reads s.heap u p as ∧ sysModules ∉ as
  | .non, _, _, _, r, e, ru => by
    cases r
    cases ru
    cases (Option.some.inj e)
    exact ⟨_, .none, List.not_mem_nil⟩
  | .bl c, _, _, _, r, e, ru => by
    cases r
    cases ru
    cases (Option.some.inj e)
    exact ⟨_, .bool c, List.not_mem_nil⟩
  | .int i, _, _, _, r, e, ru => by
    cases r
    obtain ⟨t, rfl⟩ := ru
    cases (Option.some.inj e)
    exact ⟨_, .int i t, List.not_mem_nil⟩
  | .str x, _, _, _, r, e, ru => by
    cases r
    obtain ⟨t, rfl⟩ := ru
    cases (Option.some.inj e)
    exact ⟨_, .str x t, List.not_mem_nil⟩
  | .tup ds, _, _, _, r, e, ru => by
    cases r with
    | tup h1 r1 =>
      cases ru
      obtain ⟨ps, e1, e2⟩ := Option.map_eq_some_iff.mp e
      subst e2
      obtain ⟨its, rv, ⟨o, ho, hc, n, hd⟩, _⟩ := I.tuple (b.st h1)
      obtain ⟨as, hr, na⟩ := RepL.rdR I m b r1 e1 rv
      exact ⟨_, .tuple ho hc hd hr, na⟩
  | .lst ds, _, _, _, r, e, ru => by
    cases r with
    | lst h1 r1 =>
      cases ru
      obtain ⟨ps, e1, e2⟩ := Option.map_eq_some_iff.mp e
      subst e2
      obtain ⟨its, rv, ⟨o, n, ho, hc, _, hd⟩, _⟩ := I.list (b.sl (.inl h1))
      obtain ⟨as, hr, na⟩ := RepL.rdR I m b r1 e1 rv
      exact ⟨_, .list ho hc hd hr, fun q => (List.mem_cons.mp q).elim (fun z => off_sm I m ho hc (by decide) z.symm) na⟩
  | .rol ds, _, _, _, r, e, ru => by
    cases r with
    | rol h1 r1 =>
      cases ru
      obtain ⟨ps, e1, e2⟩ := Option.map_eq_some_iff.mp e
      subst e2
      obtain ⟨its, rv, ⟨o, n, ho, hc, _, hd⟩, _⟩ := I.list (b.sl h1)
      obtain ⟨as, hr, na⟩ := RepL.rdR I m b r1 e1 rv
      exact ⟨_, .list ho hc hd hr, fun q => (List.mem_cons.mp q).elim (fun z => off_sm I m ho hc (by decide) z.symm) na⟩
  | .dic kvs, _, _, _, r, e, ru => by
    cases r with
    | dic h1 r1 =>
      cases ru
      obtain ⟨ps, e1, e2⟩ := Option.map_eq_some_iff.mp e
      subst e2
      obtain ⟨hz, hS, vs, kv, o, es, ep, ho, xd, hd, _, pr, _⟩ := dk_rd I.hok (b.dk h1)
      obtain ⟨bs, hr, na⟩ := RepK.rdR I m b r1 e1 kv pr
      refine ⟨_, .dict (as := []) ho xd.1 hd hr.1 hr.2, fun q => ?_⟩
      rcases List.mem_cons.mp (show sysModules ∈ _ :: bs from q) with q | q
      · rw [q] at hS
        simp at hS
      · exact na q
  | .dit kvs, _, _, _, r, e, ru => by
    cases r with
    | dit h1 r1 =>
      cases ru
      obtain ⟨ps, e1, e2⟩ := Option.map_eq_some_iff.mp e
      subst e2
      obtain ⟨hz, hS, xs, pd, o, es, ep, ho, xd, hd, el, _⟩ := dt_rd I.hok (b.dt h1)
      obtain ⟨bs, hr, na⟩ := RepT.rdR I m b r1 e1 pd
      refine ⟨_, .dict (as := []) ho xd.1 hd (by rw [el]; exact hr.1) (by rw [el]; exact hr.2), fun q => ?_⟩
      rcases List.mem_cons.mp (show sysModules ∈ _ :: bs from q) with q | q
      · rw [q] at hS
        simp at hS
      · exact na q
  | .ty _, _, _, _, _, e, _ => by cases e
  | .fun_ _, _, _, _, _, e, _ => by cases e
  | .obj _ _, _, _, _, _, e, _ => by cases e
  | .exc _ _ _ _, _, _, _, _, e, _ => by cases e
theorem RepL.rdR (I : Inv X pins σ H s) (m : SmK X.K) (b : Sub S H) : ∀ {ds : List D} {vs : List V} {us : List Value} {ps : List PyData}, RepL X.K S vs ds → D.pysR ds = some ps → Vals vs us → ∃ as, ReadsAll s.heap us ps as ∧ sysModules ∉ as
  | [], _, _, _, r, e, ru => by
    cases r
    cases ru
    cases (Option.some.inj e)
    exact ⟨_, .nil, List.not_mem_nil⟩
  | d :: ds, _, _, _, r, e, ru => by
    cases r with
    | cons r1 r2 =>
      cases ru with
      | cons u1 u2 =>
        unfold D.pysR at e
        cases q : D.pyR d with
        | none =>
          rw [q] at e
          cases e
        | some p =>
          rw [q] at e
          obtain ⟨ps, e1, e2⟩ := Option.map_eq_some_iff.mp e
          subst e2
          obtain ⟨as, h1, n1⟩ := Rep.rdR I m b r1 q u1
          obtain ⟨bs, h2, n2⟩ := RepL.rdR I m b r2 e1 u2
          exact ⟨_, .cons h1 h2, fun z => (List.mem_append.mp z).elim n1 n2⟩
theorem RepK.rdR (I : Inv X pins σ H s) (m : SmK X.K) (b : Sub S H) : ∀ {ds : List (Key × D)} {xs : List (Key × V)} {vs : List (Key × Value)} {es : List DictEntry} {ps : List (PyData × PyData)}, RepK X.K S xs ds → D.pykR ds = some ps → KV xs vs → PySem.Pairs (mixKind X.prog X.w) es vs →
    ∃ as, (ReadsAll s.heap (es.map (·.key)) (ps.map (·.1)) [] ∧ ReadsAll s.heap (es.map (·.val)) (ps.map (·.2)) as) ∧ sysModules ∉ as
  | [], _, _, _, _, r, e, kv, pr => by
    cases r
    cases kv
    cases pr
    cases (Option.some.inj e)
    exact ⟨_, ⟨.nil, .nil⟩, List.not_mem_nil⟩
  | (k, d) :: ds, _, _, _, _, r, e, kv, pr => by
    cases r with
    | cons r1 r2 =>
      cases kv with
      | cons u1 u2 =>
        cases pr with
        | cons w1 w2 w3 =>
          unfold D.pykR at e
          cases q : D.pyR d with
          | none =>
            rw [q] at e
            cases e
          | some p =>
            rw [q] at e
            obtain ⟨ps, e1, e2⟩ := Option.map_eq_some_iff.mp e
            subst e2
            obtain ⟨e3, u1⟩ := u1
            obtain ⟨as, h1, n1⟩ := Rep.rdR I m b r1 q u1
            obtain ⟨bs, ⟨h2, h3⟩, n2⟩ := RepK.rdR I m b r2 e1 u2 w3
            refine ⟨_, ⟨ReadsAll.cons (as := []) (bs := []) (keyRd _ (keyRel (by rw [show k = _ from e3]; exact w1))) h2, ReadsAll.cons (by show Reads s.heap (DictEntry.val _) _ _; rw [w2]; exact h1) h3⟩, fun z => (List.mem_append.mp z).elim n1 n2⟩
theorem RepT.rdR (I : Inv X pins σ H s) (m : SmK X.K) (b : Sub S H) : ∀ {ds : List (List Key × D)} {xs : List (List Key × V)} {vs : List (List Key × Addr × Value)} {ps : List (PyData × PyData)}, RepT X.K S xs ds → D.pytR ds = some ps → Paired (fun (p : List Key × V) (q : List Key × Addr × Value) => p.1 = q.1 ∧ H q.2.1 = some (.tup (p.1.map kV)) ∧ RelV p.2 q.2.2) xs vs →
    ∃ as, (ReadsAll s.heap ((vs.map (PySem.entryOfKey (tupleKind (mixKind X.prog X.w)))).map (·.key)) (ps.map (·.1)) [] ∧ ReadsAll s.heap ((vs.map (PySem.entryOfKey (tupleKind (mixKind X.prog X.w)))).map (·.val)) (ps.map (·.2)) as) ∧ sysModules ∉ as
  | [], _, _, _, r, e, kv => by
    cases r
    cases kv
    cases (Option.some.inj e)
    exact ⟨_, ⟨.nil, .nil⟩, List.not_mem_nil⟩
  | (k, d) :: ds, _, _, _, r, e, kv => by
    cases r with
    | cons r1 r2 =>
      cases kv with
      | cons u1 u2 =>
        unfold D.pytR at e
        cases q : D.pyR d with
        | none =>
          rw [q] at e
          cases e
        | some p =>
          rw [q] at e
          obtain ⟨ps, e1, e2⟩ := Option.map_eq_some_iff.mp e
          subst e2
          obtain ⟨e3, u0, u1⟩ := u1
          obtain ⟨as, h1, n1⟩ := Rep.rdR I m b r1 q u1
          obtain ⟨bs, ⟨h2, h3⟩, n2⟩ := RepT.rdR I m b r2 e1 u2
          obtain ⟨its, rv, ⟨o, ho, hc, n, hd⟩, _⟩ := I.tuple (SqT.of u0)
          refine ⟨_, ⟨ReadsAll.cons (as := []) (bs := []) (Reads.tuple ho hc hd (keysRd _ rv)) h2, ReadsAll.cons h1 h3⟩, fun z => (List.mem_append.mp z).elim n1 n2⟩
end
/-- repr(x) of data, dicts too -/
def rReprD (K : PySem.W.Frag) : List V → Hp → VK → Prop := fun xs H Q => ∃ x S d p, xs = [x] ∧ Sub S H ∧ Rep K S x d ∧ d.pyR = some p ∧ p.showable = true ∧ p.depth ≤ 64 ∧ p.shown.length ≤ sizeLine ∧ Q (.str p.shown) H
theorem o_reprD (gd : X.A.guards = some []) (hu : X.A.units + 70 < cLine) (m : SmK X.K) : CallR X (.builtin "repr") (rReprD X.K) := by
  intro pins s σ H xs us Q J rel ⟨x, S, d, p, ex, b, r, hp, sh, dp, sz, q⟩
  subst ex
  obtain ⟨u, rfl, ru⟩ := vals1 rel
  obtain ⟨as, rd, na⟩ := Rep.rdR J m b r hp ru
  cases rd with
  | none => exact PySem.P.repr_of_none ⟨.str _, H, J.tok _, ⟨_, rfl⟩, q⟩
  | bool c => exact PySem.P.repr_of_bool ⟨.str _, H, J.tok _, ⟨_, rfl⟩, q⟩
  | int i t => exact PySem.P.repr_of_int (of_decide_eq_true sh) ⟨.str _, H, J.tok _, ⟨_, rfl⟩, q⟩
  | str y t => exact PySem.P.repr_of_str ⟨.str _, H, J.tok _, ⟨_, rfl⟩, q⟩ sz
  | list h1 h2 h3 h4 => exact repr_of_reads' (.list h1 h2 h3 h4) sh (fun _ => na) gd (by omega) (fun _ _ e => e) (fun h' v tk keep => ⟨.str _, H, J.kept (t' := tk) keep, ⟨_, rfl⟩, q⟩) sz
  | tuple h1 h2 h3 h4 => exact repr_of_reads' (.tuple h1 h2 h3 h4) sh (fun _ => na) gd (by omega) (fun _ _ e => e) (fun h' v tk keep => ⟨.str _, H, J.kept (t' := tk) keep, ⟨_, rfl⟩, q⟩) sz
  | dict h1 h2 h3 h4 h5 => exact repr_of_reads' (.dict h1 h2 h3 h4 h5) sh (fun _ => na) gd (by omega) (fun _ _ e => e) (fun h' v tk keep => ⟨.str _, H, J.kept (t' := tk) keep, ⟨_, rfl⟩, q⟩) sz
end
theorem rc_reprD {K : PySem.W.Frag} {x : D} {p : PyData} {k : D → Prop} (hx : x.pyR = some p) (sh : p.showable = true) (dp : p.depth ≤ 64) (sz : p.shown.length ≤ 100000) (h : k (.str p.shown)) : RC K (rReprD K) [x] k := fun w vs Q s r q => by
  obtain ⟨v, rfl, r1⟩ := r.one
  exact ⟨v, w.S, x, p, rfl, s, r1, hx, sh, dp, sz_of sz, q _ w _ h (LeP.refl w) s (.str _)⟩
/-! ### a head with defs at any address -/
def asS (g : Addr → Option Obj) (n : Nat) : List Addr := He.asD g n ++ [cStatics, sysModules]
abbrev AlS : Type := He.AlD × Bool
def obsS (n : Nat) (fa : List He.Fa) (fn : List He5.DefA) (ex : PySem.W.Frag → Bool) (g : Addr → Option Obj) : AlS := (He5.obsA fa fn (He.frG g (asS g n)), ex (He.frG g (asS g n)))
structure SaysS (fa : List He.Fa) (fn : List He5.DefA) (ex : PySem.W.Frag → Bool) (K : PySem.W.Frag) : Prop where
  d : He5.SaysA fa fn K
  more : ex K = true
def hookS (n : Nat) (fa : List He.Fa) (fn : List He5.DefA) (ex : PySem.W.Frag → Bool) : PySem.W.Hook where
  α := AlS
  obs := fun s => obsS n fa fn ex s.heap.get?
  val := fun _ => (He5.valA fn, true)
  says := fun _ h => ∃ K : PySem.W.Frag, K.In h ∧ SaysS fa fn ex K
  of := fun _ _ e => ⟨_, He.frG_in, congrArg (fun z : AlS => z.1) e, congrArg (fun z : AlS => z.2) e⟩
  keeps := fun _ _ _ ⟨K, inK, c⟩ old => ⟨K, PySem.W.Frag.In.keeps inK old, c⟩
theorem obsS_eq {n : Nat} {fa : List He.Fa} {fn : List He5.DefA} {ex : PySem.W.Frag → Bool} {g : Addr → Option Obj} {s : Shared} (h : ∀ a, g a = s.heap.get? a) : obsS n fa fn ex g = (hookS n fa fn ex).obs s := by
  have same : g = s.heap.get? := funext h
  rw [same] <;> rfl
/-- a classmethod of a class -/
def cmB (K : PySem.W.Frag) (c m : Str) : Bool := PySem.W.readsIn K (He.ga K c) (.type "type") && (decide (PySem.W.specialIn K (.ref (He.ga K c)) "__getattribute__" = some (some (.builtin "type.__getattribute__"))) && (He5.wrapB K (He.ga K c) "classmethod" "classmethod.__get__" m && PySem.W.fnIn K (He5.wf K (He.ga K c) "classmethod" m)))
theorem cmB_ok {K : PySem.W.Frag} {c m : Str} (h : cmB K c m = true) : ClX.CRead K (He.ga K c) (.type "type") ∧ ClX.CMet K (He.ga K c) (.type "type") m (He.ma K (He.ga K c) m) (He5.wf K (He.ga K c) "classmethod" m) := by
  obtain ⟨a1, h⟩ := Bool.and_eq_true_iff.mp h
  obtain ⟨a2, h⟩ := Bool.and_eq_true_iff.mp h
  obtain ⟨a3, a4⟩ := Bool.and_eq_true_iff.mp h
  exact ⟨⟨a1, of_decide_eq_true a2⟩, He5.cmet_of a3 a4⟩
end DL
namespace DL
open PySem L2
theorem mt_insertR {X : Cx} : MtR X "list.insert" rInsert := mt_insert
end DL

namespace DL
open PySem L2
/-! ### dicts with keys ints and texts -/
def keyD : Key → D
  | .inl i => .int i
  | .inr x => .str x
def lookD (kvs : List (Key × D)) (k : Key) : Option D := (kvs.find? fun kv => decide (kv.1 = k)).map (·.2)
def putD (kvs : List (Key × D)) (k : Key) (d : D) : List (Key × D) := if (kvs.any fun kv => decide (kv.1 = k)) = true then kvs.map (fun kv => if kv.1 = k then (kv.1, d) else kv) else kvs ++ [(k, d)]
section
variable {K : PySem.W.Frag} {S H : Hp}
theorem keyD_inv {k : Key} {v : V} (r : Rep K S v (keyD k)) : v = kV k := by
  cases k with
  | inl i => exact r.int_inv
  | inr x => exact r.str_inv
theorem keyD_rep (k : Key) : Rep K S (kV k) (keyD k) := by
  cases k with
  | inl i => exact .int i
  | inr x => exact .str x
theorem RepK.look {k : Key} : ∀ {xs : List (Key × V)} {ds : List (Key × D)}, RepK K S xs ds → (∀ d, lookD ds k = some d → ∃ v, valV xs k = some v ∧ Rep K S v d) ∧ (lookD ds k = none → valV xs k = none)
  | _, _, .nil => ⟨(fun d h => by simp [lookD] at h), fun _ => rfl⟩
  | (j, v) :: xs, (_, e) :: ds, .cons r q => by
    obtain ⟨h1, h2⟩ := RepK.look (k := k) q
    by_cases z : j = k
    · have a : lookD ((j, e) :: ds) k = some e := by simp [lookD, List.find?_cons, z]
      have b : valV ((j, v) :: xs) k = some v := valV_pos z
      exact ⟨fun d hd => by rw [a] at hd; cases hd; exact ⟨v, b, r⟩, fun hn => by rw [a] at hn; cases hn⟩
    · have a : lookD ((j, e) :: ds) k = lookD ds k := by simp [lookD, List.find?_cons, z]
      have b : valV ((j, v) :: xs) k = valV xs k := valV_neg z
      rw [a, b]
      exact ⟨h1, h2⟩
theorem RepK.len : ∀ {xs : List (Key × V)} {ds : List (Key × D)}, RepK K S xs ds → xs.length = ds.length
  | _, _, .nil => rfl
  | _, _, .cons _ q => by rw [List.length_cons, List.length_cons, RepK.len q]
theorem RepK.anyK {k : Key} : ∀ {xs : List (Key × V)} {ds : List (Key × D)}, RepK K S xs ds → (xs.any fun kv => decide (kv.1 = k)) = (ds.any fun kv => decide (kv.1 = k))
  | _, _, .nil => rfl
  | _, _, .cons _ q => by
    rw [List.any_cons, List.any_cons, RepK.anyK q]
theorem RepK.app : ∀ {xs ys : List (Key × V)} {ds es : List (Key × D)}, RepK K S xs ds → RepK K S ys es → RepK K S (xs ++ ys) (ds ++ es)
  | _, _, _, _, .nil, r => r
  | _, _, _, _, .cons h q, r => .cons h (RepK.app q r)
theorem RepK.repl {k : Key} {v : V} {d : D} (r : Rep K S v d) : ∀ {xs : List (Key × V)} {ds : List (Key × D)}, RepK K S xs ds → RepK K S (xs.map fun kv => if kv.1 = k then (kv.1, v) else kv) (ds.map fun kv => if kv.1 = k then (kv.1, d) else kv)
  | _, _, .nil => .nil
  | (j, u) :: xs, (_, e) :: ds, .cons h q => by
    (rw [List.map_cons, List.map_cons])
    by_cases z : j = k
    · rw [if_pos z, if_pos z]
      exact .cons r (RepK.repl r q)
    · rw [if_neg z, if_neg z]
      exact .cons h (RepK.repl r q)
theorem RepK.put {k : Key} {v : V} {d : D} (r : Rep K S v d) {xs : List (Key × V)} {ds : List (Key × D)} (q : RepK K S xs ds) : RepK K S (putK xs k v) (putD ds k d) := by
  unfold putK putD
  rw [q.anyK]
  split
  · exact q.repl r
  · exact q.app (.cons r .nil)
theorem RepK.keys : ∀ {xs : List (Key × V)} {ds : List (Key × D)}, RepK K S xs ds → xs.map (·.1) = ds.map (·.1)
  | _, _, .nil => rfl
  | _, _, .cons _ q => by rw [List.map_cons, List.map_cons, RepK.keys q]
theorem repL_keys : ∀ ks : List Key, RepL K S (ks.map kV) (ks.map keyD)
  | [] => .nil
  | k :: ks => .cons (keyD_rep k) (repL_keys ks)
end
section
variable {G : Gx} {ρ : Env} {P : D → Env → Prop} {PO : M → Env → Prop} {PT : Bool → Env → Prop} {K : PySem.W.Frag} {kk : D → Prop} {td ty tv tx : TE} {i : Nat} {PS_ : Post}
/-- d[y] -/
theorem w_dget (h : W G td ρ fun x ρ1 => ∃ kvs, x = .dic kvs ∧ W G ty ρ1 fun y ρ2 => ∃ k d, y = keyD k ∧ lookD kvs k = some d ∧ P d ρ2) : W G (tDGet td ty) ρ P := fun w σ Q o e q =>
  h w σ _ o e fun v w1 x ρ1 ⟨kvs, ex, h1⟩ l1 o1 r1 => by
    subst ex
    cases r1 with
    | dic ha rk =>
      refine h1 w1 σ _ o1 (e.later l1) fun u w2 y ρ2 ⟨k, d, ey, hk, p⟩ l2 o2 r2 => ?_
      subst ey
      obtain rfl := keyD_inv r2
      obtain ⟨v, hv, rv⟩ := (RepK.look (rk.mono l2.s)).1 d hk
      exact ⟨_, v, rfl, .inl ⟨_, k, o2.sub.dk (l2.s.rd ha), rfl, hv.symm⟩, q v w2 d ρ2 p (l1.trans l2) o2 rv⟩
/-- y in d -/
theorem w_din (h : W G ty ρ fun y ρ1 => ∃ k, y = keyD k ∧ W G td ρ1 fun x ρ2 => ∃ kvs, x = .dic kvs ∧ P (.bl (lookD kvs k).isSome) ρ2) : W G (tDIn ty td) ρ P := fun w σ Q o e q =>
  h w σ _ o e fun u w1 y ρ1 ⟨k, ey, h1⟩ l1 o1 r1 => by
    subst ey
    obtain rfl := keyD_inv r1
    refine h1 w1 σ _ o1 (e.later l1) fun v w2 x ρ2 ⟨kvs, ex, p⟩ l2 o2 r2 => ?_
    subst ex
    cases r2 with
    | @dic _ ys _ ha rk =>
      refine ⟨_, _, rfl, .inl ⟨_, k, o2.sub.dk ha, rfl, rfl⟩, ?_⟩
      have e2 : (valV ys k).isSome = (lookD kvs k).isSome := by
        obtain ⟨z1, z2⟩ := RepK.look (k := k) rk
        cases hl : lookD kvs k with
        | none =>
          rw [z2 hl]
          rfl
        | some d =>
          obtain ⟨v, hv, _⟩ := z1 d hl
          rw [hv]
          rfl
      rw [e2]
      exact q _ w2 _ ρ2 p (l1.trans l2) o2 (.bl _)
theorem w_dnotin (h : W G ty ρ fun y ρ1 => ∃ k, y = keyD k ∧ W G td ρ1 fun x ρ2 => ∃ kvs, x = .dic kvs ∧ P (.bl (!(lookD kvs k).isSome)) ρ2) : W G (tDNotIn ty td) ρ P := fun w σ Q o e q =>
  h w σ _ o e fun u w1 y ρ1 ⟨k, ey, h1⟩ l1 o1 r1 => by
    subst ey
    obtain rfl := keyD_inv r1
    refine h1 w1 σ _ o1 (e.later l1) fun v w2 x ρ2 ⟨kvs, ex, p⟩ l2 o2 r2 => ?_
    subst ex
    cases r2 with
    | @dic _ ys _ ha rk =>
      refine ⟨_, _, rfl, .inl ⟨_, k, o2.sub.dk ha, rfl, rfl⟩, ?_⟩
      have e2 : (valV ys k).isSome = (lookD kvs k).isSome := by
        obtain ⟨z1, z2⟩ := RepK.look (k := k) rk
        cases hl : lookD kvs k with
        | none =>
          rw [z2 hl]
          rfl
        | some d =>
          obtain ⟨v, hv, _⟩ := z1 d hl
          rw [hv]
          rfl
      rw [e2]
      exact q _ w2 _ ρ2 p (l1.trans l2) o2 (.bl _)
/-- d.get(y) -/
theorem w_dget1 (h : W G td ρ fun x ρ1 => ∃ kvs, x = .dic kvs ∧ W G ty ρ1 fun y ρ2 => ∃ k, y = keyD k ∧ P ((lookD kvs k).getD .non) ρ2) : W G (tDGet1 td ty) ρ P := fun w σ Q o e q =>
  h w σ _ o e fun v w1 x ρ1 ⟨kvs, ex, h1⟩ l1 o1 r1 => by
    subst ex
    cases r1 with
    | dic ha rk =>
      refine ⟨_, rfl, .inl ⟨_, o1.sub.dk ha⟩, h1 w1 σ _ o1 (e.later l1) fun u w2 y ρ2 ⟨k, ey, p⟩ l2 o2 r2 => ?_⟩
      subst ey
      obtain rfl := keyD_inv r2
      refine ⟨_, .inl ⟨_, k, o2.sub.dk (l2.s.rd ha), rfl, rfl⟩, ?_⟩
      obtain ⟨z1, z2⟩ := RepK.look (k := k) (rk.mono l2.s)
      cases hl : lookD kvs k with
      | none =>
        rw [hl] at p
        rw [z2 hl]
        exact q _ w2 _ ρ2 p (l1.trans l2) o2 .non
      | some d =>
        rw [hl] at p
        obtain ⟨v, hv, rv⟩ := z1 d hl
        rw [hv]
        exact q _ w2 _ ρ2 p (l1.trans l2) o2 rv
/-- d.get(y, z) -/
theorem w_dget2 (h : W G td ρ fun x ρ1 => ∃ kvs, x = .dic kvs ∧ W G ty ρ1 fun y ρ2 => ∃ k, y = keyD k ∧ W G tx ρ2 fun z ρ3 => P ((lookD kvs k).getD z) ρ3) : W G (tDGet2 td ty tx) ρ P := fun w σ Q o e q =>
  h w σ _ o e fun v w1 x ρ1 ⟨kvs, ex, h1⟩ l1 o1 r1 => by
    subst ex
    cases r1 with
    | dic ha rk =>
      refine ⟨_, rfl, .inl ⟨_, o1.sub.dk ha⟩, h1 w1 σ _ o1 (e.later l1) fun u w2 y ρ2 ⟨k, ey, h2⟩ l2 o2 r2 => ?_⟩
      subst ey
      obtain rfl := keyD_inv r2
      refine h2 w2 σ _ o2 (e.later (l1.trans l2)) fun t w3 z ρ3 p l3 o3 r3 => ?_
      refine ⟨_, .inl ⟨_, k, o3.sub.dk (l3.s.rd (l2.s.rd ha)), rfl, rfl⟩, ?_⟩
      obtain ⟨z1, z2⟩ := RepK.look (k := k) ((rk.mono l2.s).mono l3.s)
      cases hl : lookD kvs k with
      | none =>
        rw [hl] at p
        rw [z2 hl]
        exact q _ w3 _ ρ3 p ((l1.trans l2).trans l3) o3 r3
      | some d =>
        rw [hl] at p
        obtain ⟨v, hv, rv⟩ := z1 d hl
        rw [hv]
        exact q _ w3 _ ρ3 p ((l1.trans l2).trans l3) o3 rv
/-! ### a name's own dict of data -/
def ownD (kvs : List (Key × D)) : M := .dic (kvs.map fun p => (p.1, .sh p.2))
theorem ownK_of {S H : Hp} : ∀ {xs : List (Key × V)} {ds : List (Key × D)}, RepK K S xs ds → OwnK K S H xs (ds.map fun p => (p.1, .sh p.2)) []
  | _, _, .nil => .nil
  | _, _, .cons r q => OwnK.cons (f := []) (g := []) (.sh r) (ownK_of q)
theorem ownK_inv {S H : Hp} : ∀ {xs : List (Key × V)} {ds : List (Key × D)} {fp : List Addr}, OwnK K S H xs (ds.map fun p => (p.1, .sh p.2)) fp → RepK K S xs ds ∧ fp = []
  | _, [], _, .nil => ⟨.nil, rfl⟩
  | _, _ :: _, _, .cons (.sh r) q => by
    obtain ⟨h1, h2⟩ := ownK_inv q
    subst h2
    exact ⟨.cons r h1, rfl⟩
theorem OkE.ownDic {w : Wd} {σ : St} {ds : List (Key × D)} (o : Ok G w σ ρ) (h : ρ[i]? = some (some (ownD ds))) : ∃ a xs, σ[i]? = some (some (.ref a)) ∧ w.H a = some (.dK xs) ∧ RepK G.K w.S xs ds ∧
    ∀ xs' ds', RepK G.K w.S xs' ds' → ∃ w', Le w w' ∧ w'.S = w.S ∧ w'.H = upd w.H a (.dK xs') ∧ Ok G w' σ (ρ.set i (some (ownD ds'))) := by
  obtain ⟨v, fp, w2, hv, l2, eS, eH, o2, om⟩ := o.takeM h
  have hil : i < ρ.length := (List.getElem?_eq_some_iff.mp h).1
  have ndf := o2.nodupFx
  unfold ownD at om
  cases om with
  | @dic a xs _ fp1 hS hH ol =>
    obtain ⟨rl, rfl⟩ := ownK_inv ol
    refine ⟨a, xs, hv, hH, rl, fun xs' ds' r' => ?_⟩
    obtain ⟨w3, l3, eS3, eH3, o3⟩ := OkE.write (a := a) (ob := .dK xs') (fp' := [a] ++ []) o2 List.mem_cons_self (by rw [eS]; exact hS) (fun x hx => by rw [List.append_nil] at hx; exact hx) (by rw [List.append_nil]; exact ndf)
    have own : OwnR G.K w3.S w3.H (.ref a) (ownD ds') [a] := by
      rw [eS3, eH3, eS, eH]
      exact .dic hS upd_same (ownK_of r')
    obtain ⟨w4, l4, eS4, eH4, o4⟩ := OkE.putBack (fr := []) o3 hv own hil
    exact ⟨w4, (l2.trans l3).trans l4, by rw [eS4, eS3, eS], by rw [eH4, eH3, eH], o4⟩
/-- d[y], d a name's own dict -/
theorem w_dgetO (hp : ∃ ds, ρ[i]? = some (some (ownD ds))) (h : W G ty ρ fun y ρ1 => ∃ ds k d, ρ1[i]? = some (some (ownD ds)) ∧ y = keyD k ∧ lookD ds k = some d ∧ P d ρ1) : W G (tDGet (tVar i) ty) ρ P := fun w σ Q o e q => by
  obtain ⟨ds0, h0⟩ := hp
  obtain ⟨a, _, hv, _, _, _⟩ := o.ownDic h0
  refine ⟨_, hv, h w σ _ o e fun u w1 y ρ1 ⟨ds, k, d, h1, ey, hk, p⟩ l1 o1 r1 => ?_⟩
  subst ey
  obtain rfl := keyD_inv r1
  obtain ⟨a', xs, hv', hH, rl, _⟩ := o1.ownDic h1
  obtain rfl : a' = a := by
    rw [hv] at hv'
    exact (V.ref.inj (Option.some.inj (Option.some.inj hv'))).symm
  obtain ⟨v, hv2, rv⟩ := rl.look.1 d hk
  exact ⟨a', v, rfl, .inl ⟨xs, k, .inl hH, rfl, hv2.symm⟩, q v w1 d ρ1 p l1 o1 rv⟩
/-- d[y] = v -/
theorem ws_dput (h : W G tv ρ fun d ρ1 => (∃ ds, ρ1[i]? = some (some (ownD ds))) ∧ W G ty ρ1 fun y ρ2 => ∃ ds k, ρ2[i]? = some (some (ownD ds)) ∧ y = keyD k ∧ ds.length ≤ 90000 ∧ PS_.nx (ρ2.set i (some (ownD (putD ds k d))))) : WS G (sDPut (tVar i) ty tv) ρ PS_ := fun w σ D o e q =>
  h w σ _ o e fun v w1 d ρ1 ⟨⟨ds1, hd1⟩, h1⟩ l1 o1 r1 => by
    obtain ⟨a, _, hv, _, _, _⟩ := o1.ownDic hd1
    refine ⟨_, hv, h1 w1 σ _ o1 (e.later l1) fun u w2 y ρ2 ⟨ds, k, h2, ey, hz, p⟩ l2 o2 r2 => ?_⟩
    subst ey
    obtain rfl := keyD_inv r2
    obtain ⟨a', xs, hv', hH, rl, put⟩ := o2.ownDic h2
    obtain rfl : a' = a := by
      rw [hv] at hv'
      exact (V.ref.inj (Option.some.inj (Option.some.inj hv'))).symm
    obtain ⟨w3, l3, eS, eH, o3⟩ := put _ _ (RepK.put (k := k) (r1.mono l2.s) rl)
    refine ⟨a', _, rfl, .inl ⟨xs, k, hH, rfl, by rw [rl.len]; exact Nat.lt_of_le_of_lt hz (by decide), rfl⟩, ?_⟩
    have z := q.nx w3 σ _ p ((l1.trans l2).trans l3) o3
    rw [eH] at z
    exact z
/-- d[y] op= v, ints -/
theorem ws_daugI {f : Int → Int → Int} (hp : ∃ ds, ρ[i]? = some (some (ownD ds))) (h : W G ty ρ fun y ρ1 => ∃ ds k a, ρ1[i]? = some (some (ownD ds)) ∧ y = keyD k ∧ lookD ds k = some (.int a) ∧ W G tv ρ1 fun z ρ2 => ∃ b ds2, z = .int b ∧ ρ2[i]? = some (some (ownD ds2)) ∧ ds2.length ≤ 90000 ∧ PS_.nx (ρ2.set i (some (ownD (putD ds2 k (.int (f a b)))))))
    : WS G (sDAug (tVar i) ty tv (ipI f)) ρ PS_ := fun w σ D o e q => by
  obtain ⟨ds0, h0⟩ := hp
  obtain ⟨ad, _, hv, _, _, _⟩ := o.ownDic h0
  refine ⟨_, hv, h w σ _ o e fun u w1 y ρ1 ⟨ds, k, a, h1, ey, hk, hh⟩ l1 o1 r1 => ?_⟩
  subst ey
  obtain rfl := keyD_inv r1
  obtain ⟨a', xs, hv', hH, rl, _⟩ := o1.ownDic h1
  obtain rfl : a' = ad := by
    rw [hv] at hv'
    exact (V.ref.inj (Option.some.inj (Option.some.inj hv'))).symm
  obtain ⟨v, hv2, rv⟩ := rl.look.1 _ hk
  obtain rfl := rv.int_inv
  refine ⟨a', _, rfl, .inl ⟨xs, k, .inl hH, rfl, hv2.symm⟩, hh w1 σ _ o1 (e.later l1) fun t w2 z ρ2 ⟨b, ds2, ez, h2, hz, p⟩ l2 o2 r2 => ?_⟩
  subst ez
  obtain rfl := r2.int_inv
  obtain ⟨a2, ys, hv3, hH2, rl2, put⟩ := o2.ownDic h2
  obtain rfl : a2 = a' := by
    rw [hv] at hv3
    exact (V.ref.inj (Option.some.inj (Option.some.inj hv3))).symm
  obtain ⟨w3, l3, eS, eH, o3⟩ := put _ _ (RepK.put (k := k) (.int (f a b)) rl2)
  refine ⟨a, b, rfl, rfl, _, .inl ⟨ys, k, hH2, rfl, by rw [rl2.len]; exact Nat.lt_of_le_of_lt hz (by decide), rfl⟩, ?_⟩
  have z := q.nx w3 σ _ p ((l1.trans l2).trans l3) o3
  rw [eH] at z
  exact z
end
end DL

namespace DL
open PySem L2
/-! ### a name's own thing looked at as data for a while -/
/-- nothing is raised -/
abbrev Gx.calm (G : Gx) : Gx := { G with er := fun _ _ _ => False }
def viewE (i : Nat) (d : D) (ρ : Env) : Env := (ρ.map keepSh).set i (some (.sh d))
mutual
/-- neither a list nor a dict nor an instance within -/
def D.still : D → Bool
  | .non => true
  | .bl _ => true
  | .int _ => true
  | .str _ => true
  | .ty _ => true
  | .fun_ _ => true
  | .tup ds => D.stills ds
  | _ => false
def D.stills : List D → Bool
  | [] => true
  | d :: ds => D.still d && D.stills ds
end
section
variable {K : PySem.W.Frag} {S S' : Hp} (hs : ∀ a xs, SqT K S a xs → SqT K S' a xs)
include hs
mutual
theorem Rep.stillAny : ∀ {v : V} {d : D}, Rep K S v d → d.still = true → Rep K S' v d
  | _, _, .non, _ => .non
  | _, _, .bl b, _ => .bl b
  | _, _, .int i, _ => .int i
  | _, _, .str x, _ => .str x
  | _, _, .ty n, _ => .ty n
  | _, _, .fun_ a, _ => .fun_ a
  | _, _, .tup h r, f => .tup (hs _ _ h) (RepL.stillAny r f)
  | _, _, .lst _ _, f => by cases f
  | _, _, .rol _ _, f => by cases f
  | _, _, .dic _ _, f => by cases f
  | _, _, .dit _ _, f => by cases f
  | _, _, .obj _ _, f => by cases f
  | _, _, .exc _ _, f => by cases f
theorem RepL.stillAny : ∀ {vs : List V} {ds : List D}, RepL K S vs ds → D.stills ds = true → RepL K S' vs ds
  | _, _, .nil, _ => .nil
  | _, _, .cons h r, f => by
    obtain ⟨f1, f2⟩ := Bool.and_eq_true_iff.mp f
    exact .cons (h.stillAny f1) (RepL.stillAny r f2)
end
end
theorem D.still_of {d : D} (h : d.flat = true) : d.still = true := by
  cases d <;> first | rfl | cases h
theorem D.stills_of : ∀ {ds : List D}, ds.all D.flat = true → D.stills ds = true
  | [], _ => rfl
  | d :: ds, h => by
    rw [List.all_cons] at h
    obtain ⟨f1, f2⟩ := Bool.and_eq_true_iff.mp h
    exact Bool.and_eq_true_iff.mpr ⟨D.still_of f1, D.stills_of f2⟩
/-- no tuple, and nothing locked -/
def NoTup (o : HO) : Prop := (∀ xs, o ≠ .tup xs) ∧ ∀ ob u, o ≠ .frz ob u
section
variable {K : PySem.W.Frag} {S H : Hp}
mutual
theorem OwnR.kind : ∀ {v : V} {m : M} {fp : List Addr}, OwnR K S H v m fp → ∀ x ∈ fp, ∃ o, H x = some o ∧ NoTup o
  | _, _, _, .sh _, _, q => nomatch q
  | _, _, _, .lst h1 h2 r, x, q => by
    rcases List.mem_cons.mp q with rfl | q
    · exact ⟨_, h2, fun _ z => (nomatch z), fun _ _ z => (nomatch z)⟩
    · exact OwnL.kind r x q
  | _, _, _, .dic h1 h2 r, x, q => by
    rcases List.mem_cons.mp q with rfl | q
    · exact ⟨_, h2, fun _ z => (nomatch z), fun _ _ z => (nomatch z)⟩
    · exact OwnK.kind r x q
  | _, _, _, .dit h1 h2 r, x, q => by
    rcases List.mem_cons.mp q with rfl | q
    · exact ⟨_, h2, fun _ z => (nomatch z), fun _ _ z => (nomatch z)⟩
    · exact OwnT.kind r x q
  | _, _, _, .obj h1 h2 r, x, q => by
    rcases List.mem_cons.mp q with rfl | q
    · exact ⟨_, h2, fun _ z => (nomatch z), fun _ _ z => (nomatch z)⟩
    · exact OwnF.kind r x q
  | _, _, _, .tup _ r, x, q => OwnL.kind r x q
  | _, _, _, .ex _ r, x, q => OwnR.kind r x q
theorem OwnL.kind : ∀ {v : List V} {m : List M} {fp : List Addr}, OwnL K S H v m fp → ∀ x ∈ fp, ∃ o, H x = some o ∧ NoTup o
  | _, _, _, .nil, _, q => nomatch q
  | _, _, _, .cons h r, x, q => (List.mem_append.mp q).elim (OwnR.kind h x) (OwnL.kind r x)
theorem OwnK.kind : ∀ {v : List (Key × V)} {m : List (Key × M)} {fp : List Addr}, OwnK K S H v m fp → ∀ x ∈ fp, ∃ o, H x = some o ∧ NoTup o
  | _, _, _, .nil, _, q => nomatch q
  | _, _, _, .cons h r, x, q => (List.mem_append.mp q).elim (OwnR.kind h x) (OwnK.kind r x)
theorem OwnT.kind : ∀ {v : List (List Key × V)} {m : List (List Key × M)} {fp : List Addr}, OwnT K S H v m fp → ∀ x ∈ fp, ∃ o, H x = some o ∧ NoTup o
  | _, _, _, .nil, _, q => nomatch q
  | _, _, _, .cons h r, x, q => (List.mem_append.mp q).elim (OwnR.kind h x) (OwnT.kind r x)
theorem OwnF.kind : ∀ {v : List (Str × V)} {m : List (Str × M)} {fp : List Addr}, OwnF K S H v m fp → ∀ x ∈ fp, ∃ o, H x = some o ∧ NoTup o
  | _, _, _, .nil, _, q => nomatch q
  | _, _, _, .cons h r, x, q => (List.mem_append.mp q).elim (OwnR.kind h x) (OwnF.kind r x)
end
end
theorem EnvR.view {K : PySem.W.Frag} {S S' H : Hp} (e : Ex S S') : ∀ {σ : St} {ρ : Env} {fps : List (List Addr)}, EnvR K S H σ ρ fps → ∃ gps, EnvR K S' H σ (ρ.map keepSh) gps ∧ gps.flatten = []
  | _, _, _, .nil t => ⟨[], .nil (t.mono e), rfl⟩
  | _, _, _, .no r => by
    obtain ⟨gps, h, z⟩ := EnvR.view e r
    exact ⟨[] :: gps, .no h, by rw [List.flatten_cons, z]; rfl⟩
  | _, _, _, .ow (m := m) q r => by
    obtain ⟨gps, h, z⟩ := EnvR.view e r
    refine ⟨[] :: gps, ?_, by rw [List.flatten_cons, z]; rfl⟩
    rw [List.map_cons]
    cases q with
    | sh rp => exact .ow (.sh (rp.mono e)) h
    | lst _ _ _ => exact .no h
    | dic _ _ _ => exact .no h
    | dit _ _ _ => exact .no h
    | obj _ _ _ => exact .no h
    | tup _ _ => exact .no h
    | ex _ _ => exact .no h
section
variable {G : Gx} {ρ : Env} {P : D → Env → Prop} {PO : M → Env → Prop} {te : TE} {i : Nat} {m : M} {d : D}
/-- where the thing stands as data, and back -/
structure Viewed (G : Gx) (w : Wd) (σ : St) (ρ : Env) (i : Nat) (d : D) (wv : Wd) : Prop where
  ok : Ok G.calm wv σ (viewE i d ρ)
  H : wv.H = w.H
  F : wv.F = []
  back : ∀ w2, Le wv w2 → Sub w2.S w2.H → ∃ S3 : Hp, (∀ a, w2.S a = none → S3 a = none) ∧ (∀ a xs, SqT G.K w2.S a xs → SqT G.K S3 a xs) ∧ Le w ⟨S3, w2.H, w.F⟩ ∧ Ok G ⟨S3, w2.H, w.F⟩ σ ρ
theorem OkE.viewed {w : Wd} {σ : St} (o : Ok G w σ ρ) (hi : ρ[i]? = some (some m)) (f : Frz m d) : ∃ wv, Viewed G w σ ρ i d wv := by
  obtain ⟨v, fp, w1, hv, l1, eS, eH, o1, om⟩ := o.takeM hi
  have hil : i < ρ.length := (List.getElem?_eq_some_iff.mp hi).1
  have at_ := o.at_
  have fpS : ∀ x ∈ fp, w.S x = none := fun x hx => (om.at_ x hx).1
  have fpH : ∀ x ∈ fp, w.H x ≠ none := fun x hx => (om.at_ x hx).2
  have off : ∀ x, x ∉ fp → letBe w.S w.H fp x = w.S x := fun x hx => by
    unfold letBe
    rw [if_neg hx]
  have on : ∀ x, x ∈ fp → letBe w.S w.H fp x = w.H x := fun x hx => by
    unfold letBe
    rw [if_pos hx]
  have ex : Ex w.S (letBe w.S w.H fp) := fun x u hu => by
    rw [off x (fun z => by rw [fpS x z] at hu; cases hu)]
    exact hu
  have rep : Rep G.K (letBe w.S w.H fp) v d := OwnR.frz ex om on f
  refine ⟨⟨letBe w.S w.H fp, w.H, []⟩, ⟨?_, rfl, rfl, fun w2 l2 s2 => ?_⟩⟩
  · obtain ⟨fps, en, _⟩ := o.env
    obtain ⟨gps, hv2, hz⟩ := en.view ex
    have es : σ.set i (some v) = σ := by
      apply List.ext_getElem?
      intro j
      by_cases z : i = j
      · subst z
        have hl : i < σ.length := (List.getElem?_eq_some_iff.mp hv).1
        rw [List.getElem?_set_self hl, hv]
      · rw [List.getElem?_set_ne z]
    have hs := hv2.set i (.sh rep)
    rw [es] at hs
    refine ⟨fun a u hu => ?_, ⟨_, hs, ?_⟩, List.nodup_nil, o.px⟩
    · by_cases z : a ∈ fp
      · exact .inl (by rw [← on a z]; exact hu)
      · exact (o.sub a u (by rw [← off a z]; exact hu)).mono ex
    · rw [List.append_nil]
      refine (List.eq_nil_iff_forall_not_mem.mpr fun x hx => ?_).symm
      rcases mem_flatten_set hx with q | q
      · rw [hz] at q
        cases q
      · cases q
  · have keepH : ∀ x u, w.H x = some u → Keeps u (w2.H x) := fun x u hu => l2.h x u hu List.not_mem_nil
    have keepS : ∀ x, w.H x ≠ none → w.S x = none → x ∉ fp → w2.S x = none := fun x hx hs hf => l2.n x hx List.not_mem_nil (by
      show letBe w.S w.H fp x = none
      rw [off x hf]
      exact hs)
    let S3 : Hp := fun a => if a ∈ fp then none else w2.S a
    have S3on : ∀ a, a ∈ fp → S3 a = none := fun a ha => if_pos ha
    have S3off : ∀ a, a ∉ fp → S3 a = w2.S a := fun a ha => if_neg ha
    have S3none : ∀ a, w2.S a = none → S3 a = none := fun a ha => by
      by_cases z : a ∈ fp
      · exact S3on a z
      · rw [S3off a z]
        exact ha
    have ex3 : Ex w.S S3 := fun x u hu => by
      have z : x ∉ fp := fun z => by rw [fpS x z] at hu; cases hu
      rw [S3off x z]
      exact l2.s x u (ex x u hu)
    have n3 : ∀ x, w.H x ≠ none → w.S x = none → S3 x = none := fun x hx hs => by
      by_cases z : x ∈ fp
      · exact S3on x z
      · rw [S3off x z]
        exact keepS x hx hs z
    have S3tup : ∀ a xs, SqT G.K w2.S a xs → SqT G.K S3 a xs := fun a xs hq => by
      refine hq.imp (fun hr => ?_) id
      by_cases z : a ∈ fp
      · obtain ⟨u, hu, n1, n2⟩ := om.kind a z
        have hu2 : w2.S a = some u := l2.s a u (by show letBe w.S w.H fp a = some u; rw [on a z]; exact hu)
        rcases hr with y | ⟨ob, y⟩
        · rw [hu2] at y
          exact absurd (Option.some.inj y) (n1 _)
        · rw [hu2] at y
          exact absurd (Option.some.inj y) (n2 _ _)
      · rcases hr with y | ⟨ob, y⟩
        · exact .inl (by rw [S3off a z]; exact y)
        · exact .inr ⟨ob, by rw [S3off a z]; exact y⟩
    refine ⟨S3, S3none, S3tup, ⟨ex3, fun x u hu _ => keepH x u hu, fun x hx _ hs => n3 x hx hs, fun x hx => .inl hx⟩, ?_⟩
    obtain ⟨fps, en, ef⟩ := o.env
    have ef2 : w.F = fps.flatten := by rw [ef, List.append_nil]
    refine ⟨fun a u hu => ?_, ⟨fps, en.keep ex3 (fun x hx => ?_) fun x hx u hu => keepH x u hu, ef⟩, o.nd, o.px⟩
    · have hu : S3 a = some u := hu
      by_cases z : a ∈ fp
      · rw [S3on a z] at hu
        cases hu
      · rw [S3off a z] at hu
        rcases s2 a u hu with z1 | z1 | ⟨q, ps, e1, e2, g1, g2⟩
        · exact .inl z1
        · exact .inr (.inl z1)
        · refine .inr (.inr ⟨q, ps, e1, e2, g1, fun pos cv hcv => ?_⟩)
          obtain ⟨c, e3, hc⟩ := g2 pos cv hcv
          refine ⟨c, e3, ?_⟩
          show S3 c = _
          rw [S3off c fun zc => ?_]
          · exact hc
          · cases q1 : w.H c with
            | none => exact fpH c zc q1
            | some u1 =>
              have := l2.s c u1 (by show letBe w.S w.H fp c = some u1; rw [on c zc]; exact q1)
              rw [hc] at this
              cases this
              exact om.noext c zc _ q1
    · obtain ⟨h1, h2⟩ := at_ x (by rw [ef2]; exact hx)
      exact n3 x h2 h1
/-- an expression of a still value -/
theorem w_view (hi : ρ[i]? = some (some m)) (f : Frz m d) (h : W G.calm te (viewE i d ρ) fun x _ => x.still = true ∧ P x ρ) : W G te ρ P := fun w σ Q o e q => by
  obtain ⟨wv, vw⟩ := o.viewed hi f
  have z := h wv σ Q vw.ok (fun _ _ _ _ _ _ h => False.elim h) fun v w2 x ρ2 ⟨hf, p⟩ l2 o2 r2 => by
    obtain ⟨S3, s0, st, l3, o3⟩ := vw.back w2 l2 o2.sub
    exact q v ⟨S3, w2.H, w.F⟩ x ρ p l3 o3 (r2.stillAny st hf)
  rw [vw.H] at z
  exact z
/-- an expression of a new list of still values -/
theorem wo_view (hi : ρ[i]? = some (some m)) (f : Frz m d) (h : WO G.calm te (viewE i d ρ) fun x _ => ∃ ds : List D, x = .lst (ds.map .sh) ∧ D.stills ds = true ∧ PO (.lst (ds.map .sh)) ρ) : WO G te ρ PO := fun w σ Q o e q => by
  obtain ⟨wv, vw⟩ := o.viewed hi f
  have z := h wv σ Q vw.ok (fun _ _ _ _ _ _ h => False.elim h) fun v w2 x ρ2 fp2 hh l2 o2 r2 => by
    obtain ⟨ds, ex, hf, p⟩ := hh
    subst ex
    obtain ⟨S3, s0, st, l3, o3⟩ := vw.back w2 l2 o2.sub
    cases r2 with
    | @lst a vs _ fp1 hS hH ol =>
      obtain ⟨rl, rfl⟩ := ownL_inv ol
      have new : w.H a = none := by
        have hm : a ∈ w2.F := by
          obtain ⟨fps, _, ef⟩ := o2.env
          rw [ef]
          exact List.mem_append_right _ (List.mem_singleton.mpr rfl)
        rcases l2.f a hm with z | z
        · rw [vw.F] at z
          cases z
        · rw [vw.H] at z
          exact z
      have at_ := o.at_
      have nF : a ∉ w.F := fun z => (at_ a z).2 new
      obtain ⟨fps, en, ef⟩ := o3.env
      have ef2 : w.F = fps.flatten := by
        have : w.F = fps.flatten ++ [] := ef
        rw [this, List.append_nil]
      refine q (.ref a) ⟨S3, w2.H, w.F ++ [a]⟩ _ ρ [a] p ⟨l3.s, l3.h, l3.n, fun x hx => ?_⟩ ⟨o3.sub, ⟨fps, en, by show w.F ++ [a] = _; rw [ef2]⟩, ?_, o3.px⟩ (.lst (s0 a hS) hH (ownL_of (rl.stillAny st hf)))
      · rcases List.mem_append.mp hx with z | z
        · exact .inl z
        · (rw [List.mem_singleton.mp z])
          exact .inr new
      · show (w.F ++ [a]).Nodup
        refine List.nodup_append.mpr ⟨o.nd, by simp, fun x hx y hy z => nF ?_⟩
        rw [List.mem_singleton.mp hy] at z
        rw [← z]
        exact hx
  rw [vw.H] at z
  exact z
end
end DL

namespace DC
open PySem L2 PySem.Spec PyProof.Rows
/-! ### a dict is locked while it is gone through, unless it is already -/
def tLockX (t : TE) : TE := fun σ H Q => ∃ d kvs, (H d = some (.dK kvs) ∧ ∀ od, t σ (upd H d (.frz od (.dK kvs))) fun v H' => H' d = some (.frz od (.dK kvs)) ∧ Q v (upd H' d (.dK kvs))) ∨ ((∃ ob, H d = some (.frz ob (.dK kvs))) ∧ t σ H Q)
theorem pe_lockX {X : Cx} {e : Expr} {t : TE} (h : PE X e t) : PE X e (tLockX t) := by
  refine ⟨fun pins s σ H Q I wish => ?_⟩
  obtain ⟨d, kvs, ⟨hd, q⟩ | ⟨_, q⟩⟩ := wish
  · exact (pe_lock h).run pins s σ H Q I ⟨d, .dK kvs, hd, trivial, q⟩
  · exact h.run pins s σ H Q I q
def sLockX (t : TS) : TS := fun D σ H => ∃ d kvs, (H d = some (.dK kvs) ∧ ∀ od, t ⟨fun σ' H' => H' d = some (.frz od (.dK kvs)) ∧ D.nx σ' (upd H' d (.dK kvs)), fun v H' => H' d = some (.frz od (.dK kvs)) ∧ D.rt v (upd H' d (.dK kvs)), fun σ' H' => H' d = some (.frz od (.dK kvs)) ∧ D.bk σ' (upd H' d (.dK kvs)), fun σ' H' => H' d = some (.frz od (.dK kvs)) ∧ D.ct σ' (upd H' d (.dK kvs))⟩ σ (upd H d (.frz od (.dK kvs)))) ∨
  ((∃ ob, H d = some (.frz ob (.dK kvs))) ∧ t D σ H)
theorem ps_lockX {X : Cx} {st : Stmt} {t : TS} (h : PS X st t) : PS X st (sLockX t) := by
  refine ⟨fun pins s σ H D I wish => ?_⟩
  obtain ⟨d, kvs, ⟨hd, q⟩ | ⟨_, q⟩⟩ := wish
  · exact (ps_lock h).run pins s σ H D I ⟨d, .dK kvs, hd, trivial, q⟩
  · exact h.run pins s σ H D I q
end DC
namespace DL
open PySem L2
section
variable {G : Gx} {ρ : Env} {i : Nat} {kvs : List (Key × D)}
theorem sub_dK {w : Wd} {a : Addr} {xs : List (Key × V)} {o : HO} (s : Sub w.S w.H) (ha : Rd w.S a (.dK xs)) (h : w.H a = some (.dK xs)) : w.S a = some (.dK xs) := by
  rcases ha with q | ⟨ob, q⟩
  · exact q
  · rcases (s a _ q).two (fun q y => by unfold TabM at y; cases y) with z | ⟨z, _⟩
    · rw [h] at z
      cases z
    · rcases z with ⟨_, z⟩ | ⟨_, z⟩ <;> cases z
/-- locked, and back -/
theorem OkE.lock {w : Wd} {σ : St} {a : Addr} {xs : List (Key × V)} (o : Ok G w σ ρ) (ha : w.S a = some (.dK xs)) (hH : w.H a = some (.dK xs)) (od : Obj) :
    Ok G ⟨w.S, upd w.H a (.frz od (.dK xs)), w.F⟩ σ ρ ∧ ∀ w2 σ2 ρ2 fp, Le ⟨w.S, upd w.H a (.frz od (.dK xs)), w.F⟩ w2 → OkE G w2 σ2 ρ2 fp →
      w2.H a = some (.frz od (.dK xs)) ∧ Le w ⟨w2.S, upd w2.H a (.dK xs), w2.F⟩ ∧ OkE G ⟨w2.S, upd w2.H a (.dK xs), w2.F⟩ σ2 ρ2 fp ∧ ∀ {v : V} {m : M} {g : List Addr}, (∀ x ∈ g, w2.S x = none) → OwnR G.K w2.S w2.H v m g → OwnR G.K w2.S (upd w2.H a (.dK xs)) v m g := by
  have at_ := o.at_
  have nF : a ∉ w.F := fun z => by
    have := (at_ a z).1
    rw [ha] at this
    cases this
  have offF : ∀ x, x ∈ w.F → x ≠ a := fun x hx z => nF (z ▸ hx)
  refine ⟨⟨fun x u hu => ?_, ?_, o.nd, o.px⟩, fun w2 σ2 ρ2 fp l2 o2 => ?_⟩
  · by_cases z : x = a
    · subst z
      have hu : w.S x = some u := hu
      rw [ha] at hu
      cases hu
      exact .inr (.inl ⟨.inl ⟨_, rfl⟩, od, upd_same⟩)
    · show SubAt _ (upd w.H a _ x) u
      rw [upd_ne z]
      exact o.sub x u hu
  · obtain ⟨fps, en, ef⟩ := o.env
    have ef2 : w.F = fps.flatten := by rw [ef, List.append_nil]
    exact ⟨fps, en.keep (Ex.refl _) (fun x hx => (at_ x (by rw [ef2]; exact hx)).1) fun x hx u hu => by
      show Keeps u (upd w.H a _ x)
      rw [upd_ne (offF x (by rw [ef2]; exact hx))]
      exact .inl hu, ef⟩
  · have lk : w2.H a = some (.frz od (.dK xs)) := (l2.h a _ upd_same nF).eq True.intro
    have sa : w2.S a = some (.dK xs) := l2.s a _ ha
    refine ⟨lk, ⟨l2.s, fun x u hu hn => ?_, fun x hx hn hs => l2.n x (fun z => hx ?_) hn hs, fun x hx => ?_⟩, ⟨fun x u hu => ?_, ?_, o2.nd, o2.px⟩, fun {v m g} hg r => r.keep (Ex.refl _) hg fun x hx u hu => ?_⟩
    · show Keeps u (upd w2.H a _ x)
      by_cases z : x = a
      · subst z
        rw [upd_same]
        exact .inl (hH.symm.trans hu)
      · rw [upd_ne z]
        exact l2.h x u (by show upd w.H a _ x = some u; rw [upd_ne z]; exact hu) hn
    · have z : upd w.H a (.frz od (.dK xs)) x = none := z
      by_cases y : x = a
      · subst y
        rw [upd_same] at z
        cases z
      · rw [upd_ne y] at z
        exact z
    · rcases l2.f x hx with z | z
      · exact .inl z
      · refine .inr ?_
        have z : upd w.H a (.frz od (.dK xs)) x = none := z
        by_cases y : x = a
        · subst y
          rw [upd_same] at z
          cases z
        · rw [upd_ne y] at z
          exact z
    · have hu : w2.S x = some u := hu
      show SubAt _ (upd w2.H a _ x) u
      by_cases y : x = a
      · subst y
        rw [sa] at hu
        rw [upd_same]
        exact .inl hu
      · rw [upd_ne y]
        exact o2.sub x u hu
    · obtain ⟨fps, en, ef⟩ := o2.env
      refine ⟨fps, en.keep (Ex.refl _) (fun x hx => (en.at_ x hx).1) fun x hx u hu => ?_, ef⟩
      show Keeps u (upd w2.H a _ x)
      rw [upd_ne (fun y => by
        have := (en.at_ x hx).1
        rw [y, sa] at this
        cases this)]
      exact .inl hu
    · show Keeps u (upd w2.H a _ x)
      rw [upd_ne (fun y => by
        have := hg x hx
        rw [y, sa] at this
        cases this)]
      exact .inl hu
theorem items_keys {K : PySem.W.Frag} {w : Wd} {a : Addr} {ob : Obj} {xs : List (Key × V)} (h : w.H a = some (.frz ob (.dK xs))) (nF : a ∉ w.F) : Items K (Itk a ob xs) w (xs.map fun p => keyD p.1) := fun w2 l2 s2 => by
  have h2 := (l2.h a _ h nF).eq True.intro
  refine ⟨fun j d hd => ?_, ⟨h2, by rw [List.length_map]; exact Nat.le_refl _⟩⟩
  rw [List.getElem?_map] at hd
  obtain ⟨p, hp, rfl⟩ := Option.map_eq_some_iff.mp hd
  refine ⟨⟨h2, (List.getElem?_eq_some_iff.mp hp).1⟩, fun x H' y => ?_⟩
  obtain ⟨rfl, k, v, e1, rfl⟩ := y
  rw [hp] at e1
  cases e1
  exact ⟨w2, rfl, LeP.refl w2, s2, keyD_rep _⟩
theorem RepK.keysD {K : PySem.W.Frag} {S : Hp} : ∀ {xs : List (Key × V)} {ds : List (Key × D)}, RepK K S xs ds → (ds.map fun p => keyD p.1) = xs.map fun p => keyD p.1
  | _, _, .nil => rfl
  | _, _, .cons _ q => by rw [List.map_cons, List.map_cons, RepK.keysD q]
/-- the keys of the dict at a, where it is locked and in the i-th name -/
def iGd (i : Nat) (a : Addr) (ob : Obj) (xs : List (Key × V)) : TI := fun σ H R => (σ[i]? = some (some (.ref a)) ∧ H a = some (.frz ob (.dK xs))) → R (Itk a ob xs) H
theorem wi_gd {a : Addr} {ob : Obj} {xs : List (Key × V)} {PI_ : List D → Env → Prop} (hk : ρ[i]? = some (some (.sh (.dic kvs)))) (h : PI_ (kvs.map fun p => keyD p.1) ρ) : WI G (iGd i a ob xs) ρ PI_ := fun w σ R o e q gd => by
  obtain ⟨g1, g2⟩ := gd
  obtain ⟨v, hv, r⟩ := o.get hk
  rw [g1] at hv
  cases hv
  cases r with
  | @dic _ ys _ ha rk =>
    have hr := o.sub.dk ha
    have ey : ys = xs := by
      rcases hr with z | ⟨o', z⟩
      · rw [g2] at z
        cases z
      · rw [g2] at z
        cases z
        rfl
    subst ey
    have nF : a ∉ w.F := fun z => by
      have := (o.at_ a z).1
      rcases ha with y | ⟨_, y⟩ <;> (rw [this] at y; cases y)
    refine q _ w _ ρ h (Le.refl w) o ?_
    rw [rk.keysD]
    exact items_keys g2 nF
section
variable {g : TG} {tt : TT} {te : TE} {vs sl : List Nat} {PO : M → Env → Prop}
/-- [e for k in d if t], d a name's data -/
theorem wo_lcK (hv : ∀ j ∈ G.px, j ∉ vs) (hsl : ∀ j ∈ sl, j ∈ vs) (hk : ρ[i]? = some (some (.sh (.dic kvs)))) (hl : kvs.length ≤ 90000) (I : Nat → List D → Env → Prop) (i0 : I 0 [] ρ)
    (step : ∀ j d acc ρ2, (kvs.map fun p => keyD p.1)[j]? = some d → I j acc ρ2 → WG G.nox g d (wipeE (inL vs) 0 ρ2) sl fun ρ3 => WT G.nox tt ρ3 fun b ρ4 =>
        if b = true then W G.nox te ρ4 fun y ρ5 => I (j + 1) (acc ++ [y]) (mixE (inL vs) 0 ρ2 ρ5) else I (j + 1) acc (mixE (inL vs) 0 ρ2 ρ4))
    (fin : ∀ acc ρ2, I kvs.length acc ρ2 → PO (.lst (acc.map .sh)) ρ2) : WO G (DC.tLockX (tLc (iKeys (tVar i)) g tt te vs)) ρ PO := fun w σ Q o e q => by
  obtain ⟨v, hv', r⟩ := o.get hk
  cases r with
  | @dic a xs _ ha rk =>
    have core : ∀ (wc : Wd) (ob : Obj) (Qc : VK), Ok G wc σ ρ → wc.H a = some (.frz ob (.dK xs)) → (∀ v w2 m ρ2 fp, PO m ρ2 → Le wc w2 → OkE G w2 σ ρ2 fp → OwnR G.K w2.S w2.H v m fp → Qc v w2.H) → tLc (iKeys (tVar i)) g tt te vs σ wc.H Qc := fun wc ob Qc oc hc qc => by
      have z : WO G.calm (tLc (iGd i a ob xs) g tt te vs) ρ PO := wo_lc hv hsl (wi_gd hk ⟨by rw [List.length_map]; exact hl, I, i0, step, fun acc ρ2 h => fin acc ρ2 (by rw [List.length_map] at h; exact h)⟩)
      have z2 := z wc σ Qc ⟨oc.sub, oc.env, oc.nd, oc.px⟩ (fun _ _ _ _ _ _ h => False.elim h) fun v w2 m ρ2 fp p l2 o2 r2 => qc v w2 m ρ2 fp p l2 ⟨o2.sub, o2.env, o2.nd, o2.px⟩ r2
      exact ⟨_, hv', a, ob, rfl, .inl ⟨xs, hc, z2 ⟨hv', hc⟩⟩⟩
    refine ⟨a, xs, ?_⟩
    rcases o.sub.dk ha with hH | ⟨ob, hH⟩
    · have sa := sub_dK (o := .dK xs) o.sub ha hH
      refine .inl ⟨hH, fun od => ?_⟩
      obtain ⟨ol, back⟩ := o.lock sa hH od
      refine core ⟨w.S, upd w.H a (.frz od (.dK xs)), w.F⟩ od _ ol upd_same fun v w2 m ρ2 fp p l2 o2 r2 => ?_
      · obtain ⟨b1, b2, b3, b4⟩ := back w2 σ ρ2 fp l2 o2
        refine ⟨b1, q v ⟨w2.S, upd w2.H a (.dK xs), w2.F⟩ m ρ2 fp p b2 b3 (b4 (fun x hx => (r2.at_ x hx).1) r2)⟩
    · exact .inr ⟨⟨ob, hH⟩, core w ob Q o hH q⟩
end
end
end DL

namespace DL
open PySem L2
/-! ### arguments that may be owned, tuples of them -/
def WM (G : Gx) (ta : TA) (ρ : Env) (P : List M → Env → Prop) : Prop := ∀ w σ (Q : List V → Hp → Prop), Ok G w σ ρ → Esc G w → (∀ vs w' ms ρ' fp, P ms ρ' → Le w w' → OkE G w' σ ρ' fp → OwnL G.K w'.S w'.H vs ms fp → Q vs w'.H) → ta σ w.H Q
section
variable {G : Gx} {ρ : Env} {P : D → Env → Prop} {PO : M → Env → Prop} {PM : List M → Env → Prop} {ta te tb : TE} {tr t1 : TA} {i : Nat} {m : M} {PS_ : Post}
theorem wm_nil (k : PM [] ρ) : WM G tNil ρ PM := fun w _ _ o _ q => q [] w [] ρ [] k (Le.refl w) o .nil
theorem wm_cons (h : WO G ta ρ fun m ρ1 => WM G tr ρ1 fun ms ρ2 => PM (m :: ms) ρ2) : WM G (tCons ta tr) ρ PM := fun w σ Q o e q =>
  h w σ _ o e fun v w1 m ρ1 fp h1 l1 o1 r1 => by
    obtain ⟨fps, e1, ef⟩ := o1.env
    have nd := o1.nd
    rw [ef] at nd
    obtain ⟨n1, n2, n3⟩ := List.nodup_append.mp nd
    have o1' : Ok G (w1.less fps.flatten) σ ρ1 := ⟨o1.sub, ⟨fps, e1, by show fps.flatten = _; rw [List.append_nil]⟩, n1, o1.px⟩
    have lw : Le w1 (w1.less fps.flatten) := Wd.le_less fun x hx => by rw [ef]; exact List.mem_append_left _ hx
    refine h1 (w1.less fps.flatten) σ _ o1' (e.later (l1.trans lw)) fun vs w2 ms ρ2 fp2 p l2 o2 r2 => ?_
    have at1 := r1.at_
    have at2 := r2.at_
    have nf : ∀ x ∈ fp, x ∉ fps.flatten := fun x hx z => n3 x z x hx rfl
    have keepH : ∀ x ∈ fp, ∀ u, w1.H x = some u → Keeps u (w2.H x) := fun x hx u hu => l2.h x u hu (nf x hx)
    have keepS : ∀ x ∈ fp, w2.S x = none := fun x hx => l2.n x (at1 x hx).2 (nf x hx) (at1 x hx).1
    have own2 : OwnR G.K w2.S w2.H v m fp := r1.keep l2.s keepS keepH
    have nf2 : ∀ x ∈ fp, x ∉ w2.F := fun x hx z => by
      rcases l2.f x z with z | z
      · exact nf x hx z
      · exact (at1 x hx).2 z
    obtain ⟨fps2, e2, ef2⟩ := o2.env
    have nd2 := o2.nd
    rw [ef2] at nd2
    obtain ⟨m1, m2, m3⟩ := List.nodup_append.mp nd2
    refine q (v :: vs) ⟨w2.S, w2.H, fps2.flatten ++ (fp ++ fp2)⟩ (m :: ms) ρ2 (fp ++ fp2) p ?_ ⟨o2.sub, ⟨fps2, e2, rfl⟩, ?_, o2.px⟩ (.cons own2 r2)
    · have l12 := l1.trans (lw.trans l2)
      refine ⟨l12.s, l12.h, l12.n, fun x hx => ?_⟩
      rcases List.mem_append.mp hx with z | z
      · exact l12.f x (by rw [ef2]; exact List.mem_append_left _ z)
      · rcases List.mem_append.mp z with z | z
        · exact l1.f x (by rw [ef]; exact List.mem_append_right _ z)
        · exact l12.f x (by rw [ef2]; exact List.mem_append_right _ z)
    · show (fps2.flatten ++ (fp ++ fp2)).Nodup
      refine List.nodup_append.mpr ⟨m1, List.nodup_append.mpr ⟨n2, m2, fun x hx y hy z => ?_⟩, fun x hx y hy z => ?_⟩
      · subst z
        exact nf2 x hx (by rw [ef2]; exact List.mem_append_right _ hy)
      · subst z
        rcases List.mem_append.mp hy with z | z
        · exact nf2 x z (by rw [ef2]; exact List.mem_append_left _ hx)
        · exact m3 x hx x z rfl
/-- a name's own thing goes out -/
theorem wo_var (h : ρ[i]? = some (some m)) (p : PO m (ρ.set i none)) : WO G (tVar i) ρ PO := fun w σ Q o e q => by
  obtain ⟨v, fp, w', h1, l, hS, hH, o', r⟩ := o.takeM h
  have z := q v w' m _ fp p l o' (by rw [hS, hH]; exact r)
  rw [hH] at z
  exact ⟨v, h1, z⟩
theorem wo_tupM (h : WM G t1 ρ fun ms ρ1 => ms.length ≤ 100000 ∧ PO (.tup ms) ρ1) : WO G (tTup t1) ρ PO := fun w σ Q o e q =>
  h w σ _ o e fun vs w1 ms ρ1 fp ⟨hl, p⟩ l1 o1 r1 => ⟨sz_of (by rw [r1.len]; exact hl), fun a ha => by
    have l2 := Wd.le_add (o := .tup vs) o1.sub ha
    have s2 := Wd.sub_add (p := a) (o := .tup vs) o1.sub ha
    have at1 := r1.at_
    obtain ⟨fps, e1, ef⟩ := o1.env
    have ate := e1.at_
    refine q (.ref a) (w1.add a (.tup vs)) _ ρ1 fp p (l1.trans l2.le) ⟨s2, ⟨fps, e1.keep l2.s (fun x hx => l2.n x (ate x hx).2 (ate x hx).1) (fun x hx u hu => l2.h x u hu), ef⟩, o1.nd, o1.px⟩ (.tup (SqT.of upd_same) ?_)
    exact r1.keep l2.s (fun x hx => l2.n x (at1 x hx).2 (at1 x hx).1) fun x hx u hu => l2.h x u hu⟩
theorem OwnL.get {K : PySem.W.Frag} {S H : Hp} : ∀ {vs : List V} {ms : List M} {fp : List Addr} {j : Nat} {m : M}, OwnL K S H vs ms fp → ms[j]? = some m → ∃ v fj, vs[j]? = some v ∧ OwnR K S H v m fj ∧ fj.Sublist fp
  | _, _, _, _, _, .nil, h => by simp at h
  | _, _, _, 0, _, .cons (f := f) (g := g) r _, h => by
    have e := Option.some.inj (by simpa using h)
    subst e
    exact ⟨_, f, rfl, r, List.sublist_append_left _ _⟩
  | _, _, _, j + 1, _, .cons (f := f) (g := g) _ r, h => by
    obtain ⟨v, fj, h1, h2, h3⟩ := OwnL.get (j := j) r (by simpa using h)
    exact ⟨v, fj, by simpa using h1, h2, h3.trans (List.sublist_append_right _ _)⟩
theorem OwnL.atI {K : PySem.W.Frag} {S H : Hp} {vs : List V} {ms : List M} {fp : List Addr} {j : Int} {m : M} (r : OwnL K S H vs ms fp) (h : atI ms j = some m) : ∃ v fj, atI vs j = some v ∧ OwnR K S H v m fj ∧ fj.Sublist fp := by
  unfold L2.atI at h ⊢
  rw [r.len]
  cases e : (ixN ms.length j) with
  | none => rw [e] at h ; cases h
  | some n =>
    rw [e] at h
    exact r.get h
/-- (..)[j], what is owned within -/
theorem wo_ixT {j : Int} (h : WO G ta ρ fun m ρ1 => ∃ ms mj, m = .tup ms ∧ atI ms j = some mj ∧ PO mj ρ1) : WO G (tOp (rIx G.K) ta (tC (.int j))) ρ PO := fun w σ Q o e q =>
  h w σ _ o e fun v w1 m ρ1 fp ⟨ms, mj, em, hm, p⟩ l1 o1 r1 => by
    subst em
    cases r1 with
    | @tup a vs _ _ ht ol =>
      obtain ⟨u, fj, hu, ro, hsub⟩ := ol.atI hm
      obtain ⟨fps, e1, ef⟩ := o1.env
      have nd := o1.nd
      rw [ef] at nd
      obtain ⟨n1, n2, n3⟩ := List.nodup_append.mp nd
      have sub : ∀ x ∈ fps.flatten ++ fj, x ∈ w1.F := fun x hx => by
        rw [ef]
        exact (List.mem_append.mp hx).elim (List.mem_append_left _) fun z => List.mem_append_right _ (hsub.subset z)
      have z := q u (w1.less (fps.flatten ++ fj)) mj ρ1 fj p (l1.trans (Wd.le_less sub)) ⟨o1.sub, ⟨fps, e1, rfl⟩, List.nodup_append.mpr ⟨n1, n2.sublist hsub, fun x hx y hy z => n3 x hx y (hsub.subset hy) z⟩, o1.px⟩ ro
      exact .inr (.inl ⟨a, vs, j, u, rfl, rfl, o1.sub.st ht, hu, z⟩)
/-- e.clear(), a dict that nobody else holds -/
theorem ws_clear (h : WO G te ρ fun m ρ1 => ∃ ms, m = .dic ms ∧ PS_.nx ρ1) : WS G (tDrop (tBM0 G.K "dict" rDClear te)) ρ PS_ := fun w σ D o e q =>
  h w σ _ o e fun v w1 m ρ1 fp ⟨ms, em, p⟩ l1 o1 r1 => by
    subst em
    cases r1 with
    | @dic a vs _ fp1 hS hH ol =>
      obtain ⟨w2, l2, eS, eH, o2⟩ := OkE.write (a := a) (ob := .dK []) (fp' := []) o1 List.mem_cons_self hS (fun x hx => by cases hx) List.nodup_nil
      refine ⟨.inr (.inr (.inl ⟨rfl, .inl ⟨vs, hH⟩⟩)), a, vs, rfl, rfl, hH, ?_⟩
      have z := q.nx w2 σ _ p (l1.trans l2) o2
      rw [eH] at z
      exact z
/-- e.clear(), a list that nobody else holds -/
theorem ws_clearO {ds : List (Key × D)} (hi : ρ[i]? = some (some (ownD ds))) (p : PS_.nx (ρ.set i (some (ownD [])))) : WS G (tDrop (tBM0 G.K "dict" rDClear (tVar i))) ρ PS_ := fun w σ D o e q => by
  obtain ⟨a, xs, hv, hH, _, put⟩ := o.ownDic hi
  obtain ⟨w2, l2, eS, eH, o2⟩ := put [] [] .nil
  refine ⟨_, hv, .inr (.inr (.inl ⟨rfl, .inl ⟨xs, hH⟩⟩)), a, xs, rfl, rfl, hH, ?_⟩
  have z := q.nx w2 σ _ p l2 o2
  rw [eH] at z
  exact z
/-- a, b = e1, e2, the second one owned -/
theorem ws_parM {j : Nat} (hi : i ∉ G.px) (hj : j ∉ G.px) (hil : i < ρ.length) (hjl : j < ρ.length) (hij : i ≠ j) (h : WM G t1 ρ fun ms ρ1 => ∃ x y, ms = [x, y] ∧ ρ1.length = ρ.length ∧ PS_.nx ((ρ1.set i (some x)).set j (some y))) : WS G (tPar i j t1) ρ PS_ := fun w σ D o e q =>
  h w σ _ o e fun vs w1 ms ρ1 fp ⟨x, y, em, hl, p⟩ l1 o1 r1 => by
    subst em
    cases r1 with
    | @cons v1 _ _ _ f1 _ ra r =>
      cases r with
      | @cons v2 _ _ _ f2 _ rb r =>
        cases r
        rw [List.append_nil] at o1
        have o1' : OkE G w1 σ ρ1 (f1 ++ f2) := o1
        obtain ⟨fps, e1, ef⟩ := o1'.env
        have nd := o1'.nd
        rw [ef] at nd
        obtain ⟨n1, n2, n3⟩ := List.nodup_append.mp nd
        obtain ⟨n4, n5, n6⟩ := List.nodup_append.mp n2
        have es := (e1.set i ra).set j rb
        have sub : ∀ z ∈ ((fps.set i f1).set j f2).flatten, z ∈ w1.F := fun z hz => by
          rw [ef]
          rcases mem_flatten_set hz with h | h
          · rcases mem_flatten_set h with h | h
            · exact List.mem_append_left _ h
            · exact List.mem_append_right _ (List.mem_append_left _ h)
          · exact List.mem_append_right _ (List.mem_append_right _ h)
        refine ⟨v1, v2, rfl, ?_⟩
        have z := q.nx (w1.less ((fps.set i f1).set j f2).flatten) _ _ p (l1.trans (Wd.le_less sub)) ⟨o1.sub, ⟨_, es, by show _ = _ ++ []; rw [List.append_nil]; rfl⟩, ?_, fun k hk => ?_⟩
        · exact z
        · show ((fps.set i f1).set j f2).flatten.Nodup
          refine nodup_flatten_set (nodup_flatten_set n1 n4 fun x h q => n3 x (mem_flatten_nil q) x (List.mem_append_left _ h) rfl) n5 fun x h q => ?_
          rcases mem_flatten_set (mem_flatten_nil q) with y | y
          · exact n3 x y x (List.mem_append_right _ h) rfl
          · exact n6 x y x h rfl
        · have a1 : j ≠ k := fun z => hj (z ▸ hk)
          have a2 : i ≠ k := fun z => hi (z ▸ hk)
          rw [List.getElem?_set_ne a1, List.getElem?_set_ne a2]
          exact o1.px k hk
end
end DL

namespace DL
open PySem L2
/-! ### {k: v for ..} -/
theorem putD_len (kvs : List (Key × D)) (k : Key) (d : D) : (putD kvs k d).length ≤ kvs.length + 1 := by
  unfold putD
  split
  · rw [List.length_map]
    omega
  · (rw [List.length_append, List.length_singleton])
    omega
section
variable {G : Gx} {tk tv : TE} {tt : TT} {wi : TI} {g : TG} {ρ : Env} {vs sl : List Nat} {PO : M → Env → Prop}
theorem wo_dc (hv : ∀ i ∈ G.px, i ∉ vs) (hsl : ∀ j ∈ sl, j ∈ vs) (h : WI G wi ρ fun ds ρ1 => ds.length ≤ 90000 ∧ ∃ I : Nat → List (Key × D) → Env → Prop, I 0 [] ρ1 ∧
      (∀ i d acc ρ2, ds[i]? = some d → I i acc ρ2 → WG G.nox g d (wipeE (inL vs) 0 ρ2) sl fun ρ3 => WT G.nox tt ρ3 fun b ρ4 =>
        if b = true then W G.nox tk ρ4 fun y ρ5 => ∃ k, y = keyD k ∧ W G.nox tv ρ5 fun z ρ6 => I (i + 1) (putD acc k z) (mixE (inL vs) 0 ρ2 ρ6) else I (i + 1) acc (mixE (inL vs) 0 ρ2 ρ4)) ∧
      ∀ acc ρ2, I ds.length acc ρ2 → PO (ownD acc) ρ2) : WO G (tDc wi g tt tk tv vs) ρ PO := fun w σ Q o e q =>
  h w σ _ o e fun J w1 ds ρ1 ⟨hl, I, i0, step, fin⟩ l1 o1 it => fun Dl hD => by
    have sD : w1.S Dl = none := o1.sub.free hD
    have nF : Dl ∉ w1.F := fun z => (o1.at_ Dl z).2 hD
    have lp : LeP w1 ⟨w1.S, upd w1.H Dl (.dK []), w1.F⟩ := ⟨Ex.refl _, (Ex.new hD).keeps, fun _ _ z => z, rfl⟩
    have offD : ∀ {S H : Hp} {o' : HO}, Sub S H → S Dl = none → Sub S (upd H Dl o') := fun {S H o'} s z a u ha => by
      have ne : a ≠ Dl := fun y => by rw [y, z] at ha; cases ha
      show SubAt _ (upd H Dl o' a) u
      rw [upd_ne ne]
      exact s a u ha
    refine ⟨fun i n H' => ∃ w' ρ' xs acc, w'.H = H' ∧ Le w1 w' ∧ w'.H Dl = some (.dK xs) ∧ w'.S Dl = none ∧ Dl ∉ w'.F ∧ RepK G.K w'.S xs acc ∧ Ok G w' σ ρ' ∧ i ≤ ds.length ∧ n = ds.length - i ∧ acc.length ≤ i ∧ I i acc ρ',
      ⟨_, ⟨w1.S, upd w1.H Dl (.dK []), w1.F⟩, ρ1, [], [], rfl, lp.le, upd_same, sD, nF, .nil, o1.grow lp (offD o1.sub sD), Nat.zero_le _, rfl, Nat.le_refl _, i0⟩, ?_⟩
    rintro i n H' ⟨w', ρ', xs, acc, rfl, l', hL, hS, hF, rl, o', hi, rfl, ha, p⟩
    obtain ⟨go, stop⟩ := it w' l' o'.sub
    by_cases hlt : i < ds.length
    · obtain ⟨g1, g2⟩ := go i ds[i] (List.getElem?_eq_getElem hlt)
      refine .inr ⟨g1, fun H2 => ∃ w' ρ' xs acc, w'.H = H2 ∧ Le w1 w' ∧ w'.H Dl = some (.dK xs) ∧ w'.S Dl = none ∧ Dl ∉ w'.F ∧ RepK G.K w'.S xs acc ∧ Ok G w' σ ρ' ∧ acc.length ≤ i + 1 ∧ I (i + 1) acc ρ', fun H2 ⟨w', ρ', xs, acc, h1, h2, h3, h4, h5, h6, h7, h8, h9⟩ =>
        ⟨ds.length - (i + 1), by omega, w', ρ', xs, acc, h1, h2, h3, h4, h5, h6, h7, hlt, rfl, h8, h9⟩, fun x H2 y => ?_⟩
      obtain ⟨w2, rfl, l2, s2, r2⟩ := g2 x H2 y
      have o2 := o'.grow l2 s2
      obtain ⟨k2, k2f, k2s⟩ := l2.le.stays hL hF hS
      obtain ⟨w3, l3, hS3, hH3, hF3, o3⟩ := o2.wipe hv
      obtain ⟨k3, k3f, k3s⟩ := l3.stays k2 k2f k2s
      rw [← hH3]
      refine step i ds[i] acc ρ' (List.getElem?_eq_getElem hlt) p w3 _ x _ o3.nox (by show Rep G.K w3.S x _; rw [hS3]; exact r2) fun w4 σ4 ρ3 p4 l4 _ hH4 o4 n4 e4 => ?_
      obtain ⟨k4, k4f, k4s⟩ := l4.stays k3 k3f k3s
      have nσ : σ4.length = σ.length := by rw [n4, wipe_length]
      have eσ : ∀ j, j ∉ vs → σ4[j]? = σ[j]? := fun j hj => by rw [e4 j (fun z => hj (hsl j z)), wipe_get hj]
      refine ⟨wipe_eq nσ eσ, ?_⟩
      have lw4 : Le w' w4 := (l2.le.trans l3).trans l4
      rw [← hH4]
      refine p4 w4 σ4 _ o4 esc_nox fun b w5 ρ4 p5 l5 o5 => ?_
      obtain ⟨k5, k5f, k5s⟩ := l5.stays k4 k4f k4s
      cases b with
      | false =>
        have p5' : I (i + 1) acc (mixE (inL vs) 0 ρ' ρ4) := p5
        obtain ⟨w6, l6, hS6, hH6, hF6, o6⟩ := OkE.mix o' (lw4.trans l5) o5.unnox nσ eσ
        obtain ⟨k6, k6f, k6s⟩ := l6.stays k5 k5f k5s
        exact ⟨w6, _, xs, acc, hH6, ((l'.trans lw4).trans l5).trans l6, k6, k6s, k6f, rl.mono ((lw4.trans l5).trans l6).s, o6, by omega, p5'⟩
      | true =>
        refine (show W G.nox tk ρ4 fun y ρ5 => ∃ k, y = keyD k ∧ W G.nox tv ρ5 fun z ρ6 => I (i + 1) (putD acc k z) (mixE (inL vs) 0 ρ' ρ6) from p5) w5 σ4 _ o5 esc_nox fun vk w55 y ρ55 ⟨k, ey, p55⟩ l55 o55 r55 => ?_
        subst ey
        obtain rfl := keyD_inv r55
        refine p55 w55 σ4 _ o55 esc_nox fun v w6 y ρ5 p6 l66 o6 r6 => ?_
        have l6 := l55.trans l66
        obtain ⟨k6, k6f, k6s⟩ := l6.stays k5 k5f k5s
        have lw6 : Le w' w6 := (lw4.trans l5).trans l6
        refine ⟨xs, k, rfl, k6, by rw [rl.len]; exact Nat.lt_of_le_of_lt (show acc.length ≤ 90000 by omega) (by decide), ?_⟩
        obtain ⟨fps, en, f⟩ := o6.env
        have o7 : Ok G ⟨w6.S, upd w6.H Dl (.dK (putK xs k v)), w6.F⟩ σ4 ρ5 := ⟨offD o6.sub k6s, ⟨fps, en.keep (Ex.refl _) (fun x hx => (en.at_ x hx).1) (fun x hx u hu => by
          show Keeps u (upd w6.H Dl _ x)
          rw [upd_ne (fun z => k6f (by rw [← z, f]; exact List.mem_append_left _ hx))]
          exact .inl hu), f⟩, o6.nd, o6.px⟩
        have lb : Le w1 w6 := l'.trans lw6
        have l7 : Le w1 ⟨w6.S, upd w6.H Dl (.dK (putK xs k v)), w6.F⟩ := ⟨lb.s, fun x u hx hn => by
          show Keeps u (upd w6.H Dl _ x)
          rw [upd_ne (ne_of_none hx hD)]
          exact lb.h x u hx hn, lb.n, lb.f⟩
        have s7 : Ex w'.S w6.S := lw6.s
        -- the outer names
        have o0 : Ok G ⟨w'.S, upd w'.H Dl (.dK (putK xs k v)), w'.F⟩ σ ρ' := by
          obtain ⟨fps, en, f⟩ := o'.env
          exact ⟨offD o'.sub hS, ⟨fps, en.keep (Ex.refl _) (fun x hx => (en.at_ x hx).1) (fun x hx u hu => by
            show Keeps u (upd w'.H Dl _ x)
            rw [upd_ne (fun z => hF (by rw [← z, f]; exact List.mem_append_left _ hx))]
            exact .inl hu), f⟩, o'.nd, o'.px⟩
        have l07 : Le ⟨w'.S, upd w'.H Dl (.dK (putK xs k v)), w'.F⟩ ⟨w6.S, upd w6.H Dl (.dK (putK xs k v)), w6.F⟩ := ⟨s7, fun x u hx hn => by
          by_cases z : x = Dl
          · subst z
            have hx' : upd w'.H x (.dK (putK xs k v)) x = some u := hx
            rw [upd_same] at hx'
            show Keeps u (upd w6.H x _ x)
            rw [upd_same]
            exact .inl hx'
          · have hx' : upd w'.H Dl (.dK (putK xs k v)) x = some u := hx
            rw [upd_ne z] at hx'
            show Keeps u (upd w6.H Dl _ x)
            rw [upd_ne z]
            exact lw6.h x u hx' hn, fun x hx hn hs => by
          by_cases z : x = Dl
          · subst z
            exact k6s
          · refine lw6.n x (fun y => hx ?_) hn hs
            show upd w'.H Dl _ x = none
            rw [upd_ne z]
            exact y, fun x hx => by
          rcases lw6.f x hx with y | y
          · exact .inl y
          · refine .inr ?_
            have z : x ≠ Dl := fun z => k6f (z ▸ hx)
            show upd w'.H Dl _ x = none
            rw [upd_ne z]
            exact y⟩
        obtain ⟨w8, l8, hS8, hH8, hF8, o8⟩ := OkE.mix o0 l07 o7 nσ eσ
        refine ⟨w8, _, putK xs k v, putD acc k y, hH8, l7.trans l8, ?_, ?_, fun z => k6f (hF8 Dl z), ?_, o8, by have := putD_len acc k y; omega, p6⟩
        · rw [hH8]
          exact upd_same
        · rw [hS8]
          exact k6s
        · rw [hS8]
          exact RepK.put r6 (rl.mono s7)
    · have ei : i = ds.length := by omega
      subst ei
      refine .inl ⟨stop, ?_⟩
      have z := q (.ref Dl) ⟨w'.S, w'.H, w'.F ++ [Dl]⟩ (ownD acc) ρ' [Dl] (fin acc ρ' p) ?_ ?_ (.dic hS hL (ownK_of rl))
      · exact z
      · have lw := l1.trans l'
        exact ⟨lw.s, lw.h, lw.n, fun x hx => by
          rcases List.mem_append.mp hx with y | y
          · exact lw.f x y
          · obtain rfl : x = Dl := by simpa using y
            by_cases hf : x ∈ w.F
            · exact .inl hf
            · refine .inr ?_
              cases e3 : w.H x with
              | none => rfl
              | some u => exact absurd hD (l1.h x u e3 hf).ex⟩
      · obtain ⟨fps, en, f⟩ := o'.env
        refine ⟨o'.sub, ⟨fps, en, by show w'.F ++ [Dl] = _; rw [f, List.append_nil]⟩, ?_, o'.px⟩
        show (w'.F ++ [Dl]).Nodup
        refine List.nodup_append.mpr ⟨o'.nd, by simp, fun x hx y hy z => hF ?_⟩
        obtain rfl : y = Dl := by simpa using hy
        rw [← z]
        exact hx
end
end DL

namespace DL
open PySem L2
/-! ### texts in order -/
/-- strictly before -/
def ltS (a b : Str) : Prop := a.cps.toList < b.cps.toList
instance (a b : Str) : Decidable (ltS a b) := inferInstanceAs (Decidable (a.cps.toList < b.cps.toList))
theorem ltN_irrefl : ∀ a : List Nat, ¬ a < a := fun a h => List.lt_irrefl a h
theorem ltN_trans {a b c : List Nat} (h : a < b) (k : b < c) : a < c := List.lt_trans h k
theorem ltN_tri : ∀ a b : List Nat, ¬ a < b → ¬ b < a → a = b := fun a b h k => List.le_antisymm k h
theorem Str.ext_l {a b : Str} (h : a.cps.toList = b.cps.toList) : a = b := by
  obtain ⟨⟨x⟩⟩ := a
  obtain ⟨⟨y⟩⟩ := b
  simp only at h
  rw [h]
theorem ltS_irrefl (a : Str) : ¬ ltS a a := ltN_irrefl _
theorem ltS_trans {a b c : Str} (h : ltS a b) (k : ltS b c) : ltS a c := ltN_trans h k
theorem ltS_tri {a b : Str} (h : ¬ ltS a b) (k : ¬ ltS b a) : a = b := Str.ext_l (ltN_tri _ _ h k)
theorem ltS_asymm {a b : Str} (h : ltS a b) : ¬ ltS b a := fun k => ltS_irrefl _ (ltS_trans h k)
theorem le_trans_S {a b c : Str} (h : ¬ ltS b a) (k : ¬ ltS c b) : ¬ ltS c a := fun z => by
  by_cases e : ltS a b
  · exact k (ltS_trans z e)
  · have := ltS_tri e h
    subst this
    exact k z
theorem rising_pw : ∀ (r : List Str) (p : Str), PyProof.Rows.risingS p r = true → (p :: r).Pairwise fun a b => ¬ ltS b a
  | [], p, _ => List.pairwise_cons.mpr ⟨fun _ h => by (cases h), .nil⟩
  | x :: r, p, h => by
    have h : (!PySem.Spec.ltCps x.cps.toList p.cps.toList && PyProof.Rows.risingS x r) = true := h
    obtain ⟨h1, h2⟩ := Bool.and_eq_true_iff.mp h
    rw [PyProof.Rows.ltCps_eq] at h1
    have h1' : ¬ ltS x p := fun z => by
      have : decide (x.cps.toList < p.cps.toList) = true := decide_eq_true z
      rw [this] at h1
      cases h1
    have ih := rising_pw r x h2
    refine List.pairwise_cons.mpr ⟨fun y hy => ?_, ih⟩
    rcases List.mem_cons.mp hy with z | z
    · rw [z]
      exact h1'
    · exact le_trans_S h1' ((List.pairwise_cons.mp ih).1 y z)
theorem sorted_pw {l : List Str} (h : PyProof.Rows.sortedS l = true) : l.Pairwise fun a b => ¬ ltS b a := by
  cases l with
  | nil => exact .nil
  | cons x r => exact rising_pw r x h
/-- put in its place -/
def insS (x : Str) : List Str → List Str
  | [] => [x]
  | y :: r => if ltS y x then y :: insS x r else x :: y :: r
def srt : List Str → List Str
  | [] => []
  | x :: r => insS x (srt r)
theorem insS_perm (x : Str) : ∀ l : List Str, (insS x l).Perm (x :: l)
  | [] => List.Perm.refl _
  | y :: r => by
    unfold insS
    split
    · exact (List.Perm.cons y (insS_perm x r)).trans (List.Perm.swap x y r)
    · exact List.Perm.refl _
theorem srt_perm : ∀ l : List Str, (srt l).Perm l
  | [] => List.Perm.refl _
  | x :: r => (insS_perm x _).trans (List.Perm.cons x (srt_perm r))
theorem insS_pw (x : Str) : ∀ l : List Str, (l.Pairwise fun a b => ¬ ltS b a) → (insS x l).Pairwise fun a b => ¬ ltS b a
  | [], _ => List.pairwise_cons.mpr ⟨fun _ h => by (cases h), .nil⟩
  | y :: r, h => by
    obtain ⟨h1, h2⟩ := (List.pairwise_cons.mp h)
    unfold insS
    split
    · rename_i c
      refine List.pairwise_cons.mpr ⟨fun z hz => ?_, insS_pw x r h2⟩
      rcases List.mem_cons.mp ((insS_perm x r).mem_iff.mp hz) with e | e
      · rw [e]
        exact ltS_asymm c
      · exact h1 z e
    · rename_i c
      refine List.pairwise_cons.mpr ⟨fun z hz => ?_, h⟩
      rcases List.mem_cons.mp hz with e | e
      · rw [e]
        exact c
      · exact le_trans_S c (h1 z e)
theorem srt_pw : ∀ l : List Str, (srt l).Pairwise fun a b => ¬ ltS b a
  | [] => .nil
  | x :: r => insS_pw x _ (srt_pw r)
theorem pw_unique : ∀ {l m : List Str}, l.Perm m → (l.Pairwise fun a b => ¬ ltS b a) → (m.Pairwise fun a b => ¬ ltS b a) → l = m
  | [], m, p, _, _ => (List.nil_perm.mp p).symm
  | x :: l, [], p, _, _ => by cases (List.perm_nil.mp p)
  | x :: l, y :: m, p, h, k => by
    obtain ⟨h1, h2⟩ := (List.pairwise_cons.mp h)
    obtain ⟨k1, k2⟩ := List.pairwise_cons.mp k
    have e : x = y := by
      have hx : x ∈ y :: m := p.mem_iff.mp List.mem_cons_self
      have hy : y ∈ x :: l := p.mem_iff.mpr List.mem_cons_self
      rcases List.mem_cons.mp hx with z | z
      · exact z
      · rcases List.mem_cons.mp hy with y' | y'
        · exact y'.symm
        · exact ltS_tri (k1 x z |> fun q => q) (h1 y y')
    subst e
    rw [pw_unique (List.Perm.cons_inv p) h2 k2]
theorem srt_eq {l m : List Str} (p : l.Perm m) (h : l.Pairwise fun a b => ¬ ltS b a) : l = srt m := pw_unique (p.trans (srt_perm m).symm) h (srt_pw m)
theorem srt_mem {l : List Str} {x : Str} : x ∈ srt l ↔ x ∈ l := (srt_perm l).mem_iff
theorem srt_len (l : List Str) : (srt l).length = l.length := (srt_perm l).length_eq
theorem srt_nodup {l : List Str} (h : l.Nodup) : (srt l).Nodup := (srt_perm l).nodup_iff.mpr h
theorem srt_lt {l : List Str} (h : l.Nodup) : (srt l).Pairwise ltS := by
  have h1 := srt_pw l
  have h2 := srt_nodup h
  generalize srt l = m at h1 h2
  induction m with
  | nil => exact .nil
  | cons x m ih =>
    obtain ⟨a1, a2⟩ := List.pairwise_cons.mp h1
    obtain ⟨b1, b2⟩ := List.nodup_cons.mp h2
    refine List.pairwise_cons.mpr ⟨fun y hy => ?_, ih a2 b2⟩
    by_cases c : ltS x y
    · exact c
    · have := ltS_tri c (a1 y hy)
      rw [this] at b1
      exact absurd hy b1
theorem srt_fix {l : List Str} (h : l.Pairwise ltS) : srt l = l := (srt_eq (List.Perm.refl l) (h.imp fun h => ltS_asymm h)).symm
theorem srt_srt (l : List Str) : srt (srt l) = srt l := (srt_eq (List.Perm.refl _) (srt_pw l)).symm

/-! ### sorted(..), list(..), dict(..) -/
def rSortedD : List V → Hp → VK → Prop := fun xs H Q => ∃ (a : Addr) (kvs : List (Key × V)) (ks : List Str), xs = [.ref a] ∧ Rd H a (.dK kvs) ∧ kvs.map (·.1) = ks.map Sum.inr ∧ ks.length < 64 ∧
    ∀ ys p, ys.Perm ks → PyProof.Rows.sortedS ys = true → H p = none → Q (.ref p) (upd H p (.lst (ys.map V.str)))
def gSortA (K : PySem.W.Frag) : List V → Hp → VK → Prop := fun xs H Q => rSorted K xs H Q ∨ rSortedD xs H Q ∨ rSortedS K xs H Q
theorem o_sortA {X : Cx} (hc : X.calm = true) : CallR X (.builtin "sorted") (gSortA X.K) := cr_sorted.or (CallR.or (call_sortedD hc) cr_sortedS)
def rListDr : List V → Hp → VK → Prop := fun xs H Q => ∃ (a : Addr) (kvs : List (Key × V)), xs = [.ref a] ∧ Rd H a (.dK kvs) ∧ ∀ p, H p = none → Q (.ref p) (upd H p (.lst (kvs.map fun kv => kV kv.1)))
def gListA (K : PySem.W.Frag) : List V → Hp → VK → Prop := fun xs H Q => gList K xs H Q ∨ rListDr xs H Q
theorem o_listA {X : Cx} (hc : X.calm = true) : CallR X (.type "list") (gListA X.K) := (o_list hc).or (call_listD hc)
def rDictD : List V → Hp → VK → Prop := fun xs H Q => ∃ (a : Addr) (kvs : List (Key × V)), xs = [.ref a] ∧ Rd H a (.dK kvs) ∧ ∀ p, H p = none → Q (.ref p) (upd H p (.dK kvs))
def rDictP (K : PySem.W.Frag) : List V → Hp → VK → Prop := fun xs H Q => ∃ (a : Addr) (ps : List Addr) (kvs : List (Key × V)), xs = [.ref a] ∧ SqL K H a (ps.map V.ref) ∧ Paired (fun p kv => SqT K H p [kV kv.1, kv.2]) ps kvs ∧
    ∀ p, H p = none → Q (.ref p) (upd H p (.dK (mergeK [] kvs)))
def gDictA (K : PySem.W.Frag) : List V → Hp → VK → Prop := fun xs H Q => rDictD xs H Q ∨ rDictP K xs H Q
theorem o_dictA {X : Cx} (hc : X.calm = true) : CallR X (.type "dict") (gDictA X.K) := CallR.or call_dictD (call_dictP hc)
def rLenDr : List V → Hp → VK → Prop := fun xs H Q => ∃ (a : Addr) (kvs : List (Key × V)), xs = [.ref a] ∧ Rd H a (.dK kvs) ∧ Q (.int kvs.length) H
theorem call_lenR {X : Cx} : CallR X (.builtin "len") rLenDr := by
  intro pins s σ H xs us Q I r ⟨a, kvs, ex, hd, q⟩
  subst ex
  obtain ⟨u, eu, rx⟩ := vals1 r
  subst eu
  obtain rfl : u = .ref a := rx
  exact d_len I hd fun t s' I' => ⟨.int _, H, I', ⟨t, rfl⟩, q⟩
def gLenA (K : PySem.W.Frag) : List V → Hp → VK → Prop := fun xs H Q => (fun xs H Q => ∃ x n, xs = [x] ∧ LenV K x H n ∧ Q (.int n) H) xs H Q ∨ rLenDr xs H Q
theorem o_lenA {X : Cx} : CallR X (.builtin "len") (gLenA X.K) := call_len.or call_lenR
section
variable {K : PySem.W.Frag} {k : D → Prop} {x : D} {kvs : List (Key × D)}
theorem RepK.keyed {S : Hp} {xs : List (Key × V)} {ds : List (Key × D)} (r : RepK K S xs ds) {ks : List Str} (h : ds.map (·.1) = ks.map Sum.inr) : xs.map (·.1) = ks.map Sum.inr := by rw [r.keys, h]
theorem rc_sortedD {ks : List Str} (h : kvs.map (·.1) = ks.map Sum.inr) (hl : ks.length < 64) (p : k (.lst ((srt ks).map .str))) : RC K (gSortA K) [.dic kvs] k := fun w vs Q s r q => by
  obtain ⟨v, rfl, r1⟩ := r.one
  cases r1 with
  | @dic a xs _ ha rk =>
    refine .inr (.inl ⟨a, xs, ks, rfl, s.dk ha, rk.keyed h, hl, fun ys p' pm so hp => ?_⟩)
    rw [srt_eq pm (sorted_pw so)]
    obtain ⟨a1, a2, a3⟩ := Wd.repNew s hp (repL_map_str (srt ks))
    exact q _ _ _ p a1 a2 a3
theorem rc_sortedSt {ks : List Str} (hx : IsL x (ks.map .str)) (hl : ks.length < 64) (p : k (.lst ((srt ks).map .str))) : RC K (gSortA K) [x] k := fun w vs Q s r q => by
  obtain ⟨v, rfl, r1⟩ := r.one
  obtain ⟨l, vs, rfl, h1, r1⟩ := Rep.isL_inv hx r1
  rw [r1.strs] at h1
  refine .inr (.inr ⟨l, ks, rfl, s.sl h1, hl, fun ys p' pm so hp => ?_⟩)
  rw [srt_eq pm (sorted_pw so)]
  obtain ⟨a1, a2, a3⟩ := Wd.repNew s hp (repL_map_str (srt ks))
  exact q _ _ _ p a1 a2 a3
theorem rc_listAL {xs : List D} (hx : IsL x xs) (p : k (.lst xs)) : RC K (gListA K) [x] k := fun w vs Q s r q => .inl (rc_listL hx p w vs Q s r q)
theorem rc_listAS {a : Str} (h : a.length ≤ 100000) (p : k (.lst (a.cps.toList.map fun c => .str ⟨#[c]⟩))) : RC K (gListA K) [.str a] k := fun w vs Q s r q => .inl (rc_listS h p w vs Q s r q)
theorem rc_listAD (p : k (.lst (kvs.map fun kv => keyD kv.1))) : RC K (gListA K) [.dic kvs] k := fun w vs Q s r q => by
  obtain ⟨v, rfl, r1⟩ := r.one
  cases r1 with
  | @dic a xs _ ha rk =>
    refine .inr ⟨a, xs, rfl, s.dk ha, fun p' hp => ?_⟩
    have e : (xs.map fun kv => kV kv.1) = (kvs.map (·.1)).map kV := by
      rw [← rk.keys, List.map_map]
      rfl
    have e2 : (kvs.map fun kv => keyD kv.1) = (kvs.map (·.1)).map keyD := by rw [List.map_map]; rfl
    rw [e]
    rw [e2] at p
    obtain ⟨a1, a2, a3⟩ := Wd.repNew s hp (repL_keys (K := K) (kvs.map (·.1)))
    exact q _ _ _ p a1 a2 a3
theorem rc_lenAL {xs : List D} (hx : IsL x xs) (p : k (.int xs.length)) : RC K (gLenA K) [x] k := fun w vs Q s r q => .inl (rc_lenL hx p w vs Q s r q)
theorem rc_lenAT {xs : List D} (p : k (.int xs.length)) : RC K (gLenA K) [.tup xs] k := fun w vs Q s r q => .inl (rc_lenT p w vs Q s r q)
theorem rc_lenAS {a : Str} (h : a.length ≤ 100000) (p : k (.int a.length)) : RC K (gLenA K) [.str a] k := fun w vs Q s r q => .inl (rc_lenS h p w vs Q s r q)
theorem rc_lenAD (p : k (.int kvs.length)) : RC K (gLenA K) [.dic kvs] k := fun w vs Q s r q => by
  obtain ⟨v, rfl, r1⟩ := r.one
  cases r1 with
  | @dic a xs _ ha rk =>
    refine .inr ⟨a, xs, rfl, s.dk ha, ?_⟩
    rw [rk.len]
    exact q _ w _ p (LeP.refl w) s (.int _)
end
def mergeD (kvs more : List (Key × D)) : List (Key × D) := more.foldl (fun acc kv => putD acc kv.1 kv.2) kvs
theorem RepK.merge {K : PySem.W.Frag} {S : Hp} : ∀ {ys : List (Key × V)} {es : List (Key × D)}, RepK K S ys es → ∀ {xs : List (Key × V)} {ds : List (Key × D)}, RepK K S xs ds → RepK K S (mergeK xs ys) (mergeD ds es)
  | _, _, .nil, _, _, r => r
  | _, _, .cons h q, _, _, r => RepK.merge q (RepK.put h r)
section
variable {G : Gx} {ρ : Env} {ta te : TE} {t : TA} {PO : M → Env → Prop} {PS_ : Post} {i : Nat} {P : D → Env → Prop}
/-- dict(d) -/
theorem wo_dict (h : WA G t ρ fun ds ρ1 => ∃ kvs, ds = [.dic kvs] ∧ PO (ownD kvs) ρ1) : WO G (tCB (gDictA G.K) t) ρ PO := fun w σ Q o e q =>
  h w σ _ o e fun vs w1 ds ρ1 ⟨kvs, ex, p⟩ l1 o1 r => by
    subst ex
    obtain ⟨v, rfl, r1⟩ := r.one
    cases r1 with
    | @dic a xs _ ha rk =>
      exact .inl ⟨a, xs, rfl, o1.sub.dk ha, fun p' hp => q (.ref p') (w1.own p' (.dK xs)) _ ρ1 [p'] p (l1.trans (Wd.le_own hp)) (o1.own hp) (.dic (o1.sub.free hp) upd_same (ownK_of rk))⟩
theorem repL_pairs {K : PySem.W.Frag} {S : Hp} : ∀ {kvs : List (Key × D)} {vs : List V}, RepL K S vs (kvs.map fun p => D.tup [keyD p.1, p.2]) → ∃ (ps : List Addr) (xs : List (Key × V)), vs = ps.map V.ref ∧ Paired (fun p kv => SqT K S p [kV kv.1, kv.2]) ps xs ∧ RepK K S xs kvs
  | [], _, .nil => ⟨[], [], rfl, .nil, .nil⟩
  | (k, d) :: kvs, _, .cons r q => by
    obtain ⟨ps, xs, e, h1, h2⟩ := repL_pairs q
    subst e
    obtain ⟨l, us, rfl, h3, r3⟩ := r.tup_inv
    obtain ⟨a, b, rfl, ra, rb⟩ := r3.two
    obtain rfl := keyD_inv ra
    exact ⟨l :: ps, (k, b) :: xs, rfl, .cons h3 h1, .cons rb h2⟩
theorem Paired.impS {α β : Type} {R R' : α → β → Prop} (f : ∀ a b, R a b → R' a b) : ∀ {xs : List α} {ys : List β}, Paired R xs ys → Paired R' xs ys
  | _, _, .nil => .nil
  | _, _, .cons h r => .cons (f _ _ h) (Paired.impS f r)
/-- dict(pairs) -/
theorem wo_dictP (h : WA G t ρ fun ds ρ1 => ∃ x kvs, ds = [x] ∧ IsL x (kvs.map fun p => D.tup [keyD p.1, p.2]) ∧ PO (ownD (mergeD [] kvs)) ρ1) : WO G (tCB (gDictA G.K) t) ρ PO := fun w σ Q o e q =>
  h w σ _ o e fun vs w1 ds ρ1 ⟨x, kvs, ex, hx, p⟩ l1 o1 r => by
    subst ex
    obtain ⟨v, rfl, r1⟩ := r.one
    obtain ⟨l, us, rfl, h1, r1⟩ := Rep.isL_inv hx r1
    obtain ⟨ps, xs, rfl, h2, rk⟩ := repL_pairs r1
    exact .inr ⟨l, ps, xs, rfl, o1.sub.sl h1, Paired.impS (fun _ _ h => o1.sub.st h) h2, fun p' hp => q (.ref p') (w1.own p' (.dK (mergeK [] xs))) _ ρ1 [p'] p (l1.trans (Wd.le_own hp)) (o1.own hp) (.dic (o1.sub.free hp) upd_same (ownK_of (RepK.merge rk .nil)))⟩
/-- list(xs), the name's own -/
theorem wo_listA (h : WA G t ρ fun ds ρ1 => ∃ x xs, ds = [x] ∧ IsL x xs ∧ PO (.lst (xs.map .sh)) ρ1) : WO G (tCB (gListA G.K) t) ρ PO := fun w σ Q o e q =>
  h w σ _ o e fun vs w1 ds ρ1 ⟨x, xs, ex, hx, p⟩ l1 o1 r => by
    subst ex
    obtain ⟨v, rfl, r1⟩ := r.one
    obtain ⟨l, us, rfl, h1, r1⟩ := Rep.isL_inv hx r1
    exact .inl (.inl ⟨l, us, rfl, .inl (o1.sub.sl h1), fun p' hp => q (.ref p') (w1.own p' (.lst us)) _ ρ1 [p'] p (l1.trans (Wd.le_own hp)) (o1.own hp) (.lst (o1.sub.free hp) upd_same (ownL_of r1))⟩)
/-- xs.pop(e), xs a name's own list of data -/
theorem w_popAt (h0 : ∃ ds : List D, ρ[i]? = some (some (.lst (ds.map .sh)))) (h : W G te ρ fun y ρ1 => ∃ (ds : List D) (j : Int) (d : D), ρ1[i]? = some (some (.lst (ds.map .sh))) ∧ y = .int j ∧ 0 ≤ j ∧ j < ds.length ∧ ds.length ≤ 100000 ∧ ds[j.toNat]? = some d ∧ P d (ρ1.set i (some (.lst ((ds.eraseIdx j.toNat).map .sh))))) :
    W G (tBM G.K "list" rPopAt (tVar i) (tCons te tNil)) ρ P := fun w σ Q o e q => by
  obtain ⟨ds0, hd0⟩ := h0
  obtain ⟨a, vs0, hv, hH0, _, _⟩ := o.ownLst hd0
  refine ⟨_, hv, .inl ⟨rfl, _, .inl (.inl hH0)⟩, ?_⟩
  refine h w σ _ o e fun u w1 y ρ1 ⟨ds, j, d, h1, ey, j0, j1, hz, hd, p⟩ l1 o1 r1 => ?_
  subst ey
  obtain rfl := r1.int_inv
  obtain ⟨a', vs, hv', hH, rl, put⟩ := o1.ownLst h1
  obtain rfl : a' = a := by
    rw [hv] at hv'
    exact (V.ref.inj (Option.some.inj (Option.some.inj hv'))).symm
  obtain ⟨w3, l3, eS, eH, o3⟩ := put _ _ (RepL.erase j.toNat rl)
  obtain ⟨v, hvv, rv⟩ := rl.get hd
  refine ⟨a', vs, j, j.toNat, v, rfl, rfl, hH, by omega, by omega, seqIx_of j0 (by rw [rl.len]; exact j1), hvv, ?_⟩
  have z := q v w3 d _ p (l1.trans l3) o3 (by rw [eS]; exact rv)
  rw [eH] at z
  exact z

/-! ### {k: v, ..} -/
/-- keys and values in turn -/
def WPs (G : Gx) : List (TE × TE) → Env → (List (Key × D) → Env → Prop) → Prop
  | [], ρ, P => P [] ρ
  | (tk, tv) :: r, ρ, P => W G tk ρ fun y ρ1 => ∃ k, y = keyD k ∧ W G tv ρ1 fun d ρ2 => WPs G r ρ2 fun kvs ρ3 => P ((k, d) :: kvs) ρ3
theorem wps_run : ∀ {trs : List (TE × TE)} {ρ : Env} {P : List (Key × D) → Env → Prop}, WPs G trs ρ P → ∀ w σ (Q : List (V × V) → Hp → Prop), Ok G w σ ρ → Esc G w →
    (∀ xs w' kvs ρ', P kvs ρ' → Le w w' → Ok G w' σ ρ' → RepK G.K w'.S xs kvs → Q (xs.map fun kv => (kV kv.1, kv.2)) w'.H) → tPairs trs σ w.H Q
  | [], ρ, P, h, w, σ, Q, o, e, q => q [] w [] ρ h (Le.refl w) o .nil
  | (tk, tv) :: r, ρ, P, h, w, σ, Q, o, e, q => (show W G tk ρ _ from h) w σ _ o e fun v w1 y ρ1 ⟨k, ey, h1⟩ l1 o1 r1 => by
    subst ey
    obtain rfl := keyD_inv r1
    exact h1 w1 σ _ o1 (e.later l1) fun u w2 d ρ2 h2 l2 o2 r2 => wps_run h2 w2 σ _ o2 (e.later (l1.trans l2)) fun xs w3 kvs ρ3 h3 l3 o3 r3 => q ((k, u) :: xs) w3 ((k, d) :: kvs) ρ3 h3 ((l1.trans l2).trans l3) o3 (.cons (r2.mono l3.s) r3)
theorem wo_disp {trs : List (TE × TE)} (h : WPs G trs ρ fun kvs ρ1 => kvs.length ≤ 15 ∧ PO (ownD (mergeD [] kvs)) ρ1) : WO G (tDisp trs) ρ PO := fun w σ Q o e q p' hp => by
  have sD : w.S p' = none := o.sub.free hp
  have nF : p' ∉ w.F := fun z => (o.at_ p' z).2 hp
  have lp : LeP w ⟨w.S, upd w.H p' (.dK []), w.F⟩ := ⟨Ex.refl _, (Ex.new hp).keeps, fun _ _ z => z, rfl⟩
  have s1 : Sub w.S (upd w.H p' (.dK [])) := fun a u ha => by
    have ne : a ≠ p' := fun y => by rw [y, sD] at ha; cases ha
    show SubAt _ (upd w.H p' _ a) u
    rw [upd_ne ne]
    exact o.sub a u ha
  have o1 : Ok G ⟨w.S, upd w.H p' (.dK []), w.F⟩ σ ρ := o.grow lp s1
  refine wps_run h ⟨w.S, upd w.H p' (.dK []), w.F⟩ σ _ o1 (e.later lp.le) fun xs w2 kvs ρ2 ⟨hl, hq⟩ l2 o2 r2 => ?_
  obtain ⟨k2, k2f, k2s⟩ := l2.stays upd_same nF sD
  refine ⟨k2, xs, rfl, by rw [r2.len]; exact hl, ?_⟩
  obtain ⟨fps, en, ef⟩ := o2.env
  have at2 := en.at_
  have f2 : w2.F = fps.flatten := by rw [ef, List.append_nil]
  have lw := lp.le.trans l2
  refine q (.ref p') ⟨w2.S, upd w2.H p' (.dK (mergeK [] xs)), w2.F ++ [p']⟩ _ ρ2 [p'] hq ?_ ?_ (.dic k2s upd_same (ownK_of (RepK.merge r2 .nil)))
  · refine ⟨lw.s, fun x u hx hn => ?_, lw.n, fun x hx => ?_⟩
    · show Keeps u (upd w2.H p' _ x)
      rw [upd_ne (ne_of_none hx hp)]
      exact lw.h x u hx hn
    · rcases List.mem_append.mp hx with y | y
      · exact lw.f x y
      · rw [List.mem_singleton.mp y]
        exact .inr hp
  · refine ⟨fun a u ha => ?_, ⟨fps, en.keep (Ex.refl _) (fun x hx => (at2 x hx).1) (fun x hx u hu => ?_), by show w2.F ++ [p'] = _; rw [f2]⟩, ?_, o2.px⟩
    · have ne : a ≠ p' := fun y => by
        have ha : w2.S a = some u := ha
        rw [y, k2s] at ha
        cases ha
      show SubAt _ (upd w2.H p' _ a) u
      rw [upd_ne ne]
      exact o2.sub a u ha
    · show Keeps u (upd w2.H p' _ x)
      rw [upd_ne (fun z => k2f (by rw [← z, f2]; exact hx))]
      exact .inl hu
    · show (w2.F ++ [p']).Nodup
      refine List.nodup_append.mpr ⟨o2.nd, by simp, fun x hx y hy z => k2f ?_⟩
      rw [← List.mem_singleton.mp hy, ← z]
      exact hx
end
end DL

namespace PySem.SeqAt
open MeetsSeq3 MeetsSeq SeqRoads2 MeetsSeq2
open AutoSeq1 renaming wpAny_loadPart' → loadPt
section
variable {w : World} {prog : Program}
def seqO (T : String) (xs : Array Value) (n : Nat) (dd : Option Addr) (sl : Array (Option Value)) : Obj := { cls := .type T, dict := dd, data := .seq xs n, slots := sl }
/-- the items of two sequences that answer by e -/
def Eqs (prog : Program) (w : World) (A : Around) (s : Shared) (xs ys : Array Value) (e : Nat → Bool) : Prop := ∀ j (p : j < xs.size) (q : j < ys.size), EqIn prog w A.in1 s xs[j] ys[j] (e j)
theorem range_step {m i : Nat} (e : Nat → Bool) (h : i < m) : ((List.range m).drop i).all e = (e i && ((List.range m).drop (i + 1)).all e) := by
  have z : (List.range m).drop i = i :: (List.range m).drop (i + 1) := by simp [List.drop_eq_getElem_cons, h]
  rw [z, List.all_cons]
theorem tupNe (p q : Addr) (xs ys : Array Value) (n m : Nat) (d1 d2 : Option Addr) (s1 s2 : Array (Option Value)) (e : Nat → Bool) :
    MeetsIn prog w (Builtin.«tuple.__ne__» ⟨[.ref p, .ref q], []⟩) (fun A R s => s.heap.get? p = some (seqO "tuple" xs n d1 s1) ∧ s.heap.get? q = some (seqO "tuple" ys m d2 s2) ∧ Eqs prog w A s xs ys e ∧
      R (.ok (.ret (.bool (!((List.range (min xs.size ys.size)).all e && xs.size == ys.size))))) s) :=
  .of_wp fun A R s wish => by
    obtain ⟨hp, g, d, tk, os⟩ := (s)
    obtain ⟨lp, lq, each, fin⟩ := wish
    unfold seqO at lp lq
    have sub2 := AutoSeq1.sub_tuple_tuple
    have len : (xs.toList.zip ys.toList).length = min xs.size ys.size := by simp
    wp_walk using loadPt lp, loadPt lq, wpAny_forIn_list _ (fun more b t => b.1 = none ∧ t = ⟨hp, g, d, tk, os⟩ ∧ ∃ i, more = (xs.toList.zip ys.toList).drop i ∧
      R (.ok (.ret (.bool (!(((List.range (min xs.size ys.size)).drop i).all e && xs.size == ys.size))))) ⟨hp, g, d, tk, os⟩) _
    case turn =>
      rintro ⟨y, x⟩ more b t ⟨eb, rfl, i, ez, left⟩
      have il : i < (xs.toList.zip ys.toList).length := by
        by_cases c : i < (xs.toList.zip ys.toList).length
        · exact c
        · rw [List.drop_of_length_le (Nat.le_of_not_lt c)] at ez
          cases ez
      have im : i < min xs.size ys.size := by rw [← len]; exact il
      have ix : i < xs.size := by omega
      have iy : i < ys.size := by omega
      rw [List.drop_eq_getElem_cons il] at ez
      injection ez with e1 e2
      obtain rfl : y = xs[i] := by simpa using congrArg Prod.fst e1
      obtain rfl : x = ys[i] := by simpa using congrArg Prod.snd e1
      rw [range_step e im] at left
      refine wpAny_bind (each i ix iy _ _ ?_)
      cases c : e i with
      | true =>
        rw [c] at left
        wp_walk
        exact ⟨rfl, rfl, i + 1, e2, by simpa using left⟩
      | false =>
        rw [c] at left
        wp_walk
        exact ⟨_, rfl, by simpa using left⟩
    case fin =>
      rintro ⟨b1, b2⟩ t ⟨eb, rfl, i, ez, left⟩
      simp only at eb
      subst eb
      have ge : min xs.size ys.size ≤ i := by
        by_cases c : i < (xs.toList.zip ys.toList).length
        · rw [List.drop_eq_getElem_cons c] at ez
          cases ez
        · rw [← len]
          exact Nat.le_of_not_lt c
      rw [List.drop_of_length_le (by simpa using ge)] at left
      wp_walk
      exact ⟨_, rfl, by simpa [Builtin.Tuple.tupleCompareSizes, bne] using left⟩
    case h => exact ⟨rfl, rfl, 0, rfl, by simpa using fin⟩
theorem lstNeFrom (p q : Addr) (xs ys : Array Value) (n m : Nat) (d1 d2 : Option Addr) (s1 s2 : Array (Option Value)) (alike : xs.size = ys.size) (e : Nat → Bool) (left : Nat) : ∀ i : Nat, xs.size - i = left →
    MeetsIn prog w (Builtin.«list.__eq__.loop» ⟨[.ref p, .ref q, rawInt i, rawInt 3], []⟩) (fun A R s => s.heap.get? p = some (seqO "list" xs n d1 s1) ∧ s.heap.get? q = some (seqO "list" ys m d2 s2) ∧ Eqs prog w A s xs ys e ∧
      R (.ok (.ret (.bool (!((List.range xs.size).drop i).all e)))) s) := by
  induction left with
  | zero =>
    intro i ei A R s wish
    obtain ⟨hp, g, d, tk, os⟩ := (s)
    obtain ⟨lp, lq, each, fin⟩ := wish
    unfold seqO at lp lq
    wp_walk using loadPt lp, loadPt lq
    have no1 : xs[((i : Nat) : Int).toNat]? = none := by simp; omega
    have no2 : ys[((i : Nat) : Int).toNat]? = none := by simp; omega
    have z : (List.range xs.size).drop i = [] := by simp; omega
    rw [z] at fin
    rw [no1, no2]
    wp_walk using loadPt lp, loadPt lq
    show R (.ok (.ret (.bool (xs.size != ys.size)))) _
    rw [alike]
    simpa using fin
  | succ left ih =>
    intro i ei A R s wish
    obtain ⟨hp, g, d, tk, os⟩ := (s)
    obtain ⟨lp, lq, each, fin⟩ := wish
    have lp0 := lp
    have lq0 := lq
    unfold seqO at lp lq
    wp_walk using loadPt lp, loadPt lq
    have ix : i < xs.size := by omega
    have iy : i < ys.size := by omega
    have at1 : xs[((i : Nat) : Int).toNat]? = some xs[i] := by simp [ix]
    have at2 : ys[((i : Nat) : Int).toNat]? = some ys[i] := by simp [iy]
    have up : ((i : Int) + 1) = ((i + 1 : Nat) : Int) := by push_cast; rfl
    rw [range_step e ix] at fin
    rw [at1, at2]
    refine wpAny_bind (each i ix iy _ _ ?_)
    cases c : e i with
    | true =>
      rw [c] at fin
      wp_walk
      rw [up]
      refine ⟨plainId_quiet plain_eq_loop _, codeAny_builtin entry_eq_loop ?_⟩
      (rw [Around.under_plainId plain_eq_loop _])
      exact ih (i + 1) (by omega) A R _ ⟨lp0, lq0, each, by simpa using fin⟩
    | false =>
      rw [c] at fin
      wp_walk using loadPt lp, loadPt lq
      rw [at1, at2]
      wp_walk
      simpa using fin
theorem lstNe (p q : Addr) (xs ys : Array Value) (n m : Nat) (d1 d2 : Option Addr) (s1 s2 : Array (Option Value)) (alike : xs.size = ys.size) (e : Nat → Bool) :
    MeetsIn prog w (Builtin.«list.__ne__» ⟨[.ref p, .ref q], []⟩) (fun A R s => s.heap.get? p = some (seqO "list" xs n d1 s1) ∧ s.heap.get? q = some (seqO "list" ys m d2 s2) ∧ Eqs prog w A s xs ys e ∧
      R (.ok (.ret (.bool (!(List.range xs.size).all e)))) s) := by
  intro A R s wish
  obtain ⟨hp, g, d, tk, os⟩ := (s)
  obtain ⟨lp, lq, each, fin⟩ := wish
  have lp0 := lp
  have lq0 := lq
  unfold seqO at lp lq
  have sub3 := AutoSeq1.sub_list_list
  have nn : ¬ (xs.size != ys.size) = true := by simp [alike]
  wp_walk using loadPt lp, loadPt lq
  refine ⟨plainId_quiet plain_eq_loop _, codeAny_builtin entry_eq_loop ?_⟩
  (rw [Around.under_plainId plain_eq_loop _])
  exact lstNeFrom p q xs ys n m d1 d2 s1 s2 alike e _ 0 rfl A R _ ⟨lp0, lq0, each, by simpa using fin⟩
variable {A : Around} {s : Shared} {E Q : Value → Shared → Prop} {p q : Addr} {xs ys : Array Value} {e : Nat → Bool}
theorem ne_tups (lp : s.heap.IsTuple p xs) (lq : s.heap.IsTuple q ys) (few : A.units < cLine) (each : Eqs prog w A s xs ys e) (fin : Q (.bool (!((List.range (min xs.size ys.size)).all e && xs.size == ys.size))) s) : wpAny (model prog w) A (richCompare .NotEq (.ref p) (.ref q)) Q E s := by
  obtain ⟨⟨c1, d1, a1, s1⟩, o1, k1, n, e1⟩ := id lp
  obtain ⟨⟨c2, d2, a2, s2⟩, o2, k2, m, e2⟩ := id lq
  simp only at k1 e1 k2 e2
  subst k1 e1 k2 e2
  have t1 : s.TypeIs (.ref p) "tuple" := ⟨_, o1, rfl⟩
  have t2 : s.TypeIs (.ref q) "tuple" := ⟨_, o2, rfl⟩
  exact wpAny_richCompare_same_room (op := .NotEq) t1 t2 F.slot_tuple_ne (call_meetsIn F.slot_tuple_ne t1 F.entry_tuple_ne (F.args_tuple_ne_2 _ _) (tupNe p q xs ys n m d1 d2 s1 s2 e) ⟨o1, o2, each, (fun x => nomatch x), fin⟩) few
theorem ne_lsts (lp : s.heap.IsList p xs) (lq : s.heap.IsList q ys) (alike : xs.size = ys.size) (few : A.units < cLine) (each : Eqs prog w A s xs ys e) (fin : Q (.bool (!(List.range xs.size).all e)) s) : wpAny (model prog w) A (richCompare .NotEq (.ref p) (.ref q)) Q E s := by
  obtain ⟨⟨c1, d1, a1, s1⟩, o1, k1, n, e1⟩ := id lp
  obtain ⟨⟨c2, d2, a2, s2⟩, o2, k2, m, e2⟩ := id lq
  simp only at k1 e1 k2 e2
  subst k1 e1 k2 e2
  have t1 : s.TypeIs (.ref p) "list" := ⟨_, o1, rfl⟩
  have t2 : s.TypeIs (.ref q) "list" := ⟨_, o2, rfl⟩
  exact wpAny_richCompare_same_room (op := .NotEq) t1 t2 F.slot_list_ne (call_meetsIn F.slot_list_ne t1 F.entry_list_ne (F.args_list_ne_2 _ _) (lstNe p q xs ys n m d1 d2 s1 s2 alike e) ⟨o1, o2, each, (fun x => nomatch x), fin⟩) few
end
end PySem.SeqAt

namespace PySem.W
open PySem.Calls PySem PyProof.Rows PySem.Spec
section
variable {prog : Program} {w : World} {K : Type} [DecidableEq K] {knd : KeyKind prog w K} {A : Around} {E Q : Value → Shared → Prop} {s : Shared} {p q : Addr} {ks ls : List (K × Value)} {r : Bool}
theorem ne_dicts (np : (p == sysModules) = false) (nq : (q == sysModules) = false) (dp : s.heap.DictOf knd p ks) (dq : s.heap.DictOf knd q ls) (few : A.units < cLine) (hits : ks.length = ls.length → KeqHitsIn prog w A.in1 s ls ks r)
    (fin : Q (.bool (!(ks.length == ls.length && r))) s) : wpAny (model prog w) A (compareOp .NotEq (.ref p) (.ref q)) Q E s := by
  have t1 := dp.typeIs
  have t2 := dq.typeIs
  refine wpAny_richCompare_same_room (op := .NotEq) t1 t2 PySem.F.slot_dict_ne (wpAny_call_entry PySem.F.slot_dict_ne t1 PySem.F.entry_dict_ne ?_ (PySem.F.args_dict_ne_2 _ _)) few
  refine wpAny_bind (show wpAny _ _ (Builtin.Dict.dictSlotArgs "__ne__" _) _ _ s from ?_)
  (unfold Builtin.Dict.dictSlotArgs)
  refine wpAny_bind (wpAny_notOrdered_dict t1 (wpAny_pure (wpAny_bind (wpAny_isInstance (T := "dict") t2 PySem.F.sub_dict_dict ?_))))
  (simp only [Bool.not_true, Bool.false_eq_true, if_false])
  exact wpAny_bind (wpAny_pure (wpAny_bind (wpAny_pure (wpAny_bind (keq_samePairsIn np nq dp dq hits (wpAny_pure ⟨_, rfl, (fun x => nomatch x), by simpa using fin⟩))))))
end
end PySem.W
namespace DL
open PySem L2
/-! ### == of data, dicts within -/
inductive DEq : Nat → D → D → Bool → Prop
  | leaf {n : Nat} {x y : D} (fx : x.flat = true) (fy : y.flat = true) : DEq n x y (dEq x y)
  | lsts {n : Nat} {x y : D} {xs ys : List D} (e : Nat → Bool) (hx : IsL x xs) (hy : IsL y ys) (hl : xs.length = ys.length) (h : ∀ j a b, xs[j]? = some a → ys[j]? = some b → DEq n a b (e j)) : DEq (n + 1) x y ((List.range xs.length).all e)
  | lstsN {n : Nat} {x y : D} {xs ys : List D} (hx : IsL x xs) (hy : IsL y ys) (hl : xs.length ≠ ys.length) : DEq (n + 1) x y false
  | tups {n : Nat} {xs ys : List D} (e : Nat → Bool) (h : ∀ j a b, xs[j]? = some a → ys[j]? = some b → DEq n a b (e j)) : DEq (n + 1) (.tup xs) (.tup ys) ((List.range (min xs.length ys.length)).all e && xs.length == ys.length)
  | dics {n : Nat} {ks ls : List (Key × D)} (e : Key → Bool) (h : ∀ k a b, (k, a) ∈ ks → lookD ls k = some b → DEq n a b (e k)) : DEq (n + 1) (.dic ks) (.dic ls) (ks.length == ls.length && ks.all fun p => (lookD ls p.1).isSome && e p.1)
theorem listInj {h : Heap} {a : Addr} {xs ys : Array Value} (p : h.IsList a xs) (q : h.IsList a ys) : xs = ys := by
  obtain ⟨o, e1, _, n, e2⟩ := p
  obtain ⟨o', e3, _, n', e4⟩ := q
  rw [e1] at e3
  cases e3
  rw [e2] at e4
  cases e4
  rfl
theorem tupInj {h : Heap} {a : Addr} {xs ys : Array Value} (p : h.IsTuple a xs) (q : h.IsTuple a ys) : xs = ys := by
  obtain ⟨o, e1, _, n, e2⟩ := p
  obtain ⟨o', e3, _, n', e4⟩ := q
  rw [e1] at e3
  cases e3
  rw [e2] at e4
  cases e4
  rfl
theorem relV_flat {u t : V} {v : Value} {x y : D} {K : PySem.W.Frag} {S : Hp} (rx : Rep K S u x) (ry : Rep K S t y) (fx : x.flat = true) (fy : y.flat = true) (h : RelV u v) (k : RelV t v) : dEq x y = true := by
  cases x <;> first | cases fx | skip
  all_goals cases y <;> first | cases fy | skip
  all_goals cases rx
  all_goals cases ry
  all_goals simp only [RelV] at h k
  all_goals (try (obtain ⟨t1, e1⟩ := h))
  all_goals (try (obtain ⟨t2, e2⟩ := k))
  all_goals (try subst_vars)
  all_goals simp_all [dEq]
theorem Paired.get_r {α β : Type} {R : α → β → Prop} : ∀ {xs : List α} {ys : List β} {j : Nat} {y : β}, Paired R xs ys → ys[j]? = some y → ∃ x, xs[j]? = some x ∧ R x y
  | _, _, _, _, .nil, h => by simp at h
  | _, _, 0, _, .cons r _, h => by
    obtain rfl := Option.some.inj (show some _ = some _ from by simpa using h)
    exact ⟨_, rfl, r⟩
  | _, _, j + 1, _, .cons _ q, h => by
    obtain ⟨x, h1, h2⟩ := Paired.get_r (j := j) q (by simpa using h)
    exact (⟨x, by simpa using h1, h2⟩)
theorem Paired.mem_r {α β : Type} {R : α → β → Prop} : ∀ {xs : List α} {ys : List β} {y : β}, Paired R xs ys → y ∈ ys → ∃ x ∈ xs, R x y
  | _, _, _, .nil, h => by cases h
  | _, _, _, .cons r q, h => by
    rcases (List.mem_cons.mp h) with z | z
    · subst z
      exact ⟨_, List.mem_cons_self, r⟩
    · obtain ⟨x, h1, h2⟩ := Paired.mem_r q z
      exact ⟨x, List.mem_cons_of_mem _ h1, h2⟩
theorem RepK.mem {K : PySem.W.Frag} {S : Hp} {k : Key} {v : V} : ∀ {xs : List (Key × V)} {ds : List (Key × D)}, RepK K S xs ds → (k, v) ∈ xs → ∃ d, (k, d) ∈ ds ∧ Rep K S v d
  | _, _, .nil, h => by cases h
  | _, _, .cons r q, h => by
    rcases (List.mem_cons.mp h) with z | z
    · cases z
      exact ⟨_, List.mem_cons_self, r⟩
    · obtain ⟨d, h1, h2⟩ := RepK.mem q z
      exact ⟨d, List.mem_cons_of_mem _ h1, h2⟩
theorem RepK.look_r {K : PySem.W.Frag} {S : Hp} {k : Key} {v : V} {xs : List (Key × V)} {ds : List (Key × D)} (r : RepK K S xs ds) (h : valV xs k = some v) : ∃ d, lookD ds k = some d ∧ Rep K S v d := by
  obtain ⟨h1, h2⟩ := RepK.look (k := k) r
  cases e : lookD ds k with
  | none =>
    rw [h2 e] at h
    cases h
  | some d =>
    obtain ⟨v', e1, e2⟩ := h1 d e
    rw [e1] at h
    cases h
    exact ⟨d, rfl, e2⟩
theorem RepK.isSome {K : PySem.W.Frag} {S : Hp} {xs : List (Key × V)} {ds : List (Key × D)} (r : RepK K S xs ds) (k : Key) : (valV xs k).isSome = (lookD ds k).isSome := by
  obtain ⟨h1, h2⟩ := RepK.look (k := k) r
  cases e : lookD ds k with
  | none => rw [h2 e]; rfl
  | some d =>
    obtain ⟨v', e1, e2⟩ := h1 d e
    rw [e1]
    rfl
theorem lookD_mem {ds : List (Key × D)} {k : Key} {d : D} (h : lookD ds k = some d) : (k, d) ∈ ds := by
  unfold lookD at h
  obtain ⟨p, h1, h2⟩ := Option.map_eq_some_iff.mp h
  have z := List.mem_of_find?_eq_some h1
  have e := List.find?_some h1
  have e : p.1 = k := of_decide_eq_true e
  obtain ⟨a, b⟩ := p
  simp only at e h2
  rw [← e, ← h2]
  exact z
theorem lookD_some {ds : List (Key × D)} {k : Key} {d : D} (h : (k, d) ∈ ds) : ∃ a, lookD ds k = some a := by
  unfold lookD
  cases e : ds.find? fun kv => decide (kv.1 = k) with
  | none =>
    have z := List.find?_eq_none.mp e (k, d) h
    simp at z
  | some p => exact ⟨p.2, rfl⟩
theorem Vals.eachR {xs : List V} {us : List Value} {j : Nat} (r : Vals xs us) (h : j < us.length) : ∃ x, xs[j]? = some x ∧ RelV x us[j] := Paired.get_r r (List.getElem?_eq_getElem h)
theorem RepL.getR {K : PySem.W.Frag} {S : Hp} : ∀ {vs : List V} {ds : List D} {i : Nat} {v : V}, RepL K S vs ds → vs[i]? = some v → ∃ d, ds[i]? = some d ∧ Rep K S v d
  | _, _, _, _, .nil, h => by simp at h
  | _, _, 0, _, .cons r _, h => by
    obtain rfl := Option.some.inj (show some _ = some _ from by simpa using h)
    exact ⟨_, rfl, r⟩
  | _, _, i + 1, _, .cons _ r, h => by
    obtain ⟨d, h1, h2⟩ := RepL.getR (i := i) r (by simpa using h)
    exact ⟨d, by simpa using h1, h2⟩
theorem dicRes {K : PySem.W.Frag} {S : Hp} {e : Key → Bool} {xs ys : List (Key × V)} {ks ls : List (Key × D)} {va vc : List (Key × Value)} (ka : KV xs va) (kc : KV ys vc) (r1 : RepK K S xs ks) (r2 : RepK K S ys ls) :
    (va.length == vc.length && va.all fun p => (valueAt vc p.1).isSome && e p.1) = (ks.length == ls.length && ks.all fun p => (lookD ls p.1).isSome && e p.1) := by
  have lena : va.length = ks.length := by rw [← Paired.length ka, r1.len]
  have lenc : vc.length = ls.length := by rw [← Paired.length kc, r2.len]
  have some_ : ∀ k, (valueAt vc k).isSome = (lookD ls k).isSome := fun k => by
    rw [← r2.isSome k]
    have ro := KV.val kc k
    cases e2 : valV ys k with
    | none =>
      rw [e2] at ro
      cases e3 : valueAt vc k with
      | none => rfl
      | some _ => rw [e3] at ro; exact False.elim ro
    | some t' =>
      rw [e2] at ro
      cases e3 : valueAt vc k with
      | none => rw [e3] at ro; exact False.elim ro
      | some _ => rfl
  have keys : va.map (·.1) = ks.map (·.1) := by
    rw [← r1.keys]
    clear lena r1
    unfold KV at ka
    induction ka with
    | nil => rfl
    | cons h _ ih => rw [List.map_cons, List.map_cons, ih, h.1]
  rw [lena, lenc]
  congr 1
  have g : ∀ {α : Type} (l : List (Key × α)), (l.all fun p => (lookD ls p.1).isSome && e p.1) = (l.map (·.1)).all fun k => (lookD ls k).isSome && e k := fun l => by rw [List.all_map]; rfl
  rw [g ks, ← keys, ← g va]
  congr 1
  funext p
  rw [some_]
section
variable {X : Cx} {pins : List (Addr × Obj)} {σ : L2.St} {H S : Hp} {s : Shared}
theorem DEq.tree (I : Inv X pins σ H s) (sb : Sub S H) {n : Nat} {x y : D} {b : Bool} (h : DEq n x y b) : ∀ {u t : V} {v z : Value}, Rep X.K S u x → RelV u v → Rep X.K S t y → RelV t z → PySem.W.EqTree X.prog X.w s n v z b ∧ (v = z → b = true) := by
  induction h with
  | @leaf n x y fx fy =>
    intro u t v z rx hv ry hz
    obtain ⟨fu, eq⟩ := rx.flat_eq fx ry fy
    obtain ⟨ft, _⟩ := ry.flat_eq fy ry fy
    refine ⟨.leaf fun A _ => ?_, fun e => ?_⟩
    · have := eqAt_V (A := A) (s := s) hv hz fu ft
      rw [eq] at this
      exact this
    · subst e
      exact relV_flat rx ry fx fy hv hz
  | @lsts n x y xs ys e hx hy hl _ ih =>
    intro u t v z rx hv ry hz
    obtain ⟨p, us, rfl, hp, r1⟩ := Rep.isL_inv hx rx
    obtain ⟨q, ts, rfl, hq, r2⟩ := Rep.isL_inv hy ry
    obtain rfl : v = .ref p := hv
    obtain rfl : z = .ref q := hz
    obtain ⟨i1, v1, l1, _⟩ := I.list (sb.sl hp)
    obtain ⟨i2, v2, l2, _⟩ := I.list (sb.sl hq)
    have n1 : i1.length = xs.length := by rw [← v1.length, r1.len]
    have n2 : i2.length = ys.length := by rw [← v2.length, r2.len]
    have each : ∀ j (h1 : j < i1.length) (h2 : j < i2.length), PySem.W.EqTree X.prog X.w s n i1[j] i2[j] (e j) ∧ (i1[j] = i2[j] → e j = true) := fun j h1 h2 => by
      obtain ⟨u1, g1, k1⟩ := Vals.eachR v1 h1
      obtain ⟨u2, g2, k2⟩ := Vals.eachR v2 h2
      obtain ⟨a, m1, o1⟩ := r1.getR g1
      obtain ⟨b, m2, o2⟩ := r2.getR g2
      exact ih j a b m1 m2 o1 k1 o2 k2
    have same : p = q → (List.range xs.length).all e = true := fun pq => by
      subst pq
      have ei : i1 = i2 := by
        have := listInj l1.isList l2.isList
        simpa using this
      subst ei
      refine List.all_eq_true.mpr fun j hj => ?_
      have hj' : j < i1.length := by rw [n1]; exact List.mem_range.mp hj
      exact (each j hj' hj').2 rfl
    refine ⟨?_, fun e => same (by cases e; rfl)⟩
    by_cases pq : p = q
    · rw [same pq]
      subst pq
      exact .same
    · have z := PySem.W.EqTree.lists (prog := X.prog) (w := X.w) (n := n) (e := e) pq l1.isList l2.isList (by rw [List.size_toArray, List.size_toArray, n1, n2, hl]) fun j h1 h2 => by
        have := (each j (by simpa using h1) (by simpa using h2)).1
        simpa using this
      rw [List.size_toArray, n1] at z
      exact z
  | @lstsN n x y xs ys hx hy hl =>
    intro u t v z rx hv ry hz
    obtain ⟨p, us, rfl, hp, r1⟩ := Rep.isL_inv hx rx
    obtain ⟨q, ts, rfl, hq, r2⟩ := Rep.isL_inv hy ry
    obtain rfl : v = .ref p := hv
    obtain rfl : z = .ref q := hz
    obtain ⟨i1, v1, l1, _⟩ := I.list (sb.sl hp)
    obtain ⟨i2, v2, l2, _⟩ := I.list (sb.sl hq)
    have n1 : i1.length = xs.length := by rw [← v1.length, r1.len]
    have n2 : i2.length = ys.length := by rw [← v2.length, r2.len]
    have pq : p ≠ q := fun pq => by
      subst pq
      have := listInj l1.isList l2.isList
      have ei : i1 = i2 := by simpa using this
      rw [ei] at n1
      exact hl (n1.symm.trans n2)
    exact ⟨.listsLen pq l1.isList l2.isList (by rw [List.size_toArray, List.size_toArray, n1, n2]; simpa using hl), fun e => absurd (by cases e; rfl) pq⟩
  | @tups n xs ys e _ ih =>
    intro u t v z rx hv ry hz
    obtain ⟨p, us, rfl, hp, r1⟩ := rx.tup_inv
    obtain ⟨q, ts, rfl, hq, r2⟩ := ry.tup_inv
    obtain rfl : v = .ref p := hv
    obtain rfl : z = .ref q := hz
    obtain ⟨i1, v1, l1, _⟩ := I.tuple (sb.st hp)
    obtain ⟨i2, v2, l2, _⟩ := I.tuple (sb.st hq)
    have t1 : s.heap.IsTuple p i1.toArray := l1
    have t2 : s.heap.IsTuple q i2.toArray := l2
    have n1 : i1.length = xs.length := by rw [← v1.length, r1.len]
    have n2 : i2.length = ys.length := by rw [← v2.length, r2.len]
    have each : ∀ j (h1 : j < i1.length) (h2 : j < i2.length), PySem.W.EqTree X.prog X.w s n i1[j] i2[j] (e j) ∧ (i1[j] = i2[j] → e j = true) := fun j h1 h2 => by
      obtain ⟨u1, g1, k1⟩ := Vals.eachR v1 h1
      obtain ⟨u2, g2, k2⟩ := Vals.eachR v2 h2
      obtain ⟨a, m1, o1⟩ := r1.getR g1
      obtain ⟨b, m2, o2⟩ := r2.getR g2
      exact ih j a b m1 m2 o1 k1 o2 k2
    have same : p = q → ((List.range (min xs.length ys.length)).all e && xs.length == ys.length) = true := fun pq => by
      subst pq
      have ei : i1 = i2 := by
        have := tupInj t1 t2
        simpa using this
      subst ei
      have el : xs.length = ys.length := n1.symm.trans n2
      rw [el, Nat.min_self, beq_self_eq_true, Bool.and_true]
      refine List.all_eq_true.mpr fun j hj => ?_
      have hj' : j < i1.length := by rw [n2]; exact List.mem_range.mp hj
      exact (each j hj' hj').2 rfl
    refine ⟨?_, fun e => same (by cases e; rfl)⟩
    by_cases pq : p = q
    · rw [same pq]
      subst pq
      exact .same
    · have z := PySem.W.EqTree.tuples (prog := X.prog) (w := X.w) (n := n) (e := e) pq t1 t2 fun j h1 h2 => by
        have := (each j (by simpa using h1) (by simpa using h2)).1
        simpa using this
      rw [List.size_toArray, List.size_toArray, n1, n2] at z
      exact z
  | @dics n ks ls e _ ih =>
    intro u t v z rx hv ry hz
    cases rx with
    | @dic a xs _ ha r1 =>
      cases ry with
      | @dic c ys _ hc r2 =>
        obtain rfl : v = .ref a := hv
        obtain rfl : z = .ref c := hz
        have h1 := sb.dk ha
        have h2 := sb.dk hc
        obtain ⟨_, na, va, ka, da⟩ := dk_rd I.hok h1
        obtain ⟨_, nc, vc, kc, dc⟩ := dk_rd I.hok h2
        have each : ∀ k v y, (k, v) ∈ va → valueAt vc k = some y → PySem.W.EqTree X.prog X.w s n v y (e k) := fun k v y hm hl => by
          obtain ⟨⟨k', v'⟩, m1, ek, rv⟩ := Paired.mem_r ka hm
          simp only at ek rv
          subst ek
          obtain ⟨d, m2, o1⟩ := r1.mem m1
          have ro := KV.val kc k'
          rw [hl] at ro
          cases e2 : valV ys k' with
          | none =>
            rw [e2] at ro
            exact False.elim ro
          | some t' =>
            rw [e2] at ro
            obtain ⟨d2, m3, o2⟩ := r2.look_r e2
            exact (ih k' d d2 m2 m3 o1 rv o2 ro).1
        have res := dicRes (e := e) ka kc r1 r2
        have same : a = c → (ks.length == ls.length && ks.all fun p => (lookD ls p.1).isSome && e p.1) = true := fun ac => by
          subst ac
          have exy : xs = ys := by
            rcases h1 with q1 | ⟨o1, q1⟩
            · rcases h2 with q2 | ⟨o2, q2⟩
              · rw [q1] at q2; cases q2; rfl
              · rw [q1] at q2; cases q2
            · rcases h2 with q2 | ⟨o2, q2⟩
              · rw [q1] at q2; cases q2
              · rw [q1] at q2; cases q2; rfl
          subst exy
          have el : ks.length = ls.length := by rw [← r1.len, r2.len]
          rw [el, beq_self_eq_true, Bool.true_and]
          refine List.all_eq_true.mpr fun p hp => ?_
          obtain ⟨k, d⟩ := p
          obtain ⟨d0, e0⟩ := lookD_some hp
          obtain ⟨v0, e1, o1⟩ := (RepK.look (k := k) r1).1 d0 e0
          obtain ⟨d2, e2, o2⟩ := r2.look_r e1
          have ro := KV.val ka k
          rw [e1] at ro
          cases e3 : valueAt va k with
          | none => rw [e3] at ro; exact False.elim ro
          | some v3 =>
            rw [e3] at ro
            have := (ih k d0 d2 (lookD_mem e0) e2 o1 ro o2 ro).2 rfl
            show ((lookD ls k).isSome && e k) = true
            rw [e2, this]
            rfl
        refine ⟨?_, fun e => same (by cases e; rfl)⟩
        by_cases ac : a = c
        · rw [same ac]
          subst ac
          exact .same
        · have z := PySem.W.EqTree.dicts (e := e) ac na nc da dc each
          rw [res] at z
          exact z
theorem dicParts (I : Inv X pins σ H s) (sb : Sub S H) {n : Nat} {ks ls : List (Key × D)} {e : Key → Bool} {u t : V} {v z : Value} (rx : Rep X.K S u (.dic ks)) (ry : Rep X.K S t (.dic ls)) (hv : RelV u v) (hz : RelV t z) (h : ∀ k a b, (k, a) ∈ ks → lookD ls k = some b → DEq n a b (e k)) :
    ∃ (a c : Addr) (va vc : List (Key × Value)), (a == sysModules) = false ∧ (c == sysModules) = false ∧ s.heap.DictOf (mixKind X.prog X.w) a va ∧ s.heap.DictOf (mixKind X.prog X.w) c vc ∧ (∀ k v y, (k, v) ∈ va → valueAt vc k = some y → PySem.W.EqTree X.prog X.w s n v y (e k)) ∧
      (va.length == vc.length && va.all fun p => (valueAt vc p.1).isSome && e p.1) = (ks.length == ls.length && ks.all fun p => (lookD ls p.1).isSome && e p.1) ∧ v = .ref a ∧ z = .ref c := by
  cases rx with
  | @dic a xs _ ha r1 =>
    cases ry with
    | @dic c ys _ hc r2 =>
      obtain rfl : v = .ref a := hv
      obtain rfl : z = .ref c := hz
      obtain ⟨_, na, va, ka, da⟩ := dk_rd I.hok (sb.dk ha)
      obtain ⟨_, nc, vc, kc, dc⟩ := dk_rd I.hok (sb.dk hc)
      refine ⟨a, c, va, vc, na, nc, da, dc, fun k v y hm hl => ?_, ?_, rfl, rfl⟩
      · obtain ⟨⟨k', v'⟩, m1, ek, rv⟩ := Paired.mem_r ka hm
        simp only at ek rv
        subst ek
        obtain ⟨d, m2, o1⟩ := r1.mem m1
        have ro := KV.val kc k'
        rw [hl] at ro
        cases e2 : valV ys k' with
        | none =>
          rw [e2] at ro
          exact False.elim ro
        | some t' =>
          rw [e2] at ro
          obtain ⟨d2, m3, o2⟩ := r2.look_r e2
          exact (DEq.tree I sb (h k' d d2 m2 m3) o1 rv o2 ro).1
      · exact dicRes ka kc r1 r2
/-- x == y by the data, neither of them flat -/
def rEqN (K : PySem.W.Frag) (neg : Bool) : R2 := fun x y H Q => ∃ (S : Hp) (n : Nat) (dx dy : D) (b : Bool), Sub S H ∧ Rep K S x dx ∧ Rep K S y dy ∧ DEq n dx dy b ∧ n ≤ 60 ∧ dx.flat = false ∧ Q (.bl (if neg then !b else b)) H
theorem op_eqN (hu : X.A.units + 64 < cLine) : OpR X (compareOp .Eq) (rEqN X.K false) := by
  intro pins s σ H x y v u Q I rx ry ⟨S, n, dx, dy, b, sb, r1, r2, h, hn, nf, q⟩
  have fin : (fun v s' => ∃ v' H', Inv X pins σ H' s' ∧ RelV v' v ∧ Q v' H') (.bool b) s := ⟨.bl b, H, I, rfl, q⟩
  have tr := fun {n : Nat} {x y : D} {b : Bool} (h : DEq n x y b) => @DEq.tree X pins σ H S s I sb n x y b h
  cases h with
  | leaf fx fy => rw [fx] at nf; cases nf
  | @lsts n _ _ xs ys e hx hy hl h =>
    obtain ⟨p, us, rfl, hp, l1⟩ := Rep.isL_inv hx r1
    obtain ⟨t, ts, rfl, hq, l2⟩ := Rep.isL_inv hy r2
    obtain rfl : v = .ref p := rx
    obtain rfl : u = .ref t := ry
    obtain ⟨i1, v1, p1, _⟩ := I.list (sb.sl hp)
    obtain ⟨i2, v2, p2, _⟩ := I.list (sb.sl hq)
    have n1 : i1.length = xs.length := by rw [← v1.length, l1.len]
    have n2 : i2.length = ys.length := by rw [← v2.length, l2.len]
    refine PySem.W.eq_listsT (n := n) (e := e) p1.isList p2.isList (by rw [List.size_toArray, List.size_toArray, n1, n2, hl]) (fun j h1 h2 => ?_) (by omega) ?_
    · obtain ⟨u1, g1, k1⟩ := Vals.eachR (j := j) v1 (by simpa using h1)
      obtain ⟨u2, g2, k2⟩ := Vals.eachR (j := j) v2 (by simpa using h2)
      obtain ⟨a, m1, o1⟩ := l1.getR g1
      obtain ⟨b, m2, o2⟩ := l2.getR g2
      have := (tr (h j a b m1 m2) o1 k1 o2 k2).1
      simpa using this
    · rw [List.size_toArray, n1]
      exact fin
  | @lstsN n _ _ xs ys hx hy hl =>
    obtain ⟨p, us, rfl, hp, l1⟩ := Rep.isL_inv hx r1
    obtain ⟨t, ts, rfl, hq, l2⟩ := Rep.isL_inv hy r2
    obtain rfl : v = .ref p := rx
    obtain rfl : u = .ref t := ry
    obtain ⟨i1, v1, p1, _⟩ := I.list (sb.sl hp)
    obtain ⟨i2, v2, p2, _⟩ := I.list (sb.sl hq)
    have n1 : i1.length = xs.length := by rw [← v1.length, l1.len]
    have n2 : i2.length = ys.length := by rw [← v2.length, l2.len]
    exact SeqAt.RcAt.lists_lengths p1.isList p2.isList (by rw [List.size_toArray, List.size_toArray, n1, n2]; simpa using hl) (by omega) _ _ _ _ fin
  | @tups n xs ys e h =>
    obtain ⟨p, us, rfl, hp, l1⟩ := r1.tup_inv
    obtain ⟨t, ts, rfl, hq, l2⟩ := r2.tup_inv
    obtain rfl : v = .ref p := rx
    obtain rfl : u = .ref t := ry
    obtain ⟨i1, v1, p1, _⟩ := I.tuple (sb.st hp)
    obtain ⟨i2, v2, p2, _⟩ := I.tuple (sb.st hq)
    have t1 : s.heap.IsTuple p i1.toArray := p1
    have t2 : s.heap.IsTuple t i2.toArray := p2
    have n1 : i1.length = xs.length := by rw [← v1.length, l1.len]
    have n2 : i2.length = ys.length := by rw [← v2.length, l2.len]
    refine PySem.W.eq_tuplesT (n := n) (e := e) t1 t2 (fun j h1 h2 => ?_) (by omega) ?_
    · obtain ⟨u1, g1, k1⟩ := Vals.eachR (j := j) v1 (by simpa using h1)
      obtain ⟨u2, g2, k2⟩ := Vals.eachR (j := j) v2 (by simpa using h2)
      obtain ⟨a, m1, o1⟩ := l1.getR g1
      obtain ⟨b, m2, o2⟩ := l2.getR g2
      have := (tr (h j a b m1 m2) o1 k1 o2 k2).1
      simpa using this
    · rw [List.size_toArray, List.size_toArray, n1, n2]
      exact fin
  | @dics n ks ls e h =>
    obtain ⟨p, t, va, vc, np, nt, d1, d2, each, res, e1, e2⟩ := dicParts (X := X) I sb r1 r2 rx ry h
    subst e1
    subst e2
    refine PySem.W.eq_dictsT (n := n) (e := e) np nt d1 d2 each (by omega) ?_
    rw [res]
    exact fin
theorem op_neN (hu : X.A.units + 64 < cLine) : OpR X (compareOp .NotEq) (rEqN X.K true) := by
  intro pins s σ H x y v u Q I rx ry ⟨S, n, dx, dy, b, sb, r1, r2, h, hn, nf, q⟩
  have fin : (fun v s' => ∃ v' H', Inv X pins σ H' s' ∧ RelV v' v ∧ Q v' H') (.bool (!b)) s := ⟨.bl (!b), H, I, rfl, q⟩
  have tr := fun {n : Nat} {x y : D} {b : Bool} (h : DEq n x y b) => @DEq.tree X pins σ H S s I sb n x y b h
  cases h with
  | leaf fx fy => rw [fx] at nf; cases nf
  | @lsts n _ _ xs ys e hx hy hl h =>
    obtain ⟨p, us, rfl, hp, l1⟩ := Rep.isL_inv hx r1
    obtain ⟨t, ts, rfl, hq, l2⟩ := Rep.isL_inv hy r2
    obtain rfl : v = .ref p := rx
    obtain rfl : u = .ref t := ry
    obtain ⟨i1, v1, p1, _⟩ := I.list (sb.sl hp)
    obtain ⟨i2, v2, p2, _⟩ := I.list (sb.sl hq)
    have n1 : i1.length = xs.length := by rw [← v1.length, l1.len]
    have n2 : i2.length = ys.length := by rw [← v2.length, l2.len]
    refine SeqAt.ne_lsts (e := e) p1.isList p2.isList (by rw [List.size_toArray, List.size_toArray, n1, n2, hl]) (by omega) (fun j h1 h2 => ?_) ?_
    · obtain ⟨u1, g1, k1⟩ := Vals.eachR (j := j) v1 (by simpa using h1)
      obtain ⟨u2, g2, k2⟩ := Vals.eachR (j := j) v2 (by simpa using h2)
      obtain ⟨a, m1, o1⟩ := l1.getR g1
      obtain ⟨b, m2, o2⟩ := l2.getR g2
      have := (tr (h j a b m1 m2) o1 k1 o2 k2).1.at X.A.in1 (by show X.A.units + 1 + n < cLine; omega)
      simpa using this
    · rw [List.size_toArray, n1]
      exact fin
  | @lstsN n _ _ xs ys hx hy hl =>
    obtain ⟨p, us, rfl, hp, l1⟩ := Rep.isL_inv hx r1
    obtain ⟨t, ts, rfl, hq, l2⟩ := Rep.isL_inv hy r2
    obtain rfl : v = .ref p := rx
    obtain rfl : u = .ref t := ry
    obtain ⟨i1, v1, p1, _⟩ := I.list (sb.sl hp)
    obtain ⟨i2, v2, p2, _⟩ := I.list (sb.sl hq)
    have n1 : i1.length = xs.length := by rw [← v1.length, l1.len]
    have n2 : i2.length = ys.length := by rw [← v2.length, l2.len]
    exact SeqAt.RcNeAt.lists_lengths p1.isList p2.isList (by rw [List.size_toArray, List.size_toArray, n1, n2]; simpa using hl) (by omega) _ _ _ _ fin
  | @tups n xs ys e h =>
    obtain ⟨p, us, rfl, hp, l1⟩ := r1.tup_inv
    obtain ⟨t, ts, rfl, hq, l2⟩ := r2.tup_inv
    obtain rfl : v = .ref p := rx
    obtain rfl : u = .ref t := ry
    obtain ⟨i1, v1, p1, _⟩ := I.tuple (sb.st hp)
    obtain ⟨i2, v2, p2, _⟩ := I.tuple (sb.st hq)
    have t1 : s.heap.IsTuple p i1.toArray := p1
    have t2 : s.heap.IsTuple t i2.toArray := p2
    have n1 : i1.length = xs.length := by rw [← v1.length, l1.len]
    have n2 : i2.length = ys.length := by rw [← v2.length, l2.len]
    refine SeqAt.ne_tups (e := e) t1 t2 (by omega) (fun j h1 h2 => ?_) ?_
    · obtain ⟨u1, g1, k1⟩ := Vals.eachR (j := j) v1 (by simpa using h1)
      obtain ⟨u2, g2, k2⟩ := Vals.eachR (j := j) v2 (by simpa using h2)
      obtain ⟨a, m1, o1⟩ := l1.getR g1
      obtain ⟨b, m2, o2⟩ := l2.getR g2
      have := (tr (h j a b m1 m2) o1 k1 o2 k2).1.at X.A.in1 (by show X.A.units + 1 + n < cLine; omega)
      simpa using this
    · rw [List.size_toArray, List.size_toArray, n1, n2]
      exact fin
  | @dics n ks ls e h =>
    obtain ⟨p, t, va, vc, np, nt, d1, d2, each, res, e1, e2⟩ := dicParts (X := X) I sb r1 r2 rx ry h
    subst e1
    subst e2
    refine PySem.W.ne_dicts (r := va.all fun p => (valueAt vc p.1).isSome && e p.1) np nt d1 d2 (by omega) (fun _ => PySem.W.KeqHitsIn.of _ fun k v y hm hv => (each k v y hm hv).at X.A.in1 (by show X.A.units + 1 + n < cLine; omega)) ?_
    rw [res]
    exact fin
end
def rEqA (K : PySem.W.Frag) : R2 := fun x y H Q => rEqD K x y H Q ∨ rEqN K false x y H Q ∨ rEq x y H Q
def rNeA (K : PySem.W.Frag) : R2 := fun x y H Q => rNeD K x y H Q ∨ rEqN K true x y H Q ∨ rNe x y H Q
theorem op_eqA {X : Cx} (hu : X.A.units + 64 < cLine) : OpR X (compareOp .Eq) (rEqA X.K) := (op_eqD hu).or (OpR.or (op_eqN hu) op_eq)
theorem op_neA {X : Cx} (hu : X.A.units + 64 < cLine) : OpR X (compareOp .NotEq) (rNeA X.K) := (op_neD hu).or (OpR.or (op_neN hu) op_ne)
theorem o_eqAK {X : Cx} {K : PySem.W.Frag} (hk : X.K = K) (hu : X.A.units + 64 < cLine) : OpR X (compareOp .Eq) (rEqA K) := hk ▸ op_eqA hu
theorem o_neAK {X : Cx} {K : PySem.W.Frag} (hk : X.K = K) (hu : X.A.units + 64 < cLine) : OpR X (compareOp .NotEq) (rNeA K) := hk ▸ op_neA hu
section
variable {K : PySem.W.Frag} {k : D → Prop} {x y : D} {b : Bool} {n : Nat}
theorem rd_eqL {r : D → Prop} (h : RD K (rEqD K) x y r) : RD K (rEqA K) x y r := RD.l h
theorem rd_neL {r : D → Prop} (h : RD K (rNeD K) x y r) : RD K (rNeA K) x y r := RD.l h
theorem rd_eqN (h : DEq n x y b) (hn : n ≤ 60) (nf : x.flat = false) (p : k (.bl b)) : RD K (rEqA K) x y k := RD.r (RD.l fun w v u Q s rx ry q => ⟨w.S, n, x, y, b, s, rx, ry, h, hn, nf, q _ w _ p (LeP.refl w) s (.bl _)⟩)
theorem rd_neN (h : DEq n x y b) (hn : n ≤ 60) (nf : x.flat = false) (p : k (.bl (!b))) : RD K (rNeA K) x y k := RD.r (RD.l fun w v u Q s rx ry q => ⟨w.S, n, x, y, b, s, rx, ry, h, hn, nf, q _ w _ p (LeP.refl w) s (.bl _)⟩)
theorem rd_eqAS {a b : Str} (p : k (.bl (decide (a = b)))) : RD K (rEqA K) (.str a) (.str b) k := RD.r (RD.r (rd_val (.bl (decide (a = b))) (fun _ => .bl _) p fun w v u Q s rx ry q => by
  obtain rfl := rx.str_inv
  obtain rfl := ry.str_inv
  exact ⟨rfl, by rw [show decide (V.str a = V.str b) = decide (a = b) by simp]; exact q⟩))
theorem rd_neAS {a b : Str} (p : k (.bl (!decide (a = b)))) : RD K (rNeA K) (.str a) (.str b) k := RD.r (RD.r (rd_val (.bl (!decide (a = b))) (fun _ => .bl _) p fun w v u Q s rx ry q => by
  obtain rfl := rx.str_inv
  obtain rfl := ry.str_inv
  exact ⟨rfl, by rw [show decide (V.str a = V.str b) = decide (a = b) by simp]; exact q⟩))
/-- xs == [], xs != [] -/
theorem rd_eqNil {xs : List D} (hx : IsL x xs) (p : k (.bl xs.isEmpty)) : RD K (rEqA K) x (.lst []) k := by
  cases xs with
  | nil => exact rd_eqN (n := 1) (DEq.lsts (fun _ => true) hx (.lst []) rfl fun j a b h _ => by simp at h) (by decide) (by cases hx <;> rfl) p
  | cons a r => exact rd_eqN (n := 1) (DEq.lstsN hx (.lst []) (by simp)) (by decide) (by cases hx <;> rfl) p
theorem rd_neNil {xs : List D} (hx : IsL x xs) (p : k (.bl (!xs.isEmpty))) : RD K (rNeA K) x (.lst []) k := by
  cases xs with
  | nil => exact rd_neN (n := 1) (DEq.lsts (fun _ => true) hx (.lst []) rfl fun j a b h _ => by simp at h) (by decide) (by cases hx <;> rfl) p
  | cons a r => exact rd_neN (n := 1) (DEq.lstsN hx (.lst []) (by simp)) (by decide) (by cases hx <;> rfl) p
end
end DL

namespace DC
open PySem L2 PySem.Spec PyProof.Rows
/-! ### f(e, .., k = e, ..) -/
/-- the written ones, and the keywords' values at their places -/
def kwG {α : Type} (ix : List Nat) (us ws : List α) : List α := us ++ ix.filterMap fun i => ws[i]?
theorem Paired.app {α β : Type} {R : α → β → Prop} : ∀ {xs us : List α} {ys vs : List β}, Paired R xs ys → Paired R us vs → Paired R (xs ++ us) (ys ++ vs)
  | _, _, _, _, .nil, r => r
  | _, _, _, _, .cons h r, q => .cons h (Paired.app r q)
theorem Paired.opt {α β : Type} {R : α → β → Prop} : ∀ {xs : List α} {ys : List β}, Paired R xs ys → ∀ i : Nat, (xs[i]? = none ∧ ys[i]? = none) ∨ ∃ x y, xs[i]? = some x ∧ ys[i]? = some y ∧ R x y
  | _, _, .nil, i => .inl ⟨by simp, by simp⟩
  | _, _, .cons h _, 0 => .inr ⟨_, _, rfl, rfl, h⟩
  | _, _, .cons _ r, i + 1 => by
    rcases Paired.opt r i with ⟨a, b⟩ | ⟨x, y, a, b, c⟩
    · exact .inl ⟨by simpa using a, by simpa using b⟩
    · exact .inr ⟨x, y, by simpa using a, by simpa using b, c⟩
theorem Paired.picked {α β : Type} {R : α → β → Prop} {xs : List α} {ys : List β} (r : Paired R xs ys) : ∀ ix : List Nat, Paired R (ix.filterMap fun i => xs[i]?) (ix.filterMap fun i => ys[i]?)
  | [] => .nil
  | i :: ix => by
    rcases Paired.opt r i with ⟨a, b⟩ | ⟨x, y, a, b, c⟩
    · rw [List.filterMap_cons, List.filterMap_cons, a, b]
      exact Paired.picked r ix
    · rw [List.filterMap_cons, List.filterMap_cons, a, b]
      exact .cons c (Paired.picked r ix)
theorem kwG_rel {ix : List Nat} {vs zs : List V} {us ws : List Value} (h : Vals vs us) (k : Vals zs ws) : Vals (kwG ix vs zs) (kwG ix us ws) := Paired.app h (Paired.picked k ix)
theorem kbN {K : PySem.W.Frag} {x qual : Str} {params : Arguments} {body : List Stmt} {scope : Scope} {kws : List (Str × V)} {f : Addr} {fd : FuncData} {ps : List Str} (F : FunD K x qual params body scope [] kws f fd) (n : Nat) (ks : List Str) (ix : List Nat)
    (h : ∀ (kV doc pm : Value) (an : Option Addr) (cdv ct : Value) (us ws : List Value), us.length = n → ws.length = ks.length → bindArgs (PySem.W.fnOf x qual params body scope .none kV doc pm an cdv ct) ⟨us, ks.zip ws⟩ = pure (ps.zip (kwG ix us ws))) : KBn K fd ps n ks (kwG ix) (kwG ix) := by
  obtain ⟨oc, od, dV, kV, doc, pm, an, cdv, ct, osl, rfl, lk, hcd, hD, hK⟩ := (F.ex)
  rcases (hD) with ⟨_, rfl⟩ | ⟨e, _⟩
  · exact ⟨fun s us ws _ l1 l2 => .of_eq (h kV doc pm an cdv ct us ws l1 l2), fun r k => kwG_rel r k⟩
  · exact absurd rfl e
def tCallKS (n m : Nat) (sp : Sp) (gV : List V → List V → List V) (E : St → XK) (t tk : TA) : TE := fun σ H Q => t σ H fun vs H1 => tk σ H1 fun zs H2 => vs.length = n ∧ zs.length = m ∧ sp (gV vs zs) H2 Q (E σ)
section
variable {X : Cx} {CX : CXT} {lv n : Nat} {f : Addr} {fd : FuncData} {names ks : List Str} {sp : Sp} {E : St → XK} {x : Str} {p pos : Pos} {e : Expr} {es : List Expr} {kws : List Keyword} {t tk : TA} {g : List Value → List Value → List Value} {gV : List V → List V → List V}
theorem goesK {pins : List (Addr × Obj)} {σ : St} {H : Hp} {s : Shared} {Q : VK} {us ws : List Value} {xs zs : List V} (F : FnG X.prog X.w X.K X.mg X.base CX lv f fd names sp) (gd : X.A.guards = some []) (room : Room lv X.A) (bnd : KBn X.K fd names n ks g gV)
    (esc : PassesAt CX X σ (E σ)) (J : Inv X pins σ H s) (rel : Vals xs us) (relk : Vals zs ws) (l1 : xs.length = n) (l2 : zs.length = ks.length) (wish : sp (gV xs zs) H Q (E σ)) : wpAny (model X.prog X.w) X.A (call (.ref f) us (ks.zip ws)) (EP X pins σ Q) X.xe s := by
  refine wpAny_call (codeAny_mono (goesTo F gd room (bnd.to s us ws J.kIn (rel.length.symm.trans l1) (relk.length.symm.trans l2)) (fun e s' c => esc pins H s e s' J c) J (bnd.rel rel relk) wish) fun out s' got => ?_)
  match out, got with
  | .error e, got => exact got
  | .ok (.ret u), got => exact got
  | .ok .next, got => exact got
  | .ok .brk, got => exact got
  | .ok .cont, got => exact got
theorem pe_callKG (F : FnG X.prog X.w X.K X.mg X.base CX lv f fd names sp) (gd : X.A.guards = some []) (room : Room lv X.A) (gl : Gl X x) (at_ : X.mg x = some (.ref f)) (kept : PySem.W.keepIn X.K (.ref f) = true) (bnd : KBn X.K fd names n ks g gV) (esc : ∀ σ, PassesAt CX X σ (E σ))
    (args : PA X (e :: es) t) (more : PK X kws tk) (all_ : (backToKw pos (keywordEach kws X.env)).all (·.1.isSome) = true := by rfl) (named : (backToKw pos (keywordEach kws X.env)).filterMap (·.1) = ks := by rfl) (nodbg : (x == ("__debug__" : Str)) = false := by decide)
    (st : starEach (e :: es) X.env = (false, eval e X.env) :: starEach es X.env := by rfl) (pln : ((backTo pos (starEach (e :: es) X.env)).any (·.1) || (backToKw pos (keywordEach kws X.env)).any (·.1.isNone)) = false := by rfl) :
    PE X (.Call (.Name x p) (e :: es) kws pos) (tCallKS n ks.length sp gV E t tk) :=
  ⟨fun pins s σ H Q J wish => wpAny_Call_Name_kw (ld_glob J gl at_ (PySem.W.callWith_KW (h₀ := X.base) J.ok.mod.kin kept all_ (thn (args.run pos pins s σ H _ J wish) fun us s1 ⟨xs, H1, J1, rel, q⟩ =>
    thn (more.run pos pins s1 σ H1 _ J1 q) fun ws s2 ⟨zs, H2, J2, relk, l1, l2, q2⟩ => ⟨J2.kIn, by
      rw [named]
      exact goesK F gd room bnd (esc σ) J2 rel relk l1 l2 q2⟩) pln st) nodbg)⟩
theorem pe_callKG0 (F : FnG X.prog X.w X.K X.mg X.base CX lv f fd names sp) (gd : X.A.guards = some []) (room : Room lv X.A) (gl : Gl X x) (at_ : X.mg x = some (.ref f)) (kept : PySem.W.keepIn X.K (.ref f) = true) (bnd : KBn X.K fd names 0 ks g gV) (esc : ∀ σ, PassesAt CX X σ (E σ))
    (more : PK X kws tk) (all_ : (backToKw pos (keywordEach kws X.env)).all (·.1.isSome) = true := by rfl) (named : (backToKw pos (keywordEach kws X.env)).filterMap (·.1) = ks := by rfl) (nodbg : (x == ("__debug__" : Str)) = false := by decide)
    (pln : (backToKw pos (keywordEach kws X.env)).any (·.1.isNone) = false := by rfl) :
    PE X (.Call (.Name x p) [] kws pos) (tCallKS 0 ks.length sp gV E tNil tk) :=
  ⟨fun pins s σ H Q J wish => wpAny_Call_Name_kw (ld_glob J gl at_ (PySem.W.callWith_KW0 (h₀ := X.base) J.ok.mod.kin kept all_ (
    thn (more.run pos pins s σ H _ J wish) fun ws s2 ⟨zs, H2, J2, relk, l1, l2, q2⟩ => ⟨J2.kIn, by
      rw [named]
      exact goesK (us := []) (xs := []) F gd room bnd (esc σ) J2 .nil relk l1 l2 q2⟩) pln) nodbg)⟩
end
end DC
namespace DL
open PySem L2
theorem RepL.opt {K : PySem.W.Frag} {S : Hp} : ∀ {vs : List V} {ds : List D}, RepL K S vs ds → ∀ i : Nat, (vs[i]? = none ∧ ds[i]? = none) ∨ ∃ v d, vs[i]? = some v ∧ ds[i]? = some d ∧ Rep K S v d
  | _, _, .nil, i => .inl ⟨by simp, by simp⟩
  | _, _, .cons h _, 0 => .inr ⟨_, _, rfl, rfl, h⟩
  | _, _, .cons _ r, i + 1 => by
    rcases RepL.opt r i with ⟨a, b⟩ | ⟨x, y, a, b, c⟩
    · exact .inl ⟨by simpa using a, by simpa using b⟩
    · exact .inr ⟨x, y, by simpa using a, by simpa using b, c⟩
theorem RepL.picked {K : PySem.W.Frag} {S : Hp} {vs : List V} {ds : List D} (r : RepL K S vs ds) : ∀ ix : List Nat, RepL K S (ix.filterMap fun i => vs[i]?) (ix.filterMap fun i => ds[i]?)
  | [] => .nil
  | i :: ix => by
    rcases RepL.opt r i with ⟨a, b⟩ | ⟨x, y, a, b, c⟩
    · rw [List.filterMap_cons, List.filterMap_cons, a, b]
      exact RepL.picked r ix
    · rw [List.filterMap_cons, List.filterMap_cons, a, b]
      exact .cons c (RepL.picked r ix)
section
variable {G : Gx} {ρ : Env} {t tk : TA} {PO : M → Env → Prop} {P : D → Env → Prop} {n m N : Nat} {ix : List Nat}
theorem wo_cdK {C : CD} (h : WA G t ρ fun ds ρ1 => WA G tk ρ1 fun zs ρ2 => ds.length = n ∧ zs.length = m ∧ (DC.kwG ix ds zs).length = N ∧ C.c (DC.kwG ix ds zs) fun o => match o with | .ret m => PO m ρ2 | .err c fs => G.er c fs ρ2) :
    WO G (DC.tCallKS n m (toSp G.K N C.con) (DC.kwG ix) (fun σ cls d H => G.Wx cls d σ H) t tk) ρ PO := fun w σ Q o e q =>
  h w σ _ o e fun vs w0 ds ρ0 h0 l0 o0 r0 => h0 w0 σ _ o0 (e.later l0) fun us w1 zs ρ1 ⟨e1, e2, hl, hc⟩ l01 o1 r1 => by
    have l1 := l0.trans l01
    have r2 : RepL G.K w1.S (DC.kwG ix vs us) (DC.kwG ix ds zs) := (r0.mono l01.s).app (r1.picked ix)
    refine ⟨by rw [r0.len, e1], by rw [r1.len, e2], ⟨w1.S, w1.H, []⟩, (DC.kwG ix ds zs).map .sh, rfl, o1.sub, ownL_of r2, List.nodup_nil, by rw [List.length_map]; exact hl, o1.tb, ⟨DC.kwG ix ds zs, rfl, C.mono _ _ _ (fun oc hk => ?_) hc⟩⟩
    intro w' fp' l s ow
    cases oc with
    | ret m =>
      intro v fr om hF nd
      have nd2 : (w'.less fr).F.Nodup := by
        show fr.Nodup
        rw [hF] at nd
        exact (List.nodup_append.mp nd).2.1
      have l2 : Le ⟨w1.S, w1.H, []⟩ (w'.less fr) := l.trans (Wd.le_less fun x hx => by rw [hF]; exact List.mem_append_right _ hx)
      obtain ⟨w2, l3, eS, eH, o2⟩ := OkE.back (fp := []) o1 l2 s rfl nd2
      have z := q v w2 m ρ1 fr hk (l1.trans l3) o2 (by rw [eS, eH]; exact om)
      rw [eH] at z
      exact z
    | err c fs =>
      intro d ex hF nd
      have l2 : Le ⟨w1.S, w1.H, []⟩ (w'.less []) := l.trans (Wd.le_less fun x hx => by cases hx)
      obtain ⟨w2, l3, eS, eH, o2⟩ := OkE.back (fp := []) o1 l2 s rfl List.nodup_nil
      have z := e w2 σ ρ1 c fs d hk (l1.trans l3) o2 (by rw [eS]; exact ex)
      rw [eH] at z
      exact z
theorem w_cdK {C : CD} (h : WA G t ρ fun ds ρ1 => WA G tk ρ1 fun zs ρ2 => ds.length = n ∧ zs.length = m ∧ (DC.kwG ix ds zs).length = N ∧ C.c (DC.kwG ix ds zs) fun o => match o with | .ret m => ∃ d, Frz m d ∧ P d ρ2 | .err c fs => G.er c fs ρ2) :
    W G (DC.tCallKS n m (toSp G.K N C.con) (DC.kwG ix) (fun σ cls d H => G.Wx cls d σ H) t tk) ρ P := w_frz (wo_cdK h)
end
end DL

namespace DC
open PySem L2 PySem.Spec PyProof.Rows
/-- ys = [e for k in d if t] -/
theorem ps_setLcK {X : Cx} {i : Nat} {y : Str} {py : Pos} {elt tgt iter : Expr} {tests : List Expr} {scp : Scope} {own : List (Str × Nat)} {p1 p2 : Pos} {wi : TI} {g : TG} {tt : TT} {te : TE} (calm_ : X.calm = true) (nd : X.N.Nodup) (at_ : X.N[i]? = some y) (loc : X.env.scope.names.lookup y = some .local)
    (sw : swapsWith (.ListComp elt [⟨tgt, iter, tests, 0⟩] scp p1) (some (.Name y py)) p2.line X.env = pure true) (walk : PI X tgt iter wi) (blk : BlkOk X.N X.env.scope scp own)
    (aim : ∀ (s : Shared) (H : Hp) (C : Addr) (cl : List (Str × Addr)) (fp : List Addr), PG (X.blk s H scp (compEnvC scp cl C X.env) fp) tgt g) (asks : ∀ (s : Shared) (H : Hp) (C : Addr) (cl : List (Str × Addr)) (fp : List Addr), PTs (X.blk s H scp (compEnvC scp cl C X.env) fp) tests tt)
    (item : ∀ (s : Shared) (H : Hp) (C : Addr) (cl : List (Str × Addr)) (fp : List Addr), PE (X.blk s H scp (compEnvC scp cl C X.env) fp) elt te) (fold : ∀ x, foldedSetIterable iter X.env x = pure x := by intro _; rfl) :
    PS X (.Assign [.Name y py] (.ListComp elt [⟨tgt, iter, tests, 0⟩] scp p1) p2) (tAsg (tLockX (tLc wi g tt te (own.map (·.2)))) (gName i)) :=
  (ps_lockX (ps_setLc calm_ nd at_ loc sw walk blk aim asks item fold) : PS X _ (sLockX _))
end DC
namespace DL
open PySem L2
section
variable {X : Cx} {K : PySem.W.Frag}
theorem o_sortAK (hk : X.K = K) (hc : X.calm = true) : CallR X (.builtin "sorted") (gSortA K) := hk ▸ o_sortA hc
theorem o_listAK (hk : X.K = K) (hc : X.calm = true) : CallR X (.type "list") (gListA K) := hk ▸ o_listA hc
theorem o_dictAK (hk : X.K = K) (hc : X.calm = true) : CallR X (.type "dict") (gDictA K) := hk ▸ o_dictA hc
theorem o_lenAK (hk : X.K = K) : CallR X (.builtin "len") (gLenA K) := hk ▸ o_lenA
end
section
variable {K : PySem.W.Frag} {k : D → Prop} {x : D}
theorem rc_minL {ns : List Int} (hx : IsL x (ns.map .int)) (ne : 0 < ns.length) (p : ∀ m, m ∈ ns → (∀ y, y ∈ ns → m ≤ y) → k (.int m)) : RC K (rMin K) [x] k := fun w vs Q s r q => by
  obtain ⟨v, rfl, r1⟩ := r.one
  obtain ⟨l, vs, rfl, h1, r1⟩ := Rep.isL_inv hx r1
  obtain rfl := r1.ints
  exact ⟨l, ns, rfl, s.sl h1, ne, fun m hm hl => q _ w _ (p m hm hl) (LeP.refl w) s (.int _)⟩
theorem rc_maxL {ns : List Int} (hx : IsL x (ns.map .int)) (ne : 0 < ns.length) (p : ∀ m, m ∈ ns → (∀ y, y ∈ ns → y ≤ m) → k (.int m)) : RC K (rMax K) [x] k := fun w vs Q s r q => by
  obtain ⟨v, rfl, r1⟩ := r.one
  obtain ⟨l, vs, rfl, h1, r1⟩ := Rep.isL_inv hx r1
  obtain rfl := r1.ints
  exact ⟨l, ns, rfl, s.sl h1, ne, fun m hm hl => q _ w _ (p m hm hl) (LeP.refl w) s (.int _)⟩
end
theorem rd_eqAI {K : PySem.W.Frag} {k : D → Prop} {i j : Int} (p : k (.bl (decide (i = j)))) : RD K (rEqA K) (.int i) (.int j) k := rd_eqL (rd_eqI p)
theorem rd_neAI {K : PySem.W.Frag} {k : D → Prop} {i j : Int} (p : k (.bl (!decide (i = j)))) : RD K (rNeA K) (.int i) (.int j) k := rd_neL (rd_neI p)
/-- {}, a name's own -/
theorem wo_dnew {G : Gx} {ρ : Env} {PO : M → Env → Prop} (k : PO (ownD []) ρ) : WO G tDNewK ρ PO := fun w σ Q o e q p hp => q (.ref p) (w.own p (.dK [])) _ ρ [p] k (Wd.le_own hp) (o.own hp) (.dic (o.sub.free hp) upd_same .nil)
theorem cutD_to {ds : List D} {n : Int} (h0 : 0 ≤ n) (h1 : n ≤ ds.length) : cutD ds none (some n) = ds.take n.toNat := by
  unfold cutD HT.sIx
  (simp only [List.drop_zero, Nat.sub_zero])
  congr 1
  first | rfl | (split <;> omega) | omega
/-! ### dicts as functions of their keys -/
def keyS (n : Str) : Key := .inr n
def dicF (ns : List Str) (f : Str → D) : List (Key × D) := ns.map fun n => (.inr n, f n)
theorem dicF_len {ns : List Str} {f : Str → D} : (dicF ns f).length = ns.length := List.length_map ..
theorem dicF_keys {ns : List Str} {f : Str → D} : (dicF ns f).map (·.1) = ns.map Sum.inr := by
  unfold dicF
  rw [List.map_map]
  rfl
theorem dicF_keysD {ns : List Str} {f : Str → D} : ((dicF ns f).map fun p => keyD p.1) = ns.map .str := by
  unfold dicF
  rw [List.map_map]
  rfl
theorem dicF_look {n : Str} {f : Str → D} : ∀ {ns : List Str}, n ∈ ns → lookD (dicF ns f) (.inr n) = some (f n)
  | m :: ns, h => by
    by_cases e : m = n
    · subst e
      simp [lookD, dicF, List.find?_cons]
    · have h2 : n ∈ ns := (List.mem_cons.mp h).resolve_left fun z => e z.symm
      have := dicF_look (f := f) h2
      unfold lookD dicF at this ⊢
      rw [List.map_cons, List.find?_cons]
      have z : decide ((Sum.inr m : Key) = Sum.inr n) = false := decide_eq_false fun z => e (Sum.inr.inj z)
      rw [z]
      exact this
theorem dicF_no {n : Str} {f : Str → D} : ∀ {ns : List Str}, n ∉ ns → lookD (dicF ns f) (.inr n) = none
  | [], _ => rfl
  | m :: ns, h => by
    have e : m ≠ n := fun z => h (z ▸ List.mem_cons_self)
    have := dicF_no (f := f) fun z => h (List.mem_cons_of_mem m z)
    unfold lookD dicF at this ⊢
    rw [List.map_cons, List.find?_cons]
    have z : decide ((Sum.inr m : Key) = Sum.inr n) = false := decide_eq_false fun z => e (Sum.inr.inj z)
    rw [z]
    exact this
def setF {α : Type} (f : Str → α) (n : Str) (v : α) : Str → α := fun m => if m = n then v else f m
theorem setF_same {α : Type} {f : Str → α} {n : Str} {v : α} : setF f n v n = v := if_pos rfl
theorem setF_ne {α : Type} {f : Str → α} {n m : Str} {v : α} (h : m ≠ n) : setF f n v m = f m := if_neg h
theorem dicF_any {n : Str} {f : Str → D} {ns : List Str} : ((dicF ns f).any fun kv => decide (kv.1 = (.inr n : Key))) = decide (n ∈ ns) := by
  induction ns with
  | nil => rfl
  | cons m ns ih =>
    unfold dicF at ih ⊢
    rw [List.map_cons, List.any_cons, ih]
    by_cases e : m = n
    · subst e
      simp
    · have z : decide ((Sum.inr m : Key) = Sum.inr n) = false := decide_eq_false fun z => e (Sum.inr.inj z)
      rw [z, Bool.false_or]
      by_cases e2 : n ∈ ns
      · rw [decide_eq_true e2, decide_eq_true (List.mem_cons_of_mem m e2)]
      · rw [decide_eq_false e2, decide_eq_false fun q => (List.mem_cons.mp q).elim (fun q => e q.symm) e2]
theorem dicF_put {n : Str} {f : Str → D} {v : D} {ns : List Str} (h : n ∈ ns) : putD (dicF ns f) (.inr n) v = dicF ns (setF f n v) := by
  unfold putD
  rw [dicF_any, decide_eq_true h, if_pos rfl]
  unfold dicF
  rw [List.map_map]
  refine List.map_congr_left fun m _ => ?_
  show (if (Sum.inr m : Key) = Sum.inr n then ((Sum.inr m : Key), v) else (Sum.inr m, f m)) = (Sum.inr m, setF f n v m)
  by_cases e : m = n
  · subst e
    rw [if_pos rfl, setF_same]
  · rw [if_neg (fun z => e (Sum.inr.inj z)), setF_ne e]
theorem dicF_put_new {n : Str} {f : Str → D} {v : D} {ns : List Str} (h : n ∉ ns) : putD (dicF ns f) (.inr n) v = dicF (ns ++ [n]) (setF f n v) := by
  unfold putD
  rw [dicF_any, decide_eq_false h, if_neg Bool.false_ne_true]
  unfold dicF
  rw [List.map_append, List.map_singleton, setF_same]
  congr 1
  refine List.map_congr_left fun m hm => ?_
  show (Sum.inr m, f m) = (Sum.inr m, setF f n v m)
  rw [setF_ne (fun z : m = n => h (by rw [← z]; exact hm))]
theorem dicF_congr {ns : List Str} {f g : Str → D} (h : ∀ n ∈ ns, f n = g n) : dicF ns f = dicF ns g := List.map_congr_left fun n hn => by rw [h n hn]
theorem mergeF : ∀ (ns done : List Str) (f : Str → D), (done ++ ns).Nodup → mergeD (dicF done f) (dicF ns f) = dicF (done ++ ns) f
  | [], done, f, _ => by rw [List.append_nil]; rfl
  | n :: ns, done, f, h => by
    have hn : n ∉ done := fun z => (List.nodup_append.mp h).2.2 n z n List.mem_cons_self rfl
    have e : mergeD (dicF done f) (dicF (n :: ns) f) = mergeD (putD (dicF done f) (.inr n) (f n)) (dicF ns f) := rfl
    rw [e, dicF_put_new hn, dicF_congr (g := f) (ns := done ++ [n]) (fun m _ => by
      unfold setF
      split
      · rename_i z; rw [z]
      · rfl), mergeF ns (done ++ [n]) f (by rw [List.append_assoc]; exact h), List.append_assoc]
    rfl
end DL

namespace DL
open PySem L2
theorem erase_perm {α : Type} : ∀ (l : List α) (j : Nat) (h : j < l.length), (l[j] :: l.eraseIdx j).Perm l
  | x :: r, 0, _ => List.Perm.refl _
  | x :: r, j + 1, h => by
    have hj : j < r.length := by simpa using h
    show (r[j] :: x :: r.eraseIdx j).Perm (x :: r)
    exact (List.Perm.swap x r[j] _).trans (List.Perm.cons x (erase_perm r j hj))
theorem erase_map {α β : Type} (f : α → β) : ∀ (l : List α) (j : Nat), (l.map f).eraseIdx j = (l.eraseIdx j).map f
  | [], _ => rfl
  | _ :: _, 0 => rfl
  | x :: r, j + 1 => by
    show f x :: (r.map f).eraseIdx j = f x :: (r.eraseIdx j).map f
    rw [erase_map f r j]
section
variable {G : Gx} {ρ : Env} {P : D → Env → Prop} {PS_ : Post} {i : Nat} {bl cs : List Int} {k : Int} {te : TE}
/-- state[0] != [] -/
theorem w_stNeA (h0 : ρ[i]? = some (some (StM bl cs k))) (p : P (.bl (!bl.isEmpty)) ρ) : W G (tOp (rNeA G.K) (tOp (rIx G.K) (tVar i) (tC (.int 0))) (tLst tNil)) ρ P := fun w σ Q o e q => by
  obtain ⟨v, fp, w1, h1, l1, hS, hH, o1, r1⟩ := o.takeM h0
  obtain ⟨a, a0, v1, rfl, rfl, st⟩ := st_inv r1
  refine ⟨_, h1, .inl ⟨a, _, 0, .ref a0, rfl, rfl, .inl (.inl st.ha), rfl, Nat.zero_le _, fun x hx => .inl ?_⟩⟩
  have l := Wd.le_add (o := .lst []) o.sub hx
  have s := Wd.sub_add (p := x) (o := .lst []) o.sub hx
  refine ⟨.list (bl.map .int), .list [], .lst (.inl (.inl ?_)) (dp_ints bl), .lst (.inl (.inl upd_same)) .nil, shaped_ints bl, rfl, ?_⟩
  · show upd w.H x _ a0 = _
    rw [upd_ne (ne_of_none st.hb hx)]
    exact st.hb
  · have e2 : (!PyData.eqv (.list (bl.map .int)) (.list [])) = !bl.isEmpty := by
      cases bl <;> rfl
    rw [e2]
    exact q _ (w.add x (.lst [])) _ ρ p l.le (o.grow l s) (.bl _)
/-- len(xs), xs a name's own list -/
theorem w_lenOA {ms : List M} (hm : ρ[i]? = some (some (.lst ms))) (p : P (.int ms.length) ρ) : W G (tCB (gLenA G.K) (tCons (tVar i) tNil)) ρ P := fun w σ Q o e q => by
  obtain ⟨v, fp, w0, hv, _, _, _, _, om⟩ := o.takeM hm
  refine ⟨v, hv, .inl ?_⟩
  cases om with
  | @lst a vs _ _ hS hH ol => exact ⟨_, ms.length, rfl, .inl ⟨vs, .inl (.inl hH), ol.len.symm⟩, q _ w _ ρ p (Le.refl w) o (.int _)⟩
/-- len(d), d a name's own dict -/
theorem w_lenOD {ds : List (Key × D)} (hm : ρ[i]? = some (some (ownD ds))) (p : P (.int ds.length) ρ) : W G (tCB (gLenA G.K) (tCons (tVar i) tNil)) ρ P := fun w σ Q o e q => by
  obtain ⟨a, xs, hv, hH, rk, _⟩ := o.ownDic hm
  refine ⟨_, hv, .inr ⟨a, xs, rfl, .inl hH, ?_⟩⟩
  rw [rk.len]
  exact q _ w _ ρ p (Le.refl w) o (.int _)
/-- state[2] = e -/
theorem ws_stPut (hp : ∃ m, ρ[i]? = some (some m)) (h : W G te ρ fun d ρ1 => ∃ bl cs k k', d = .int k' ∧ ρ1[i]? = some (some (StM bl cs k)) ∧ PS_.nx (ρ1.set i (some (StM bl cs k')))) : WS G (tAsg te (gSub (tVar i) (tC (.int 2)) rSetL)) ρ PS_ := fun w σ D o e q =>
  h w σ _ o e fun v1 w1 d ρ1 ⟨bl, cs, k, k', ed, h0, p⟩ l1 o1 r1 => by
    subst ed
    obtain rfl := r1.int_inv
    obtain ⟨v, fp, w2, h1, l2, hS, hH, o2, rm⟩ := o1.takeM h0
    have hil : i < ρ1.length := (List.getElem?_eq_some_iff.mp h0).1
    obtain ⟨a, a0, v1, rfl, rfl, st⟩ := st_inv rm
    have ne : a0 ≠ a := fun z => by
      have z2 := st.hb
      rw [z, st.ha] at z2
      have z3 := Option.some.inj z2
      cases bl with
      | nil => cases z3
      | cons b r => cases z3
    refine ⟨_, h1, a, _, 2, 2, rfl, rfl, st.ha, rfl, ?_⟩
    obtain ⟨w3, l3, hS3, hH3, o3⟩ := OkE.write (a := a) (ob := .lst [.ref a0, v1, .int k']) (fp' := [a, a0] ++ []) o2 List.mem_cons_self (by rw [hS]; exact st.sa) (fun x hx => by simpa using hx) (by simpa using o2.nodupFx)
    have st2 : StA G.K w3.S w3.H a a0 v1 bl cs k' := by
      rw [hS3, hH3, hS, hH]
      exact ⟨st.sa, st.sb, upd_same, by rw [upd_ne ne]; exact st.hb, st.rc⟩
    obtain ⟨w4, l4, hS4, hH4, o4⟩ := OkE.putBack (fr := []) o3 h1 (st_mk st2) hil
    have z := q.nx w4 σ _ p (((l1.trans l2).trans l3).trans l4) o4
    rw [hH4, hH3, hH] at z
    exact z
end
end DL

namespace DL
open PySem L2
/-! ### comprehensions over the keys of a dict that an expression gives -/
/-- the expression gives the very dict, locked or not -/
def KeyE (G : Gx) (te : TE) (ρ : Env) (kvs : List (Key × D)) : Prop := ∀ w σ, Ok G w σ ρ → ∃ a xs, Rd w.S a (.dK xs) ∧ RepK G.K w.S xs kvs ∧ ∀ (H' : Hp) (Q : VK), Sub w.S H' → Q (.ref a) H' → te σ H' Q
section
variable {G : Gx} {ρ : Env} {kvs : List (Key × D)} {i : Nat} {te0 : TE}
theorem keyE_var (hk : ρ[i]? = some (some (.sh (.dic kvs)))) : KeyE G (tVar i) ρ kvs := fun w σ o => by
  obtain ⟨v, hv, r⟩ := o.get hk
  cases r with
  | @dic a xs _ ha rk => exact ⟨a, xs, ha, rk, fun H' Q _ q => ⟨_, hv, q⟩⟩
theorem keyE_ixT {ds : List D} {j : Int} (hk : ρ[i]? = some (some (.sh (.tup ds)))) (hj : atI ds j = some (.dic kvs)) : KeyE G (tOp (rIx G.K) (tVar i) (tC (.int j))) ρ kvs := fun w σ o => by
  obtain ⟨v, hv, r⟩ := o.get hk
  obtain ⟨l, vs, rfl, h1, r1⟩ := r.tup_inv
  obtain ⟨u, e, r2⟩ := r1.atI hj
  cases r2 with
  | @dic a xs _ ha rk => exact ⟨a, xs, ha, rk, fun H' Q s q => ⟨_, hv, .inr (.inl ⟨l, vs, j, _, rfl, rfl, s.st h1, e, q⟩)⟩⟩
variable {g : TG} {tt : TT} {te : TE} {vs sl : List Nat} {PO : M → Env → Prop}
theorem wo_lcKE (hv : ∀ j ∈ G.px, j ∉ vs) (hsl : ∀ j ∈ sl, j ∈ vs) (hk : KeyE G te0 ρ kvs) (hl : kvs.length ≤ 90000) (I : Nat → List D → Env → Prop) (i0 : I 0 [] ρ)
    (step : ∀ j d acc ρ2, (kvs.map fun p => keyD p.1)[j]? = some d → I j acc ρ2 → WG G.nox g d (wipeE (inL vs) 0 ρ2) sl fun ρ3 => WT G.nox tt ρ3 fun b ρ4 =>
        if b = true then W G.nox te ρ4 fun y ρ5 => I (j + 1) (acc ++ [y]) (mixE (inL vs) 0 ρ2 ρ5) else I (j + 1) acc (mixE (inL vs) 0 ρ2 ρ4))
    (fin : ∀ acc ρ2, I kvs.length acc ρ2 → PO (.lst (acc.map .sh)) ρ2) : WO G (DC.tLockX (tLc (iKeys te0) g tt te vs)) ρ PO := fun w σ Q o e q => by
  obtain ⟨a, xs, ha, rk, ev⟩ := hk w σ o
  have nF : a ∉ w.F := fun z => by
    have := (o.at_ a z).1
    rcases ha with y | ⟨_, y⟩ <;> (rw [this] at y; cases y)
  have core : ∀ (wc : Wd) (ob : Obj) (Qc : VK), Ok G wc σ ρ → wc.S = w.S → wc.F = w.F → wc.H a = some (.frz ob (.dK xs)) → (∀ v w2 m ρ2 fp, PO m ρ2 → Le wc w2 → OkE G w2 σ ρ2 fp → OwnR G.K w2.S w2.H v m fp → Qc v w2.H) → tLc (iKeys te0) g tt te vs σ wc.H Qc := fun wc ob Qc oc eS eF hc qc => by
    refine ev wc.H _ (by rw [← eS]; exact oc.sub) ⟨a, ob, rfl, .inl ⟨xs, hc, ?_⟩⟩
    have it : Items G.K (Itk a ob xs) wc (kvs.map fun p => keyD p.1) := by
      rw [rk.keysD]
      exact items_keys hc (by rw [eF]; exact nF)
    exact lc_at hv hsl (by rw [List.length_map]; exact hl) I i0 step (fun acc ρ2 h => fin acc ρ2 (by rw [List.length_map] at h; exact h)) (Le.refl wc) oc it qc
  refine ⟨a, xs, ?_⟩
  rcases o.sub.dk ha with hH | ⟨ob, hH⟩
  · have sa := sub_dK (o := .dK xs) o.sub ha hH
    refine .inl ⟨hH, fun od => ?_⟩
    obtain ⟨ol, back⟩ := o.lock sa hH od
    refine core ⟨w.S, upd w.H a (.frz od (.dK xs)), w.F⟩ od _ ol rfl rfl upd_same fun v w2 m ρ2 fp p l2 o2 r2 => ?_
    obtain ⟨b1, b2, b3, b4⟩ := back w2 σ ρ2 fp l2 o2
    exact ⟨b1, q v ⟨w2.S, upd w2.H a (.dK xs), w2.F⟩ m ρ2 fp p b2 b3 (b4 (fun x hx => (r2.at_ x hx).1) r2)⟩
  · exact .inr ⟨⟨ob, hH⟩, core w ob Q o rfl rfl hH q⟩
end
/-! ### equal, by the parts -/
theorem dEq_refl {x : D} (f : x.flat = true) : dEq x x = true := by
  cases x <;> first | cases f | skip
  all_goals simp [dEq]
theorem deq_flat {n : Nat} {x : D} (f : x.flat = true) : DEq n x x true := by
  have := DEq.leaf (n := n) f f
  rw [dEq_refl f] at this
  exact this
theorem all_true {n : Nat} {e : Nat → Bool} (h : ∀ j, e j = true) : (List.range n).all e = true := List.all_eq_true.mpr fun j _ => h j
theorem deq_tups {n : Nat} {xs ys : List D} (hl : xs.length = ys.length) (h : ∀ (j : Nat) (a b : D), xs[j]? = some a → ys[j]? = some b → DEq n a b true) : DEq (n + 1) (.tup xs) (.tup ys) true := by
  have := DEq.tups (n := n) (fun _ => true) h
  rw [all_true fun _ => rfl, hl, beq_self_eq_true] at this
  exact this
theorem deq_lsts {n : Nat} {x y : D} {xs ys : List D} (hx : IsL x xs) (hy : IsL y ys) (hl : xs.length = ys.length) (h : ∀ (j : Nat) (a b : D), xs[j]? = some a → ys[j]? = some b → DEq n a b true) : DEq (n + 1) x y true := by
  have := DEq.lsts (n := n) (fun _ => true) hx hy hl h
  rw [all_true fun _ => rfl] at this
  exact this
theorem deq_same {n : Nat} {xs : List D} (h : ∀ a ∈ xs, DEq n a a true) : ∀ (j : Nat) (a b : D), xs[j]? = some a → xs[j]? = some b → DEq n a b true := fun j a b h1 h2 => by
  rw [h1] at h2
  cases h2
  exact h a (List.mem_of_getElem? h1)
theorem deq_dics {n : Nat} {ks ls : List (Key × D)} (hl : ks.length = ls.length) (hs : ∀ p ∈ ks, (lookD ls p.1).isSome = true) (h : ∀ k a b, (k, a) ∈ ks → lookD ls k = some b → DEq n a b true) : DEq (n + 1) (.dic ks) (.dic ls) true := by
  have := DEq.dics (n := n) (fun _ => true) h
  rw [List.all_eq_true.mpr (fun p hp => by rw [hs p hp]; rfl), hl, beq_self_eq_true] at this
  exact this
theorem dicF_mem {ns : List Str} {f : Str → D} {k : Key} {d : D} (h : (k, d) ∈ dicF ns f) : ∃ n ∈ ns, k = .inr n ∧ d = f n := by
  obtain ⟨n, hn, e⟩ := (List.mem_map.mp h)
  cases e
  exact ⟨n, hn, rfl, rfl⟩
theorem deq_dicF {n : Nat} {ns : List Str} {f : Str → D} (h : ∀ m ∈ ns, DEq n (f m) (f m) true) : DEq (n + 1) (.dic (dicF ns f)) (.dic (dicF ns f)) true :=
  deq_dics rfl (fun p hp => by
    obtain ⟨k, d⟩ := p
    obtain ⟨m, hm, rfl, rfl⟩ := dicF_mem hp
    show (lookD _ (.inr m)).isSome = true
    rw [dicF_look hm]
    rfl) fun k a b h1 h2 => by
    obtain ⟨m, hm, rfl, rfl⟩ := dicF_mem h1
    rw [dicF_look hm] at h2
    cases h2
    exact h m hm
theorem deq_strs {n : Nat} {x y : D} {xs : List Str} (hx : IsL x (xs.map .str)) (hy : IsL y (xs.map .str)) : DEq (n + 1) x y true := deq_lsts hx hy rfl (deq_same fun a ha => by
  obtain ⟨s, _, rfl⟩ := List.mem_map.mp ha
  exact deq_flat rfl)
end DL
namespace DL
open PySem L2
section
variable {X : Cx} {K : PySem.W.Frag}
theorem o_isiK (hk : X.K = K) : CallR X (.builtin "isinstance") (rIsi K) := hk ▸ call_isi
theorem o_sumK (hk : X.K = K) (hc : X.calm = true) : CallR X (.builtin "sum") (rSum K) := hk ▸ cr_sum hc
theorem o_minK (hk : X.K = K) (hc : X.calm = true) : CallR X (.builtin "min") (rMin K) := hk ▸ cr_min hc
theorem o_maxK (hk : X.K = K) (hc : X.calm = true) : CallR X (.builtin "max") (rMax K) := hk ▸ cr_max hc
theorem o_allK (hk : X.K = K) (hc : X.calm = true) : CallR X (.builtin "all") (rAll K) := hk ▸ cr_all hc
theorem o_anyK (hk : X.K = K) (hc : X.calm = true) : CallR X (.builtin "any") (rAny K) := hk ▸ cr_any hc
end
end DL

namespace DL
open PySem L2 PySem.Spec PyProof.Rows
/-! ### what is shown of dicts of numbers -/
/-- it can be shown, in so many signs -/
structure Sho (v : D) (p : PyData) (n : Nat) : Prop where
  py : v.pyR = some p
  sh : p.showable = true
  dp : p.depth ≤ 60
  len : p.shown.length ≤ n
theorem sho_nat {n : Nat} (h : n < 10 ^ 28) : Sho (.int (n : Int)) (.int (n : Int)) 28 := by
  have e : TL.tl (PyData.shown (.int (n : Int))) = TL.numL n := TL.tl_num n
  refine ⟨rfl, decide_eq_true ?_, by simp [PyData.depth], ?_⟩
  · show n.log2 < 1920
    exact Nat.lt_of_lt_of_le (PySem.Flt.log2_lt_of (show 0 < 100 by decide) (show n < 2 ^ 100 from Nat.lt_of_lt_of_le h (by decide))) (by decide)
  · have l := TL.numL_len (k := 28) (by decide) h
    rw [← e, ← TL.len_tl] at l
    exact l
theorem piled_le {B : Nat} : ∀ {ts : List Str}, (∀ t ∈ ts, t.length ≤ B) → piled ts ≤ ts.length * (B + 2)
  | [], _ => by simp [piled]
  | t :: r, h => by
    have a := h t List.mem_cons_self
    have b := piled_le (ts := r) fun x hx => h x (List.mem_cons_of_mem _ hx)
    rw [piled_cons, List.length_cons, Nat.add_mul, Nat.one_mul]
    omega
theorem dictText_le {B : Nat} {ts : List Str} (h : ∀ t ∈ ts, t.length ≤ B) : (dictText ts).length ≤ 2 + ts.length * (B + 2) := by
  have e : (dictText ts).length = 1 + (Str.join ", " ts).length + 1 := by
    unfold dictText
    (rw [strLen_append, strLen_append])
    rfl
  have p := piled_le h
  cases ts with
  | nil =>
    rw [e]
    show 1 + 0 + 1 ≤ _
    omega
  | cons t r =>
    have j := join_length_add (t :: r) (by simp)
    omega
def pyF (ns : List Str) (g : Str → PyData) : List (PyData × PyData) := ns.map fun n => (.str n, g n)
theorem sho_dicF {B : Nat} {f : Str → D} {g : Str → PyData} : ∀ {ns : List Str}, (∀ n ∈ ns, (reprText n).length ≤ 50) → (∀ n ∈ ns, Sho (f n) (g n) B) → (D.pykR (dicF ns f) = some (pyF ns g) ∧ PyData.showableKv (pyF ns g) = true ∧ PyData.depthKv (pyF ns g) ≤ 60 ∧ (∀ t ∈ PyData.shownKv (pyF ns g), t.length ≤ B + 52) ∧ (PyData.shownKv (pyF ns g)).length = ns.length)
  | [], _, _ => ⟨rfl, rfl, Nat.zero_le _, (fun t h => by cases h), rfl⟩
  | n :: ns, h1, h2 => by
    obtain ⟨a, b, c, d, e⟩ := sho_dicF (fun m hm => h1 m (List.mem_cons_of_mem _ hm)) fun m hm => h2 m (List.mem_cons_of_mem _ hm)
    have s := h2 n List.mem_cons_self
    have l := h1 n List.mem_cons_self
    refine ⟨?_, ?_, ?_, ?_, ?_⟩
    · show (match D.pyR (f n) with
        | some p => (D.pykR (dicF ns f)).map ((keyPy (.inr n), p) :: ·)
        | none => none) = _
      rw [s.py, a]
      rfl
    · show (PyData.showable (.str n) && PyData.showable (g n) && PyData.showableKv (pyF ns g)) = true
      rw [s.sh, b]
      rfl
    · have e1 : PyData.depthKv (pyF (n :: ns) g) = max (max (PyData.depth (.str n)) (PyData.depth (g n))) (PyData.depthKv (pyF ns g)) := by
        first | rfl | simp [pyF, PyData.depthKv]
      have e2 : PyData.depth (.str n) ≤ 1 := by simp [PyData.depth]
      have := s.dp
      rw [e1]
      omega
    · intro t ht
      have ht : t ∈ (PyData.shown (.str n) ++ ": " ++ PyData.shown (g n)) :: PyData.shownKv (pyF ns g) := ht
      rcases List.mem_cons.mp ht with z | z
      · subst z
        (rw [strLen_append, strLen_append])
        have e0 : PyData.shown (.str n) = reprText n := rfl
        have e2 : ((": " : String) : Str).length = 2 := rfl
        have := s.len
        rw [e0, e2]
        omega
      · exact d t z
    · show ((PyData.shown (.str n) ++ ": " ++ PyData.shown (g n)) :: PyData.shownKv (pyF ns g)).length = _
      rw [List.length_cons, List.length_cons, e]
theorem sho_dic {B : Nat} {f : Str → D} {g : Str → PyData} {ns : List Str} (h1 : ∀ n ∈ ns, (reprText n).length ≤ 50) (h2 : ∀ n ∈ ns, Sho (f n) (g n) B) : (D.dic (dicF ns f)).pyR = some (.dict (pyF ns g)) ∧ (PyData.dict (pyF ns g)).showable = true ∧ (PyData.dict (pyF ns g)).depth ≤ 64 ∧ (PyData.dict (pyF ns g)).shown.length ≤ 2 + ns.length * (B + 54) := by
  obtain ⟨a, b, c, d, e⟩ := sho_dicF h1 h2
  refine ⟨?_, b, ?_, ?_⟩
  · show (D.pykR (dicF ns f)).map PyData.dict = _
    rw [a]
    rfl
  · have : (PyData.dict (pyF ns g)).depth ≤ PyData.depthKv (pyF ns g) + 1 := by
      simp only [PyData.depth]
      omega
    omega
  · have := dictText_le d
    rw [e] at this
    exact this
end DL

namespace DL
open PySem L2
/-! ### comprehensions that leave all names as they are -/
theorem mixE_get {p : Nat → Bool} : ∀ {n : Nat} {ρ ρ' : Env} {j : Nat}, ρ'.length = ρ.length → (mixE p n ρ ρ')[j]? = if p (n + j) = true then (ρ[j]?).map keepSh else ρ'[j]?
  | n, [], [], j, _ => by simp [mixE]
  | n, a :: ρ, [], j, h => by simp at h
  | n, [], b :: ρ', j, h => by simp at h
  | n, a :: ρ, b :: ρ', 0, h => by
    unfold mixE
    rw [Nat.add_zero]
    split <;> simp_all
  | n, a :: ρ, b :: ρ', j + 1, h => by
    unfold mixE
    rw [List.getElem?_cons_succ, List.getElem?_cons_succ, List.getElem?_cons_succ, mixE_get (by simpa using h), show n + 1 + j = n + (j + 1) by omega]
theorem wipeE_at {p : Nat → Bool} : ∀ {n : Nat} {ρ : Env} {j : Nat}, p (n + j) = false → (wipeE p n ρ)[j]? = ρ[j]?
  | _, [], _, _ => by simp [wipeE]
  | n, a :: ρ, 0, h => by
    unfold wipeE
    rw [Nat.add_zero] at h
    rw [h]
    rfl
  | n, a :: ρ, j + 1, h => by
    unfold wipeE
    rw [List.getElem?_cons_succ, List.getElem?_cons_succ, wipeE_at (by rw [show n + 1 + j = n + (j + 1) by omega]; exact h)]
theorem inL1 {v j : Nat} : inL [v] j = decide (j = v) := by
  unfold inL
  by_cases e : j = v
  · subst e; simp
  · simp [e]
/-- the name's place within -/
abbrev inE (v : Nat) (ρ : Env) (d : D) : Env := (wipeE (inL [v]) 0 ρ).set v (some (.sh d))
def NameOk (v : Nat) (ρ : Env) : Prop := ∃ x, ρ[v]? = some x ∧ keepSh x = x
theorem mix_in {v : Nat} {ρ : Env} {d : D} (h : NameOk v ρ) : mixE (inL [v]) 0 ρ (inE v ρ d) = ρ := by
  obtain ⟨x, hx, hk⟩ := h
  apply List.ext_getElem?
  intro j
  rw [mixE_get (by rw [List.length_set, wipeE_len]), Nat.zero_add, inL1]
  by_cases e : j = v
  · subst e
    rw [decide_eq_true rfl, if_pos rfl, hx]
    show some (keepSh x) = some x
    rw [hk]
  · rw [decide_eq_false e, if_neg Bool.false_ne_true, List.getElem?_set_ne (fun z => e z.symm), wipeE_at (by rw [Nat.zero_add, inL1]; exact decide_eq_false e)]
section
variable {G : Gx} {ρ : Env} {v : Nat} {tt : TT} {te tk tv te0 : TE} {wi : TI} {PO : M → Env → Prop} {P : D → Env → Prop} {F : D → Option D} {kvs : List (Key × D)}
/-- what is asked of a turn -/
def Turn (G : Gx) (tt : TT) (te : TE) (F : D → Option D) (ρ' : Env) (d : D) : Prop := WT G.nox tt ρ' fun b ρ4 => ρ4 = ρ' ∧ if b = true then W G.nox te ρ' fun y ρ5 => ρ5 = ρ' ∧ F d = some y else F d = none
theorem filterMap_step {α β : Type} {f : α → Option β} {l : List α} {i : Nat} {d : α} (h : l[i]? = some d) : (l.take (i + 1)).filterMap f = (l.take i).filterMap f ++ (match f d with | some y => [y] | none => []) := by
  rw [List.take_add_one, h, List.filterMap_append]
  cases e : f d with
  | none => simp [e]
  | some y => simp [e]
theorem turn_ok {G : Gx} {ds : List D} {acc : List D} {i : Nat} {d : D} (n : NameOk v ρ) (hv : v ∉ G.px) (hd : ds[i]? = some d) (t : Turn G tt te F (inE v ρ d) d) :
    WG G.nox (gName v) d (wipeE (inL [v]) 0 ρ) [v] fun ρ3 => WT G.nox tt ρ3 fun b ρ4 =>
        if b = true then W G.nox te ρ4 fun y ρ5 => ((ds.take i).filterMap F ++ [y] = (ds.take (i + 1)).filterMap F ∧ mixE (inL [v]) 0 ρ ρ5 = ρ) else ((ds.take i).filterMap F = (ds.take (i + 1)).filterMap F ∧ mixE (inL [v]) 0 ρ ρ4 = ρ) := by
  refine wg_name hv (by simp) ?_
  refine t.imp fun b ρ4 h => ?_
  obtain ⟨rfl, h⟩ := h
  cases b with
  | true =>
    rw [if_pos rfl] at h ⊢
    refine h.imp fun y ρ5 h2 => ?_
    obtain ⟨rfl, h2⟩ := h2
    exact ⟨by rw [filterMap_step hd, h2], mix_in n⟩
  | false =>
    rw [if_neg Bool.false_ne_true] at h ⊢
    exact ⟨by rw [filterMap_step hd, h, List.append_nil], mix_in n⟩
theorem wo_lcP (hv : v ∉ G.px) (n : NameOk v ρ) (h : WI G wi ρ fun ds ρ1 => ρ1 = ρ ∧ ds.length ≤ 90000 ∧ (∀ d ∈ ds, Turn G tt te F (inE v ρ d) d) ∧ PO (.lst ((ds.filterMap F).map .sh)) ρ) : WO G (tLc wi (gName v) tt te [v]) ρ PO := by
  refine wo_lc (sl := [v]) (fun i hi hm => hv (by rw [List.mem_singleton] at hm; rw [← hm]; exact hi)) (fun j hj => hj) fun w σ R o e q => h w σ R o e fun J w1 ds ρ1 hh => ?_
  obtain ⟨rfl, hl, ht, hp⟩ := hh
  refine q J w1 ds _ ⟨hl, fun i acc ρ' => acc = (ds.take i).filterMap F ∧ ρ' = ρ1, ⟨by simp, rfl⟩, ?_, ?_⟩
  · rintro i d acc ρ2 hd ⟨rfl, rfl⟩
    exact turn_ok (acc := []) n hv hd (ht d (List.mem_of_getElem? hd))
  · rintro acc ρ2 ⟨rfl, rfl⟩
    rw [List.take_length]
    exact hp
theorem w_lcP (hv : v ∉ G.px) (n : NameOk v ρ) (h : WI G wi ρ fun ds ρ1 => ρ1 = ρ ∧ ds.length ≤ 90000 ∧ (∀ d ∈ ds, Turn G tt te F (inE v ρ d) d) ∧ P (.lst (ds.filterMap F)) ρ) : W G (tLc wi (gName v) tt te [v]) ρ P :=
  w_frz (wo_lcP hv n fun w σ R o e q => h w σ R o e fun J w1 ds ρ1 ⟨a, b, c, d⟩ => q J w1 ds ρ1 ⟨a, b, c, _, frz_lst, d⟩)
theorem wo_lcKP (hv : v ∉ G.px) (n : NameOk v ρ) (hk : KeyE G te0 ρ kvs) (hl : kvs.length ≤ 90000) (ht : ∀ d ∈ kvs.map (fun p => keyD p.1), Turn G tt te F (inE v ρ d) d) (hp : PO (.lst (((kvs.map fun p => keyD p.1).filterMap F).map .sh)) ρ) : WO G (DC.tLockX (tLc (iKeys te0) (gName v) tt te [v])) ρ PO := by
  refine wo_lcKE (sl := [v]) (fun i hi hm => hv (by rw [List.mem_singleton] at hm; rw [← hm]; exact hi)) (fun j hj => hj) hk hl (fun i acc ρ' => acc = ((kvs.map fun p => keyD p.1).take i).filterMap F ∧ ρ' = ρ) ⟨by simp, rfl⟩ ?_ ?_
  · rintro i d acc ρ2 hd ⟨rfl, rfl⟩
    exact turn_ok (acc := []) n hv hd (ht d (List.mem_of_getElem? hd))
  · rintro acc ρ2 ⟨rfl, rfl⟩
    rw [List.take_of_length_le (by rw [List.length_map]; exact Nat.le_refl _)]
    exact hp
theorem w_lcKP (hv : v ∉ G.px) (n : NameOk v ρ) (hk : KeyE G te0 ρ kvs) (hl : kvs.length ≤ 90000) (ht : ∀ d ∈ kvs.map (fun p => keyD p.1), Turn G tt te F (inE v ρ d) d) (hp : P (.lst ((kvs.map fun p => keyD p.1).filterMap F)) ρ) : W G (DC.tLockX (tLc (iKeys te0) (gName v) tt te [v])) ρ P :=
  w_frz (wo_lcKP hv n hk hl ht ⟨_, frz_lst, hp⟩)
/-- over the names of a dict -/
theorem w_lcN {ns : List Str} {f : Str → D} {Fn : Str → Option D} (hv : v ∉ G.px) (n : NameOk v ρ) (hk : KeyE G te0 ρ (dicF ns f)) (hl : ns.length ≤ 90000) (ht : ∀ m ∈ ns, WT G.nox tt (inE v ρ (.str m)) fun b ρ4 => ρ4 = inE v ρ (.str m) ∧ if b = true then W G.nox te (inE v ρ (.str m)) fun y ρ5 => ρ5 = inE v ρ (.str m) ∧ Fn m = some y else Fn m = none)
    (hp : P (.lst (ns.filterMap Fn)) ρ) : W G (DC.tLockX (tLc (iKeys te0) (gName v) tt te [v])) ρ P := by
  refine w_lcKP (F := fun d => match d with | .str m => Fn m | _ => none) hv n hk (by rw [dicF_len]; exact hl) (fun d hd => ?_) ?_
  · rw [dicF_keysD] at hd
    obtain ⟨m, hm, rfl⟩ := List.mem_map.mp hd
    exact ht m hm
  · rw [dicF_keysD, List.filterMap_map]
    exact hp
/-- over a list of texts -/
theorem w_lcS {ns : List Str} {Fn : Str → Option D} (hv : v ∉ G.px) (n : NameOk v ρ) (h : WI G wi ρ fun ds ρ1 => ρ1 = ρ ∧ ds = ns.map .str) (hl : ns.length ≤ 90000) (ht : ∀ m ∈ ns, WT G.nox tt (inE v ρ (.str m)) fun b ρ4 => ρ4 = inE v ρ (.str m) ∧ if b = true then W G.nox te (inE v ρ (.str m)) fun y ρ5 => ρ5 = inE v ρ (.str m) ∧ Fn m = some y else Fn m = none)
    (hp : P (.lst (ns.filterMap Fn)) ρ) : W G (tLc wi (gName v) tt te [v]) ρ P := by
  refine w_lcP (F := fun d => match d with | .str m => Fn m | _ => none) hv n fun w σ R o e q => h w σ R o e fun J w1 ds ρ1 hh => ?_
  obtain ⟨rfl, rfl⟩ := hh
  refine q J w1 _ _ ⟨rfl, by rw [List.length_map]; exact hl, fun d hd => ?_, ?_⟩
  · obtain ⟨m, hm, rfl⟩ := List.mem_map.mp hd
    exact ht m hm
  · rw [List.filterMap_map]
    exact hp
theorem nameOk_none (h : ρ[v]? = some none) : NameOk v ρ := ⟨none, h, rfl⟩
theorem nameOk_sh {d : D} (h : ρ[v]? = some (some (.sh d))) : NameOk v ρ := ⟨_, h, rfl⟩
theorem fm_map {α β : Type} (g : α → β) (l : List α) : (l.filterMap fun a => some (g a)) = l.map g := by
  induction l with
  | nil => rfl
  | cons a l ih => rw [List.filterMap_cons, ih]; rfl
theorem fm_filter {α β : Type} (p : α → Bool) (g : α → β) (l : List α) : (l.filterMap fun a => if p a = true then some (g a) else none) = (l.filter p).map g := by
  induction l with
  | nil => rfl
  | cons a l ih =>
    rw [List.filterMap_cons, List.filter_cons]
    cases e : p a with
    | true => rw [if_pos rfl, if_pos rfl, ih]; rfl
    | false => rw [if_neg Bool.false_ne_true, if_neg Bool.false_ne_true, ih]
end
end DL

namespace DC
open PySem L2 PySem.Spec PyProof.Rows
/-! ### a list or a tuple gone through -/
def iSeq (K : PySem.W.Frag) (tl : TE) : TI := fun σ H R => tl σ H fun x H1 => ∃ a, x = .ref a ∧ (((∃ xs, SqL K H1 a xs) ∧ R (Itl K a) H1) ∨ ((∃ xs, SqT K H1 a xs) ∧ R (Itt K a) H1))
theorem pi_seq {X : Cx} {tg l : Expr} {tl : TE} (ev : PE X l tl) : PI X tg l (iSeq X.K tl) := by
  refine ⟨fun pins s σ H R J wish => thn (ev.run pins s σ H _ J wish) fun v s1 ⟨x, H1, J1, rel, a, ex, q⟩ => ?_⟩
  subst ex
  cases rel
  have fresh : ∀ b ∈ [s1.heap.objs.size], FpOk X pins H1 b := fun b hb => by
    obtain rfl : b = s1.heap.objs.size := by simpa using hb
    exact J1.fpOk (Nat.le_refl _) (J1.hok.fresh (Nat.le_refl _))
  rcases q with ⟨⟨xs, hq⟩, q⟩ | ⟨⟨xs, hq⟩, q⟩
  · obtain ⟨its, rv, p, hz⟩ := J1.list hq
    exact wpAny_pyIter_list p.isList ⟨s1.heap.objs.size, [s1.heap.objs.size], _, _, H1, rfl, J1.kept (t' := s1.toks) (fun b o e => Heap.get?_push_of_some _ e), turn_list a _, ⟨_, Heap.get?_push_size _ rfl, rfl, rfl⟩, fresh, q⟩
  · obtain ⟨its, rv, p, hz⟩ := J1.tuple hq
    exact wpAny_pyIter_tuple (show s1.heap.IsTuple a its.toArray from p) ⟨s1.heap.objs.size, [s1.heap.objs.size], _, _, H1, rfl, J1.kept (t' := s1.toks) (fun b o e => Heap.get?_push_of_some _ e), turn_tuple a _, ⟨_, Heap.get?_push_size _ rfl, rfl, rfl⟩, fresh, q⟩
end DC
namespace DL
open PySem L2
/-- a list or a tuple as data -/
def IsS (d : D) (xs : List D) : Prop := IsL d xs ∨ d = .tup xs
section
variable {G : Gx} {ρ : Env} {te to tl : TE} {P : D → Env → Prop} {PO : M → Env → Prop} {PI_ : List D → Env → Prop} {PS_ : Post} {i v : Nat} {g : TG} {t : TS} {K : PySem.W.Frag} {k : D → Prop} {x : D} {xs : List D}
theorem wi_seq (h : W G tl ρ fun x ρ1 => ∃ ds, IsS x ds ∧ PI_ ds ρ1) : WI G (DC.iSeq G.K tl) ρ PI_ := fun w σ R o e q =>
  h w σ _ o e fun v w1 x ρ1 ⟨ds, ex, p⟩ l1 o1 r1 => by
    rcases ex with ex | ex
    · obtain ⟨a, us, rfl, h1, r2⟩ := Rep.isL_inv ex r1
      refine ⟨_, rfl, .inl ⟨⟨_, o1.sub.sl h1⟩, q _ w1 ds ρ1 p l1 o1 fun w2 l2 s2 => ⟨fun i d hd => ?_, ⟨us, s2.sl (l2.s.sl h1), by rw [r2.len]; exact Nat.le_refl _⟩⟩⟩⟩
      obtain ⟨y, hy, ry⟩ := r2.get hd
      refine ⟨⟨us, y, s2.sl (l2.s.sl h1), hy⟩, fun z H' ⟨eH, k⟩ => ⟨w2, eH.symm, LeP.refl w2, s2, ?_⟩⟩
      have e2 := (k us (s2.sl (l2.s.sl h1))).symm.trans hy
      rw [Option.some.inj e2]
      exact ry.mono l2.s
    · subst ex
      obtain ⟨a, us, rfl, h1, r2⟩ := r1.tup_inv
      refine ⟨_, rfl, .inr ⟨⟨_, o1.sub.st h1⟩, q _ w1 ds ρ1 p l1 o1 fun w2 l2 s2 => ⟨fun i d hd => ?_, ⟨us, s2.st (l2.s.st h1), by rw [r2.len]; exact Nat.le_refl _⟩⟩⟩⟩
      obtain ⟨y, hy, ry⟩ := r2.get hd
      refine ⟨⟨us, y, s2.st (l2.s.st h1), hy⟩, fun z H' ⟨eH, k⟩ => ⟨w2, eH.symm, LeP.refl w2, s2, ?_⟩⟩
      have e2 := (k us (s2.st (l2.s.st h1))).symm.trans hy
      rw [Option.some.inj e2]
      exact ry.mono l2.s
theorem rc_lenAQ (h : IsS x xs) (p : k (.int xs.length)) : RC K (gLenA K) [x] k := by
  rcases h with h | h
  · exact rc_lenAL h p
  · subst h
    exact rc_lenAT p
theorem rd_ixS2 {j : Int} {d : D} (h : IsS x xs) (hj : atI xs j = some d) (p : k d) : RD K (rIx K) x (.int j) k := by
  rcases h with h | h
  · exact rd_ixL h hj p
  · subst h
    exact rd_ixT hj p
/-- tuple(xs) -/
theorem rc_tuple (h : IsL x xs) (p : k (.tup xs)) : RC K (fun xs H Q => ∃ p ys, xs = [.ref p] ∧ ((SqL K H p ys ∧ ∀ l, H l = none → Q (.ref l) (upd H l (.tup ys))) ∨ (SqT K H p ys ∧ Q (.ref p) H))) [x] k := fun w vs Q s r q => by
  obtain ⟨v, rfl, r1⟩ := r.one
  obtain ⟨a, us, rfl, h1, r2⟩ := Rep.isL_inv h r1
  refine ⟨a, us, rfl, .inl ⟨s.sl h1, fun l hl => ?_⟩⟩
  obtain ⟨a1, a2, a3⟩ := Wd.repNewT s hl r2
  exact q _ _ _ p a1 a2 a3
/-- xs.index(y), the first place -/
theorem w_index (h : W G to ρ fun x ρ1 => ∃ xs, IsL x xs ∧ W G te ρ1 fun y ρ2 => ∃ (j : Nat) (z : D), y.flat = true ∧ xs.all D.flat = true ∧ xs[j]? = some z ∧ dEq z y = true ∧ (∀ (m : Nat) (z' : D), m < j → xs[m]? = some z' → dEq z' y = false) ∧ P (.int j) ρ2) :
    W G (tBM G.K "list" (rIndex G.K) to (tCons te tNil)) ρ P := fun w σ Q o e q =>
  h w σ _ o e fun v w1 x ρ1 ⟨xs, hx, h1⟩ l1 o1 r1 => by
    obtain ⟨a, us, rfl, ha, r2⟩ := Rep.isL_inv hx r1
    refine ⟨.inl ⟨rfl, us, o1.sub.sl ha⟩, h1 w1 σ _ o1 (e.later l1) fun u w2 y ρ2 ⟨j, z, fy, fx, hz, ez, first, p⟩ l2 o2 r3 => ?_⟩
    have r4 := r2.mono l2.s
    obtain ⟨vz, hv, rz⟩ := r4.get hz
    have hm : z ∈ xs := List.mem_of_getElem? hz
    have fz : z.flat = true := List.all_eq_true.mp fx z hm
    refine ⟨a, us, u, j, vz, rfl, rfl, o2.sub.sl (l2.s.sl ha), (r3.flat_eq fy r3 fy).1, (RepL.flats r3 fy r4 fx).1, hv, by rw [(rz.flat_eq fz r3 fy).2]; exact ez, fun m z' hm hz' => ?_, q _ w2 _ ρ2 p (l1.trans l2) o2 (.int _)⟩
    obtain ⟨d, hd, rd⟩ := r4.getR hz'
    have fd : d.flat = true := List.all_eq_true.mp fx d (List.mem_of_getElem? hd)
    rw [(rd.flat_eq fd r3 fy).2]
    exact first m d hm hd
/-- comprehension over numbers -/
theorem w_lcI {wi : TI} {tt : TT} {n : Nat} {Fn : Nat → Option D} (hv : v ∉ G.px) (nm : NameOk v ρ) (h : WI G wi ρ fun ds ρ1 => ρ1 = ρ ∧ ds = intsD 0 n) (hl : n ≤ 90000) (ht : ∀ m < n, WT G.nox tt (inE v ρ (.int (m : Int))) fun b ρ4 => ρ4 = inE v ρ (.int (m : Int)) ∧ if b = true then W G.nox te (inE v ρ (.int (m : Int))) fun y ρ5 => ρ5 = inE v ρ (.int (m : Int)) ∧ Fn m = some y else Fn m = none)
    (hp : P (.lst ((List.range n).filterMap Fn)) ρ) : W G (tLc wi (gName v) tt te [v]) ρ P := by
  refine w_lcP (F := fun d => match d with | .int m => Fn m.toNat | _ => none) hv nm fun w σ R o e q => h w σ R o e fun J w1 ds ρ1 hh => ?_
  obtain ⟨rfl, rfl⟩ := hh
  refine q J w1 _ _ ⟨rfl, by rw [intsD_len]; exact hl, fun d hd => ?_, ?_⟩
  · obtain ⟨m, hm, rfl⟩ := List.mem_map.mp hd
    have := ht m (List.mem_range.mp hm)
    unfold Turn
    rw [Int.zero_add]
    exact this
  · unfold intsD
    rw [List.filterMap_map]
    have e : ((fun d : D => match d with | .int m => Fn m.toNat | _ => none) ∘ fun (i : Nat) => D.int (0 + (i : Int))) = Fn := by
      funext i
      show Fn (0 + (i : Int)).toNat = Fn i
      rw [Int.zero_add, Int.toNat_natCast]
    rw [e]
    exact hp
/-! ### for k in d: .. -/
theorem Meets.lock {w : Wd} {σ : St} {a : Addr} {xs : List (Key × V)} {od : Obj} {D : Ends} {P : Post} (m : Meets G w D P) (back : ∀ w2 σ2 ρ2 fp, Le ⟨w.S, upd w.H a (.frz od (.dK xs)), w.F⟩ w2 → OkE G w2 σ2 ρ2 fp →
      w2.H a = some (.frz od (.dK xs)) ∧ Le w ⟨w2.S, upd w2.H a (.dK xs), w2.F⟩ ∧ OkE G ⟨w2.S, upd w2.H a (.dK xs), w2.F⟩ σ2 ρ2 fp ∧ ∀ {v : V} {m : M} {g : List Addr}, (∀ x ∈ g, w2.S x = none) → OwnR G.K w2.S w2.H v m g → OwnR G.K w2.S (upd w2.H a (.dK xs)) v m g) :
    Meets G ⟨w.S, upd w.H a (.frz od (.dK xs)), w.F⟩ ⟨fun σ' H' => H' a = some (.frz od (.dK xs)) ∧ D.nx σ' (upd H' a (.dK xs)), fun v H' => H' a = some (.frz od (.dK xs)) ∧ D.rt v (upd H' a (.dK xs)), fun σ' H' => H' a = some (.frz od (.dK xs)) ∧ D.bk σ' (upd H' a (.dK xs)), fun σ' H' => H' a = some (.frz od (.dK xs)) ∧ D.ct σ' (upd H' a (.dK xs))⟩ P := by
  refine ⟨fun w' σ' ρ' h l o => ?_, fun v w' σ' a' ρ' fp h l o r => ?_, fun w' σ' ρ' h l o => ?_, fun w' σ' ρ' h l o => ?_⟩
  · obtain ⟨b1, b2, b3, _⟩ := back w' σ' ρ' [] l o
    exact ⟨b1, m.nx ⟨w'.S, upd w'.H a (.dK xs), w'.F⟩ σ' ρ' h b2 b3⟩
  · obtain ⟨b1, b2, b3, b4⟩ := back w' σ' ρ' fp l o
    exact ⟨b1, m.rt v ⟨w'.S, upd w'.H a (.dK xs), w'.F⟩ σ' a' ρ' fp h b2 b3 (b4 (fun x hx => (r.at_ x hx).1) r)⟩
  · obtain ⟨b1, b2, b3, _⟩ := back w' σ' ρ' [] l o
    exact ⟨b1, m.bk ⟨w'.S, upd w'.H a (.dK xs), w'.F⟩ σ' ρ' h b2 b3⟩
  · obtain ⟨b1, b2, b3, _⟩ := back w' σ' ρ' [] l o
    exact ⟨b1, m.ct ⟨w'.S, upd w'.H a (.dK xs), w'.F⟩ σ' ρ' h b2 b3⟩
/-- a walk that is given, in one world -/
theorem for_at {w w1 : Wd} {σ : St} {J : It} {ds : List D} {ρ1 : Env} {D0 : Ends} {P : Post} {sl : List Nat} (I : Nat → Env → Prop) (i0 : I 0 ρ1)
      (step : ∀ i d ρ2, ds[i]? = some d → I i ρ2 → WG G g d ρ2 sl fun ρ3 => WS G t ρ3 { P with nx := I (i + 1), ct := I (i + 1), bk := P.nx }) (fin : ∀ ρ2, I ds.length ρ2 → P.nx ρ2)
      (l1 : Le w w1) (o1 : Ok G w1 σ ρ1) (it : Items G.K J w1 ds) (e : Esc G w) (m : Meets G w D0 P) : tFor (fun _ H R => R J H) g t D0 σ w1.H := by
  refine ⟨fun i n σ' H' => ∃ w' ρ', w'.H = H' ∧ Le w1 w' ∧ Ok G w' σ' ρ' ∧ i ≤ ds.length ∧ n = ds.length - i ∧ I i ρ', ⟨_, w1, ρ1, rfl, Le.refl w1, o1, Nat.zero_le _, rfl, i0⟩, ?_⟩
  rintro i n σ' H' ⟨w', ρ', rfl, l', o', hi, rfl, p⟩
  obtain ⟨go, stop⟩ := it w' l' o'.sub
  by_cases hlt : i < ds.length
  · obtain ⟨g1, g2⟩ := go i ds[i] (List.getElem?_eq_getElem hlt)
    refine .inr ⟨g1, fun σ2 H2 => ∃ w2 ρ2, w2.H = H2 ∧ Le w1 w2 ∧ Ok G w2 σ2 ρ2 ∧ I (i + 1) ρ2, fun σ2 H2 ⟨w2, ρ2, e2, l2, o2, p2⟩ => ⟨ds.length - (i + 1), by omega, w2, ρ2, e2, l2, o2, hlt, rfl, p2⟩, fun x H2 y => ?_⟩
    obtain ⟨w2, rfl, l2, s2, r2⟩ := g2 x H2 y
    have o2 := o'.grow l2 s2
    refine step i ds[i] ρ' (List.getElem?_eq_getElem hlt) p w2 σ' x _ o2 r2 fun w3 σ3 ρ3 p3 l3 _ hH3 o3 _ _ => ?_
    have lw : Le w1 w3 := (l'.trans l2.le).trans l3
    have lww : Le w w3 := l1.trans lw
    rw [← hH3]
    exact p3 w3 σ3 _ o3 (e.later lww) ⟨fun w4 σ4 ρ4 q l4 o4 => ⟨w4, ρ4, rfl, lw.trans l4, o4, q⟩, fun v w4 σ4 a ρ4 fp q l4 o4 r4 => m.rt v w4 σ4 a ρ4 fp q (lww.trans l4) o4 r4,
      fun w4 σ4 ρ4 q l4 o4 => m.nx w4 σ4 ρ4 q (lww.trans l4) o4, fun w4 σ4 ρ4 q l4 o4 => ⟨w4, ρ4, rfl, lw.trans l4, o4, q⟩⟩
  · have ei : i = ds.length := by omega
    subst ei
    exact .inl ⟨stop, m.nx w' σ' ρ' (fin ρ' p) (l1.trans l') o'⟩
/-- for k in d: .., nothing is raised within -/
theorem ws_forK {te0 : TE} {kvs : List (Key × D)} {sl : List Nat} (hk : KeyE G te0 ρ kvs) (I : Nat → Env → Prop) (i0 : I 0 ρ)
      (step : ∀ i d ρ2, (kvs.map fun p => keyD p.1)[i]? = some d → I i ρ2 → WG G.calm g d ρ2 sl fun ρ3 => WS G.calm t ρ3 { PS_ with nx := I (i + 1), ct := I (i + 1), bk := PS_.nx }) (fin : ∀ ρ2, I kvs.length ρ2 → PS_.nx ρ2) :
    WS G (DC.sLockX (tFor (iKeys te0) g t)) ρ PS_ := fun w σ D0 o e m => by
  obtain ⟨a, xs, ha, rk, ev⟩ := hk w σ o
  have nF : a ∉ w.F := fun z => by
    have := (o.at_ a z).1
    rcases ha with y | ⟨_, y⟩ <;> (rw [this] at y; cases y)
  have core : ∀ (wc : Wd) (ob : Obj) (Dc : Ends), Ok G wc σ ρ → wc.S = w.S → wc.F = w.F → wc.H a = some (.frz ob (.dK xs)) → Meets G wc Dc PS_ → tFor (iKeys te0) g t Dc σ wc.H := fun wc ob Dc oc eS eF hc mc => by
    refine ev wc.H _ (by rw [← eS]; exact oc.sub) ⟨a, ob, rfl, .inl ⟨xs, hc, ?_⟩⟩
    have it : Items G.K (Itk a ob xs) wc (kvs.map fun p => keyD p.1) := by
      rw [rk.keysD]
      exact items_keys hc (by rw [eF]; exact nF)
    have oc' : Ok G.calm wc σ ρ := ⟨oc.sub, oc.env, oc.nd, oc.px⟩
    have mc' : Meets G.calm wc Dc PS_ := ⟨fun w' σ' ρ' h l o => mc.nx w' σ' ρ' h l ⟨o.sub, o.env, o.nd, o.px⟩, fun v w' σ' a ρ' fp h l o r => mc.rt v w' σ' a ρ' fp h l ⟨o.sub, o.env, o.nd, o.px⟩ r, fun w' σ' ρ' h l o => mc.bk w' σ' ρ' h l ⟨o.sub, o.env, o.nd, o.px⟩, fun w' σ' ρ' h l o => mc.ct w' σ' ρ' h l ⟨o.sub, o.env, o.nd, o.px⟩⟩
    exact for_at (G := G.calm) I i0 step (fun ρ2 h => fin ρ2 (by rw [List.length_map] at h; exact h)) (Le.refl wc) oc' it (fun _ _ _ _ _ _ h => False.elim h) mc'
  refine ⟨a, xs, ?_⟩
  rcases o.sub.dk ha with hH | ⟨ob, hH⟩
  · have sa := sub_dK (o := .dK xs) o.sub ha hH
    refine .inl ⟨hH, fun od => ?_⟩
    obtain ⟨ol, back⟩ := o.lock sa hH od
    exact core ⟨w.S, upd w.H a (.frz od (.dK xs)), w.F⟩ od _ ol rfl rfl upd_same (Meets.lock (σ := σ) m back)
  · exact .inr ⟨⟨ob, hH⟩, core w ob D0 o rfl rfl hH m⟩
end
end DL

namespace DL
open PySem.Spec PySem PyProof.Rows L2
/-! ### names -/
abbrev sg (x : Str) : List Nat := x.cps.toList
def azB (x : Str) : Bool := (sg x).all fun c => decide (97 ≤ c ∧ c ≤ 122)
def nameB : D → Bool
  | .str x => decide (1 ≤ x.length ∧ x.length ≤ 8) && azB x
  | _ => false
def resB (d : D) : Bool := ([D.str "house", .str "outside", .str "money"]).any fun z => dEq z d
def goodB (d : D) : Bool := nameB d && !resB d
theorem resB_str (x : Str) : resB (.str x) = (decide (x = "house") || decide (x = "outside") || decide (x = "money")) := by
  have f : ∀ y : Str, dEq (.str y) (.str x) = decide (x = y) := fun y => by
    show (y == x) = _
    rw [Bool.eq_iff_iff]
    simp only [beq_iff_eq, decide_eq_true_eq]
    exact eq_comm
  show (dEq (.str "house") (.str x) || (dEq (.str "outside") (.str x) || (dEq (.str "money") (.str x) || false))) = _
  rw [f, f, f, Bool.or_false, Bool.or_assoc]
def smallD : D → Prop
  | .str x => x.length ≤ 20000
  | _ => True
theorem lt1 (c d : Nat) : decide ((([c] : List Nat)) < [d]) = decide (c < d) := by
  rw [Bool.eq_iff_iff]
  simp only [decide_eq_true_eq, List.cons_lt_cons_iff, List.lt_irrefl, and_false, or_false]
/-- a value of a built-in kind -/
def wholeD : D → Bool
  | .int _ => true
  | _ => false
def countD : D → Bool
  | .int i => decide (0 ≤ i)
  | _ => false
/-- the number, if it is one -/
def iv : D → Int
  | .int i => i
  | _ => 0
/-! ### dicts entry by entry -/
def dKey : D → Option Key
  | .int i => some (.inl i)
  | .str x => some (.inr x)
  | _ => none
theorem dKey_keyD (k : Key) : dKey (keyD k) = some k := by cases k <;> rfl
def Nodk (kvs : List (Key × D)) : Prop := (kvs.map (·.1)).Nodup
theorem look_of {kvs : List (Key × D)} (nd : Nodk kvs) {k : Key} {d : D} (h : (k, d) ∈ kvs) : lookD kvs k = some d := by
  unfold Nodk at nd
  induction kvs with
  | nil => cases h
  | cons p r ih =>
    obtain ⟨n1, n2⟩ := (List.nodup_cons.mp nd)
    unfold lookD
    rw [List.find?_cons]
    rcases (List.mem_cons.mp h) with e | e
    · subst e
      simp
    · have ne : p.1 ≠ k := fun z => n1 (List.mem_map.mpr ⟨(k, d), e, z.symm⟩)
      rw [decide_eq_false ne]
      exact ih n2 e
theorem nodk_dicF {ns : List Str} {f : Str → D} (nd : ns.Nodup) : Nodk (dicF ns f) := by
  unfold Nodk
  rw [dicF_keys]
  induction ns with
  | nil => exact List.nodup_nil
  | cons n ns ih =>
    obtain ⟨n1, n2⟩ := (List.nodup_cons.mp nd)
    refine List.nodup_cons.mpr ⟨fun z => n1 ?_, ih n2⟩
    obtain ⟨m, hm, e⟩ := List.mem_map.mp z
    rw [← Sum.inr.inj e]
    exact hm
section
variable {G : Gx} {ρ : Env} {v : Nat} {tt : TT} {te te0 : TE} {P : D → Env → Prop} {kvs : List (Key × D)} {Fk : Key → D → Option D}
theorem w_lcKV (hv : v ∉ G.px) (n : NameOk v ρ) (nd : Nodk kvs) (hk : KeyE G te0 ρ kvs) (hl : kvs.length ≤ 90000) (ht : ∀ k d, (k, d) ∈ kvs → lookD kvs k = some d → WT G.nox tt (inE v ρ (keyD k)) fun b ρ4 => ρ4 = inE v ρ (keyD k) ∧ if b = true then W G.nox te (inE v ρ (keyD k)) fun y ρ5 => ρ5 = inE v ρ (keyD k) ∧ Fk k d = some y else Fk k d = none)
    (hp : P (.lst (kvs.filterMap fun p => Fk p.1 p.2)) ρ) : W G (DC.tLockX (tLc (iKeys te0) (gName v) tt te [v])) ρ P := by
  have fe : ∀ p ∈ kvs, (fun d => match dKey d with | some k => (match lookD kvs k with | some x => Fk k x | none => none) | none => none) (keyD p.1) = Fk p.1 p.2 := fun p hp => by
    obtain ⟨k, d⟩ := p
    show (match dKey (keyD k) with | some k => (match lookD kvs k with | some x => Fk k x | none => none) | none => none) = Fk k d
    rw [dKey_keyD]
    show (match lookD kvs k with | some x => Fk k x | none => none) = Fk k d
    rw [look_of nd hp]
  refine w_lcKP (F := fun d => match dKey d with | some k => (match lookD kvs k with | some x => Fk k x | none => none) | none => none) hv n hk hl (fun d hd => ?_) ?_
  · obtain ⟨p, hm, rfl⟩ := List.mem_map.mp hd
    have := ht p.1 p.2 hm (look_of nd hm)
    unfold Turn
    rw [fe p hm]
    exact this
  · rw [List.filterMap_map]
    have e : ∀ (g h : Key × D → Option D) (l : List (Key × D)), (∀ p ∈ l, g p = h p) → l.filterMap g = l.filterMap h := fun g h l => by
      induction l with
      | nil => intro _; rfl
      | cons p r ih =>
        intro q
        rw [List.filterMap_cons, List.filterMap_cons, ih fun x hx => q x (List.mem_cons_of_mem _ hx), q p List.mem_cons_self]
    have e2 := e ((fun d => match dKey d with | some k => (match lookD kvs k with | some x => Fk k x | none => none) | none => none) ∘ fun p => keyD p.1) (fun p => Fk p.1 p.2) kvs fe
    rw [e2]
    exact hp
end
end DL

namespace DL
open PySem L2
/-! ### odds and ends -/
abbrev dI (f : Str → Int) : Str → D := fun n => .int (f n)
theorem perm_map {α β : Type} (f : α → β) {ys zs : List β} (h : ys.Perm zs) : ∀ xs : List α, zs = xs.map f → ∃ ws : List α, ws.Perm xs ∧ ys = ws.map f := by
  induction h with
  | nil =>
    intro xs e
    cases xs with
    | nil => exact ⟨[], List.Perm.refl _, rfl⟩
    | cons x r => cases e
  | cons y _ ih =>
    intro xs e
    cases xs with
    | nil => cases e
    | cons x r =>
      rw [List.map_cons] at e
      injection e with e1 e2
      obtain ⟨ws, h1, h2⟩ := ih r e2
      exact ⟨x :: ws, h1.cons x, by rw [List.map_cons, h2, e1]⟩
  | swap y z l =>
    intro xs e
    cases xs with
    | nil => cases e
    | cons x r =>
      cases r with
      | nil => cases e
      | cons x2 r =>
        (rw [List.map_cons, List.map_cons] at e)
        injection e with e1 e2
        injection e2 with e2 e3
        exact ⟨x2 :: x :: r, List.Perm.swap x x2 r, by rw [List.map_cons, List.map_cons, e1, e2, e3]⟩
  | trans _ _ ih1 ih2 =>
    intro xs e
    obtain ⟨ws, h1, h2⟩ := ih2 xs e
    obtain ⟨vs, h3, h4⟩ := ih1 ws h2
    exact ⟨vs, h3.trans h1, h4⟩
theorem perm_strs {xs : List Str} {ys : List D} (h : ys.Perm (xs.map .str)) : ∃ zs : List Str, zs.Perm xs ∧ ys = zs.map .str := perm_map D.str h xs rfl
theorem nodup_two {α : Type} {l : List α} {a b : α} (nd : l.Nodup) (s : ∀ x ∈ l, x = a ∨ x = b) : l.length ≤ 2 := by
  cases l with
  | nil => simp
  | cons x r =>
    cases r with
    | nil => simp
    | cons y r =>
      cases r with
      | nil => simp
      | cons z r =>
        exfalso
        obtain ⟨n1, n2⟩ := (List.nodup_cons.mp nd)
        obtain ⟨n3, _⟩ := List.nodup_cons.mp n2
        have hxy : x ≠ y := fun e => n1 (by rw [e]; exact List.mem_cons_self)
        have hxz : x ≠ z := fun e => n1 (by rw [e]; simp)
        have hyz : y ≠ z := fun e => n3 (by rw [e]; exact List.mem_cons_self)
        rcases s x (by simp) with e1 | e1 <;> rcases s y (by simp) with e2 | e2 <;> rcases s z (by simp) with e3 | e3
        all_goals (first | exact hxy (e1.trans e2.symm) | exact hxz (e1.trans e3.symm) | exact hyz (e2.trans e3.symm))
theorem not_before {α : Type} {l : List α} {i : Nat} {x : α} (nd : l.Nodup) (h : l[i]? = some x) : x ∉ l.take i := fun z => by
  obtain ⟨j, hj⟩ := List.mem_iff_getElem?.mp z
  have ji : j < i := by
    have := (List.getElem?_eq_some_iff.mp hj).1
    rw [List.length_take] at this
    omega
  rw [List.getElem?_take_of_lt ji] at hj
  have := (List.getElem?_inj (List.getElem?_eq_some_iff.mp hj).1 nd).mp (hj.trans h.symm)
  omega
theorem take_succ_mem {α : Type} {l : List α} {i : Nat} {x y : α} (h : l[i]? = some x) (m : y ∈ l.take (i + 1)) : y ∈ l.take i ∨ y = x := by
  rw [List.take_add_one, h] at m
  rcases List.mem_append.mp m with a | a
  · exact .inl a
  · exact .inr (by simpa using a)
theorem mem_take_succ {α : Type} {l : List α} {i : Nat} {x : α} (h : l[i]? = some x) : x ∈ l.take (i + 1) := by
  rw [List.take_add_one, h]
  exact List.mem_append_right _ (by simp)
theorem mem_take_up {α : Type} {l : List α} {i : Nat} {y : α} (m : y ∈ l.take i) : y ∈ l.take (i + 1) := by
  rw [List.take_add_one]
  exact List.mem_append_left _ m
theorem ws_mid {G : Gx} {t u : TS} {ρ : Env} {P : Post} (Mid : Env → Prop) (h : WS G t ρ { P with nx := Mid }) (h2 : ∀ ρ', Mid ρ' → WS G u ρ' P) : WS G (tSeq t u) ρ P := ws_seq fun w σ D o e m => h w σ D o e ⟨fun w' σ' ρ' hm l o' => m.nx w' σ' ρ' (h2 ρ' hm) l o', m.rt, m.bk, m.ct⟩
end DL

namespace DL
open PySem L2 PySem.Spec PyProof.Rows
/-! ### what is shown of lists and dicts, by its depth -/
/-- it can be shown: so deep at most, in so many signs at most -/
def Shw (v : D) (d n : Nat) : Prop := ∃ p, v.pyR = some p ∧ p.showable = true ∧ p.depth ≤ d ∧ p.shown.length ≤ n
theorem Shw.up {v : D} {d n d' n' : Nat} (h : Shw v d n) (a : d ≤ d') (b : n ≤ n') : Shw v d' n' := by
  obtain ⟨p, h1, h2, h3, h4⟩ := h
  exact ⟨p, h1, h2, Nat.le_trans h3 a, Nat.le_trans h4 b⟩
theorem signs_neg (m : Nat) : (PyData.shown (.int (Int.negSucc m))).length = 1 + (PyData.shown (.int ((m + 1 : Nat) : Int))).length := by
  show (Str.ofString (toString (Int.negSucc m))).length = 1 + (Str.ofString (toString ((m + 1 : Nat) : Int))).length
  have e : toString (Int.negSucc m) = "-" ++ toString ((m + 1 : Nat) : Int) := rfl
  rw [e, Str.ofString_eq_toList, Str.ofString_eq_toList]
  show ((("-" ++ toString ((m + 1 : Nat) : Int)).toList.map Char.toNat).toArray).size = 1 + (((toString ((m + 1 : Nat) : Int)).toList.map Char.toNat).toArray).size
  simp only [String.toList_append, List.size_toArray, List.length_map, List.length_append]
  rfl
theorem shw_int {z : Int} (h : z.natAbs < 10 ^ 28) : Shw (.int z) 0 29 := by
  cases z with
  | ofNat n =>
    have s := sho_nat (n := n) h
    exact ⟨_, rfl, s.sh, Nat.le_refl 0, Nat.le_trans s.len (by decide)⟩
  | negSucc m =>
    have s := sho_nat (n := m + 1) h
    refine ⟨_, rfl, ?_, Nat.le_refl 0, ?_⟩
    · exact decide_eq_true (of_decide_eq_true s.sh)
    · rw [signs_neg]
      have := s.len
      omega
theorem textFrom_le : ∀ (ts : List Str) (k : Nat) (acc : Str), (textFrom k acc ts).length ≤ acc.length + piled ts
  | [], k, acc => Nat.le_refl _
  | t :: r, k, acc => by
    have e : textFrom k acc (t :: r) = textFrom (k + 1) (acc ++ (if k > 0 then ", " else "" : String) ++ t) r := rfl
    have h := textFrom_le r (k + 1) (acc ++ (if k > 0 then ", " else "" : String) ++ t)
    rw [e, piled_cons]
    rw [strLen_append, strLen_append] at h
    have l : ((if k > 0 then ", " else "" : String) : Str).length ≤ 2 := by
      split
      · exact Nat.le_refl 2
      · exact Nat.zero_le 2
    omega
theorem listText_le {B : Nat} {ts : List Str} (h : ∀ t ∈ ts, t.length ≤ B) : (listText ts).length ≤ 2 + ts.length * (B + 2) := by
  have e : (listText ts).length = (textFrom 0 "[" ts).length + 1 := by
    unfold listText
    rw [strLen_append]
    rfl
  have p := piled_le h
  have q := textFrom_le ts 0 "["
  have o : (("[" : String) : Str).length = 1 := rfl
  omega
theorem shw_all {d n : Nat} : ∀ {ds : List D}, (∀ x ∈ ds, Shw x d n) → ∃ ps, D.pysR ds = some ps ∧ PyData.showableAll ps = true ∧ PyData.depthAll ps ≤ d ∧ (∀ t ∈ PyData.shownAll ps, t.length ≤ n) ∧ (PyData.shownAll ps).length = ds.length
  | [], _ => ⟨[], rfl, rfl, Nat.zero_le _, (fun t h => by cases h), rfl⟩
  | x :: r, h => by
    obtain ⟨ps, a, b, c, e, f⟩ := shw_all (ds := r) fun y hy => h y (List.mem_cons_of_mem _ hy)
    obtain ⟨p, h1, h2, h3, h4⟩ := h x List.mem_cons_self
    refine ⟨p :: ps, ?_, ?_, ?_, ?_, ?_⟩
    · show (match D.pyR x with
        | some p => (D.pysR r).map (p :: ·)
        | none => none) = _
      rw [h1, a]
      rfl
    · show (PyData.showable p && PyData.showableAll ps) = true
      rw [h2, b]
      rfl
    · have e1 : PyData.depthAll (p :: ps) = max p.depth (PyData.depthAll ps) := by simp only [PyData.depthAll]
      omega
    · intro t ht
      have ht : t ∈ PyData.shown p :: PyData.shownAll ps := ht
      rcases List.mem_cons.mp ht with z | z
      · rw [z]
        exact h4
      · exact e t z
    · show (PyData.shown p :: PyData.shownAll ps).length = _
      rw [List.length_cons, List.length_cons, f]
theorem shw_lst {d n : Nat} {ds : List D} (h : ∀ x ∈ ds, Shw x d n) : Shw (.lst ds) (d + 1) (2 + ds.length * (n + 2)) := by
  obtain ⟨ps, a, b, c, e, f⟩ := shw_all h
  refine ⟨.list ps, ?_, b, ?_, ?_⟩
  · show (D.pysR ds).map PyData.list = _
    rw [a]
    rfl
  · have : (PyData.list ps).depth = PyData.depthAll ps + 1 := by simp only [PyData.depth]
    omega
  · have := listText_le e
    rw [f] at this
    exact this
theorem shw_kvs {d n : Nat} {f : Str → D} : ∀ {ns : List Str}, (∀ m ∈ ns, (reprText m).length ≤ 50) → (∀ m ∈ ns, Shw (f m) d n) → ∃ ps, D.pykR (dicF ns f) = some ps ∧ PyData.showableKv ps = true ∧ PyData.depthKv ps ≤ d ∧ (∀ t ∈ PyData.shownKv ps, t.length ≤ n + 52) ∧ (PyData.shownKv ps).length = ns.length
  | [], _, _ => ⟨[], rfl, rfl, Nat.zero_le _, (fun t h => by cases h), rfl⟩
  | m :: ns, h1, h2 => by
    obtain ⟨ps, a, b, c, e, g⟩ := shw_kvs (ns := ns) (fun x hx => h1 x (List.mem_cons_of_mem _ hx)) fun x hx => h2 x (List.mem_cons_of_mem _ hx)
    obtain ⟨p, q1, q2, q3, q4⟩ := h2 m List.mem_cons_self
    have l := h1 m List.mem_cons_self
    refine ⟨(.str m, p) :: ps, ?_, ?_, ?_, ?_, ?_⟩
    · show (match D.pyR (f m) with
        | some p => (D.pykR (dicF ns f)).map ((keyPy (.inr m), p) :: ·)
        | none => none) = _
      rw [q1, a]
      rfl
    · show (PyData.showable (.str m) && PyData.showable p && PyData.showableKv ps) = true
      rw [q2, b]
      rfl
    · have e1 : PyData.depthKv ((.str m, p) :: ps) = max (max (PyData.depth (.str m)) p.depth) (PyData.depthKv ps) := by simp only [PyData.depthKv]
      have e2 : PyData.depth (.str m) = 0 := by simp only [PyData.depth]
      omega
    · intro t ht
      have ht : t ∈ (PyData.shown (.str m) ++ ": " ++ PyData.shown p) :: PyData.shownKv ps := ht
      rcases List.mem_cons.mp ht with z | z
      · subst z
        (rw [strLen_append, strLen_append])
        have e0 : PyData.shown (.str m) = reprText m := rfl
        have e2 : ((": " : String) : Str).length = 2 := rfl
        rw [e0, e2]
        omega
      · exact e t z
    · show ((PyData.shown (.str m) ++ ": " ++ PyData.shown p) :: PyData.shownKv ps).length = _
      rw [List.length_cons, List.length_cons, g]
theorem shw_dic {d n : Nat} {f : Str → D} {ns : List Str} (h1 : ∀ m ∈ ns, (reprText m).length ≤ 50) (h2 : ∀ m ∈ ns, Shw (f m) d n) : Shw (.dic (dicF ns f)) (d + 1) (2 + ns.length * (n + 54)) := by
  obtain ⟨ps, a, b, c, e, g⟩ := shw_kvs h1 h2
  refine ⟨.dict ps, ?_, b, ?_, ?_⟩
  · show (D.pykR (dicF ns f)).map PyData.dict = _
    rw [a]
    rfl
  · have : (PyData.dict ps).depth = PyData.depthKv ps + 1 := by simp only [PyData.depth]
    omega
  · have := dictText_le e
    rw [g] at this
    exact this
/-- repr of what can be shown -/
theorem rc_shw {K : PySem.W.Frag} {x : D} {k : D → Prop} {d n : Nat} (h : Shw x d n) (hd : d ≤ 64) (hn : n ≤ 100000) (q : ∀ p, x.pyR = some p → k (.str p.shown)) : RC K (rReprD K) [x] k := by
  obtain ⟨p, h1, h2, h3, h4⟩ := h
  exact rc_reprD h1 h2 (Nat.le_trans h3 hd) (Nat.le_trans h4 hn) (q p h1)
theorem o_reprDK {X : Cx} {K : PySem.W.Frag} (hk : X.K = K) (gd : X.A.guards = some []) (hu : X.A.units + 70 < cLine) (m : SmK K) : CallR X (.builtin "repr") (rReprD K) := by
  subst hk
  exact o_reprD gd hu m
end DL

namespace DL
open PySem L2 PySem.Spec PyProof.Rows
/-! ### d.setdefault(k, []).append(v), d a name's own dict of lists of data -/
def ownDL (ds : List (Key × List D)) : M := .dic (ds.map fun p => (p.1, .lst (p.2.map .sh)))
/-- one item more at a key -/
def appD : List (Key × List D) → Key → D → List (Key × List D)
  | [], k, d => [(k, [d])]
  | p :: r, k, d => if p.1 = k then (p.1, p.2 ++ [d]) :: r else p :: appD r k d
theorem appD_new {k : Key} {d : D} : ∀ {ds : List (Key × List D)}, (∀ p ∈ ds, p.1 ≠ k) → appD (ds ++ [(k, [])]) k d = appD ds k d
  | [], _ => by
    show (if k = k then (k, [] ++ [d]) :: [] else _) = _
    rw [if_pos rfl]
    rfl
  | p :: r, h => by
    have h0 := h p List.mem_cons_self
    show (if p.1 = k then _ else p :: appD (r ++ [(k, [])]) k d) = if p.1 = k then _ else p :: appD r k d
    rw [if_neg h0, if_neg h0, appD_new fun q hq => h q (List.mem_cons_of_mem _ hq)]
section
variable {K : PySem.W.Frag} {S S' H H' : Hp}
/-- the lists at their places -/
inductive OL (K : PySem.W.Frag) (S H : Hp) : List (Key × V) → List (Key × List D) → List Addr → Prop
  | nil : OL K S H [] [] []
  | cons {k : Key} {l : Addr} {ys : List V} {zs : List D} {xs : List (Key × V)} {ds : List (Key × List D)} {fp : List Addr} : S l = none → H l = some (.lst ys) → RepL K S ys zs → OL K S H xs ds fp → OL K S H ((k, .ref l) :: xs) ((k, zs) :: ds) (l :: fp)
theorem OL.of : ∀ {xs : List (Key × V)} {ds : List (Key × List D)} {fp : List Addr}, OwnK K S H xs (ds.map fun p => (p.1, .lst (p.2.map .sh))) fp → OL K S H xs ds fp
  | _, [], _, .nil => .nil
  | _, p :: ds, _, .cons (.lst a b c) q => by
    obtain ⟨r, e⟩ := ownL_inv c
    subst e
    exact .cons a b r (OL.of q)
theorem OL.own : ∀ {xs : List (Key × V)} {ds : List (Key × List D)} {fp : List Addr}, OL K S H xs ds fp → OwnK K S H xs (ds.map fun p => (p.1, .lst (p.2.map .sh))) fp
  | _, _, _, .nil => .nil
  | _, _, _, @OL.cons _ _ _ k l ys zs xs ds fp a b r q => OwnK.cons (f := [l]) (g := fp) (.lst a b (ownL_of r)) q.own
theorem OL.keep (e : Ex S S') {xs : List (Key × V)} {ds : List (Key × List D)} {fp : List Addr} (h : OL K S H xs ds fp) (h1 : ∀ x ∈ fp, S' x = none) (h2 : ∀ x ∈ fp, ∀ o, H x = some o → Keeps o (H' x)) : OL K S' H' xs ds fp := by
  induction h with
  | nil => exact .nil
  | cons a b r q ih => exact .cons (h1 _ List.mem_cons_self) ((h2 _ List.mem_cons_self _ b).eq True.intro) (r.mono e) (ih (fun x hx => h1 x (List.mem_cons_of_mem _ hx)) fun x hx => h2 x (List.mem_cons_of_mem _ hx))
theorem OL.at_ {xs : List (Key × V)} {ds : List (Key × List D)} {fp : List Addr} (h : OL K S H xs ds fp) : ∀ x ∈ fp, S x = none ∧ H x ≠ none := by
  induction h with
  | nil => exact fun x hx => by cases hx
  | cons a b r q ih =>
    intro x hx
    rcases (List.mem_cons.mp hx) with rfl | hx
    · exact ⟨a, by rw [b]; exact Option.some_ne_none _⟩
    · exact ih x hx
theorem OL.len {xs : List (Key × V)} {ds : List (Key × List D)} {fp : List Addr} (h : OL K S H xs ds fp) : xs.length = ds.length := by
  induction h with
  | nil => rfl
  | cons a b r q ih => rw [List.length_cons, List.length_cons, ih]
theorem OL.look {k : Key} {v : V} {xs : List (Key × V)} {ds : List (Key × List D)} {fp : List Addr} (h : OL K S H xs ds fp) (hv : valV xs k = some v) : ∃ l ys zs, v = .ref l ∧ l ∈ fp ∧ H l = some (.lst ys) ∧ ys.length = zs.length ∧ (k, zs) ∈ ds := by
  induction h with
  | nil => cases hv
  | @cons k0 l ys zs xs ds fp a b r q ih =>
    by_cases e : k0 = k
    · rw [valV_pos (p := (k0, V.ref l)) e] at hv
      subst e
      exact ⟨l, ys, zs, (Option.some.inj hv).symm, List.mem_cons_self, b, r.len, List.mem_cons_self⟩
    · rw [valV_neg (p := (k0, V.ref l)) e] at hv
      obtain ⟨l', ys', zs', h1, h2, h3, h4, h5⟩ := ih hv
      exact ⟨l', ys', zs', h1, List.mem_cons_of_mem _ h2, h3, h4, List.mem_cons_of_mem _ h5⟩
theorem OL.no {k : Key} {xs : List (Key × V)} {ds : List (Key × List D)} {fp : List Addr} (h : OL K S H xs ds fp) (hv : valV xs k = none) : ∀ p ∈ ds, p.1 ≠ k := by
  induction h with
  | nil => exact fun p hp => by cases hp
  | @cons k0 l ys zs xs ds fp a b r q ih =>
    by_cases e : k0 = k
    · rw [valV_pos (p := (k0, V.ref l)) e] at hv
      cases hv
    · rw [valV_neg (p := (k0, V.ref l)) e] at hv
      intro p hp
      rcases (List.mem_cons.mp hp) with rfl | hp
      · exact e
      · exact ih hv p hp
theorem OL.app {k : Key} {l : Addr} {u : V} {d : D} {ys : List V} {xs : List (Key × V)} {ds : List (Key × List D)} {fp : List Addr} (h : OL K S H xs ds fp) (nd : fp.Nodup) (hv : valV xs k = some (.ref l)) (hl : H l = some (.lst ys)) (ru : Rep K S u d) :
    OL K S (upd H l (.lst (ys ++ [u]))) xs (appD ds k d) fp := by
  induction h with
  | nil => cases hv
  | @cons k0 l0 ys0 zs xs ds fp a b r q ih =>
    obtain ⟨n1, n2⟩ := (List.nodup_cons.mp nd)
    by_cases e : k0 = k
    · rw [valV_pos (p := (k0, V.ref l0)) e] at hv
      have el : l0 = l := V.ref.inj (Option.some.inj hv)
      subst el
      rw [b] at hl
      cases hl
      show OL K S _ _ (if k0 = k then (k0, zs ++ [d]) :: ds else _) _
      rw [if_pos e]
      exact .cons a upd_same (r.app (.cons ru .nil)) (q.keep (Ex.refl _) (fun x hx => (q.at_ x hx).1) fun x hx o ho => by
        rw [upd_ne (fun z : x = l0 => n1 (by rw [← z]; exact hx))]
        exact .inl ho)
    · rw [valV_neg (p := (k0, V.ref l0)) e] at hv
      show OL K S _ _ (if k0 = k then _ else (k0, zs) :: appD ds k d) _
      rw [if_neg e]
      obtain ⟨l', _, _, e1, e2, _⟩ := q.look hv
      have e1 : l = l' := V.ref.inj e1
      subst e1
      exact .cons a (by rw [upd_ne (fun z : l0 = l => n1 (by rw [z]; exact e2))]; exact b) r (ih n2 hv)
theorem OL.new {k : Key} {p : Addr} {xs : List (Key × V)} {ds : List (Key × List D)} {fp : List Addr} (h : OL K S H xs ds fp) (hs : S p = none) (hp : H p = some (.lst [])) : OL K S H (xs ++ [(k, .ref p)]) (ds ++ [(k, [])]) (fp ++ [p]) := by
  induction h with
  | nil => exact .cons hs hp .nil .nil
  | cons a b r q ih => exact .cons a b r ih
end
section
variable {G : Gx} {ρ : Env} {i : Nat} {ty te : TE} {PS_ : Post}
theorem ws_setdApp {ds0 : List (Key × List D)} (hp : ρ[i]? = some (some (ownDL ds0))) (h : W G ty ρ fun y ρ1 => ∃ ds k, ρ1[i]? = some (some (ownDL ds)) ∧ y = keyD k ∧ ds.length ≤ 90000 ∧ (∀ q ∈ ds, q.2.length ≤ 90000) ∧
      W G te (ρ1.set i none) fun d ρ2 => ρ2 = ρ1.set i none ∧ PS_.nx (ρ1.set i (some (ownDL (appD ds k d))))) :
    WS G (tDrop (tBM G.K "list" rAppend (tDSetd (tVar i) ty (tLst tNil)) (tCons te tNil))) ρ PS_ := fun w σ D0 o e q => by
  obtain ⟨v0, fp0, w0, hv, l0, eS0, eH0, o0, om0⟩ := o.takeM hp
  unfold ownDL at om0
  cases om0 with
  | @dic a xs0 _ fp1 hS0 hH0 ol0 =>
  refine ⟨_, hv, a, rfl, .inl ⟨xs0, .inl hH0⟩, h w σ _ o e fun u w1 y ρ1 ⟨ds, k, h1, ey, z1, z2, hte⟩ l1 o1 r1 => ?_⟩
  subst ey
  obtain rfl := keyD_inv r1
  obtain ⟨v', fp, w2, hv', l2, eS, eH, o2, om⟩ := o1.takeM h1
  have hil : i < ρ1.length := (List.getElem?_eq_some_iff.mp h1).1
  have ndf := o2.nodupFx
  unfold ownDL at om
  cases om with
  | @dic a' xs _ fp1 hS hH ol =>
  obtain rfl : a' = a := by
    rw [hv] at hv'
    exact (V.ref.inj (Option.some.inj (Option.some.inj hv'))).symm
  have ol := OL.of ol
  obtain ⟨na, nd1⟩ := List.nodup_cons.mp ndf
  obtain ⟨fps, ee, ef⟩ := o2.env
  have ndw := o2.nd
  rw [ef] at ndw
  obtain ⟨n1, n2, n3⟩ := List.nodup_append.mp ndw
  have at_ := ee.at_
  refine ⟨by decide, fun p hp0 => ?_⟩
  have pa : p ≠ a' := fun z => by
    rw [z, hH] at hp0
    cases hp0
  have pS : w1.S p = none := o1.sub.free hp0
  -- the rest, once the list stands at its key
  have fin : ∀ (H3 : Hp) (xs' : List (Key × V)) (ds' : List (Key × List D)) (fp' : List Addr) (l : Addr), (∀ x u, w1.H x = some u → x ≠ a' → H3 x = some u) → H3 a' = some (.dK xs') → OL G.K w1.S H3 xs' ds' fp' → valV xs' k = some (.ref l) →
      (a' :: fp').Nodup → (∀ x ∈ fp', x ∈ fp1 ∨ w1.H x = none) → (∀ q ∈ ds', q.2.length ≤ 90000) → (∀ d, appD ds' k d = appD ds k d) →
      tyV G.K "list" (.ref l) H3 ∧ (tCons te tNil) σ H3 fun ys H4 => rAppend (.ref l) ys H4 fun _ H5 => D0.nx σ H5 := by
    intro H3 xs' ds' fp' l kp hd3 ol3 hv3 nd3 hf hl3 ha3
    obtain ⟨l', ys, zs, e1, lf, hly, yl, zm⟩ := ol3.look hv3
    have e1 : l = l' := V.ref.inj e1
    subst e1
    obtain ⟨na3, nd4⟩ := List.nodup_cons.mp nd3
    refine ⟨.inl ⟨rfl, _, .inl (.inl hly)⟩, ?_⟩
    have fpH : ∀ x ∈ a' :: fp', w1.S x = none ∧ H3 x ≠ none := fun x hx => by
      rcases (List.mem_cons.mp hx) with rfl | hx
      · exact ⟨hS, by rw [hd3]; exact Option.some_ne_none _⟩
      · exact ol3.at_ x hx
    have disj : ∀ x ∈ fps.flatten, x ∉ a' :: fp' := fun x hx hm => by
      rcases List.mem_cons.mp hm with z | z
      · exact n3 x hx a' List.mem_cons_self z
      · rcases hf x z with z | z
        · exact n3 x hx x (List.mem_cons_of_mem _ z) rfl
        · have := (at_ x hx).2
          rw [eH] at this
          exact this z
    have ne3 : ∀ x ∈ fps.flatten, x ≠ a' := fun x hx z => n3 x hx a' List.mem_cons_self z
    have inF : ∀ x ∈ w2.F, x ∈ w1.F ∨ w1.H x = none := l2.f
    have aF : a' ∈ w1.F := by
      rcases l2.f a' (by rw [ef]; exact List.mem_append_right _ List.mem_cons_self) with z | z
      · exact z
      · rw [hH] at z
        cases z
    have o3 : Ok G ⟨w1.S, H3, fps.flatten⟩ σ (ρ1.set i none) := by
      refine ⟨fun x u hx => ?_, ⟨fps, ?_, by show fps.flatten = _; rw [List.append_nil]⟩, n1, o2.px⟩
      · have ne : x ≠ a' := fun z => by
          have hx : w1.S x = some u := hx
          rw [z, hS] at hx
          cases hx
        exact (o1.sub x u hx).imp fun v hv => kp x v hv ne
      · rw [eS, eH] at ee
        exact ee.keep (Ex.refl _) (fun x hx => by have := (at_ x hx).1; rw [eS] at this; exact this) fun x hx u hu => .inl (kp x u hu (ne3 x hx))
    have le3 : Le w1 ⟨w1.S, H3, fps.flatten⟩ := ⟨Ex.refl _, fun x u hx hn => .inl (kp x u hx fun z => hn (by rw [z]; exact aF)), fun _ _ _ z => z, fun x hx => inF x (by rw [ef]; exact List.mem_append_left _ hx)⟩
    refine hte _ σ _ o3 (e.later (l1.trans le3)) fun u2 w4 d ρ2 ⟨e2, pn⟩ l4 o4 r4 => ?_
    subst e2
    have nf : ∀ x ∈ a' :: fp', x ∉ fps.flatten := fun x hx z => disj x z hx
    have kH : ∀ x ∈ a' :: fp', ∀ u, H3 x = some u → Keeps u (w4.H x) := fun x hx u hu => l4.h x u hu (nf x hx)
    have kS : ∀ x ∈ a' :: fp', w4.S x = none := fun x hx => l4.n x (fpH x hx).2 (nf x hx) (fpH x hx).1
    have hly4 : w4.H l = some (.lst ys) := (kH l (List.mem_cons_of_mem _ lf) _ hly).eq True.intro
    have ol4 : OL G.K w4.S w4.H xs' ds' fp' := ol3.keep l4.s (fun x hx => kS x (List.mem_cons_of_mem _ hx)) fun x hx => kH x (List.mem_cons_of_mem _ hx)
    have ol5 := ol4.app nd4 hv3 hly4 r4
    refine ⟨l, ys, u2, rfl, rfl, hly4, by rw [yl]; exact Nat.lt_of_le_of_lt (hl3 _ zm) (by decide), ?_⟩
    obtain ⟨fps4, e4, ef4⟩ := o4.env
    have f4 : w4.F = fps4.flatten := by rw [ef4, List.append_nil]
    have nd5 := o4.nd
    rw [f4] at nd5
    have l14 := le3.trans l4
    have o5 : OkE G ⟨w4.S, w4.H, fps4.flatten ++ (a' :: fp')⟩ σ (ρ1.set i none) (a' :: fp') := by
      refine ⟨o4.sub, ⟨fps4, e4, rfl⟩, List.nodup_append.mpr ⟨nd5, nd3, fun x hx y hy z => ?_⟩, o4.px⟩
      subst z
      rcases l4.f x (by rw [f4]; exact hx) with z | z
      · exact nf x hy z
      · exact (fpH x hy).2 z
    have l5 : Le w1 ⟨w4.S, w4.H, fps4.flatten ++ (a' :: fp')⟩ := ⟨l14.s, l14.h, l14.n, fun x hx => by
      rcases List.mem_append.mp hx with z | z
      · exact l14.f x (by rw [f4]; exact z)
      · rcases List.mem_cons.mp z with rfl | z
        · exact .inl aF
        · rcases hf x z with z | z
          · exact inF x (by rw [ef]; exact List.mem_append_right _ (List.mem_cons_of_mem _ z))
          · exact .inr z⟩
    obtain ⟨w6, l6, eS6, eH6, o6⟩ := OkE.write (a := l) (ob := .lst (ys ++ [u2])) (fp' := (a' :: fp') ++ []) o5 (List.mem_cons_of_mem _ lf) (kS l (List.mem_cons_of_mem _ lf)) (fun x hx => by rw [List.append_nil] at hx; exact hx) (by rw [List.append_nil]; exact nd3)
    have own : OwnR G.K w6.S w6.H (.ref a') (ownDL (appD ds k d)) (a' :: fp') := by
      rw [eS6, eH6, ← ha3 d]
      exact .dic (kS a' List.mem_cons_self) (by
        rw [upd_ne (fun z : a' = l => na3 (by rw [z]; exact lf))]
        exact (kH a' List.mem_cons_self _ hd3).eq True.intro) ol5.own
    obtain ⟨w7, l7, eS7, eH7, o7⟩ := OkE.putBack (fr := []) o6 hv' own hil
    have z := q.nx w7 σ _ pn (((l1.trans l5).trans l6).trans l7) o7
    rw [eH7, eH6] at z
    exact z
  have h3a : upd w1.H p (.lst []) a' = some (.dK xs) := by
    rw [upd_ne (fun z => pa z.symm)]
    exact hH
  have h3k : ∀ x u, w1.H x = some u → upd w1.H p (.lst []) x = some u := fun x u hx => by
    rw [upd_ne (ne_of_none hx hp0)]
    exact hx
  refine ⟨xs, k, h3a, rfl, by rw [ol.len]; exact Nat.lt_of_le_of_lt z1 (by decide), fun v hv3 => ?_, fun hn => ?_⟩
  · have ol3 : OL G.K w1.S (upd w1.H p (.lst [])) xs ds fp1 := ol.keep (Ex.refl _) (fun x hx => (ol.at_ x hx).1) fun x hx u hu => (.inl (h3k x u hu))
    obtain ⟨l, _, _, e1, _⟩ := ol3.look hv3
    subst e1
    exact fin _ xs ds fp1 l (fun x u hx _ => h3k x u hx) h3a ol3 hv3 ndf (fun x hx => .inl hx) z2 fun _ => rfl
  · have pf : ∀ x ∈ fp1, x ≠ p := fun x hx z => (ol.at_ x hx).2 (by rw [z]; exact hp0)
    have ol3 : OL G.K w1.S (upd (upd w1.H p (.lst [])) a' (.dK (putK xs k (.ref p)))) (xs ++ [(k, .ref p)]) (ds ++ [(k, [])]) (fp1 ++ [p]) := by
      refine OL.new (ol.keep (Ex.refl _) (fun x hx => (ol.at_ x hx).1) fun x hx u hu => ?_) pS ?_
      · rw [upd_ne (fun z : x = a' => na (by rw [← z]; exact hx))]
        exact .inl (h3k x u hu)
      · rw [upd_ne pa]
        exact upd_same
    refine fin _ (xs ++ [(k, .ref p)]) (ds ++ [(k, [])]) (fp1 ++ [p]) p (fun x u hx hne => ?_) ?_ ol3 ?_ ?_ ?_ ?_ fun d => appD_new (ol.no hn)
    · rw [upd_ne hne]
      exact h3k x u hx
    · rw [upd_same, putK_new _ hn]
    · rw [valV_snoc k k _ _ hn, if_pos rfl]
    · refine List.nodup_cons.mpr ⟨fun z => ?_, List.nodup_append.mpr ⟨nd1, by simp, fun x hx y hy z => pf x hx (by rw [z]; exact List.mem_singleton.mp hy)⟩⟩
      rcases List.mem_append.mp z with z | z
      · exact na z
      · exact pa (List.mem_singleton.mp z).symm
    · intro x hx
      rcases List.mem_append.mp hx with z | z
      · exact .inl z
      · (rw [List.mem_singleton.mp z])
        exact .inr hp0
    · intro q hq
      rcases List.mem_append.mp hq with z | z
      · exact z2 q z
      · (rw [List.mem_singleton.mp z])
        exact Nat.zero_le _
end
end DL

namespace DL
open PySem L2 PySem.Spec PyProof.Rows
/-! ### {k: v for ..}, the values new things of their own -/
theorem OwnK.snoc {K : PySem.W.Frag} {S H : Hp} {k : Key} {v : V} {m : M} {g : List Addr} (r : OwnR K S H v m g) : ∀ {xs : List (Key × V)} {ms : List (Key × M)} {fp : List Addr}, OwnK K S H xs ms fp → OwnK K S H (xs ++ [(k, v)]) (ms ++ [(k, m)]) (fp ++ g)
  | _, _, _, .nil => by
    have := OwnK.cons (k := k) (g := []) r (.nil (K := K) (S := S) (H := H))
    rw [List.append_nil] at this
    exact this
  | _, _, _, @OwnK.cons _ _ _ k0 _ _ _ _ f g2 a b => by
    have := OwnK.cons (k := k0) a (OwnK.snoc (k := k) r b)
    rw [← List.append_assoc] at this
    exact this
theorem OwnK.lenK {K : PySem.W.Frag} {S H : Hp} : ∀ {xs : List (Key × V)} {ms : List (Key × M)} {fp : List Addr}, OwnK K S H xs ms fp → xs.length = ms.length
  | _, _, _, .nil => rfl
  | _, _, _, .cons _ b => by rw [List.length_cons, List.length_cons, b.lenK]
theorem OwnK.noKey {K : PySem.W.Frag} {S H : Hp} {k : Key} : ∀ {xs : List (Key × V)} {ms : List (Key × M)} {fp : List Addr}, OwnK K S H xs ms fp → (∀ p ∈ ms, p.1 ≠ k) → valV xs k = none
  | _, _, _, .nil, _ => rfl
  | _, _, _, @OwnK.cons _ _ _ k0 v0 _ m0 _ _ _ a b, h => by
    rw [valV_neg (p := (k0, v0)) (h (k0, m0) List.mem_cons_self)]
    exact b.noKey fun p hp => h p (List.mem_cons_of_mem _ hp)
/-- things held aside -/
def Held (w : Wd) (fp : List Addr) : Prop := ∀ x ∈ fp, x ∉ w.F ∧ w.S x = none ∧ w.H x ≠ none
theorem Held.later {w w' : Wd} {fp : List Addr} (h : Held w fp) (l : Le w w') : Held w' fp := fun x hx => by
  obtain ⟨a, b, c⟩ := h x hx
  cases q : w.H x with
  | none => exact absurd q c
  | some u =>
    exact ⟨fun z => (l.f x z).elim a fun z => c z, l.n x c a b, (l.h x u q a).ex⟩
theorem OwnK.held {K : PySem.W.Frag} {w w' : Wd} {xs : List (Key × V)} {ms : List (Key × M)} {fp : List Addr} (r : OwnK K w.S w.H xs ms fp) (h : Held w fp) (l : Le w w') : OwnK K w'.S w'.H xs ms fp :=
  r.keep l.s (fun x hx => (h.later l x hx).2.1) fun x hx u hu => l.h x u hu (h x hx).1
section
variable {G : Gx} {tk tv : TE} {tt : TT} {wi : TI} {g : TG} {ρ : Env} {vs sl : List Nat} {PO : M → Env → Prop}
def dcBody (J : It) (g : TG) (tt : TT) (tk tv : TE) (vs : List Nat) (σ : L2.St) (H1 : Hp) (Q : VK) : Prop := tDc (fun _ H R => R J H) g tt tk tv vs σ H1 Q
theorem dcM_at {w w1 : Wd} {σ : L2.St} {Q : VK} {J : It} {ds : List D} {ρ1 : Env} (hv : ∀ i ∈ G.px, i ∉ vs) (hsl : ∀ j ∈ sl, j ∈ vs) (hl : ds.length ≤ 90000) (I : Nat → List (Key × M) → Env → Prop) (i0 : I 0 [] ρ1)
      (step : ∀ i d acc ρ2, ds[i]? = some d → I i acc ρ2 → WG G.nox g d (wipeE (inL vs) 0 ρ2) sl fun ρ3 => WT G.nox tt ρ3 fun b ρ4 =>
        if b = true then W G.nox tk ρ4 fun y ρ5 => ∃ k, y = keyD k ∧ (∀ p ∈ acc, p.1 ≠ k) ∧ WO G.nox tv ρ5 fun z ρ6 => I (i + 1) (acc ++ [(k, z)]) (mixE (inL vs) 0 ρ2 ρ6) else I (i + 1) acc (mixE (inL vs) 0 ρ2 ρ4))
      (fin : ∀ acc ρ2, I ds.length acc ρ2 → PO (.dic acc) ρ2) (l1 : Le w w1) (o1 : Ok G w1 σ ρ1) (it : Items G.K J w1 ds)
      (q : ∀ v w' m ρ' fp, PO m ρ' → Le w w' → OkE G w' σ ρ' fp → OwnR G.K w'.S w'.H v m fp → Q v w'.H) : dcBody J g tt tk tv vs σ w1.H Q := fun Dl hD => by
    have sD : w1.S Dl = none := o1.sub.free hD
    have nF : Dl ∉ w1.F := fun z => (o1.at_ Dl z).2 hD
    have lp : LeP w1 ⟨w1.S, upd w1.H Dl (.dK []), w1.F⟩ := ⟨Ex.refl _, (Ex.new hD).keeps, fun _ _ z => z, rfl⟩
    have offD : ∀ {S H : Hp} {o' : HO}, Sub S H → S Dl = none → Sub S (upd H Dl o') := fun {S H o'} s z a u ha => by
      have ne : a ≠ Dl := fun y => by rw [y, z] at ha; cases ha
      show SubAt _ (upd H Dl o' a) u
      rw [upd_ne ne]
      exact s a u ha
    refine ⟨fun i n H' => ∃ w' ρ' xs acc fp, w'.H = H' ∧ Le w1 w' ∧ w'.H Dl = some (.dK xs) ∧ w'.S Dl = none ∧ Dl ∉ w'.F ∧ (OwnK G.K w'.S w'.H xs acc fp ∧ Held w' fp ∧ (Dl :: fp).Nodup ∧ ∀ x ∈ fp, x ∈ w1.F ∨ w1.H x = none) ∧ Ok G w' σ ρ' ∧ i ≤ ds.length ∧ n = ds.length - i ∧ acc.length ≤ i ∧ I i acc ρ',
      ⟨_, ⟨w1.S, upd w1.H Dl (.dK []), w1.F⟩, ρ1, [], [], [], rfl, lp.le, upd_same, sD, nF, ⟨.nil, (fun x h => by cases h), by simp, fun x h => by cases h⟩, o1.grow lp (offD o1.sub sD), Nat.zero_le _, rfl, Nat.le_refl _, i0⟩, ?_⟩
    rintro i n H' ⟨w', ρ', xs, acc, fp, rfl, l', hL, hS, hF, ⟨rl, hd, ndp, fr⟩, o', hi, rfl, ha, p⟩
    obtain ⟨go, stop⟩ := it w' l' o'.sub
    by_cases hlt : i < ds.length
    · obtain ⟨g1, g2⟩ := go i ds[i] (List.getElem?_eq_getElem hlt)
      refine .inr ⟨g1, fun H2 => ∃ w' ρ' xs acc fp, w'.H = H2 ∧ Le w1 w' ∧ w'.H Dl = some (.dK xs) ∧ w'.S Dl = none ∧ Dl ∉ w'.F ∧ (OwnK G.K w'.S w'.H xs acc fp ∧ Held w' fp ∧ (Dl :: fp).Nodup ∧ ∀ x ∈ fp, x ∈ w1.F ∨ w1.H x = none) ∧ Ok G w' σ ρ' ∧ acc.length ≤ i + 1 ∧ I (i + 1) acc ρ', fun H2 ⟨w', ρ', xs, acc, fp, h1, h2, h3, h4, h5, h6, h7, h8, h9⟩ =>
        ⟨ds.length - (i + 1), by omega, w', ρ', xs, acc, fp, h1, h2, h3, h4, h5, h6, h7, hlt, rfl, h8, h9⟩, fun x H2 y => ?_⟩
      obtain ⟨w2, rfl, l2, s2, r2⟩ := g2 x H2 y
      have o2 := o'.grow l2 s2
      obtain ⟨k2, k2f, k2s⟩ := l2.le.stays hL hF hS
      obtain ⟨w3, l3, hS3, hH3, hF3, o3⟩ := o2.wipe hv
      obtain ⟨k3, k3f, k3s⟩ := l3.stays k2 k2f k2s
      rw [← hH3]
      refine step i ds[i] acc ρ' (List.getElem?_eq_getElem hlt) p w3 _ x _ o3.nox (by show Rep G.K w3.S x _; rw [hS3]; exact r2) fun w4 σ4 ρ3 p4 l4 _ hH4 o4 n4 e4 => ?_
      obtain ⟨k4, k4f, k4s⟩ := l4.stays k3 k3f k3s
      have nσ : σ4.length = σ.length := by rw [n4, wipe_length]
      have eσ : ∀ j, j ∉ vs → σ4[j]? = σ[j]? := fun j hj => by rw [e4 j (fun z => hj (hsl j z)), wipe_get hj]
      refine ⟨wipe_eq nσ eσ, ?_⟩
      have lw4 : Le w' w4 := (l2.le.trans l3).trans l4
      rw [← hH4]
      refine p4 w4 σ4 _ o4 esc_nox fun b w5 ρ4 p5 l5 o5 => ?_
      obtain ⟨k5, k5f, k5s⟩ := l5.stays k4 k4f k4s
      cases b with
      | false =>
        have p5' : I (i + 1) acc (mixE (inL vs) 0 ρ' ρ4) := p5
        obtain ⟨w6, l6, hS6, hH6, hF6, o6⟩ := OkE.mix o' (lw4.trans l5) o5.unnox nσ eσ
        obtain ⟨k6, k6f, k6s⟩ := l6.stays k5 k5f k5s
        exact ⟨w6, _, xs, acc, fp, hH6, ((l'.trans lw4).trans l5).trans l6, k6, k6s, k6f, ⟨rl.held hd ((lw4.trans l5).trans l6), hd.later ((lw4.trans l5).trans l6), ndp, fr⟩, o6, by omega, p5'⟩
      | true =>
        refine (show W G.nox tk ρ4 fun y ρ5 => ∃ k, y = keyD k ∧ (∀ p ∈ acc, p.1 ≠ k) ∧ WO G.nox tv ρ5 fun z ρ6 => I (i + 1) (acc ++ [(k, z)]) (mixE (inL vs) 0 ρ' ρ6) from p5) w5 σ4 _ o5 esc_nox fun vk w55 y ρ55 ⟨k, ey, nk, p55⟩ l55 o55 r55 => ?_
        subst ey
        obtain rfl := keyD_inv r55
        refine p55 w55 σ4 _ o55 esc_nox fun v w6 y ρ5 fpv p6 l66 o6 r6 => ?_
        have l6 := l55.trans l66
        obtain ⟨k6, k6f, k6s⟩ := l6.stays k5 k5f k5s
        have lw6 : Le w' w6 := (lw4.trans l5).trans l6
        have nv : valV xs k = none := rl.noKey nk
        have hd6 := hd.later lw6
        have at6 := r6.at_
        have nd6 := o6.nd
        refine ⟨xs, k, rfl, k6, by rw [rl.lenK]; exact Nat.lt_of_le_of_lt (show acc.length ≤ 90000 by omega) (by decide), ?_⟩
        obtain ⟨fps, en, f⟩ := o6.env
        rw [f] at nd6
        obtain ⟨nd61, nd62, nd63⟩ := List.nodup_append.mp nd6
        have o7 : Ok G ⟨w6.S, upd w6.H Dl (.dK (putK xs k v)), fps.flatten⟩ σ4 ρ5 := ⟨offD o6.sub k6s, ⟨fps, en.keep (Ex.refl _) (fun x hx => (en.at_ x hx).1) (fun x hx u hu => by
          show Keeps u (upd w6.H Dl _ x)
          rw [upd_ne (fun z => k6f (by rw [← z, f]; exact List.mem_append_left _ hx))]
          exact .inl hu), by show fps.flatten = _; rw [List.append_nil]⟩, nd61, o6.px⟩
        have subF : ∀ x ∈ fps.flatten, x ∈ w6.F := fun x hx => by
          rw [f]
          exact List.mem_append_left _ hx
        have vF : ∀ x ∈ fpv, x ∈ w6.F := fun x hx => by
          rw [f]
          exact List.mem_append_right _ hx
        have lb : Le w1 w6 := l'.trans lw6
        have l7 : Le w1 ⟨w6.S, upd w6.H Dl (.dK (putK xs k v)), fps.flatten⟩ := ⟨lb.s, fun x u hx hn => by
          show Keeps u (upd w6.H Dl _ x)
          rw [upd_ne (ne_of_none hx hD)]
          exact lb.h x u hx hn, lb.n, fun x hx => lb.f x (subF x hx)⟩
        have s7 : Ex w'.S w6.S := lw6.s
        -- the outer names
        have o0 : Ok G ⟨w'.S, upd w'.H Dl (.dK (putK xs k v)), w'.F⟩ σ ρ' := by
          obtain ⟨fps, en, f⟩ := o'.env
          exact ⟨offD o'.sub hS, ⟨fps, en.keep (Ex.refl _) (fun x hx => (en.at_ x hx).1) (fun x hx u hu => by
            show Keeps u (upd w'.H Dl _ x)
            rw [upd_ne (fun z => hF (by rw [← z, f]; exact List.mem_append_left _ hx))]
            exact .inl hu), f⟩, o'.nd, o'.px⟩
        have l07 : Le ⟨w'.S, upd w'.H Dl (.dK (putK xs k v)), w'.F⟩ ⟨w6.S, upd w6.H Dl (.dK (putK xs k v)), fps.flatten⟩ := ⟨s7, fun x u hx hn => by
          by_cases z : x = Dl
          · subst z
            have hx' : upd w'.H x (.dK (putK xs k v)) x = some u := hx
            rw [upd_same] at hx'
            show Keeps u (upd w6.H x _ x)
            rw [upd_same]
            exact .inl hx'
          · have hx' : upd w'.H Dl (.dK (putK xs k v)) x = some u := hx
            rw [upd_ne z] at hx'
            show Keeps u (upd w6.H Dl _ x)
            rw [upd_ne z]
            exact lw6.h x u hx' hn, fun x hx hn hs => by
          by_cases z : x = Dl
          · subst z
            exact k6s
          · refine lw6.n x (fun y => hx ?_) hn hs
            show upd w'.H Dl _ x = none
            rw [upd_ne z]
            exact y, fun x hx => by
          have hx := subF x hx
          rcases lw6.f x hx with y | y
          · exact .inl y
          · refine .inr ?_
            have z : x ≠ Dl := fun z => k6f (z ▸ hx)
            show upd w'.H Dl _ x = none
            rw [upd_ne z]
            exact y⟩
        obtain ⟨w8, l8, hS8, hH8, hF8, o8⟩ := OkE.mix o0 l07 o7 nσ eσ
        have offH : ∀ x u, x ≠ Dl → w6.H x = some u → w8.H x = some u := fun x u hx hu => by
          rw [hH8]
          show upd w6.H Dl _ x = some u
          rw [upd_ne hx]
          exact hu
        have nD : ∀ x ∈ fp, x ≠ Dl := fun x hx z => (List.nodup_cons.mp ndp).1 (z ▸ hx)
        have nDv : ∀ x ∈ fpv, x ≠ Dl := fun x hx z => k6f (z ▸ vF x hx)
        refine ⟨w8, _, xs ++ [(k, v)], acc ++ [(k, y)], fp ++ fpv, hH8, l7.trans l8, ?_, ?_, fun z => k6f (subF _ (hF8 Dl z)), ⟨?_, fun x hx => ?_, ?_, fun x hx => ?_⟩, o8, by rw [List.length_append]; exact Nat.succ_le_succ ha, p6⟩
        · rw [hH8]
          show upd w6.H Dl _ Dl = _
          rw [upd_same, putK_new v nv]
        · rw [hS8]
          exact k6s
        · have a1 : OwnK G.K w6.S w6.H xs acc fp := rl.held hd lw6
          have a2 := OwnK.snoc (k := k) r6 a1
          refine a2.keep (by rw [hS8]; exact Ex.refl _) (fun x hx => ?_) fun x hx u hu => ?_
          · rw [hS8]
            rcases List.mem_append.mp hx with z | z
            · exact (hd6 x z).2.1
            · exact (at6 x z).1
          · rcases List.mem_append.mp hx with z | z
            · exact .inl (offH x u (nD x z) hu)
            · exact .inl (offH x u (nDv x z) hu)
        · rcases List.mem_append.mp hx with z | z
          · obtain ⟨b1, b2, b3⟩ := hd6 x z
            refine ⟨fun y => b1 (subF x (hF8 x y)), by rw [hS8]; exact b2, ?_⟩
            cases q1 : w6.H x with
            | none => exact absurd q1 b3
            | some u => rw [offH x u (nD x z) q1]; exact Option.some_ne_none _
          · obtain ⟨b2, b3⟩ := at6 x z
            refine ⟨fun y => nd63 x (hF8 x y) x z rfl, by rw [hS8]; exact b2, ?_⟩
            cases q1 : w6.H x with
            | none => exact absurd q1 b3
            | some u => rw [offH x u (nDv x z) q1]; exact Option.some_ne_none _
        · obtain ⟨c1, c2⟩ := List.nodup_cons.mp ndp
          refine List.nodup_cons.mpr ⟨fun z => ?_, List.nodup_append.mpr ⟨c2, nd62, fun x hx y hy z => (hd6 x hx).1 (z ▸ vF y hy)⟩⟩
          rcases List.mem_append.mp z with z | z
          · exact c1 z
          · exact k6f (vF Dl z)
        · rcases List.mem_append.mp hx with z | z
          · exact fr x z
          · exact lb.f x (vF x z)
    · have ei : i = ds.length := by omega
      subst ei
      refine .inl ⟨stop, ?_⟩
      have z := q (.ref Dl) ⟨w'.S, w'.H, w'.F ++ (Dl :: fp)⟩ (.dic acc) ρ' (Dl :: fp) (fin acc ρ' p) ?_ ?_ (.dic hS hL rl)
      · exact z
      · have lw := l1.trans l'
        exact ⟨lw.s, lw.h, lw.n, fun x hx => by
          rcases List.mem_append.mp hx with y | y
          · exact lw.f x y
          · have old : x ∈ w1.F ∨ w1.H x = none := by
              rcases List.mem_cons.mp y with y | y
              · exact .inr (by rw [y]; exact hD)
              · exact fr x y
            by_cases hf : x ∈ w.F
            · exact .inl hf
            · rcases old with old | old
              · exact l1.f x old
              · refine .inr ?_
                cases e3 : w.H x with
                | none => rfl
                | some u => exact absurd old (l1.h x u e3 hf).ex⟩
      · obtain ⟨fps, en, f⟩ := o'.env
        refine ⟨o'.sub, ⟨fps, en, by show w'.F ++ (Dl :: fp) = _; rw [f, List.append_nil]⟩, ?_, o'.px⟩
        show (w'.F ++ (Dl :: fp)).Nodup
        refine List.nodup_append.mpr ⟨o'.nd, ndp, fun x hx y hy z => ?_⟩
        subst z
        rcases List.mem_cons.mp hy with z | z
        · exact hF (z ▸ hx)
        · exact (hd x z).1 hx
theorem wo_dcM (hv : ∀ i ∈ G.px, i ∉ vs) (hsl : ∀ j ∈ sl, j ∈ vs) (h : WI G wi ρ fun ds ρ1 => ds.length ≤ 90000 ∧ ∃ I : Nat → List (Key × M) → Env → Prop, I 0 [] ρ1 ∧
      (∀ i d acc ρ2, ds[i]? = some d → I i acc ρ2 → WG G.nox g d (wipeE (inL vs) 0 ρ2) sl fun ρ3 => WT G.nox tt ρ3 fun b ρ4 =>
        if b = true then W G.nox tk ρ4 fun y ρ5 => ∃ k, y = keyD k ∧ (∀ p ∈ acc, p.1 ≠ k) ∧ WO G.nox tv ρ5 fun z ρ6 => I (i + 1) (acc ++ [(k, z)]) (mixE (inL vs) 0 ρ2 ρ6) else I (i + 1) acc (mixE (inL vs) 0 ρ2 ρ4)) ∧
      ∀ acc ρ2, I ds.length acc ρ2 → PO (.dic acc) ρ2) : WO G (tDc wi g tt tk tv vs) ρ PO := fun w σ Q o e q =>
  h w σ _ o e fun J w1 ds ρ1 ⟨hl, I, i0, step, fin⟩ l1 o1 it => dcM_at hv hsl hl I i0 step fin l1 o1 it q
theorem wo_dcKM {te0 : TE} {kvs : List (Key × D)} (hv : ∀ j ∈ G.px, j ∉ vs) (hsl : ∀ j ∈ sl, j ∈ vs) (hk : KeyE G te0 ρ kvs) (hl : kvs.length ≤ 90000) (I : Nat → List (Key × M) → Env → Prop) (i0 : I 0 [] ρ)
    (step : ∀ i d acc ρ2, (kvs.map fun p => keyD p.1)[i]? = some d → I i acc ρ2 → WG G.nox g d (wipeE (inL vs) 0 ρ2) sl fun ρ3 => WT G.nox tt ρ3 fun b ρ4 =>
        if b = true then W G.nox tk ρ4 fun y ρ5 => ∃ k, y = keyD k ∧ (∀ p ∈ acc, p.1 ≠ k) ∧ WO G.nox tv ρ5 fun z ρ6 => I (i + 1) (acc ++ [(k, z)]) (mixE (inL vs) 0 ρ2 ρ6) else I (i + 1) acc (mixE (inL vs) 0 ρ2 ρ4))
    (fin : ∀ acc ρ2, I kvs.length acc ρ2 → PO (.dic acc) ρ2) : WO G (DC.tLockX (tDc (iKeys te0) g tt tk tv vs)) ρ PO := fun w σ Q o e q => by
  obtain ⟨a, xs, ha, rk, ev⟩ := hk w σ o
  have nF : a ∉ w.F := fun z => by
    have := (o.at_ a z).1
    rcases ha with y | ⟨_, y⟩ <;> (rw [this] at y; cases y)
  have core : ∀ (wc : Wd) (ob : Obj) (Qc : VK), Ok G wc σ ρ → wc.S = w.S → wc.F = w.F → wc.H a = some (.frz ob (.dK xs)) → (∀ v w2 m ρ2 fp, PO m ρ2 → Le wc w2 → OkE G w2 σ ρ2 fp → OwnR G.K w2.S w2.H v m fp → Qc v w2.H) → tDc (iKeys te0) g tt tk tv vs σ wc.H Qc := fun wc ob Qc oc eS eF hc qc => by
    refine ev wc.H _ (by rw [← eS]; exact oc.sub) ⟨a, ob, rfl, .inl ⟨xs, hc, ?_⟩⟩
    have it : Items G.K (Itk a ob xs) wc (kvs.map fun p => keyD p.1) := by
      rw [rk.keysD]
      exact items_keys hc (by rw [eF]; exact nF)
    exact dcM_at hv hsl (by rw [List.length_map]; exact hl) I i0 step (fun acc ρ2 h => fin acc ρ2 (by rw [List.length_map] at h; exact h)) (Le.refl wc) oc it qc
  refine ⟨a, xs, ?_⟩
  rcases o.sub.dk ha with hH | ⟨ob, hH⟩
  · have sa := sub_dK (o := .dK xs) o.sub ha hH
    refine .inl ⟨hH, fun od => ?_⟩
    obtain ⟨ol, back⟩ := o.lock sa hH od
    refine core ⟨w.S, upd w.H a (.frz od (.dK xs)), w.F⟩ od _ ol rfl rfl upd_same fun v w2 m ρ2 fp p l2 o2 r2 => ?_
    obtain ⟨b1, b2, b3, b4⟩ := back w2 σ ρ2 fp l2 o2
    exact ⟨b1, q v ⟨w2.S, upd w2.H a (.dK xs), w2.F⟩ m ρ2 fp p b2 b3 (b4 (fun x hx => (r2.at_ x hx).1) r2)⟩
  · exact .inr ⟨⟨ob, hH⟩, core w ob Q o rfl rfl hH q⟩
end
end DL

namespace DC
open PySem L2 PySem.Spec PyProof.Rows
/-! ### several dicts locked at once -/
def tLk : List (Addr × List (Key × V)) → TE → TE
  | [], t => t
  | p :: r, t => fun σ H Q => (H p.1 = some (.dK p.2) ∧ ∀ od, tLk r t σ (upd H p.1 (.frz od (.dK p.2))) fun v H' => H' p.1 = some (.frz od (.dK p.2)) ∧ Q v (upd H' p.1 (.dK p.2))) ∨ ((∃ ob, H p.1 = some (.frz ob (.dK p.2))) ∧ tLk r t σ H Q)
def tLocks (t : TE) : TE := fun σ H Q => ∃ ds, tLk ds t σ H Q
theorem pe_lk {X : Cx} {e : Expr} {t : TE} (h : PE X e t) : ∀ ds, PE X e (tLk ds t)
  | [] => h
  | (d, kvs) :: r => ⟨fun pins s σ H Q I wish => (pe_lockX (pe_lk h r)).run pins s σ H Q I ⟨d, kvs, wish⟩⟩
theorem pe_locks {X : Cx} {e : Expr} {t : TE} (h : PE X e t) : PE X e (tLocks t) :=
  ⟨fun pins s σ H Q I ⟨ds, wish⟩ => (pe_lk h ds).run pins s σ H Q I wish⟩
theorem ps_lk {X : Cx} {st : Stmt} {t : TE} {i : Nat} (h : PS X st (tAsg t (gName i))) : ∀ ds, PS X st (tAsg (tLk ds t) (gName i))
  | [] => h
  | (d, kvs) :: r => ⟨fun pins s σ H D I wish => (ps_lockX (ps_lk h r)).run pins s σ H D I ⟨d, kvs, wish⟩⟩
theorem ps_locks {X : Cx} {st : Stmt} {t : TE} {i : Nat} (h : PS X st (tAsg t (gName i))) : PS X st (tAsg (tLocks t) (gName i)) :=
  ⟨fun pins s σ H D I ⟨ds, wish⟩ => (ps_lk h ds).run pins s σ H D I wish⟩
end DC
namespace DL
open PySem L2 PySem.Spec PyProof.Rows
theorem upd_upd {H : Hp} {a : Addr} {x y : HO} : upd (upd H a x) a y = upd H a y := by
  funext b
  by_cases e : b = a
  · subst e
    rw [upd_same, upd_same]
  · rw [upd_ne e, upd_ne e, upd_ne e]
section
variable {G : Gx} {w w1 w2 : Wd} {σ : L2.St} {ρ : Env} {a : Addr} {ob : HO}
/-- a thing aside written -/
theorem OkE.patch (o : Ok G w σ ρ) (hS : w.S a = none) (hF : a ∉ w.F) (ob : HO) : Ok G ⟨w.S, upd w.H a ob, w.F⟩ σ ρ := by
  obtain ⟨fps, en, f⟩ := o.env
  refine ⟨fun x u hx => ?_, ⟨fps, en.keep (Ex.refl _) (fun x hx => (en.at_ x hx).1) (fun x hx u hu => ?_), f⟩, o.nd, o.px⟩
  · have ne : x ≠ a := fun y => by
      have hx : w.S x = some u := hx
      rw [y, hS] at hx
      cases hx
    show SubAt _ (upd w.H a ob x) u
    rw [upd_ne ne]
    exact o.sub x u hx
  · show Keeps u (upd w.H a ob x)
    rw [upd_ne (fun z => hF (by rw [← z, f]; exact List.mem_append_left _ hx))]
    exact .inl hu
theorem Le.patch (l : Le w1 w2) (hF : a ∉ w2.F) (hS : w2.S a = none) (ob : HO) : Le ⟨w1.S, upd w1.H a ob, w1.F⟩ ⟨w2.S, upd w2.H a ob, w2.F⟩ :=
  ⟨l.s, fun x u hx hn => by
    by_cases z : x = a
    · subst z
      have hx' : upd w1.H x ob x = some u := hx
      rw [upd_same] at hx'
      show Keeps u (upd w2.H x ob x)
      rw [upd_same]
      exact .inl hx'
    · have hx' : upd w1.H a ob x = some u := hx
      rw [upd_ne z] at hx'
      show Keeps u (upd w2.H a ob x)
      rw [upd_ne z]
      exact l.h x u hx' hn, fun x hx hn hs => by
    by_cases z : x = a
    · subst z
      exact hS
    · refine l.n x (fun y => hx ?_) hn hs
      show upd w1.H a ob x = none
      rw [upd_ne z]
      exact y, fun x hx => by
    rcases l.f x hx with y | y
    · exact .inl y
    · refine .inr ?_
      have z : x ≠ a := fun z => hF (z ▸ hx)
      show upd w1.H a ob x = none
      rw [upd_ne z]
      exact y⟩
theorem Le.patch1 (l : Le w1 w2) (hn : w1.H a = none) (ob : HO) : Le w1 ⟨w2.S, upd w2.H a ob, w2.F⟩ :=
  ⟨l.s, fun x u hx hf => by
    show Keeps u (upd w2.H a ob x)
    rw [upd_ne (ne_of_none hx hn)]
    exact l.h x u hx hf, l.n, l.f⟩
/-- all of them locked -/
def Lkd (H : Hp) (L : List (Addr × List (Key × V))) : Prop := ∀ p ∈ L, ∃ o, H p.1 = some (.frz o (.dK p.2))
theorem lk_run {t : TE} {PO : M → Env → Prop} : ∀ (L L0 : List (Addr × List (Key × V))) (w : Wd) (Q : VK), Ok G w σ ρ → (∀ p ∈ L, Rd w.S p.1 (.dK p.2)) → Lkd w.H L0 →
    (∀ v w2 m ρ2 fp, PO m ρ2 → Le w w2 → OkE G w2 σ ρ2 fp → OwnR G.K w2.S w2.H v m fp → Q v w2.H) →
    (∀ (wc : Wd) (Qc : VK), Ok G wc σ ρ → wc.S = w.S → wc.F = w.F → Lkd wc.H (L0 ++ L) → (∀ v w2 m ρ2 fp, PO m ρ2 → Le wc w2 → OkE G w2 σ ρ2 fp → OwnR G.K w2.S w2.H v m fp → Qc v w2.H) → t σ wc.H Qc) → DC.tLk L t σ w.H Q
  | [], L0, w, Q, o, _, h0, q, core => core w Q o rfl rfl (by rw [List.append_nil]; exact h0) q
  | (a, xs) :: L, L0, w, Q, o, hr, h0, q, core => by
    have ha : Rd w.S a (.dK xs) := hr (a, xs) List.mem_cons_self
    have eL : (L0 ++ [(a, xs)]) ++ L = L0 ++ (a, xs) :: L := by rw [List.append_assoc]; rfl
    rcases o.sub.dk ha with hH | ⟨ob, hH⟩
    · have sa := sub_dK (o := .dK xs) o.sub ha hH
      refine .inl ⟨hH, fun od => ?_⟩
      obtain ⟨ol, back⟩ := o.lock sa hH od
      refine lk_run L (L0 ++ [(a, xs)]) ⟨w.S, upd w.H a (.frz od (.dK xs)), w.F⟩ _ ol (fun p hp => hr p (List.mem_cons_of_mem _ hp)) (fun p hp => ?_) (fun v w2 m ρ2 fp p l2 o2 r2 => ?_) (fun wc Qc oc eS eF hl qc => core wc Qc oc eS eF (by rw [← eL]; exact hl) qc)
      · rcases List.mem_append.mp hp with z | z
        · obtain ⟨o1, e1⟩ := h0 p z
          have ne : p.1 ≠ a := fun y => by
            rw [y, hH] at e1
            cases e1
          exact ⟨o1, by show upd w.H a _ p.1 = _; rw [upd_ne ne]; exact e1⟩
        · (rw [List.mem_singleton.mp z])
          exact ⟨od, upd_same⟩
      · obtain ⟨b1, b2, b3, b4⟩ := back w2 σ ρ2 fp l2 o2
        exact ⟨b1, q v ⟨w2.S, upd w2.H a (.dK xs), w2.F⟩ m ρ2 fp p b2 b3 (b4 (fun x hx => (r2.at_ x hx).1) r2)⟩
    · refine .inr ⟨⟨ob, hH⟩, lk_run L (L0 ++ [(a, xs)]) w Q o (fun p hp => hr p (List.mem_cons_of_mem _ hp)) (fun p hp => ?_) q fun wc Qc oc eS eF hl qc => core wc Qc oc eS eF (by rw [← eL]; exact hl) qc⟩
      rcases (List.mem_append.mp hp) with z | z
      · exact h0 p z
      · (rw [List.mem_singleton.mp z])
        exact ⟨ob, hH⟩
end
/-- the values of a dict of dicts -/
theorem dicts_at {K : PySem.W.Frag} {S : Hp} : ∀ {xs : List (Key × V)} {kvs : List (Key × D)}, RepK K S xs kvs → (∀ p ∈ kvs, ∃ r, p.2 = .dic r) →
    ∃ L : List (Addr × List (Key × V)), (∀ p ∈ L, Rd S p.1 (.dK p.2)) ∧ ∀ k b, valV xs k = some b → ∃ b' ys, b = .ref b' ∧ (b', ys) ∈ L ∧ ∀ r, lookD kvs k = some (.dic r) → RepK K S ys r
  | _, _, .nil, _ => ⟨[], (fun _ h => nomatch h), fun _ _ h => nomatch h⟩
  | _, _, @RepK.cons _ _ k0 v0 xs d0 ds r rk, h => by
    obtain ⟨L, h1, h2⟩ := dicts_at rk fun p hp => h p (List.mem_cons_of_mem _ hp)
    obtain ⟨r0, e0⟩ := h (k0, d0) List.mem_cons_self
    have e0 : d0 = .dic r0 := e0
    subst e0
    cases r with
    | @dic a ys _ ha ry =>
    refine ⟨(a, ys) :: L, fun p hp => ?_, fun k b hb => ?_⟩
    · rcases (List.mem_cons.mp hp) with rfl | hp
      · exact ha
      · exact h1 p hp
    · by_cases e : k0 = k
      · rw [valV_pos (p := (k0, V.ref a)) e] at hb
        refine ⟨a, ys, (Option.some.inj hb).symm, List.mem_cons_self, fun r hr => ?_⟩
        have : lookD ((k0, D.dic r0) :: ds) k = some (.dic r0) := by simp [lookD, e]
        rw [this] at hr
        cases hr
        exact ry
      · rw [valV_neg (p := (k0, V.ref a)) e] at hb
        obtain ⟨b', ys', q1, q2, q3⟩ := h2 k b hb
        refine ⟨b', ys', q1, List.mem_cons_of_mem _ q2, fun r hr => q3 r ?_⟩
        rw [← hr]
        simp [lookD, e]
/-- the expression gives the very dict at a key of the one in the i-th name -/
def KeyAt (G : Gx) (te : TE) (ρ : Env) (i : Nat) (k : Key) : Prop := ∀ w σ, Ok G w σ ρ → ∀ a xs b, σ[i]? = some (some (.ref a)) → Rd w.S a (.dK xs) → valV xs k = some b → ∀ Q : VK, Q b w.H → te σ w.H Q
theorem keyAt_get {G : Gx} {ρ : Env} {i v : Nat} {k : Key} (hv : ρ[v]? = some (some (.sh (keyD k)))) : KeyAt G (tDGet (tVar i) (tVar v)) ρ i k := fun w σ o a xs b hi ha hb Q q => by
  obtain ⟨u, hu, r⟩ := o.get hv
  obtain rfl := keyD_inv r
  exact ⟨_, hi, _, hu, a, b, rfl, .inl ⟨xs, k, o.sub.dk ha, rfl, hb.symm⟩, q⟩
/-! ### a comprehension with two walks, each over a dict -/
theorem mix_of {vs : List Nat} {ρ ρ5 : Env} (hl : ρ5.length = ρ.length) (h1 : ∀ j, j ∉ vs → ρ5[j]? = ρ[j]?) (h2 : ∀ j, j ∈ vs → NameOk j ρ) : mixE (inL vs) 0 ρ ρ5 = ρ := by
  apply List.ext_getElem?
  intro j
  rw [mixE_get hl, Nat.zero_add]
  cases e : inL vs j with
  | true =>
    have hm : j ∈ vs := by
      unfold inL at e
      exact List.contains_iff_mem.mp e
    obtain ⟨x, hx, hk⟩ := h2 j hm
    rw [if_pos rfl, hx]
    show some (keepSh x) = some x
    rw [hk]
  | false =>
    (rw [if_neg Bool.false_ne_true])
    exact h1 j (inL_iff.mp e)
theorem wipeE_in {p : Nat → Bool} : ∀ {n : Nat} {ρ : Env} {j : Nat}, p (n + j) = true → j < ρ.length → (wipeE p n ρ)[j]? = some none
  | _, [], _, _, h => by simp at h
  | n, a :: ρ, 0, h, _ => by
    unfold wipeE
    rw [Nat.add_zero] at h
    rw [h]
    rfl
  | n, a :: ρ, j + 1, h, hl => by
    unfold wipeE
    rw [List.getElem?_cons_succ]
    exact wipeE_in (by rw [show n + 1 + j = n + (j + 1) by omega]; exact h) (by simpa using hl)
/-- within the first, within the second -/
abbrev in1 (vs : List Nat) (v : Nat) (ρ : Env) (d : D) : Env := (wipeE (inL vs) 0 ρ).set v (some (.sh d))
abbrev in2 (vs vs1 : List Nat) (v v1 : Nat) (ρ : Env) (d d1 : D) : Env := (wipeE (inL vs1) 0 (in1 vs v ρ d)).set v1 (some (.sh d1))
def subK : D → List (Key × D)
  | .dic r => r
  | _ => []
theorem take_flat {α β : Type} (f : α → List β) {l : List α} {i : Nat} {a : α} (h : l[i]? = some a) : (l.take (i + 1)).flatMap f = (l.take i).flatMap f ++ f a := by
  rw [List.take_add_one, h, List.flatMap_append]
  simp
theorem take_map1 {α β : Type} (f : α → β) {l : List α} {i : Nat} {a : α} (h : l[i]? = some a) : (l.take (i + 1)).map f = (l.take i).map f ++ [f a] := by
  rw [List.take_add_one, h, List.map_append]
  simp
theorem flat_le {α β : Type} (f : α → List β) {l : List α} {i : Nat} : ((l.take i).flatMap f).length ≤ (l.flatMap f).length := by
  have : l.flatMap f = (l.take i).flatMap f ++ (l.drop i).flatMap f := by rw [← List.flatMap_append, List.take_append_drop]
  rw [this, List.length_append]
  omega
section
variable {G : Gx} {te te0 : TE} {tt tt1 : TT} {ρ : Env} {i v v1 : Nat} {vs vs1 : List Nat} {PO : M → Env → Prop} {kvs : List (Key × D)} {F : Key → Key → D}
def row2 (F : Key → Key → D) (p : Key × D) : List D := (subK p.2).map fun q => F p.1 q.1
theorem wo_lc2 (hv : ∀ j ∈ G.px, j ∉ vs) (hvs : v ∈ vs) (hvs1 : v1 ∈ vs1) (hsub : ∀ j ∈ vs1, j ∈ vs) (hi : i ∉ vs) (n : ∀ j, j ∈ vs → NameOk j ρ)
    (hk : ρ[i]? = some (some (.sh (.dic kvs)))) (nd : Nodk kvs) (hr : ∀ p ∈ kvs, ∃ r, p.2 = .dic r) (hl : kvs.length ≤ 90000) (hl2 : (kvs.flatMap (row2 F)).length ≤ 90000)
    (h0 : ∀ k r, (k, D.dic r) ∈ kvs → WT G.nox tt (in1 vs v ρ (keyD k)) fun b ρ4 => b = true ∧ ρ4 = in1 vs v ρ (keyD k) ∧ KeyAt G.nox te0 ρ4 i k ∧
      ∀ k1 d1, (k1, d1) ∈ r → WT G.nox tt1 (in2 vs vs1 v v1 ρ (keyD k) (keyD k1)) fun b1 ρ5 => b1 = true ∧ ρ5 = in2 vs vs1 v v1 ρ (keyD k) (keyD k1) ∧ W G.nox te ρ5 fun y ρ6 => ρ6 = ρ5 ∧ y = F k k1)
    (hp : PO (.lst ((kvs.flatMap (row2 F)).map .sh)) ρ) : WO G (DC.tLocks (tLc2 (iKeys (tVar i)) (gName v) tt (iKeys te0) (gName v1) tt1 te vs vs1)) ρ PO := fun w σ Q o e q => by
  obtain ⟨v', hv', r⟩ := o.get hk
  cases r with
  | @dic a xs _ ha rk =>
  obtain ⟨L, hL1, hL2⟩ := dicts_at rk hr
  refine ⟨(a, xs) :: L, lk_run ((a, xs) :: L) [] w Q o (fun p hp => (List.mem_cons.mp hp).elim (fun z => by rw [z]; exact ha) (hL1 p)) (fun p hp => nomatch hp) q fun wc Qc oc eS eF hlk qc => ?_⟩
  have hlk : Lkd wc.H ((a, xs) :: L) := hlk
  have rdF : ∀ {b ys}, Rd wc.S b (.dK ys) → b ∉ wc.F := fun {b ys} hb z => by
    have := (oc.at_ b z).1
    rcases hb with y | ⟨_, y⟩ <;> (rw [this] at y; cases y)
  obtain ⟨ob, hob⟩ := hlk (a, xs) List.mem_cons_self
  have haF : a ∉ wc.F := rdF (by rw [eS]; exact ha)
  have it : Items G.K (Itk a ob xs) wc (kvs.map fun p => keyD p.1) := by
    rw [rk.keysD]
    exact items_keys hob haF
  refine ⟨_, hv', a, ob, rfl, .inl ⟨xs, hob, fun Dl hD => ?_⟩⟩
  have sD : wc.S Dl = none := oc.sub.free hD
  have nF : Dl ∉ wc.F := fun z => (oc.at_ Dl z).2 hD
  have lp : LeP wc ⟨wc.S, upd wc.H Dl (.lst []), wc.F⟩ := ⟨Ex.refl _, (Ex.new hD).keeps, fun _ _ z => z, rfl⟩
  refine ⟨fun i n H' => ∃ w' ys, w'.H = H' ∧ Le wc w' ∧ w'.H Dl = some (.lst ys) ∧ w'.S Dl = none ∧ Dl ∉ w'.F ∧ RepL G.K w'.S ys ((kvs.take i).flatMap (row2 F)) ∧ Ok G w' σ ρ ∧ i ≤ kvs.length ∧ n = kvs.length - i,
    ⟨_, ⟨wc.S, upd wc.H Dl (.lst []), wc.F⟩, [], rfl, lp.le, upd_same, sD, nF, .nil, oc.patch sD nF _, Nat.zero_le _, rfl⟩, ?_⟩
  rintro j m H' ⟨w', ys, rfl, l', hL, hS, hF, rl, o', hj, rfl⟩
  obtain ⟨go, stop⟩ := it w' l' o'.sub
  rw [List.length_map] at stop
  by_cases hlt : j < kvs.length
  · obtain ⟨k, dk⟩ : ∃ k : Key, ∃ d : D, kvs[j]? = some (k, d) := ⟨kvs[j].1, kvs[j].2, by rw [List.getElem?_eq_getElem hlt]⟩
    obtain ⟨d, dk⟩ := dk
    have hm : (k, d) ∈ kvs := List.mem_of_getElem? dk
    obtain ⟨r, er⟩ := hr _ hm
    have er : d = .dic r := er
    subst er
    obtain ⟨g1, g2⟩ := go j (keyD k) (by rw [List.getElem?_map, dk]; rfl)
    refine .inr ⟨g1, fun H2 => ∃ w' ys, w'.H = H2 ∧ Le wc w' ∧ w'.H Dl = some (.lst ys) ∧ w'.S Dl = none ∧ Dl ∉ w'.F ∧ RepL G.K w'.S ys ((kvs.take (j + 1)).flatMap (row2 F)) ∧ Ok G w' σ ρ, fun H2 ⟨w', ys, h1, h2, h3, h4, h5, h6, h7⟩ =>
      ⟨kvs.length - (j + 1), by omega, w', ys, h1, h2, h3, h4, h5, h6, h7, hlt, rfl⟩, fun x H2 y => ?_⟩
    obtain ⟨w2, rfl, l2, s2, r2⟩ := g2 x H2 y
    have o2 := o'.grow l2 s2
    obtain ⟨k2, k2f, k2s⟩ := l2.le.stays hL hF hS
    obtain ⟨w3, l3, hS3, hH3, hF3, o3⟩ := o2.wipe hv
    obtain ⟨k3, k3f, k3s⟩ := l3.stays k2 k2f k2s
    rw [← hH3]
    refine (wg_name (PE_ := fun ρ3 => WT G.nox tt ρ3 fun b ρ4 => b = true ∧ ρ4 = in1 vs v ρ (keyD k) ∧ KeyAt G.nox te0 ρ4 i k ∧ ∀ k1 d1, (k1, d1) ∈ r → WT G.nox tt1 (in2 vs vs1 v v1 ρ (keyD k) (keyD k1)) fun b1 ρ5 => b1 = true ∧ ρ5 = in2 vs vs1 v v1 ρ (keyD k) (keyD k1) ∧ W G.nox te ρ5 fun y ρ6 => ρ6 = ρ5 ∧ y = F k k1)
      (fun z => hv v z hvs) (List.mem_singleton.mpr rfl) (h0 k r hm) : WG G.nox (gName v) (keyD k) (wipeE (inL vs) 0 ρ) [v] _) w3 _ x _ o3.nox (by show Rep G.K w3.S x _; rw [hS3]; exact r2) fun w4 σ4 ρ3 p4 l4 _ hH4 o4 n4 e4 => ?_
    obtain ⟨k4, k4f, k4s⟩ := l4.stays k3 k3f k3s
    have nσ : σ4.length = σ.length := by rw [n4, wipe_length]
    have eσ : ∀ j, j ∉ vs → σ4[j]? = σ[j]? := fun j hj => by rw [e4 j (fun z => hj (by rw [List.mem_singleton.mp z]; exact hvs)), wipe_get hj]
    refine ⟨wipe_eq nσ eσ, ?_⟩
    have lw4 : Le w' w4 := (l2.le.trans l3).trans l4
    rw [← hH4]
    refine p4 w4 σ4 _ o4 esc_nox fun b w5 ρ4 p5 l5 o5 => ?_
    obtain ⟨rfl, rfl, ka, inner⟩ := p5
    obtain ⟨k5, k5f, k5s⟩ := l5.stays k4 k4f k4s
    rw [if_pos rfl]
    -- the inner dict
    have lc5 : Le wc w5 := (l'.trans lw4).trans l5
    have sw5 : Ex w.S w5.S := by rw [← eS]; exact lc5.s
    obtain ⟨b, hb⟩ : ∃ b, valV xs k = some b := by
      obtain ⟨b, hb, _⟩ := (RepK.look (k := k) rk).1 _ (look_of nd hm)
      exact ⟨b, hb⟩
    obtain ⟨b', zs, rfl, hbL, hbr⟩ := hL2 k b hb
    have rz := hbr r (look_of nd hm)
    have hbw := hL1 _ hbL
    obtain ⟨ob1, hob1⟩ := hlk (b', zs) (List.mem_cons_of_mem _ hbL)
    have hb5 : w5.H b' = some (.frz ob1 (.dK zs)) := (lc5.h b' _ hob1 (rdF (by rw [eS]; exact hbw))).eq True.intro
    have hb5F : b' ∉ w5.F := fun z => by
      have := (o5.at_ b' z).1
      have hb := sw5.rd hbw
      rcases hb with y | ⟨_, y⟩ <;> (rw [this] at y; cases y)
    have hsi : σ4[i]? = some (some (.ref a)) := by rw [eσ i hi]; exact hv'
    refine ka w5 σ4 o5 a xs (.ref b') hsi (sw5.rd ha) hb _ ⟨b', ob1, rfl, .inl ⟨zs, hb5, ?_⟩⟩
    have it1 : Items G.K (Itk b' ob1 zs) wc (r.map fun p => keyD p.1) := by
      rw [rz.keysD]
      exact items_keys hob1 (rdF (by rw [eS]; exact hbw))
    obtain ⟨w6, l6, hS6, hH6, hF6, o6⟩ := OkE.wipe (vs := vs1) o5.unnox fun j hj hm => hv j hj (hsub j hm)
    have lw6 : Le w' w6 := (lw4.trans l5).trans l6
    obtain ⟨k6, k6f, k6s⟩ := l6.stays k5 k5f k5s
    have idu : (⟨w'.S, upd w'.H Dl (.lst ys), w'.F⟩ : Wd) = w' := by
      have : upd w'.H Dl (.lst ys) = w'.H := by
        funext x
        by_cases z : x = Dl
        · subst z
          rw [upd_same]
          exact hL.symm
        · rw [upd_ne z]
      rw [this]
    have len_r : ∀ m, ((kvs.take j).flatMap (row2 F) ++ (r.take m).map fun q => F k q.1).length ≤ 90000 := fun m => by
      refine Nat.le_trans ?_ hl2
      refine Nat.le_trans ?_ (flat_le (row2 F) (i := j + 1))
      rw [take_flat (row2 F) dk, List.length_append, List.length_append, List.length_map]
      have : (row2 F (k, D.dic r)).length = r.length := by
        unfold row2
        rw [List.length_map]
        rfl
      rw [this, List.length_take]
      omega
    refine ⟨fun m n H' => ∃ w7 zs7, w7.H = H' ∧ Le wc w7 ∧ Le ⟨w'.S, upd w'.H Dl (.lst zs7), w'.F⟩ w7 ∧ w7.H Dl = some (.lst zs7) ∧ w7.S Dl = none ∧ Dl ∉ w7.F ∧ RepL G.K w7.S zs7 ((kvs.take j).flatMap (row2 F) ++ (r.take m).map fun q => F k q.1) ∧ Ok G w7 (wipe σ4 vs1) (wipeE (inL vs1) 0 (in1 vs v ρ (keyD k))) ∧ m ≤ r.length ∧ n = r.length - m, ?_, ?_⟩
    · exact ⟨_, w6, ys, hH6, l'.trans lw6, by rw [idu]; exact lw6, k6, k6s, k6f, by
        rw [List.take_zero, List.map_nil, List.append_nil]
        exact rl.mono lw6.s, o6, Nat.zero_le _, rfl⟩
    rintro m n H7 ⟨w7, zs7, rfl, l7c, l7, hL7, hS7, hF7, rl7, o7, hm7, rfl⟩
    obtain ⟨go1, stop1⟩ := it1 w7 l7c o7.sub
    rw [List.length_map] at stop1
    by_cases hlt1 : m < r.length
    · obtain ⟨k1, d1, e1⟩ : ∃ k1 : Key, ∃ d1 : D, r[m]? = some (k1, d1) := ⟨r[m].1, r[m].2, by rw [List.getElem?_eq_getElem hlt1]⟩
      have hm1 : (k1, d1) ∈ r := List.mem_of_getElem? e1
      obtain ⟨f1, f2⟩ := go1 m (keyD k1) (by rw [List.getElem?_map, e1]; rfl)
      refine .inr ⟨f1, fun H' => ∃ w7 zs7, w7.H = H' ∧ Le wc w7 ∧ Le ⟨w'.S, upd w'.H Dl (.lst zs7), w'.F⟩ w7 ∧ w7.H Dl = some (.lst zs7) ∧ w7.S Dl = none ∧ Dl ∉ w7.F ∧ RepL G.K w7.S zs7 ((kvs.take j).flatMap (row2 F) ++ (r.take (m + 1)).map fun q => F k q.1) ∧ Ok G w7 (wipe σ4 vs1) (wipeE (inL vs1) 0 (in1 vs v ρ (keyD k))),
        fun H' ⟨w7, zs7, h1, h2, h3, h4, h5, h6, h7, h8⟩ => ⟨r.length - (m + 1), by omega, w7, zs7, h1, h2, h3, h4, h5, h6, h7, h8, hlt1, rfl⟩, fun x1 H' y1 => ?_⟩
      obtain ⟨w8, rfl, l8, s8, r8⟩ := f2 x1 H' y1
      have o8 := o7.grow l8 s8
      obtain ⟨k8, k8f, k8s⟩ := l8.le.stays hL7 hF7 hS7
      refine (wg_name (PE_ := fun ρ3 => WT G.nox tt1 ρ3 fun b1 ρ5 => b1 = true ∧ ρ5 = in2 vs vs1 v v1 ρ (keyD k) (keyD k1) ∧ W G.nox te ρ5 fun y ρ6 => ρ6 = ρ5 ∧ y = F k k1)
        (fun z => hv v1 z (hsub v1 hvs1)) (List.mem_singleton.mpr rfl) (inner k1 d1 hm1) : WG G.nox (gName v1) (keyD k1) (wipeE (inL vs1) 0 (in1 vs v ρ (keyD k))) [v1] _) w8 _ x1 _ o8.nox r8 fun w9 σ9 ρ9 p9 l9 _ hH9 o9 n9 e9 => ?_
      obtain ⟨k9, k9f, k9s⟩ := l9.stays k8 k8f k8s
      have eσ9 : ∀ j, j ∉ vs1 → σ9[j]? = (wipe σ4 vs1)[j]? := fun j hj => e9 j fun z => hj (by rw [List.mem_singleton.mp z]; exact hvs1)
      refine ⟨wipe_eq (by rw [n9, wipe_length]) fun j hj => by rw [eσ9 j hj, wipe_get hj], ?_⟩
      rw [← hH9]
      refine p9 w9 σ9 _ o9 esc_nox fun b1 w10 ρ10 p10 l10 o10 => ?_
      obtain ⟨rfl, rfl, pe⟩ := p10
      obtain ⟨k10, k10f, k10s⟩ := l10.stays k9 k9f k9s
      rw [if_pos rfl]
      refine pe w10 σ9 _ o10 esc_nox fun u w11 y2 ρ11 e11 l11 o11 r11 => ?_
      obtain ⟨rfl, rfl⟩ := e11
      obtain ⟨k11, k11f, k11s⟩ := l11.stays k10 k10f k10s
      refine ⟨zs7, k11, by rw [rl7.len]; exact Nat.lt_of_le_of_lt (len_r m) (by decide), ?_⟩
      have l711 : Le w7 w11 := ((l8.le.trans l9).trans l10).trans l11
      have op := OkE.patch o11.unnox k11s k11f (.lst (zs7 ++ [u]))
      have o0 := OkE.patch o7 hS7 hF7 (.lst (zs7 ++ [u]))
      obtain ⟨w12, l12, hS12, hH12, hF12, o12⟩ := OkE.mix (vs := vs1) o0 (Le.patch l711 k11f k11s _) op n9 eσ9
      have lq := Le.patch (ob := .lst (zs7 ++ [u])) (l7.trans l711) k11f k11s
      rw [show (upd (upd w'.H Dl (.lst zs7)) Dl (.lst (zs7 ++ [u]))) = upd w'.H Dl (.lst (zs7 ++ [u])) from upd_upd] at lq
      rw [mix_of (by simp [wipeE_len]) (fun j hj => by rw [List.getElem?_set_ne (fun z => hj (by rw [← z]; exact hvs1))]) fun j hj => ?_] at o12
      · refine ⟨w12, zs7 ++ [u], hH12, (Le.patch1 (l7c.trans l711) hD _).trans l12, lq.trans l12, ?_, ?_, fun z => k11f (hF12 Dl z), ?_, o12⟩
        · rw [hH12]
          exact upd_same
        · rw [hS12]
          exact k11s
        · rw [hS12, take_map1 (fun q : Key × D => F k q.1) e1, ← List.append_assoc]
          exact (rl7.mono l711.s).app (.cons r11 .nil)
      · obtain ⟨z, hz, _⟩ := n j (hsub j hj)
        have hlen : j < ρ.length := (List.getElem?_eq_some_iff.mp hz).1
        exact ⟨none, wipeE_in (by rw [Nat.zero_add]; unfold inL; exact List.contains_iff_mem.mpr hj) (by rw [List.length_set, wipeE_len]; exact hlen), rfl⟩
    · have em : m = r.length := by omega
      subst em
      refine .inl ⟨stop1, ?_⟩
      have o0 := OkE.patch o' hS hF (.lst zs7)
      obtain ⟨w8, l8, hS8, hH8, hF8, o8⟩ := OkE.mix (vs := vs) o0 l7 o7 (by rw [wipe_length]; exact nσ) fun j hj => by rw [wipe_get (fun z => hj (hsub j z)), eσ j hj]
      rw [mix_of (by simp [wipeE_len]) (fun j hj => ?_) n] at o8
      · refine ⟨w8, zs7, hH8, l7c.trans l8, by rw [hH8]; exact hL7, by rw [hS8]; exact hS7, fun z => hF7 (hF8 Dl z), ?_, o8⟩
        rw [hS8, take_flat (row2 F) dk]
        rw [List.take_length] at rl7
        exact rl7
      · rw [wipeE_at (by rw [Nat.zero_add]; exact inL_iff.mpr fun z => hj (hsub j z)), List.getElem?_set_ne (fun z => hj (by rw [← z]; exact hvs)), wipeE_at (by rw [Nat.zero_add]; exact inL_iff.mpr hj)]
  · have ej : j = kvs.length := by omega
    subst ej
    refine .inl ⟨stop, ?_⟩
    rw [List.take_length] at rl
    refine qc (.ref Dl) ⟨w'.S, w'.H, w'.F ++ [Dl]⟩ (.lst ((kvs.flatMap (row2 F)).map .sh)) ρ [Dl] hp ?_ ?_ (.lst hS hL (ownL_of rl))
    · exact ⟨l'.s, l'.h, l'.n, fun x hx => by
        rcases List.mem_append.mp hx with y | y
        · exact l'.f x y
        · obtain rfl : x = Dl := by simpa using y
          exact .inr hD⟩
    · obtain ⟨fps, en, f⟩ := o'.env
      refine ⟨o'.sub, ⟨fps, en, by show w'.F ++ [Dl] = _; rw [f, List.append_nil]⟩, ?_, o'.px⟩
      show (w'.F ++ [Dl]).Nodup
      refine List.nodup_append.mpr ⟨o'.nd, by simp, fun x hx y hy z => hF ?_⟩
      obtain rfl : y = Dl := by simpa using hy
      rw [← z]
      exact hx
end
theorem keyE_get {G : Gx} {ρ : Env} {i v : Nat} {k : Key} {kvs r : List (Key × D)} (hi : ρ[i]? = some (some (.sh (.dic kvs)))) (hv : ρ[v]? = some (some (.sh (keyD k)))) (hk : lookD kvs k = some (.dic r)) : KeyE G (tDGet (tVar i) (tVar v)) ρ r := fun w σ o => by
  obtain ⟨x, hx, rx⟩ := o.get hi
  obtain ⟨y, hy, ry⟩ := o.get hv
  obtain rfl := keyD_inv ry
  cases rx with
  | @dic a xs _ ha rk =>
  obtain ⟨u, hu, ru⟩ := (RepK.look (k := k) rk).1 _ hk
  cases ru with
  | @dic b ys _ hb ry =>
  exact ⟨b, ys, hb, ry, fun H' Q s q => ⟨_, hx, _, hy, a, .ref b, rfl, .inl ⟨xs, k, s.dk ha, rfl, hu.symm⟩, q⟩⟩
/-! ### xs.extend([..]), xs a name's own list -/
section
variable {G : Gx} {ρ : Env} {i : Nat} {ta : TA} {PS_ : Post}
theorem OwnL.appL {K : PySem.W.Frag} {S H : Hp} {us : List V} {ds : List D} (r : RepL K S us ds) : ∀ {vs : List V} {ms : List M} {fp : List Addr}, OwnL K S H vs ms fp → OwnL K S H (vs ++ us) (ms ++ ds.map .sh) fp
  | [], _, _, .nil => ownL_of r
  | _ :: _, _, _, .cons a b => .cons a (OwnL.appL r b)
theorem ws_extendL (hpx : ∃ m, ρ[i]? = some (some (.lst m))) (h : WA G ta ρ fun ds ρ1 => ∃ ms, ρ1[i]? = some (some (.lst ms)) ∧ ms.length + ds.length ≤ 90000 ∧ PS_.nx (ρ1.set i (some (.lst (ms ++ ds.map .sh))))) :
    WS G (tDrop (tBM G.K "list" rExtend (tVar i) (tCons (tLst ta) tNil))) ρ PS_ := fun w σ D o e q => by
  obtain ⟨m0, hm0⟩ := hpx
  obtain ⟨v, fp0, w0, hv, l0, _, _, _, om0⟩ := o.takeM hm0
  refine ⟨v, hv, ?_, ?_⟩
  · cases om0 with
    | lst hS hH ol => exact .inl ⟨rfl, _, .inl (.inl hH)⟩
  refine h w σ _ o e fun us w1 ds ρ1 ⟨ms, hi, hl, p⟩ l1 o1 r1 => ⟨sz_of (by rw [r1.len]; omega), fun b hb => ?_⟩
  have lb := Wd.le_add (o := .lst us) o1.sub hb
  have sb := Wd.sub_add (p := b) (o := .lst us) o1.sub hb
  have ob := o1.grow lb sb
  have rb : RepL G.K (w1.add b (.lst us)).S us ds := r1.mono lb.s
  generalize hw : w1.add b (.lst us) = w1b at lb sb ob rb
  have hbH : w1b.H b = some (.lst us) := by
    rw [← hw]
    exact upd_same
  have hbS : w1b.S b = some (.lst us) := by
    rw [← hw]
    exact upd_same
  have eH1 : upd w1.H b (.lst us) = w1b.H := by rw [← hw]; rfl
  rw [eH1]
  obtain ⟨v', fp, w2, hv', l2, eS, eH, o2, om⟩ := ob.takeM hi
  obtain rfl : v' = v := by
    rw [hv] at hv'
    exact (Option.some.inj (Option.some.inj hv')).symm
  have hil : i < ρ1.length := (List.getElem?_eq_some_iff.mp hi).1
  have ndf := o2.nodupFx
  cases om with
  | @lst a vs _ fp1 hS hH ol =>
    have nd1 := List.nodup_cons.mp ndf
    refine ⟨a, b, vs, us, rfl, rfl, hH, hbH, sz_of (by rw [ol.len, r1.len]; omega), ?_⟩
    obtain ⟨w3, l3, eS3, eH3, o3⟩ := OkE.write (a := a) (ob := .lst (vs ++ us)) (fp' := (a :: fp1) ++ []) o2 List.mem_cons_self (by rw [eS]; exact hS) (fun x hx => by rw [List.append_nil] at hx; exact hx) (by rw [List.append_nil]; exact ndf)
    have own : OwnR G.K w3.S w3.H (.ref a) (.lst (ms ++ ds.map .sh)) (a :: fp1) := by
      rw [eS3, eH3, eS, eH]
      refine .lst hS upd_same ?_
      have k1 : OwnL G.K w1b.S (upd w1b.H a (.lst (vs ++ us))) vs ms fp1 := ol.keep (Ex.refl _) (fun x hx => (ol.at_ x hx).1) fun x hx ob ho => by
        rw [upd_ne (fun z : x = a => nd1.1 (by rw [← z]; exact hx))]
        exact .inl ho
      exact OwnL.appL rb k1
    obtain ⟨w4, l4, eS4, eH4, o4⟩ := OkE.putBack (fr := []) o3 hv own hil
    have z := q.nx w4 σ _ p ((((l1.trans lb.le).trans l2).trans l3).trans l4) o4
    rw [eH4, eH3, eH] at z
    exact z
end
theorem ws_par3 {G : Gx} {ρ : Env} {i j k : Nat} {t1 : TA} {P : Post} (hi : i ∉ G.px) (hj : j ∉ G.px) (hk : k ∉ G.px) (h : WA G t1 ρ fun ds ρ1 => ∃ x y z, ds = [x, y, z] ∧ P.nx (((ρ1.set i (some (.sh x))).set j (some (.sh y))).set k (some (.sh z)))) : WS G (tPar3 i j k t1) ρ P := fun w σ D o e m =>
  h w σ _ o e fun vs w1 ds ρ1 ⟨x, y, z, ed, p⟩ l1 o1 r1 => by
    subst ed
    cases r1 with
    | cons ra r =>
      cases r with
      | cons rb r =>
        cases r with
        | cons rc r =>
          cases r
          obtain ⟨w2, l2, hS2, hH2, _, o2⟩ := o1.setSh ra hi
          obtain ⟨w3, l3, hS3, hH3, _, o3⟩ := o2.setSh (by rw [hS2]; exact rb) hj
          obtain ⟨w4, l4, _, hH4, _, o4⟩ := o3.setSh (by rw [hS3, hS2]; exact rc) hk
          have q := m.nx w4 _ _ p (((l1.trans l2).trans l3).trans l4) o4
          rw [hH4, hH3, hH2] at q
          exact ⟨_, _, _, rfl, q⟩
end DL

namespace DL
open PySem L2 PySem.Spec PyProof.Rows
/-! ### a name's own dict of things of its own: its things handed on to a new dict -/
theorem OwnK.keysE {K : PySem.W.Frag} {S H : Hp} : ∀ {xs : List (Key × V)} {ms : List (Key × M)} {fp : List Addr}, OwnK K S H xs ms fp → xs.map (·.1) = ms.map (·.1)
  | _, _, _, .nil => rfl
  | _, _, _, .cons _ b => by rw [List.map_cons, List.map_cons, b.keysE]
theorem OwnK.filter {K : PySem.W.Frag} {S H : Hp} (p : Key → Bool) : ∀ {xs : List (Key × V)} {ms : List (Key × M)} {fp : List Addr}, OwnK K S H xs ms fp → ∃ fp', fp'.Sublist fp ∧ OwnK K S H (xs.filter fun q => p q.1) (ms.filter fun q => p q.1) fp'
  | _, _, _, .nil => ⟨[], List.Sublist.refl _, .nil⟩
  | _, _, _, @OwnK.cons _ _ _ k v xs m ms f g a b => by
    obtain ⟨g', h1, h2⟩ := OwnK.filter p b
    cases e : p k with
    | true =>
      refine ⟨f ++ g', List.Sublist.append (List.Sublist.refl f) h1, ?_⟩
      rw [List.filter_cons_of_pos (p := fun q : Key × V => p q.1) e, List.filter_cons_of_pos (p := fun q : Key × M => p q.1) e]
      exact .cons a h2
    | false =>
      refine ⟨g', h1.trans (List.sublist_append_right f g), ?_⟩
      rw [List.filter_cons_of_neg (p := fun q : Key × V => p q.1) (by rw [e]; decide), List.filter_cons_of_neg (p := fun q : Key × M => p q.1) (by rw [e]; decide)]
      exact h2
theorem valV_mem {xs : List (Key × V)} (nd : (xs.map (·.1)).Nodup) {k : Key} {v : V} (h : (k, v) ∈ xs) : valV xs k = some v := by
  induction xs with
  | nil => cases h
  | cons p r ih =>
    obtain ⟨n1, n2⟩ := (List.nodup_cons.mp nd)
    rcases (List.mem_cons.mp h) with e | e
    · subst e
      exact valV_pos (p := (k, v)) rfl
    · have ne : p.1 ≠ k := fun z => n1 (List.mem_map.mpr ⟨(k, v), e, z.symm⟩)
      rw [valV_neg ne]
      exact ih n2 e
theorem valV_none {xs : List (Key × V)} {k : Key} (h : ∀ p ∈ xs, p.1 ≠ k) : valV xs k = none := by
  induction xs with
  | nil => rfl
  | cons p r ih =>
    rw [valV_neg (h p List.mem_cons_self)]
    exact ih fun q hq => h q (List.mem_cons_of_mem _ hq)
theorem take_filter1 {α : Type} (f : α → Bool) {l : List α} {i : Nat} {a : α} (h : l[i]? = some a) : (l.take (i + 1)).filter f = (l.take i).filter f ++ if f a = true then [a] else [] := by
  (rw [List.take_add_one, h, List.filter_append])
  cases e : f a <;> simp [e]
theorem keyD_eq {k k2 : Key} (h : keyD k = keyD k2) : k = k2 := by
  have := congrArg dKey h
  rw [dKey_keyD, dKey_keyD] at this
  exact Option.some.inj this
section
variable {G : Gx} {ρ : Env} {i v : Nat} {tt : TT} {PO : M → Env → Prop} {ms : List (Key × M)} {ds : List (Key × D)}
theorem wo_dcTake {keep : Key → Bool} (hv : v ∉ G.px) (hi : ρ[i]? = some (some (.dic ms))) (n : NameOk v (viewE i (.dic ds) ρ)) (hk : (viewE i (.dic ds) ρ)[i]? = some (some (.sh (.dic ds)))) (hiv : i ≠ v) (f : FrzK ms ds) (nd : (ms.map (·.1)).Nodup) (hl : ds.length ≤ 90000)
    (ht : ∀ k d, (k, d) ∈ ds → WT G.calm.nox tt (inE v (viewE i (.dic ds) ρ) (keyD k)) fun b ρ4 => ρ4 = inE v (viewE i (.dic ds) ρ) (keyD k) ∧ b = keep k)
    (hp : PO (.dic (ms.filter fun p => keep p.1)) (ρ.set i none)) : WO G (DC.tLockX (tDc (iKeys (tVar i)) (gName v) tt (tVar v) (tDGet (tVar i) (tVar v)) [v])) ρ PO := fun w σ Q o e q => by
  obtain ⟨wv, vw⟩ := o.viewed hi (.dic f)
  obtain ⟨v0, fp0, w0, hv0, _, _, _, _, om0⟩ := o.takeM hi
  obtain ⟨v1, hv1, r1⟩ := vw.ok.get hk
  have ev : v1 = v0 := by
    rw [hv0] at hv1
    exact (Option.some.inj (Option.some.inj hv1)).symm
  subst ev
  cases om0 with
  | @dic a xs _ fp1 hS0 hH0 ok0 =>
  have ndx : (xs.map (·.1)).Nodup := by rw [ok0.keysE]; exact nd
  cases r1 with
  | @dic _ xs1 _ ha rk =>
  have hHv : wv.H a = some (.dK xs) := by rw [vw.H]; exact hH0
  have ex : xs1 = xs := by
    rcases vw.ok.sub.dk ha with z | ⟨ob, z⟩
    · rw [hHv] at z
      cases z
      rfl
    · rw [hHv] at z
      cases z
  subst ex
  have sa := sub_dK (o := .dK xs1) vw.ok.sub ha hHv
  refine ⟨a, xs1, .inl ⟨hH0, fun od => ?_⟩⟩
  obtain ⟨ol, back⟩ := vw.ok.lock sa hHv od
  generalize hwc : (⟨wv.S, upd wv.H a (.frz od (.dK xs1)), wv.F⟩ : Wd) = wc at ol back
  have eH : upd w.H a (.frz od (.dK xs1)) = wc.H := by rw [← hwc, ← vw.H]
  rw [eH]
  have hfr : wc.H a = some (.frz od (.dK xs1)) := by rw [← hwc]; exact upd_same
  have nFa : a ∉ wc.F := by rw [← hwc]; show a ∉ wv.F; rw [vw.F]; exact List.not_mem_nil
  have it : Items G.calm.K (Itk a od xs1) wc (ds.map fun p => keyD p.1) := by
    rw [rk.keysD]
    exact items_keys hfr nFa
  refine ⟨_, hv1, a, od, rfl, .inl ⟨xs1, hfr, fun Dl hD => ?_⟩⟩
  have sD : wc.S Dl = none := ol.sub.free hD
  have nF : Dl ∉ wc.F := fun z => (ol.at_ Dl z).2 hD
  have lp : LeP wc ⟨wc.S, upd wc.H Dl (.dK []), wc.F⟩ := ⟨Ex.refl _, (Ex.new hD).keeps, fun _ _ z => z, rfl⟩
  have hvs : ∀ j ∈ G.calm.px, j ∉ [v] := fun j hj hm => hv (by rw [List.mem_singleton] at hm; rw [← hm]; exact hj)
  refine ⟨fun j n H' => ∃ w', w'.H = H' ∧ Le wc w' ∧ w'.H Dl = some (.dK ((xs1.take j).filter fun p => keep p.1)) ∧ w'.S Dl = none ∧ Dl ∉ w'.F ∧ Ok G.calm w' σ (viewE i (.dic ds) ρ) ∧ j ≤ ds.length ∧ n = ds.length - j,
    ⟨_, ⟨wc.S, upd wc.H Dl (.dK []), wc.F⟩, rfl, lp.le, upd_same, sD, nF, ol.patch sD nF _, Nat.zero_le _, rfl⟩, ?_⟩
  rintro j m H' ⟨w', rfl, l', hL, hS, hF, o', hj, rfl⟩
  obtain ⟨go, stop⟩ := it w' l' o'.sub
  rw [List.length_map] at stop
  have lx : xs1.length = ds.length := rk.len
  by_cases hlt : j < ds.length
  · obtain ⟨k, d, dk⟩ : ∃ k : Key, ∃ d : D, ds[j]? = some (k, d) := ⟨ds[j].1, ds[j].2, by rw [List.getElem?_eq_getElem hlt]⟩
    have hm : (k, d) ∈ ds := List.mem_of_getElem? dk
    obtain ⟨g1, g2⟩ := go j (keyD k) (by rw [List.getElem?_map, dk]; rfl)
    have kd : xs1.map (fun p => keyD p.1) = ds.map fun p => keyD p.1 := rk.keysD.symm
    obtain ⟨u, hu⟩ : ∃ u, xs1[j]? = some (k, u) := by
      have hx : j < xs1.length := by omega
      have h1 := congrArg (fun l => l[j]?) kd
      simp only [List.getElem?_map, dk, List.getElem?_eq_getElem hx, Option.map_some] at h1
      have h2 : xs1[j].1 = k := keyD_eq (Option.some.inj h1)
      exact ⟨xs1[j].2, by rw [List.getElem?_eq_getElem hx, ← h2]⟩
    have um : (k, u) ∈ xs1 := List.mem_of_getElem? hu
    have hvu : valV xs1 k = some u := valV_mem ndx um
    refine .inr ⟨g1, fun H2 => ∃ w', w'.H = H2 ∧ Le wc w' ∧ w'.H Dl = some (.dK ((xs1.take (j + 1)).filter fun p => keep p.1)) ∧ w'.S Dl = none ∧ Dl ∉ w'.F ∧ Ok G.calm w' σ (viewE i (.dic ds) ρ), fun H2 ⟨w', h1, h2, h3, h4, h5, h6⟩ =>
      ⟨ds.length - (j + 1), by omega, w', h1, h2, h3, h4, h5, h6, hlt, rfl⟩, fun x H2 y => ?_⟩
    obtain ⟨w2, rfl, l2, s2, r2⟩ := g2 x H2 y
    have o2 := o'.grow l2 s2
    obtain ⟨k2, k2f, k2s⟩ := l2.le.stays hL hF hS
    obtain ⟨w3, l3, hS3, hH3, hF3, o3⟩ := o2.wipe hvs
    obtain ⟨k3, k3f, k3s⟩ := l3.stays k2 k2f k2s
    rw [← hH3]
    refine (wg_name (PE_ := fun ρ3 => WT G.calm.nox tt ρ3 fun b ρ4 => ρ4 = inE v (viewE i (.dic ds) ρ) (keyD k) ∧ b = keep k) hv (List.mem_singleton.mpr rfl) (ht k d hm) : WG G.calm.nox (gName v) (keyD k) (wipeE (inL [v]) 0 (viewE i (.dic ds) ρ)) [v] _) w3 _ x _ o3.nox (by show Rep G.calm.K w3.S x _; rw [hS3]; exact r2) fun w4 σ4 ρ3 p4 l4 _ hH4 o4 n4 e4 => ?_
    obtain ⟨k4, k4f, k4s⟩ := l4.stays k3 k3f k3s
    have nσ : σ4.length = σ.length := by rw [n4, wipe_length]
    have eσ : ∀ j, j ∉ [v] → σ4[j]? = σ[j]? := fun j hj => by rw [e4 j hj, wipe_get hj]
    refine ⟨wipe_eq nσ eσ, ?_⟩
    have lw4 : Le w' w4 := (l2.le.trans l3).trans l4
    rw [← hH4]
    refine p4 w4 σ4 _ o4 esc_nox fun b w5 ρ4 p5 l5 o5 => ?_
    obtain ⟨rfl, rfl⟩ := p5
    obtain ⟨k5, k5f, k5s⟩ := l5.stays k4 k4f k4s
    have lw5 : Le w' w5 := lw4.trans l5
    have tf := take_filter1 (fun p : Key × V => keep p.1) hu
    cases hkeep : keep k with
    | false =>
      (rw [if_neg Bool.false_ne_true])
      rw [if_neg (by show ¬ keep k = true; rw [hkeep]; decide), List.append_nil] at tf
      obtain ⟨w6, l6, hS6, hH6, hF6, o6⟩ := OkE.mix o' lw5 o5.unnox nσ eσ
      obtain ⟨k6, k6f, k6s⟩ := l6.stays k5 k5f k5s
      rw [mix_in n] at o6
      exact ⟨w6, hH6, (l'.trans lw5).trans l6, by rw [tf]; exact k6, k6s, k6f, o6⟩
    | true =>
      rw [if_pos rfl]
      rw [if_pos (show keep k = true from hkeep)] at tf
      have hvn : (inE v (viewE i (.dic ds) ρ) (keyD k))[v]? = some (some (.sh (keyD k))) := by
        obtain ⟨z, hz, _⟩ := n
        have : v < (wipeE (inL [v]) 0 (viewE i (.dic ds) ρ)).length := by rw [wipeE_len]; exact (List.getElem?_eq_some_iff.mp hz).1
        exact List.getElem?_set_self this
      obtain ⟨y1, hy1, ry1⟩ := o5.get hvn
      obtain rfl := keyD_inv ry1
      have hsi : σ4[i]? = some (some (.ref a)) := by rw [eσ i (by simp [hiv])]; exact hv1
      have ra : Rd w5.S a (.dK xs1) := by
        have : Rd wc.S a (.dK xs1) := by rw [← hwc]; exact ha
        exact ((l'.trans lw5).s).rd this
      have hkn : ∀ p ∈ (xs1.take j).filter (fun p => keep p.1), p.1 ≠ k := fun p hp e2 => by
        have hp2 := (List.mem_filter.mp hp).1
        obtain ⟨j', hj'⟩ := List.getElem?_of_mem hp2
        have hj2 : j' < j := by
          have := (List.getElem?_eq_some_iff.mp hj').1
          rw [List.length_take] at this
          omega
        rw [List.getElem?_take_of_lt hj2] at hj'
        have h3 : (xs1.map (·.1))[j']? = (xs1.map (·.1))[j]? := by
          rw [List.getElem?_map, List.getElem?_map, hj', hu]
          show some p.1 = some k
          rw [e2]
        have hl3 : j' < (xs1.map (·.1)).length := by rw [List.length_map]; omega
        have := (List.getElem?_inj hl3 ndx).mp h3
        omega
      refine ⟨_, hy1, _, hsi, _, hy1, a, u, rfl, .inl ⟨xs1, k, o5.sub.dk ra, rfl, hvu.symm⟩, _, k, rfl, k5, ?_, ?_⟩
      · have : ((xs1.take j).filter fun p => keep p.1).length ≤ xs1.length := Nat.le_trans (List.length_filter_le ..) (by rw [List.length_take]; omega)
        exact Nat.lt_of_le_of_lt (show _ ≤ 90000 by omega) (by decide)
      rw [putK_new _ (valV_none hkn), ← tf]
      have op := OkE.patch o5.unnox k5s k5f (.dK ((xs1.take (j + 1)).filter fun p => keep p.1))
      have o0 := OkE.patch o' hS hF (.dK ((xs1.take (j + 1)).filter fun p => keep p.1))
      obtain ⟨w8, l8, hS8, hH8, hF8, o8⟩ := OkE.mix (vs := [v]) o0 (Le.patch lw5 k5f k5s _) op nσ eσ
      rw [mix_in n] at o8
      exact ⟨w8, hH8, (Le.patch1 (l'.trans lw5) hD _).trans l8, by rw [hH8]; exact upd_same, by rw [hS8]; exact k5s, fun z => k5f (hF8 Dl z), o8⟩
  · have ej : j = ds.length := by omega
    subst ej
    refine .inl ⟨stop, ?_⟩
    rw [← lx, List.take_length] at hL
    obtain ⟨b1, b2, b3, _⟩ := back w' σ _ _ l' o'
    refine ⟨b1, ?_⟩
    obtain ⟨S3, s0, _, l3, o3⟩ := vw.back ⟨w'.S, upd w'.H a (.dK xs1), w'.F⟩ b2 b3.sub
    obtain ⟨v4, fp4, w4, hv4, l4, eS4, eH4, o4, om4⟩ := o3.takeM hi
    have ev : v4 = .ref a := by
      rw [hv1] at hv4
      exact (Option.some.inj (Option.some.inj hv4)).symm
    subst ev
    cases om4 with
    | @dic _ xs4 _ fp5 hS4 hH4 ok4 =>
    have ex : xs4 = xs1 := by
      have hH4 : upd w'.H a (.dK xs1) a = some (.dK xs4) := hH4
      rw [upd_same] at hH4
      cases hH4
      rfl
    subst ex
    obtain ⟨fp6, sl6, ok6⟩ := ok4.filter keep
    have neD : Dl ≠ a := fun z => by
      rw [z, hfr] at hD
      cases hD
    have hDw : w.H Dl = none := by
      have : upd wv.H a (.frz od (.dK xs4)) Dl = none := by
        have := hD
        rw [← hwc] at this
        exact this
      rw [upd_ne neD, vw.H] at this
      exact this
    have hL4 : w4.H Dl = some (.dK (xs4.filter fun p => keep p.1)) := by
      rw [eH4]
      show upd w'.H a _ Dl = _
      rw [upd_ne neD]
      exact hL
    have hS5 : w4.S Dl = none := by
      rw [eS4]
      exact s0 Dl hS
    obtain ⟨fps, en, ef⟩ := o4.env
    have nd4 := o4.nd
    rw [ef] at nd4
    obtain ⟨n1, n2, n3⟩ := List.nodup_append.mp nd4
    have lw := l3.trans l4
    have nD : ∀ x ∈ w4.F, x ≠ Dl := fun x hx z => by
      subst z
      rcases l4.f x hx with y | y
      · exact absurd hDw (o.at_ x y).2
      · have y : upd w'.H a (.dK xs4) x = none := y
        rw [upd_ne neD, hL] at y
        cases y
    have sub6 : ∀ x ∈ fp6, x ∈ fp5 := fun x hx => sl6.subset hx
    refine q (.ref Dl) ⟨w4.S, w4.H, fps.flatten ++ (Dl :: fp6)⟩ _ _ (Dl :: fp6) hp ⟨lw.s, lw.h, lw.n, fun x hx => ?_⟩ ⟨o4.sub, ⟨fps, en, rfl⟩, ?_, o4.px⟩ ?_ |> fun z => by
      have z : Q (.ref Dl) w4.H := z
      rw [eH4] at z
      exact z
    · rcases List.mem_append.mp hx with y | y
      · exact lw.f x (by rw [ef]; exact List.mem_append_left _ y)
      · rcases List.mem_cons.mp y with rfl | y
        · exact .inr hDw
        · exact lw.f x (by rw [ef]; exact List.mem_append_right _ (List.mem_cons_of_mem _ (sub6 x y)))
    · show (fps.flatten ++ (Dl :: fp6)).Nodup
      refine List.nodup_append.mpr ⟨n1, List.nodup_cons.mpr ⟨fun z => nD Dl (by rw [ef]; exact List.mem_append_right _ (List.mem_cons_of_mem _ (sub6 Dl z))) rfl, sl6.nodup (List.nodup_cons.mp n2).2⟩, fun x hx y hy z => ?_⟩
      subst z
      rcases List.mem_cons.mp hy with z | z
      · exact nD x (by rw [ef]; exact List.mem_append_left _ hx) z
      · exact n3 x hx x (List.mem_cons_of_mem _ (sub6 x z)) rfl
    · refine .dic hS5 hL4 ?_
      rw [eS4, eH4]
      exact ok6
end
/-! ### d[k].clear() and d.clear(), d a name's own dict of dicts of its own -/
def setM : List (Key × M) → Key → M → List (Key × M)
  | [], _, _ => []
  | p :: r, k, m => if p.1 = k then (p.1, m) :: r else p :: setM r k m
def lookM : List (Key × M) → Key → Option M
  | [], _ => none
  | p :: r, k => if p.1 = k then some p.2 else lookM r k
theorem OwnK.clearAt {K : PySem.W.Frag} {S H : Hp} {k : Key} {mi : List (Key × M)} : ∀ {xs : List (Key × V)} {ms : List (Key × M)} {fp : List Addr}, OwnK K S H xs ms fp → fp.Nodup → lookM ms k = some (.dic mi) →
    ∃ l ys fp', valV xs k = some (.ref l) ∧ l ∈ fp ∧ S l = none ∧ H l = some (.dK ys) ∧ (∀ x ∈ fp', x ∈ fp) ∧ fp'.Nodup ∧ OwnK K S (upd H l (.dK [])) xs (setM ms k (.dic [])) fp'
  | _, _, _, .nil, _, h => by cases h
  | _, _, _, @OwnK.cons _ _ _ k0 v xs m ms f g a b, nd, h => by
    obtain ⟨n1, n2, n3⟩ := List.nodup_append.mp nd
    have h : (if k0 = k then some m else lookM ms k) = some (.dic mi) := h
    by_cases e : k0 = k
    · rw [if_pos e] at h
      have h := Option.some.inj h
      subst h
      cases a with
      | @dic l ys _ f1 hS hH r =>
      refine ⟨l, ys, [l] ++ g, valV_pos (p := (k0, V.ref l)) e, List.mem_append_left _ List.mem_cons_self, hS, hH, fun x hx => ?_, ?_, ?_⟩
      · rcases List.mem_append.mp hx with z | z
        · (rw [List.mem_singleton.mp z])
          exact List.mem_append_left _ List.mem_cons_self
        · exact List.mem_append_right _ z
      · exact List.nodup_append.mpr ⟨by simp, n2, fun x hx y hy => by
          rw [List.mem_singleton.mp hx]
          exact n3 l List.mem_cons_self y hy⟩
      · show OwnK K S _ ((k0, V.ref l) :: xs) (if k0 = k then (k0, M.dic []) :: ms else _) _
        rw [if_pos e]
        exact .cons (.dic hS upd_same .nil) (b.keep (Ex.refl _) (fun x hx => (b.at_ x hx).1) fun x hx u hu => by
          rw [upd_ne (fun z => n3 l List.mem_cons_self x hx z.symm)]
          exact .inl hu)
    · rw [if_neg e] at h
      obtain ⟨l, ys, g', h1, h2, h3, h4, h5, h6, h7⟩ := OwnK.clearAt b n2 h
      refine ⟨l, ys, f ++ g', by rw [valV_neg (p := (k0, v)) e]; exact h1, List.mem_append_right _ h2, h3, h4, fun x hx => ?_, ?_, ?_⟩
      · rcases List.mem_append.mp hx with z | z
        · exact (List.mem_append_left _ z)
        · exact List.mem_append_right _ (h5 x z)
      · exact List.nodup_append.mpr ⟨n1, h6, fun x hx y hy => n3 x hx y (h5 y hy)⟩
      · show OwnK K S _ ((k0, v) :: xs) (if k0 = k then _ else (k0, m) :: setM ms k (.dic [])) _
        rw [if_neg e]
        exact .cons (a.keep (Ex.refl _) (fun x hx => (a.at_ x hx).1) fun x hx u hu => by
          rw [upd_ne (fun z => n3 x hx l h2 z)]
          exact .inl hu) h7
section
variable {G : Gx} {ρ : Env} {i : Nat} {ty : TE} {PS_ : Post}
theorem ws_clearAt (h0 : ∃ ms, ρ[i]? = some (some (.dic ms))) (h : W G ty ρ fun y ρ1 => ∃ ms k mi, ρ1[i]? = some (some (.dic ms)) ∧ y = keyD k ∧ lookM ms k = some (.dic mi) ∧ PS_.nx (ρ1.set i (some (.dic (setM ms k (.dic [])))))) :
    WS G (tDrop (tBM0 G.K "dict" rDClear (tDGet (tVar i) ty))) ρ PS_ := fun w σ D o e q => by
  obtain ⟨ms0, hm0⟩ := h0
  obtain ⟨v0, fp0, w0, hv0, _, _, _, _, om0⟩ := o.takeM hm0
  refine ⟨v0, hv0, h w σ _ o e fun u w1 y ρ1 ⟨ms, k, mi, hi, ey, hk, p⟩ l1 o1 r1 => ?_⟩
  subst ey
  obtain rfl := keyD_inv r1
  obtain ⟨v', fp, w2, hv', l2, eS, eH, o2, om⟩ := o1.takeM hi
  obtain rfl : v' = v0 := by
    rw [hv0] at hv'
    exact (Option.some.inj (Option.some.inj hv')).symm
  have hil : i < ρ1.length := (List.getElem?_eq_some_iff.mp hi).1
  have ndf := o2.nodupFx
  cases om with
  | @dic a xs _ fp1 hS hH ok =>
  obtain ⟨na, nd1⟩ := List.nodup_cons.mp ndf
  obtain ⟨l, ys, fp', c1, c2, c3, c4, c5, c6, c7⟩ := ok.clearAt nd1 hk
  refine ⟨a, .ref l, rfl, .inl ⟨xs, k, .inl hH, rfl, c1.symm⟩, .inr (.inr (.inl ⟨rfl, .inl ⟨ys, c4⟩⟩)), l, ys, rfl, rfl, c4, ?_⟩
  have nal : a ≠ l := fun z => na (by rw [z]; exact c2)
  obtain ⟨w3, l3, eS3, eH3, o3⟩ := OkE.write (a := l) (ob := .dK []) (fp' := (a :: fp') ++ []) o2 (List.mem_cons_of_mem _ c2) (by rw [eS]; exact c3) (fun x hx => by
    rw [List.append_nil] at hx
    rcases (List.mem_cons.mp hx) with rfl | hx
    · exact List.mem_cons_self
    · exact List.mem_cons_of_mem _ (c5 x hx)) (by
    rw [List.append_nil]
    exact List.nodup_cons.mpr ⟨fun z => na (c5 a z), c6⟩)
  have own : OwnR G.K w3.S w3.H (.ref a) (.dic (setM ms k (.dic []))) (a :: fp') := by
    rw [eS3, eH3, eS, eH]
    exact .dic hS (by rw [upd_ne nal]; exact hH) c7
  obtain ⟨w4, l4, eS4, eH4, o4⟩ := OkE.putBack (fr := []) o3 hv' own hil
  have z := q.nx w4 σ _ p (((l1.trans l2).trans l3).trans l4) o4
  rw [eH4, eH3, eH] at z
  exact z
theorem ws_clearM {ms : List (Key × M)} (hi : ρ[i]? = some (some (.dic ms))) (p : PS_.nx (ρ.set i (some (.dic [])))) : WS G (tDrop (tBM0 G.K "dict" rDClear (tVar i))) ρ PS_ := fun w σ D o e q => by
  obtain ⟨v', fp, w2, hv', l2, eS, eH, o2, om⟩ := o.takeM hi
  have hil : i < ρ.length := (List.getElem?_eq_some_iff.mp hi).1
  cases om with
  | @dic a xs _ fp1 hS hH ok =>
  refine ⟨_, hv', .inr (.inr (.inl ⟨rfl, .inl ⟨xs, hH⟩⟩)), a, xs, rfl, rfl, hH, ?_⟩
  obtain ⟨w3, l3, eS3, eH3, o3⟩ := OkE.write (a := a) (ob := .dK []) (fp' := [a] ++ []) o2 List.mem_cons_self (by rw [eS]; exact hS) (fun x hx => by
    rw [List.append_nil] at hx
    rw [List.mem_singleton.mp hx]
    exact List.mem_cons_self) (by simp)
  have own : OwnR G.K w3.S w3.H (.ref a) (.dic []) [a] := by
    rw [eS3, eH3, eS, eH]
    exact .dic hS upd_same .nil
  obtain ⟨w4, l4, eS4, eH4, o4⟩ := OkE.putBack (fr := []) o3 hv' own hil
  have z := q.nx w4 σ _ p ((l2.trans l3).trans l4) o4
  rw [eH4, eH3, eH] at z
  exact z
theorem rc_intB {K} {b : Bool} {k : D → Prop} (p : k (.int (if b = true then 1 else 0))) : RC K (fun xs H Q => (∃ i, xs = [.int i] ∧ Q (.int i) H) ∨ ∃ k, xs = [.bl k] ∧ Q (.int (if k then 1 else 0)) H) [.bl b] k := fun w vs Q s r q => by
  obtain ⟨v, rfl, r1⟩ := r.one
  cases r1.bl_inv
  exact .inr ⟨b, rfl, q _ w _ p (LeP.refl w) s (.int _)⟩
end
end DL

namespace DL
open PySem L2 PySem.Spec PyProof.Rows
theorem cutD_from {ds : List D} {n : Int} (h0 : 0 ≤ n) (h1 : n ≤ ds.length) : DL.cutD ds (some n) none = ds.drop n.toNat := by
  have e : HT.sIx ds.length 0 (some n) = n.toNat := by
    show (if n < 0 then (n + (ds.length : Int)).toNat else min n.toNat ds.length) = n.toNat
    rw [if_neg (by omega)]
    omega
  unfold DL.cutD
  rw [e]
  exact List.take_of_length_le (by rw [List.length_drop]; exact Nat.le_refl _)
section
variable {G : Gx} {ρ : Env} {t : TA} {PO : M → Env → Prop}
/-- list(d), a new list of a dict's keys -/
theorem wo_listAD (h : WA G t ρ fun ds ρ1 => ∃ kvs, ds = [.dic kvs] ∧ PO (.lst ((kvs.map fun kv => keyD kv.1).map .sh)) ρ1) : WO G (tCB (gListA G.K) t) ρ PO := fun w σ Q o e q =>
  h w σ _ o e fun vs w1 ds ρ1 ⟨kvs, ex, p⟩ l1 o1 r => by
    subst ex
    obtain ⟨v, rfl, r1⟩ := r.one
    cases r1 with
    | @dic a xs _ ha rk =>
      refine .inr ⟨a, xs, rfl, o1.sub.dk ha, fun p' hp => ?_⟩
      have e : (xs.map fun kv => kV kv.1) = (kvs.map (·.1)).map kV := by
        rw [← rk.keys, List.map_map]
        rfl
      have e2 : (kvs.map fun kv => keyD kv.1) = (kvs.map (·.1)).map keyD := by rw [List.map_map]; rfl
      rw [e]
      rw [e2] at p
      exact q (.ref p') (w1.own p' (.lst ((kvs.map (·.1)).map kV))) _ ρ1 [p'] p (l1.trans (Wd.le_own hp)) (o1.own hp) (.lst (o1.sub.free hp) upd_same (ownL_of (repL_keys (kvs.map (·.1)))))
/-- e.clear(), a new dict of its own -/
theorem ws_clearE {te : TE} {PS_ : Post} (h : WO G te ρ fun m ρ1 => ∃ ms, m = .dic ms ∧ PS_.nx ρ1) : WS G (tDrop (tBM0 G.K "dict" rDClear te)) ρ PS_ := fun w σ D o e q =>
  h w σ _ o e fun v w1 m ρ1 fp ⟨ms, em, p⟩ l1 o1 r1 => by
    subst em
    cases r1 with
    | @dic a xs _ fp1 hS hH ok =>
      refine ⟨.inr (.inr (.inl ⟨rfl, .inl ⟨xs, hH⟩⟩)), a, xs, rfl, rfl, hH, ?_⟩
      obtain ⟨w3, l3, eS3, eH3, o3⟩ := OkE.write (a := a) (ob := .dK []) (fp' := []) o1 List.mem_cons_self hS (fun x hx => by cases hx) .nil
      have z := q.nx w3 σ _ p (l1.trans l3) o3
      rw [eH3] at z
      exact z
end
end DL

namespace DL
open PySem L2 PySem.Spec PyProof.Rows
/-! ### zip of a list or tuple with a list or tuple -/
/-- true: a tuple stands at a, false: a list -/
def Sq2 (K : PySem.W.Frag) (H : Hp) : Bool → Addr → List V → Prop
  | true, a, xs => SqT K H a xs
  | false, a, xs => SqL K H a xs
def It2 (h : Heap) : Bool → Addr → Addr → Nat → Prop
  | true, it, a, i => h.IsTupleIter it a i
  | false, it, a, i => h.IsListIter it a i
def Is2 (h : Heap) : Bool → Addr → Array Value → Prop
  | true, a, its => h.IsTuple a its
  | false, a, its => h.IsList a its
theorem It2.of {h h' : Heap} {t : Bool} {it a : Addr} {i : Nat} (x : It2 h t it a i) (k : ∀ o, h.get? it = some o → h'.get? it = some o) : It2 h' t it a i := by
  cases t
  · exact Heap.IsListIter.at x k
  · exact Heap.IsTupleIter.at x k
theorem It2.obj {h : Heap} {t : Bool} {it a : Addr} {i : Nat} (x : It2 h t it a i) : ∃ o, h.get? it = some o ∧ ∀ v, o.data ≠ .cell v := by
  cases t
  · obtain ⟨o, e, _, d⟩ := x
    exact (⟨o, e, fun v z => by rw [d] at z; cases z⟩)
  · obtain ⟨o, e, _, d⟩ := x
    exact (⟨o, e, fun v z => by rw [d] at z; cases z⟩)
theorem draws2 {prog : Program} {w : World} {A : Around} (hh : A.handled = none) {it l : Addr} (hne : l ≠ it) (items : Array Value) (t : Bool) :
    Draws prog w A it [it, l] items.size (fun i v => items[i]? = some v) (fun i h => It2 h t it l i ∧ Is2 h t l items) := by
  cases t
  · exact Draws.list hh it l hne items
  · exact Draws.tuple hh it l hne items
theorem inv2 {X : Cx} {pins : List (Addr × Obj)} {σ : L2.St} {H : Hp} {s : Shared} (I : Inv X pins σ H s) {t : Bool} {a : Addr} {xs : List V} (h : Sq2 X.K H t a xs) : ∃ its : List Value, Vals xs its ∧ Is2 s.heap t a its.toArray ∧ a < s.heap.objs.size := by
  cases t
  · obtain ⟨its, rv, p, _⟩ := I.list h
    exact ⟨its, rv, p.isList, p.lt⟩
  · obtain ⟨its, rv, p, _⟩ := I.tuple h
    obtain ⟨o, ho, _⟩ := id p
    exact ⟨its, rv, p, Heap.lt_size ho⟩
theorem inj2 {X : Cx} {pins : List (Addr × Obj)} {σ : L2.St} {H : Hp} {s : Shared} (I : Inv X pins σ H s) {t : Bool} {a : Addr} {xs ys : List V} (h : Sq2 X.K H t a xs) (k : Sq2 X.K H t a ys) : xs = ys := by
  cases t
  · exact I.list_inj h k
  · exact I.tuple_inj h k
/-- pairs, one by one -/
def Itz2 (K : PySem.W.Frag) (t1 t2 : Bool) (a b : Addr) : It :=
  ⟨fun i H => ∃ xs ys x y, Sq2 K H t1 a xs ∧ Sq2 K H t2 b ys ∧ xs[i]? = some x ∧ ys[i]? = some y,
    fun i H v H' => ∃ T x y, v = .ref T ∧ H T = none ∧ H' = upd H T (.tup [x, y]) ∧ (∀ xs, Sq2 K H t1 a xs → xs[i]? = some x) ∧ ∀ ys, Sq2 K H t2 b ys → ys[i]? = some y,
    fun i H => ∃ xs ys, Sq2 K H t1 a xs ∧ Sq2 K H t2 b ys ∧ i ≤ xs.length ∧ i ≤ ys.length ∧ (xs.length ≤ i ∨ ys.length ≤ i)⟩
theorem Vals.size {xs : List V} {its : List Value} (r : Vals xs its) : its.toArray.size = xs.length := by
  rw [List.size_toArray]
  exact (Paired.length r).symm
theorem turn2 {P : Program} {w : World} {K : PySem.W.Frag} {es : List Expr} {kk : Nat} {ps : Pos} {t1 t2 : Bool} {a b z p q m n : Addr} (S : ZipSep2 z p q m n [m, a] [n, b]) (na : a ≠ m) (nb : b ≠ n) :
    L2.Turn P w K (.Tuple es kk ps) (Itz2 K t1 t2 a b) [z, p, q, m, n] z (fun i h => IsZip h z p q .none ∧ IsTupOf2 h p (.ref m) (.ref n) ∧ (∃ x y, IsTupOf2 h q x y) ∧ It2 h t1 m a i ∧ It2 h t2 n b i) where
  mem := List.mem_cons_self
  obj := fun i h ⟨hz, hp, ⟨_, _, hq⟩, h1, h2⟩ c hc => by
    simp only [List.mem_cons, List.not_mem_nil, or_false] at hc
    rcases hc with rfl | rfl | rfl | rfl | rfl
    · exact ⟨_, hz, fun v e => by cases e⟩
    · exact ⟨_, hp, fun v e => by cases e⟩
    · exact ⟨_, hq, fun v e => by cases e⟩
    · exact h1.obj
    · exact h2.obj
  keep := fun i h h' ⟨hz, hp, ⟨x, y, hq⟩, h1, h2⟩ k => ⟨k z (by simp) _ hz, k p (by simp) _ hp, ⟨x, y, k q (by simp) _ hq⟩, h1.of fun o e => k m (by simp) o e, h2.of fun o e => k n (by simp) o e⟩
  item := fun X eP ew eK hc i pins s σ H E I hf st hg => by
    subst eP ew eK
    obtain ⟨hz, hp, ⟨x0, y0, hq⟩, h1, h2⟩ := st
    obtain ⟨xs, ys, x, y, sx, sy, hx, hy⟩ := hg
    obtain ⟨its, rv, g1, _⟩ := inv2 I sx
    obtain ⟨jts, rw2, g2, _⟩ := inv2 I sy
    have hh : X.A.in1.handled = none := I.ok.hd hc
    have e1 := Vals.size rv
    have e2 := Vals.size rw2
    have l1 : i < its.toArray.size := by rw [e1]; exact (List.getElem?_eq_some_iff.mp hx).1
    have l2 : i < jts.toArray.size := by rw [e2]; exact (List.getElem?_eq_some_iff.mp hy).1
    have zl : z < s.heap.objs.size := Heap.lt_size hz
    refine wpAny_pyNext_zipD2_item S (draws2 hh na its.toArray t1) (draws2 hh nb jts.toArray t2) hz hp hq ⟨h1, g1⟩ ⟨h2, g2⟩ l1 l2 fun u v h' tk hu hv z' q' k1 k2 hT _ hk => ⟨_, rfl, ?_⟩
    refine wpAny_letOwnedTupleGo_zip (s := { s with heap := h', toks := tk }) z' fun h'' z'' sb => ?_
    obtain ⟨u', hu', ru⟩ := rv.get hx
    obtain ⟨v', hv', rv'⟩ := rw2.get hy
    obtain rfl : u = u' := by
      rw [List.getElem?_toArray, hu'] at hu
      exact (Option.some.inj hu).symm
    obtain rfl : v = v' := by
      rw [List.getElem?_toArray, hv'] at hv
      exact (Option.some.inj hv).symm
    have stay : ∀ c o, c ≠ z → h'.get? c = some o → h''.get? c = some o := fun c o hne e => (sb.2 c hne).trans e
    have T2 := stay _ _ (Nat.ne_of_gt zl) hT
    have I1 : Inv X pins σ (upd H s.heap.objs.size (.tup [x, y])) { s with heap := h'', toks := tk } :=
      I.turnedNew (t' := tk) (ch := [z, p, q, m, n]) (fun c o hb e => stay c o (fun w => hb (by rw [w]; exact List.mem_cons_self)) (hk c o (fun w => hb (by simp [w])) (fun w => hb (by simp [w])) (fun w => hb (by simp [w])) (fun w => hb (by simp [w])) e)) hf (Nat.le_refl _)
        ⟨(by show 2 ≤ sizeLine; decide), [u, v], .cons ru (.cons rv' .nil), ⟨_, T2, rfl, _, rfl⟩⟩
    refine ⟨.ref s.heap.objs.size, _, I1, rfl, ⟨s.heap.objs.size, x, y, rfl, I.hok.fresh (Nat.le_refl _), rfl, fun l hl => by rw [inj2 I hl sx]; exact hx, fun l hl => by rw [inj2 I hl sy]; exact hy⟩, ⟨z'', stay _ _ S.TIz (hk _ _ S.TIz S.TITO S.TIi1 S.TIi2 hp), ⟨u, v, stay _ _ S.TOz q'⟩, k1.1.of fun o e => stay _ _ S.zi1.symm e, k2.1.of fun o e => stay _ _ S.zi2.symm e⟩, fun c hcm => ?_⟩
    have lt : c < s.heap.objs.size := by
      simp only [List.mem_cons, List.not_mem_nil, or_false] at hcm
      rcases hcm with rfl | rfl | rfl | rfl | rfl
      · exact zl
      · exact Heap.lt_size hp
      · exact Heap.lt_size hq
      · obtain ⟨_, e, _⟩ := h1.obj
        exact Heap.lt_size e
      · obtain ⟨_, e, _⟩ := h2.obj
        exact Heap.lt_size e
    rw [upd_ne (Nat.ne_of_lt lt)]
    exact (hf c hcm).1
  done := fun X eP ew eK hc i pins s σ H E I hf st hg => by
    subst eP ew eK
    obtain ⟨hz, hp, ⟨x0, y0, hq⟩, h1, h2⟩ := st
    obtain ⟨xs, ys, sx, sy, hx, hy, hxy⟩ := hg
    obtain ⟨its, rv, g1, _⟩ := inv2 I sx
    obtain ⟨jts, rw2, g2, _⟩ := inv2 I sy
    have hh : X.A.in1.handled = none := I.ok.hd hc
    have e1 := Vals.size rv
    have e2 := Vals.size rw2
    exact wpAny_pyNext_zipD2_end S (draws2 hh na its.toArray t1) (draws2 hh nb jts.toArray t2) hz hp hq ⟨h1, g1⟩ ⟨h2, g2⟩ (by omega) (by omega) (hxy.elim (fun z => .inl (by omega)) fun z => .inr (by omega)) fun h' tk hk => ⟨rfl, I.turnedL (t' := tk) (ch := [z, p, q, m, n]) (fun c o hb e => hk c o (fun w => hb (by simp [w])) (fun w => hb (by simp [w])) (fun w => hb (by simp [w])) (fun w => hb (by simp [w])) e) hf⟩
  self := fun _ _ _ _ _ ⟨hz, _⟩ hq => wpAny_pyIter_zip hz hq
def iZip2 (K : PySem.W.Frag) (ta : TA) : TI := fun σ H R => ta σ H fun vs H1 => ∃ t1 t2 a b xs ys, vs = [.ref a, .ref b] ∧ Sq2 K H1 t1 a xs ∧ Sq2 K H1 t2 b ys ∧ R (Itz2 K t1 t2 a b) H1
theorem begins2 {H : Heap} (t : Bool) (a : Addr) (its : Array Value) : ∃ o, Begins (.ref a) o (fun h => Is2 h t a its) ∧ ∀ (h' : Heap) (m : Addr), h'.get? m = some o → It2 h' t m a 0 := by
  cases t
  · exact ⟨_, begins_list a its, fun h' m e => ⟨_, e, rfl, rfl⟩⟩
  · exact ⟨_, begins_tuple a its, fun h' m e => ⟨_, e, rfl, rfl⟩⟩
theorem sep2 (n a b : Nat) (la : a < n) (lb : b < n) : ZipSep2 (n + 4) (n + 2) (n + 3) n (n + 1) [n, a] [n + 1, b] := by
  have no : ∀ {x y z : Nat}, x ≠ y → x ≠ z → ¬ x ∈ [y, z] := fun h1 h2 h => by
    rcases List.mem_cons.mp h with h | h
    · exact h1 h
    · exact h2 (List.mem_singleton.mp h)
  have ne : ∀ {x y : Nat}, (x < y ∨ y < x) → x ≠ y := fun h => h.elim Nat.ne_of_lt Nat.ne_of_gt
  exact ⟨ne (by omega), ne (by omega), ne (by omega), ne (by omega), List.mem_cons_self, no (ne (by omega)) (ne (by omega)), no (ne (by omega)) (ne (by omega)), ne (by omega), List.mem_cons_self, no (ne (by omega)) (ne (by omega)), no (ne (by omega)) (ne (by omega)), no (ne (by omega)) (ne (by omega)), no (ne (by omega)) (ne (by omega))⟩
theorem pi_zip2 {X : Cx} {e e2 : Expr} {ta : TA} {p pos tpos : Pos} {es : List Expr} {kk : Nat} (hg : Gl X "zip") (hm : X.mg "zip" = none) (ha : PA X [e, e2] ta)
    (plain : starEach [e, e2] X.env = (false, eval e X.env) :: starEach [e2] X.env := by rfl)
    (rest : (backTo pos (starEach [e2] X.env)).any (·.1) = false := by rfl) :
    PI X (.Tuple es kk tpos) (.Call (.Name "zip" p) [e, e2] [] pos) (iZip2 X.K ta) := by
  refine (⟨fun pins s σ H R I h => ?_⟩)
  refine Call_ (ld_blt I hg hm PyProof.Rows.boot_zip ?_)
  refine PyProof.Rows.callWith_type1 (thn (ha.run pos pins s σ H _ I h) fun us s1 ⟨vs, H1, I1, r1, t1, t2, a, b, xs, ys, ev, sx, sy, q⟩ => ?_) plain rest
  subst ev
  obtain ⟨u, v, rfl, ru, rv⟩ : ∃ u v, us = [u, v] ∧ RelV (.ref a) u ∧ RelV (.ref b) v := by
    cases r1 with
    | cons r rr =>
      cases rr with
      | cons r' rr =>
        cases rr
        exact ⟨_, _, rfl, r, r'⟩
  obtain rfl : u = .ref a := ru
  obtain rfl : v = .ref b := rv
  obtain ⟨its, _, g1, la⟩ := inv2 I1 sx
  obtain ⟨jts, _, g2, lb⟩ := inv2 I1 sy
  obtain ⟨o1, B1, n1⟩ := begins2 (H := s1.heap) t1 a its.toArray
  obtain ⟨o2, B2, n2⟩ := begins2 (H := s1.heap) t2 b jts.toArray
  refine zip_begins2 B1 B2 g1 g2 fun h' hz hp hq d1 d2 _ hk => wpAny_pyIter_zip hz ?_
  have fr : ∀ c ∈ [s1.heap.objs.size + 4, s1.heap.objs.size + 2, s1.heap.objs.size + 3, s1.heap.objs.size, s1.heap.objs.size + 1], s1.heap.objs.size ≤ c := fun c hc => by
    simp only [List.mem_cons, List.not_mem_nil, or_false] at hc
    omega
  have S := sep2 s1.heap.objs.size a b la lb
  exact ⟨_, _, _, _, H1, rfl, I1.kept (t' := s1.toks) hk, turn2 S (Nat.ne_of_lt la) (Nat.ne_of_lt (Nat.lt_succ_of_lt lb)), ⟨hz, hp, ⟨_, _, hq⟩, n1 h' _ d1, n2 h' _ d2⟩, fun c hc => I1.fpOk (fr c hc) (I1.hok.fresh (fr c hc)), q⟩
/-! ### at the data -/
def pairsD (xs ys : List D) : List D := (xs.zip ys).map fun p => .tup [p.1, p.2]
section
variable {G : Gx} {ρ : Env} {t : TA} {PI_ : List D → Env → Prop}
theorem sq2_of {K : PySem.W.Frag} {S : Hp} {v : V} {x : D} {xs : List D} (h : IsS x xs) (r : Rep K S v x) : ∃ (t : Bool) (a : Addr) (us : List V), v = .ref a ∧ Sq2 K S t a us ∧ RepL K S us xs := by
  rcases h with h | rfl
  · obtain ⟨a, us, rfl, h1, r1⟩ := Rep.isL_inv h r
    exact ⟨false, a, us, rfl, h1, r1⟩
  · obtain ⟨a, us, rfl, h1, r1⟩ := r.tup_inv
    exact ⟨true, a, us, rfl, h1, r1⟩
theorem Sq2.up {K : PySem.W.Frag} {w w2 : Wd} {t : Bool} {a : Addr} {us : List V} (h : Sq2 K w.S t a us) (l : Ex w.S w2.S) (s : Sub w2.S w2.H) : Sq2 K w2.H t a us := by
  cases t
  · exact s.sl (l.sl h)
  · exact s.st (l.st h)
theorem wi_zipG (h : WA G t ρ fun ds ρ1 => ∃ x y xs ys, ds = [x, y] ∧ IsS x xs ∧ IsS y ys ∧ PI_ (pairsD xs ys) ρ1) : WI G (iZip2 G.K t) ρ PI_ := fun w σ R o e q =>
  h w σ _ o e fun vs w1 ds ρ1 ⟨x, y, xs, ys, ed, hx, hy, p⟩ l1 o1 r => by
    subst ed
    obtain ⟨u, v, rfl, ru, rv⟩ := r.two
    obtain ⟨t1, a, us, rfl, s1, r1⟩ := sq2_of hx ru
    obtain ⟨t2, b, vs, rfl, s2, r2⟩ := sq2_of hy rv
    refine ⟨t1, t2, a, b, us, vs, rfl, s1.up (Ex.refl _) o1.sub, s2.up (Ex.refl _) o1.sub, q _ w1 _ ρ1 p l1 o1 fun w2 l2 sb => ⟨fun i d hd => ?_, us, vs, s1.up l2.s sb, s2.up l2.s sb, ?_, ?_, ?_⟩⟩
    · unfold pairsD at hd
      rw [List.getElem?_map] at hd
      obtain ⟨⟨d1, d2⟩, hz, rfl⟩ := Option.map_eq_some_iff.mp hd
      obtain ⟨h1, h2⟩ := List.getElem?_zip_eq_some.mp hz
      obtain ⟨u, hu, q1⟩ := r1.get h1
      obtain ⟨v, hv, q2⟩ := r2.get h2
      refine ⟨⟨us, vs, u, v, s1.up l2.s sb, s2.up l2.s sb, hu, hv⟩, fun z H' ⟨T, x', y', ez, hn, eH, k1, k2⟩ => ?_⟩
      subst ez
      obtain rfl : u = x' := Option.some.inj (hu.symm.trans (k1 us (s1.up l2.s sb)))
      obtain rfl : v = y' := Option.some.inj (hv.symm.trans (k2 vs (s2.up l2.s sb)))
      obtain ⟨a1, a2, a3⟩ := Wd.repNewT (K := G.K) (xs := [d1, d2]) sb hn (.cons (q1.mono l2.s) (.cons (q2.mono l2.s) .nil))
      exact ⟨_, eH.symm, a1, a2, a3⟩
    · unfold pairsD
      rw [List.length_map, List.length_zip, r1.len]
      exact Nat.min_le_left ..
    · unfold pairsD
      rw [List.length_map, List.length_zip, r2.len]
      exact Nat.min_le_right ..
    · unfold pairsD
      rw [List.length_map, List.length_zip, r1.len, r2.len]
      omega
theorem wi_zip (h : WA G t ρ fun ds ρ1 => ∃ x y xs ys, ds = [x, y] ∧ IsS x xs ∧ IsS y ys ∧ xs.length = ys.length ∧ PI_ (pairsD xs ys) ρ1) : WI G (iZip2 G.K t) ρ PI_ :=
  wi_zipG fun w σ Q o e q => h w σ Q o e fun vs w1 ds ρ1 ⟨x, y, xs, ys, ed, hx, hy, _, p⟩ l1 o1 r => q vs w1 ds ρ1 ⟨x, y, xs, ys, ed, hx, hy, p⟩ l1 o1 r
end
/-! ### t + u of tuples, empty or not -/
theorem o_catAK {X : Cx} {K : PySem.W.Frag} (hk : X.K = K) : OpR X (binaryOp .Add) (rCatA K) := hk ▸ op_catA
theorem rd_catA {K : PySem.W.Frag} {xs ys : List D} {k : D → Prop} (h : xs.length + ys.length ≤ 100000) (p : k (.tup (xs ++ ys))) : RD K (rCatA K) (.tup xs) (.tup ys) k := fun w v u Q s rx ry q => by
  obtain ⟨l, vs, rfl, h1, r1⟩ := rx.tup_inv
  obtain ⟨m, us, rfl, h2, r2⟩ := ry.tup_inv
  have l1 := r1.len
  have l2 := r2.len
  refine ⟨l, m, vs, us, rfl, rfl, s.st h1, s.st h2, sz_of (by omega), fun z => ?_, fun z1 z2 => ?_, fun z1 z2 q' hq => ?_⟩
  · obtain rfl : xs = [] := List.eq_nil_of_length_eq_zero (by rw [← l1, z]; rfl)
    exact q _ _ _ p (LeP.refl w) s (.tup h2 r2)
  · obtain rfl : ys = [] := List.eq_nil_of_length_eq_zero (by rw [← l2, z2]; rfl)
    rw [List.append_nil] at p
    exact q _ _ _ p (LeP.refl w) s (.tup h1 r1)
  · obtain ⟨a1, a2, a3⟩ := Wd.repNewT s hq (r1.app r2)
    exact q _ _ _ p a1 a2 a3
end DL

namespace DL
open PySem L2 PySem.Spec PyProof.Rows
/-! ### is True, is not True; list(t) of a tuple -/
theorem bool_beq (a b : Bool) : (Value.bool a == Value.bool b) = decide (a = b) := by
  cases a <;> cases b <;> rfl
theorem op_isBl {X : Cx} : OpR X (compareOp .Is) (fun x y H Q => ∃ a b, x = V.bl a ∧ y = V.bl b ∧ Q (.bl (decide (a = b))) H) := by
  intro pins s σ H x y v u Q I rx ry ⟨a, b, e1, e2, q⟩
  subst e1 e2
  obtain rfl : v = Value.bool a := rx
  obtain rfl : u = Value.bool b := ry
  exact wpAny_is_plain rfl (fin_bl I q (bool_beq a b).symm)
theorem op_notBl {X : Cx} : OpR X (compareOp .IsNot) (fun x y H Q => ∃ a b, x = V.bl a ∧ y = V.bl b ∧ Q (.bl (!decide (a = b))) H) := by
  intro pins s σ H x y v u Q I rx ry ⟨a, b, e1, e2, q⟩
  subst e1 e2
  obtain rfl : v = Value.bool a := rx
  obtain rfl : u = Value.bool b := ry
  exact wpAny_isNot_plain rfl (fin_bl I q (congrArg not (bool_beq a b).symm))
section
variable {K : PySem.W.Frag} {k : D → Prop}
theorem rd_isBl {a b : Bool} (p : k (.bl (decide (a = b)))) : RD K (fun x y H Q => ∃ a b, x = V.bl a ∧ y = V.bl b ∧ Q (.bl (decide (a = b))) H) (.bl a) (.bl b) k := fun w v u Q s rx ry q => by
  obtain rfl := rx.bl_inv
  obtain rfl := ry.bl_inv
  exact ⟨a, b, rfl, rfl, q _ w _ p (LeP.refl w) s (.bl _)⟩
theorem rd_notBl {a b : Bool} (p : k (.bl (!decide (a = b)))) : RD K (fun x y H Q => ∃ a b, x = V.bl a ∧ y = V.bl b ∧ Q (.bl (!decide (a = b))) H) (.bl a) (.bl b) k := fun w v u Q s rx ry q => by
  obtain rfl := rx.bl_inv
  obtain rfl := ry.bl_inv
  exact ⟨a, b, rfl, rfl, q _ w _ p (LeP.refl w) s (.bl _)⟩
theorem rc_listAT {xs : List D} (p : k (.lst xs)) : RC K (gListA K) [.tup xs] k := fun w vs Q s r q => by
  obtain ⟨v, rfl, r1⟩ := r.one
  obtain ⟨a, us, rfl, h1, r2⟩ := r1.tup_inv
  refine .inl (.inl ⟨a, us, rfl, .inr (s.st h1), fun l hl => ?_⟩)
  obtain ⟨a1, a2, a3⟩ := Wd.repNew s hl r2
  exact q _ _ _ p a1 a2 a3
end
/-- the first that is kept -/
theorem fm_first {α β : Type} {f : α → Option β} : ∀ {l : List α} {j : Nat} {a : α} {y : β}, l[j]? = some a → f a = some y → (∀ i b, i < j → l[i]? = some b → f b = none) → (l.filterMap f)[0]? = some y
  | [], j, a, y, h, _, _ => by simp at h
  | x :: l, j, a, y, h, e, no => by
    cases j with
    | zero =>
      obtain rfl : x = a := by simpa using h
      rw [List.filterMap_cons, e]
      rfl
    | succ j =>
      rw [List.filterMap_cons, no 0 x (by omega) rfl]
      exact fm_first (by simpa using h) e fun i b hi hb => no (i + 1) b (by omega) (by simpa using hb)
/-- t[lo:hi] of a tuple -/
theorem rs_tup {K : PySem.W.Frag} {k : D → Prop} {xs : List D} {lo hi : Option Int} (p : k (.tup (DL.cutD xs lo hi))) : RS K (gSl K) (.tup xs) lo hi k := fun w v Q s rx q => by
  obtain ⟨l, vs, rfl, h1, r1⟩ := rx.tup_inv
  have rc := r1.cut (lo := lo) (hi := hi)
  refine .inr (.inr ⟨l, vs, rfl, s.st h1, fun hw => ?_, fun _ q' hq => ?_⟩)
  · have e : cutV vs lo hi = vs := by
      unfold cutV
      rw [hw.1, hw.2]
      simp
    have e2 : DL.cutD xs lo hi = xs := by
      have l := r1.len
      unfold DL.cutD
      rw [← l, hw.1, hw.2, l]
      simp
    rw [e2] at p
    exact q _ w _ p (LeP.refl w) s (.tup h1 r1)
  · obtain ⟨a1, a2, a3⟩ := Wd.repNewT s hq rc
    exact q _ _ _ p a1 a2 a3
theorem cutD_mem {xs : List D} {lo hi : Option Int} {d : D} (h : d ∈ DL.cutD xs lo hi) : d ∈ xs := List.mem_of_mem_drop (List.mem_of_mem_take h)
end DL

namespace DL
open PySem L2 PySem.Spec PyProof.Rows
/-! ### [*xs, y] -/
theorem pa_starK {X : Cx} {K : PySem.W.Frag} {e : Expr} {es : List Expr} {te : TE} {t : TA} {p : Pos} (hk : X.K = K) (he : PE X e te) (hr : PA X es t) (hs : starEach (.Starred e p :: es) X.env = (true, eval e X.env) :: starEach es X.env := by rfl) : PA X (.Starred e p :: es) (StX.tStar K te t) := hk ▸ StX.pa_star he hr hs
section
variable {G : Gx} {ρ : Env} {te : TE} {t : TA} {P : List D → Env → Prop}
theorem wa_star (h : W G te ρ fun x ρ1 => ∃ xs, IsS x xs ∧ WA G t ρ1 fun ds ρ2 => P (xs ++ ds) ρ2) : WA G (StX.tStar G.K te t) ρ P := fun w σ Q o e q =>
  h w σ _ o e fun v w1 x ρ1 ⟨xs, hx, h2⟩ l1 o1 r1 => by
    obtain ⟨b, a, us, rfl, s1, rl⟩ := sq2_of hx r1
    have s2 := s1.up (w2 := w1) (Ex.refl _) o1.sub
    refine ⟨a, us, rfl, ?_, h2 w1 σ _ o1 (e.later l1) fun vs w2 ds ρ2 p l2 o2 r2 => q (us ++ vs) w2 _ ρ2 p (l1.trans l2) o2 ((rl.mono l2.s).app r2)⟩
    cases b
    · exact .inr s2
    · exact .inl s2
end
end DL

namespace DL
open PySem L2 PySem.Spec PyProof.Rows
/-- any value in a tuple of texts and numbers, all as plain data -/
def rInP (K : PySem.W.Frag) : R2 := fun x y H Q => ∃ d xs, Dp K H x d ∧ Dp K H y (.tuple xs) ∧ d.canLay0 = true ∧ PyData.canLayAll0 xs = true ∧ PyData.depthAll xs ≤ 8 ∧ Q (.bl (xs.any fun z => PyData.eqv z d)) H
theorem op_inP {X : Cx} (hu : X.A.units + 64 < cLine) : OpR X (compareOp .In) (rInP X.K) := by
  intro pins s σ H x y
  intro v u Q I rx ry h
  obtain ⟨d, xs, hd, he, cd, cx, hn, q⟩ := h
  obtain ⟨as, r1⟩ := (Dp.reads I d x v hd rx)
  obtain ⟨bs, r2⟩ := Dp.reads I (.tuple xs) y u he ry
  exact SeqAt.in_tuple_reads r2 r1 cx cd (by have := Nat.min_le_left (PyData.depthAll xs) d.depth; omega) ⟨.bl _, H, I, rfl, q⟩
def gInP (K : PySem.W.Frag) : R2 := fun x y H Q => gIn K x y H Q ∨ rInP K x y H Q
theorem o_inPK {X : Cx} {K : PySem.W.Frag} (hk : X.K = K) (hu : X.A.units + 64 < cLine) : OpR X (compareOp .In) (gInP K) := hk ▸ OpR.or o_in (op_inP hu)
theorem rd_inP {K : PySem.W.Frag} {k : D → Prop} {x y : D} {d : PyData} {xs : List PyData} (hx : x.py = some d) (hy : y.py = some (.tuple xs)) (cd : d.canLay0 = true) (cx : PyData.canLayAll0 xs = true) (hn : PyData.depthAll xs ≤ 8) (c : k (.bl (xs.any fun z => PyData.eqv z d))) : RD K (gInP K) x y k := RD.r (rd_val (.bl (xs.any fun z => PyData.eqv z d)) (fun _ => .bl _) c fun w v u Q s rx ry z => ⟨d, xs, rx.dp s hx, ry.dp s hy, cd, cx, hn, z⟩)
theorem rd_inPf {K : PySem.W.Frag} {k : D → Prop} {x y : D} {r : D → Prop} (h : RD K (gIn K) x y k) : RD K (gInP K) x y k := RD.l h
end DL

namespace L2
open PySem.Spec PySem PyProof.Rows
section
variable {X : Cx}
/-- dict(zip(e, e2)) -/
def tDictZ (K : PySem.W.Frag) (ta : TA) : TE := fun σ H Q => ta σ H fun vs H1 => ∃ (a b : Addr) (ks : List Key) (ys : List V), vs = [.ref a, .ref b] ∧ SqL K H1 a (ks.map kV) ∧ SqL K H1 b ys ∧ ∀ p, H1 p = none → Q (.ref p) (upd H1 p (.dK (mergeK [] (ks.zip ys))))
theorem zip_keys (P : Program) (w : World) : ∀ {ks : List Key} {ys : List V} {us ws : List Value}, Vals (ks.map kV) us → Vals ys ws → ∃ prs : List (Key × Value), KV (ks.zip ys) prs ∧ prs.length = min us.length ws.length ∧ ∀ (i : Nat) (k v : Value), us[i]? = some k → ws[i]? = some v → ∃ x : Key, prs[i]? = some (x, v) ∧ keyIs x k = true
  | [], ys, us, ws, r, r2 => by
    cases r
    exact ⟨[], .nil, by simp, fun i k v e => by simp at e⟩
  | k :: ks, [], us, ws, r, r2 => by
    cases r2
    exact ⟨[], .nil, by simp, fun i k v e e2 => by simp at e2⟩
  | k :: ks, y :: ys, us, ws, r, r2 => by
    cases r with
    | cons h t =>
      cases r2 with
      | cons h2 t2 =>
        obtain ⟨prs, a, b, c⟩ := zip_keys P w t t2
        refine ⟨(k, _) :: prs, .cons ⟨rfl, h2⟩ a, by simp [b], fun i k' v e e2 => ?_⟩
        cases i with
        | zero =>
          obtain rfl := Option.some.inj e
          obtain rfl := (Option.some.inj e2)
          exact ⟨k, rfl, kV_is (P := P) (w := w) h⟩
        | succ i => exact c i k' v (by simpa using e) (by simpa using e2)
theorem pe_dictZ {e e2 : Expr} {ta : TA} {p p2 pos pos2 : Pos} (hc : X.calm = true) (hg : Gl X "dict") (hm : X.mg "dict" = none) (hg2 : Gl X "zip") (hm2 : X.mg "zip" = none) (ha : PA X [e, e2] ta)
    (hs : starEach [e, e2] X.env = (false, eval e X.env) :: starEach [e2] X.env := by rfl) (hpl : (backTo pos2 (starEach [e2] X.env)).any (·.1) = false := by rfl) :
    PE X (.Call (.Name "dict" p) [.Call (.Name "zip" p2) [e, e2] [] pos2] [] pos) (tDictZ X.K ta) := by
  refine (⟨fun pins s σ H Q I h => ?_⟩)
  refine wpAny_Call_Name_kw (ld_blt I hg hm (show bootBuiltins "dict" = some (.type "dict") by decide +kernel) ?_ (by decide) (by decide))
  refine PyProof.Rows.callWith_type1 ?_ (by rfl) (by rfl)
  show wpAny _ _ (spliced ((false, eval (.Call (.Name "zip" p2) [e, e2] [] pos2) X.env) :: backTo pos (starEach [] X.env))) _ _ s
  refine Calls.spliced_cons ?_
  refine wpAny_Call_Name_kw (ld_blt I hg2 hm2 PyProof.Rows.boot_zip ?_ (by decide) (by decide))
  refine PyProof.Rows.callWith_type1 (thn (ha.run pos2 pins s σ H _ I h) fun us s1 ⟨vs, H1, I1, r1, q1⟩ => ?_) hs hpl
  obtain ⟨a, b, ks, ys, ex, hqx, hqy, q⟩ := q1
  subst ex
  cases r1 with
  | cons r rr =>
    cases rr with
    | cons r' rr =>
      cases rr
      cases r
      cases r'
      obtain ⟨its, rv, p1, z1⟩ := I1.list hqx
      obtain ⟨its2, rv2, p2', z2⟩ := I1.list hqy
      have la : a < s1.heap.objs.size := (p1.lt)
      have lb : b < s1.heap.objs.size := p2'.lt
      refine call_zip_2 p1.isList p2'.isList fun h' hz hTI hTO h1 h2 hsz hk => ?_
      refine Calls.spliced_nil ?_
      obtain ⟨prs, kv, hl, hp⟩ := zip_keys X.prog X.w rv rv2
      have D := PySem.W.ktu_apart s1.heap.objs.size a b la lb
      refine PySem.call_dict_pairs (s := { s1 with heap := h' }) (knd := mixKind X.prog X.w) (kvs := prs) (PySem.PairArg.zip _ _ _ _ _ _ _ D its.toArray its2.toArray) (I1.ok.hd hc) ⟨hz, hTI, ⟨_, _, hTO⟩, h1, h2, p1.isList.at fun o e => hk _ o e, p2'.isList.at fun o e => hk _ o e⟩ ⟨by rw [hl]; simp, fun i key v ⟨e1, e2⟩ => hp i key v (by simpa using e1) (by simpa using e2)⟩ ?_ fun h'' tk hd' hk2 => ?_
      · have l1 := rv.length
        simp only [List.size_toArray]
        exact Nat.le_trans (Nat.min_le_left ..) (by rw [← l1]; exact z1)
      · have lnew : s1.heap.objs.size ≤ h'.objs.size := by omega
        have hm3 : (h'.objs.size == sysModules) = false := beq_eq_false_iff_ne.mpr (Nat.ne_of_gt (Nat.lt_of_lt_of_le I1.big lnew))
        have k12 : ∀ c o, s1.heap.get? c = some o → h''.get? c = some o := fun c o e => hk2 c o (fun z => by
          have := Heap.lt_size e
          simp only [List.mem_cons, List.not_mem_nil, or_false] at z
          rcases z with z | z | z | z
          · subst z; exact Nat.lt_irrefl _ (Nat.lt_of_le_of_lt (Nat.le_add_right _ _) this)
          · subst z; exact Nat.lt_irrefl _ (Nat.lt_of_le_of_lt (Nat.le_add_right _ _) this)
          · subst z; exact Nat.lt_irrefl _ this
          · subst z; exact Nat.lt_irrefl _ (Nat.lt_of_le_of_lt (Nat.le_add_right _ _) this)) (hk c o e)
        have hlen : (mergeK [] (ks.zip ys)).length ≤ sizeLine := by
          refine Nat.le_trans (length_mergeK _ []) ?_
          have l1 := rv.length
          rw [List.length_map] at l1
          rw [List.length_nil, Nat.zero_add, List.length_zip]
          exact Nat.le_trans (Nat.min_le_left ..) (by first | (rw [l1]; exact z1) | (rw [← l1]; exact z1) | (rw [List.length_map] at z1; exact z1))
        exact ⟨.ref h'.objs.size, upd H1 h'.objs.size (.dK (mergeK [] (ks.zip ys))), I1.laid (t' := tk) k12 lnew (show ObjOk X.prog X.w _ _ _ (.dK (mergeK [] (ks.zip ys))) from ⟨hlen, hm3, merged [] prs, KV.merge kv .nil, hd'⟩), rfl, q _ (I1.hok.fresh lnew)⟩
end
end L2

namespace DL
open PySem L2
theorem repL_keyV {K : PySem.W.Frag} {S : Hp} : ∀ {ks : List Key} {vs : List V}, RepL K S vs (ks.map keyD) → vs = ks.map kV
  | [], _, .nil => rfl
  | k :: ks, _, .cons r q => by
    rw [List.map_cons, ← repL_keyV q, keyD_inv r]
theorem repK_zip {K : PySem.W.Frag} {S : Hp} : ∀ {ks : List Key} {vs : List V} {ds : List D}, RepL K S vs ds → RepK K S (ks.zip vs) (ks.zip ds)
  | [], _, _, _ => .nil
  | _ :: _, _, _, .nil => .nil
  | k :: ks, _, _, .cons r q => .cons r (repK_zip q)
section
variable {G : Gx} {ρ : Env} {te te2 : TE} {t : TA} {PO : M → Env → Prop} {P : D → Env → Prop}
/-- dict(zip(xs, ys)) -/
theorem wo_dictZ (h : WA G t ρ fun ds ρ1 => ∃ (x y : D) (ks : List Key) (ys : List D), ds = [x, y] ∧ IsL x (ks.map keyD) ∧ IsL y ys ∧ PO (ownD (mergeD [] (ks.zip ys))) ρ1) : WO G (tDictZ G.K t) ρ PO := fun w σ Q o e q =>
  h w σ _ o e fun vs w1 ds ρ1 ⟨x, y, ks, ys, ex, hx, hy, p⟩ l1 o1 r => by
    subst ex
    cases r with
    | cons r1 r =>
      cases r with
      | cons r2 r =>
        cases r
        obtain ⟨a, us, rfl, h1, r1⟩ := Rep.isL_inv hx r1
        obtain ⟨b, ws, rfl, h2, r2⟩ := Rep.isL_inv hy r2
        obtain rfl := repL_keyV r1
        exact ⟨a, b, ks, ws, rfl, o1.sub.sl h1, o1.sub.sl h2, fun p' hp => q (.ref p') (w1.own p' (.dK (mergeK [] (ks.zip ws)))) _ ρ1 [p'] p (l1.trans (Wd.le_own hp)) (o1.own hp) (.dic (o1.sub.free hp) upd_same (ownK_of (RepK.merge (repK_zip r2) .nil)))⟩
/-- [..] * e -/
theorem w_mulE (h : WO G te ρ fun m ρ1 => ∃ ds : List D, m = .lst (ds.map .sh) ∧ ds.length ≤ 100 ∧ W G te2 ρ1 fun d ρ2 => ∃ n : Int, d = .int n ∧ 0 ≤ n ∧ n ≤ 100 ∧ P (.lst (List.replicate n.toNat ds).flatten) ρ2) : W G (tOp gMul te te2) ρ P := fun w σ Q o e q =>
  h w σ _ o e fun v w1 m ρ1 fp ⟨ds, em, hl, h2⟩ l1 o1 r1 => by
    subst em
    obtain ⟨w2, l2, hH, o2, r2⟩ := o1.freeze r1 frz_lst
    cases r1 with
    | @lst a vs _ fp1 hS hHa ol =>
      have lv : vs.length = ds.length := by rw [ol.len, List.length_map]
      cases r2 with
      | @lst _ us _ h1 r3 =>
        have hz : w2.S a = some (.lst us) ∧ us = vs := by
          rw [← hH] at hHa
          rcases h1 with z | ⟨ob, z⟩
          · refine ⟨z, ?_⟩
            rcases (o2.sub _ _ z).two (fun q y => by unfold TabM at y; cases y) with z | ⟨d, _⟩
            · rw [hHa] at z
              cases z
              rfl
            · rcases d with ⟨_, d⟩ | ⟨_, d⟩ <;> cases d
          · rcases (o2.sub _ _ z).two (fun q y => by unfold TabM at y; cases y) with z | ⟨d, _⟩
            · rw [hHa] at z
              cases z
            · rcases d with ⟨_, d⟩ | ⟨_, d⟩ <;> cases d
        obtain ⟨hz, rfl⟩ := hz
        rw [← hH]
        refine h2 w2 σ _ o2 (e.later (l1.trans l2)) fun y w3 d ρ2 ⟨n, ed, n0, n1, p⟩ l3 o3 r4 => ?_
        subst ed
        obtain rfl := r4.int_inv
        have hH3 : w3.H a = some (.lst us) := by
          rcases (o3.sub _ _ (l3.s _ _ hz)).two (fun q y => by unfold TabM at y; cases y) with z | ⟨d, _⟩
          · exact z
          · rcases d with ⟨_, d⟩ | ⟨_, d⟩ <;> cases d
        refine .inr ⟨a, n, us, rfl, rfl, hH3, by omega, by omega, ?_, fun p' hp => ?_⟩
        · rw [lv]
          refine sz_of (Nat.le_trans (Nat.mul_le_mul hl (show n.toNat ≤ 100 by omega)) (by decide))
        · have rr : ∀ j : Nat, RepL G.K w3.S (List.replicate j us).flatten (List.replicate j ds).flatten := by
            intro j
            induction j with
            | zero => exact .nil
            | succ j ih =>
              simp only [List.replicate_succ, List.flatten_cons]
              exact (r3.mono l3.s).app ih
          obtain ⟨a1, a2, a3⟩ := Wd.repNew o3.sub hp (rr n.toNat)
          exact q _ _ _ ρ2 p (((l1.trans l2).trans l3).trans a1.le) (o3.grow a1 a2) a3
end
/-- // by less than 0 -/
theorem rd_divN {K : PySem.W.Frag} {k : D → Prop} {i j : Int} (c : CDivN i j) (p : k (.int (i.fdiv j))) : RD K (rI CDivN fun i j => .int (i.fdiv j)) (.int i) (.int j) k := rd_i2 (fun _ => .int _) c p
end DL
namespace DL
/-- a def of which nothing is asked -/
def c_none : CD := ⟨fun _ _ => False, fun _ _ _ _ h => h⟩
end DL
namespace DL
open PySem L2
theorem pi_listK {X : Cx} {K : PySem.W.Frag} {tg l : PySem.Expr} {tl : TE} (hk : X.K = K) (hl : PE X l tl) : PI X tg l (iList K tl) := hk ▸ pi_list hl
theorem pi_seqK {X : Cx} {K : PySem.W.Frag} {tg l : PySem.Expr} {tl : TE} (hk : X.K = K) (hl : PE X l tl) : PI X tg l (DC.iSeq K tl) := hk ▸ DC.pi_seq hl
end DL

namespace DL
open PySem L2
theorem TabM.inj {q r : Str} (h : TabM q = TabM r) : q = r := by
  unfold TabM at h
  injection h with h1 _
  injection h1 with _ _ h3 _
  injection h3 with h4
  have h5 := congrArg (fun a : Array Value => a[0]?) h4
  simpa using h5
theorem RepL.getV {K : PySem.W.Frag} {S : Hp} : ∀ {vs : List V} {ds : List D} {i : Nat} {v : V}, RepL K S vs ds → vs[i]? = some v → ∃ d, ds[i]? = some d ∧ Rep K S v d
  | _, _, i, v, .nil, h => by simp at h
  | _, _, 0, v, .cons r _, h => by
    obtain rfl := Option.some.inj (by simpa using h)
    exact ⟨_, rfl, r⟩
  | _, _, i + 1, v, .cons _ q, h => by
    obtain ⟨d, e, r⟩ := RepL.getV (i := i) q (by simpa using h)
    exact ⟨d, by simpa using e, r⟩
/-- min(xs, key=lambda a: ..): the first of those whose key is least -/
theorem w_minLam {G : Gx} {te tb : TE} {ρ : Env} {c P : Addr} {x q : Str} {PP : D → Env → Prop} (k1 : PySem.W.codeHdIn G.K c P = true) (k2 : G.K.lookup P = none) (k3 : PySem.W.codeIn G.K (.ref c) x = true) (eq : q = (x ++ ".<locals>.") ++ "<lambda>")
    (h : WO G te ρ fun m ρ1 => ∃ (ds : List D) (key : Nat → Int), m = .lst (ds.map .sh) ∧ 0 < ds.length ∧ (∀ w σ, Ok G w σ ρ1 → ∀ i d v, ds[i]? = some d → Rep G.K w.S v d → ∀ (H : Hp) (Q : VK), Q (.int (key i)) H → tb (σ ++ [some v]) H Q) ∧
      ∀ d, ds[argBest (fun i j => decide (key i < key j)) (ds.length - 1)]? = some d → PP d ρ1) :
    W G (DC.tMinLam P q (tCons te tNil) tb) ρ PP := fun w σ Q o e qq =>
  h w σ _ o e fun v w1 m ρ1 fp ⟨ds, key, em, h0, hk, hp⟩ l1 o1 r1 => by
    subst em
    obtain ⟨w2, l2, hH, o2, r2⟩ := o1.freeze r1 frz_lst
    cases r1 with
    | @lst a vs _ fp1 hS hHa ol =>
      have rr : RepL G.K w1.S vs ds := (ownL_inv ol).1
      have r3 : RepL G.K w2.S vs ds := rr.mono l2.s
      have ln : vs.length = ds.length := r3.len
      refine ⟨a, vs, key, rfl, hHa, by rw [ln]; exact h0, ?_⟩
      have tm : w2.S P = some (TabM q) := by
        rw [eq]
        exact o2.tb c P x k1 k2 k3
      rw [← hH]
      rcases o2.sub P _ tm with z | ⟨d, _⟩ | ⟨q', ps, e1, e2, g1, g2⟩
      · exact .inl z
      · rcases d with ⟨_, z⟩ | ⟨_, z⟩ <;> (unfold TabM at z; cases z)
      · obtain rfl := TabM.inj e1
        have here : ∀ d cd, w2.S d = some (LamX.CodeO cd q) → w2.H d = some (LamX.CodeO cd q) := fun d cd hd => o2.sub.is hd (fun z => by rcases z with ⟨_, y⟩ | ⟨_, y⟩ <;> (unfold LamX.CodeO at y; cases y)) fun _ y => by unfold LamX.CodeO TabM at y; cases y
        refine .inr ⟨ps, e2, g1, fun pos cv hcv => ?_, fun T2 g => ?_⟩
        · obtain ⟨d, e3, e4⟩ := g2 pos cv hcv
          exact ⟨d, e3, here _ _ e4⟩
        · obtain ⟨S2, lp, s2, _⟩ := Sub.grown o2.sub tm g ⟨ps, e2, g1, g2⟩
          have o3 := o2.grow lp s2
          refine ⟨fun od i xv hx => ?_, fun xv hx => ?_⟩
          · obtain ⟨d, hd, rd⟩ := r3.getV hx
            exact hk w2 σ o2 i d xv hd rd _ _ ⟨rfl, rfl⟩
          · rw [ln] at hx
            obtain ⟨d, hd, rd⟩ := r3.getV hx
            exact qq xv ⟨S2, T2, w2.F⟩ d ρ1 (hp d hd) (l1.trans (l2.trans lp.le)) o3 (rd.mono lp.s)
end DL

namespace DC
open PySem PySem.Spec PyProof.Rows LamX L2
/-- an empty table -/
abbrev tab0 : Obj := { cls := .none, data := .fields #[] }
/-- the law's own call, where tables of code objects may grow: cs, the code objects and their tables -/
theorem lawGT {prg : Program} {wd : World} {K : PySem.W.Frag} {mg mb : Str → Option Value} {lv : Nat} {fa a : Addr} {cs : List (Addr × Addr)} {fd : FuncData} {x : Str} {sp : Sp} {st : Shared} {vs : List Value} {ns : List Int}
    (kin : K.In st.heap) (globs : st.heap.Ns mainGlobals mg) (blts : st.heap.Ns builtinsNs mb) (boot : ∀ x : Str, x ≠ "__name__" → mb x = bootBuiltins x) (nol : st.heap.NoLimit) (nog : st.gens = #[])
    (tabs : ∀ p ∈ cs, st.heap.get? p.2 = some tab0) (noK : ∀ p ∈ cs, K.lookup p.2 = none) (codes : ∀ p ∈ cs, PySem.W.CodeHd st.heap p.1 p.2)
    (bmod : ∃ (bm : Addr) (ob : Obj), mg "__builtins__" = some (.ref bm) ∧ bm ≠ builtinsNs ∧ st.heap.get? bm = some ob ∧ ob.cls = .type "module" ∧ ob.dict = some builtinsNs ∧ ob.data = .plain)
    (script : st.heap.get? a = some { cls := .type "list", data := .seq vs.toArray }) (areInts : IntsAre vs ns) (short : ns.length ≤ sizeLine) (room : Room lv callerA)
    (F : ∀ bs : Heap, K.In bs → bs.Ns mainGlobals mg → (∀ p ∈ cs, TabB bs mg p.1 p.2) → FnG prg wd K mg bs (L2.CX prg wd) lv fa fd [x] sp) (bnd : ∀ (s : Shared) (u : Value), BindsTo s fd ⟨[u], []⟩ [(x, u)])
    (wish : ∀ H : Hp, (∀ p ∈ cs, H p.2 = some (.tbl #[])) → (∀ b, H b = none ∨ (∃ p ∈ cs, b = p.2) ∨ (b = a ∧ ∃ o xs, H b = some (.frz o (.lst xs)))) → SqL K H a (ns.map V.int) → sp [.ref a] H (fun v _ => v = .bl true) fun _ _ _ => False) :
    codeAny (model prg wd) callerA (.call (.ref fa) ⟨[.ref a], []⟩) (fun r s' => r = .ok (.ret (.bool true)) ∧ OldK st.heap s'.heap ∧ s'.os = st.os ∧ AllBare s'.gens) st := by
  have rel := vals_ints areInts
  have aT : ∀ p ∈ cs, a ≠ p.2 := fun p hp z => by
    have := tabs p hp
    rw [← z, script] at this
    cases (show Data.seq vs.toArray _ = Data.fields #[] from congrArg Obj.data (Option.some.inj this))
  have key : ∀ H : Hp, (∀ p ∈ cs, H p.2 = some (.tbl #[])) → (∀ b, H b = none ∨ (∃ p ∈ cs, b = p.2) ∨ (b = a ∧ ∃ o xs, H b = some (.frz o (.lst xs)))) → SqL K H a (ns.map V.int) → HOk prg wd H st.heap → (H a ≠ none → K.lookup a = none) →
      codeAny (model prg wd) callerA (.call (.ref fa) ⟨[.ref a], []⟩) (fun r s' => r = .ok (.ret (.bool true)) ∧ OldK st.heap s'.heap ∧ s'.os = st.os ∧ AllBare s'.gens) st := fun H onT only sq hok out => by
    have below : ∀ {b : Addr} {o : Obj}, st.heap.get? b = some o → H b = none → (hidT st.heap H).get? b = some o := fun e n => hidT_get e n
    -- neither the script nor a table
    have free : ∀ {b : Addr} {o : Obj}, st.heap.get? b = some o → (∀ v n, o.data ≠ .seq v n) → o.data ≠ .fields #[] → H b = none := fun {b o} e n1 n2 => by
      rcases only b with z | ⟨p, hp, rfl⟩ | ⟨rfl, _⟩
      · exact z
      · rw [tabs p hp] at e
        cases e
        exact (n2 rfl).elim
      · rw [script] at e
        cases e
        exact (n1 _ _ rfl).elim
    have nsB : ∀ {b : Addr} {m : Str → Option Value}, st.heap.Ns b m → (hidT st.heap H).Ns b m := fun {b m} ⟨o, es, ep, e, d, r⟩ => ⟨o, es, ep, below e (free e (fun v n z => by rw [d] at z; cases z) fun z => by rw [d] at z; cases z), d, r⟩
    have kinB : K.In (hidT st.heap H) := fun b o e => below (kin b o e) (by
      rcases only b with z | ⟨p, hp, rfl⟩ | ⟨rfl, o', xs', z⟩
      · exact z
      · rw [noK p hp] at e
        cases e
      · rw [out (by rw [z]; exact Option.some_ne_none _)] at e
        cases e)
    obtain ⟨mc, l1, l2⟩ := nol
    obtain ⟨bm, ob, b1, b2, b3, b4, b5, b6⟩ := bmod
    have tb : ∀ p ∈ cs, TabB (hidT st.heap H) mg p.1 p.2 := fun p hp => by
      refine ⟨?_, ⟨bm, ob, b1, b2, fun z => ?_, fun z => ?_, below b3 (free b3 (fun v n z => by rw [b6] at z; cases z) fun z => by rw [b6] at z; cases z), b4, b5, b6⟩, fun z => ?_⟩
      · obtain ⟨o, us, f1, f2, f3, f4, f5, f6, f7, e1, r1, r2, r3, rest⟩ := codes p hp
        exact ⟨o, us, f1, f2, f3, f4, f5, f6, f7, below e1 (free e1 (fun v n z => by rw [r2] at z; cases z) fun z => by rw [r2] at z; cases z; simp at r3), r1, r2, r3, rest⟩
      · obtain ⟨o, es, ep, e, d, _⟩ := globs
        rw [z, e] at b3
        cases b3
        rw [d] at b6
        cases b6
      · rw [z, tabs p hp] at b3
        cases b3
        cases b6
      · obtain ⟨o, es, ep, e, d, _⟩ := globs
        rw [z, tabs p hp] at e
        cases e
        cases d
    have md : Mod K mg (hidT st.heap H) := ⟨kinB, nsB globs, ⟨mb, nsB blts, boot⟩, mc, nsB l1, l2⟩
    have env : Env0 prg wd K mg (hidT st.heap H) callerA [] st H := ⟨rfl, md, fun b o e => of_hidT e, Nat.le_of_eq (hidT_size _ _), trivial, (fun b mem => by cases mem), hok, .of_eq nog⟩
    refine codeAny_mono ((F _ kinB (nsB globs) tb).go callerA [] st H ⟨[.ref a], []⟩ [.ref a] [.ref a] _ _ rfl room env (bnd st (.ref a)) (.cons rfl .nil) (wish H onT only sq)) fun out s' got => ?_
    match out, got with
    | .error e, got =>
      obtain ⟨_, _, _, _, _, _, _, _, _, _, _, _, z⟩ := got
      exact z.elim
    | .ok .next, got => exact got.elim
    | .ok .brk, got => exact got.elim
    | .ok .cont, got => exact got.elim
    | .ok (.ret u), ⟨v, H', os, bare, un, hok', r', q⟩ =>
      have ev : v = .bl true := q
      subst ev
      cases (show u = Value.bool true from r')
      have later : ∀ b o, st.heap.get? b = some o → s'.heap.get? b = some o ∨ ∃ p ∈ cs, b = p.2 ∧ ∃ more, s'.heap.get? b = some { cls := .none, data := .fields more } := fun b o e => by
        rcases only b with z | ⟨p, hp, rfl⟩ | ⟨_, o', xs', z⟩
        · exact .inl (un.keep b o e z (fun z => by cases z) (fun z => by cases z))
        · obtain ⟨more, z⟩ := un.tbls p.2 #[] (onT p hp)
          exact .inr ⟨p, hp, rfl, _, hok' p.2 _ z⟩
        · have q1 := (hok b _ z).1
          have q2 := (hok' b _ (un.frzs b o' _ z)).1
          rw [e] at q1
          cases (Option.some.inj q1)
          exact .inl q2
      refine (⟨rfl, ⟨fun b o e => ?_, fun b o e => ?_⟩, os, bare⟩)
      · rcases later b o e with z | ⟨p, hp, rfl, more, z⟩
        · exact .inl z
        · rw [tabs p hp] at e
          cases e
          exact .inr (.inl ⟨((codes p hp).tab (tabs p hp)).isCodeTable, rfl, #[], more, rfl, by rw [Array.empty_append]; exact z⟩)
      · rcases later b o e with z | ⟨_, _, _, _, z⟩
        · exact ⟨_, z⟩
        · exact ⟨_, z⟩
  have dec : ∀ b : Addr, (∃ p ∈ cs, b = p.2) ∨ ¬ ∃ p ∈ cs, b = p.2 := fun b => Classical.em _
  cases hk : K.lookup a with
  | some o =>
    have e := kin a o hk
    rw [script] at e
    cases (Option.some.inj e)
    classical
    refine key (fun b => if ∃ p ∈ cs, b = p.2 then some (.tbl #[]) else none) (fun p hp => if_pos ⟨p, hp, rfl⟩) (fun b => ?_) (.inr ⟨_, vs.toArray, _, hk, rfl, rfl, rfl, by rw [List.size_toArray, areInts.length]; exact short, by simpa using rel⟩) (fun b u z => ?_) (fun z => absurd (if_neg fun ⟨p, hp, e⟩ => aT p hp e) z)
    · rcases dec b with y | y
      · exact .inr (.inl y)
      · exact .inl (if_neg y)
    · rcases dec b with y | y
      · have z := (if_pos y).symm.trans z
        cases z
        obtain ⟨p, hp, rfl⟩ := y
        exact tabs p hp
      · have z := (if_neg y).symm.trans z
        cases z
  | none =>
    classical
    refine key (fun b => if b = a then some (.frz { cls := .type "list", data := .seq vs.toArray } (.lst (ns.map V.int))) else if ∃ p ∈ cs, b = p.2 then some (.tbl #[]) else none) (fun p hp => (if_neg fun z : p.2 = a => aT p hp z.symm).trans (if_pos ⟨p, hp, rfl⟩)) (fun b => ?_) (.inl (.inr ⟨_, if_pos rfl⟩)) (fun b u z => ?_) fun _ => hk
    · by_cases y : b = a
      · exact .inr (.inr ⟨y, _, _, if_pos y⟩)
      · rcases dec b with y2 | y2
        · exact .inr (.inl y2)
        · exact .inl ((if_neg y).trans (if_neg y2))
    · by_cases y : b = a
      · have z := (if_pos y).symm.trans z
        cases z
        subst y
        exact ⟨script, by rw [List.length_map]; exact short, vs, _, rel, script⟩
      · have z := (if_neg y).symm.trans z
        rcases dec b with y2 | y2
        · have z := (if_pos y2).symm.trans z
          cases z
          obtain ⟨p, hp, rfl⟩ := y2
          exact tabs p hp
        · have z := (if_neg y2).symm.trans z
          cases z
end DC

namespace DL
open PySem L2 PySem.Spec PyProof.Rows LamX
/-- the walk's end, where tables of code objects may grow: cs, the code objects and their tables; nm, their lambdas' names -/
theorem walk_DLT {l : PySem.W.OpenLaw} {n lv : Nat} {q : Program} {loose : List Str} {XP : (Str → Option Value) → Heap → Prop} {YP : World → Heap → Prop} {d : DefRec} {x : Str} {C : CD} (most : l.most = some n) (few : n ≤ sizeLine) (nodfl : d.params.defaults = []) (room : Room lv callerA)
    (F : ∀ (w : World) (mg : Str → Option Value) (fa : Addr) (h : Heap), YP w h → h.Ns mainGlobals mg → mg d.name = some (.ref fa) → ∃ (K : PySem.W.Frag) (fd : FuncData) (cs : List (Addr × Addr)) (nm : Addr → Str), K.In h ∧ (∀ (s : Shared) (u : Value), BindsTo s fd ⟨[u], []⟩ [(x, u)]) ∧
        (∀ p ∈ cs, h.get? p.2 = some DC.tab0) ∧ (∀ p ∈ cs, K.lookup p.2 = none) ∧ (∀ p ∈ cs, PySem.W.CodeHd h p.1 p.2) ∧
        (∀ c P y, PySem.W.codeHdIn K c P = true → K.lookup P = none → PySem.W.codeIn K (.ref c) y = true → (∃ p ∈ cs, P = p.2) ∧ nm P = (y ++ ".<locals>.") ++ "<lambda>") ∧
        ∀ bs : Heap, K.In bs → bs.Ns mainGlobals mg → (∀ p ∈ cs, TabB bs mg p.1 p.2) → DC.FnG l.prog w K mg bs (L2.CX l.prog w) lv fa fd [x] (toSp K 1 C.con))
    (wish : ∀ ns : List Int, ns.length ≤ n → (∀ z ∈ ns, Builtin.Int.intBits z ≤ 1048576) → C.c [.rol (ns.map .int)] fun o => o = .ret (.sh (.bl true))) : PySem.W.WalkO q loose XP YP l.row.toRowW d [] (fun f vs => PySem.call f vs) := by
  refine Att.attach_callB most nodfl fun w s₀ s₁ mg mb fa o pm cd doc a vs ns G Y ho hd hcd hmg hobj hints hlen hbits hg => ?_
  obtain ⟨K, fd, cs, nm, kin, bnd, tabs, noK, codes, all_, hF⟩ := F w mg fa _ Y G.T.g hmg
  refine DC.lawGT kin G.T.g G.T.b G.T.builtins G.T.nolimit hg tabs noK codes G.T.bmain hobj hints (Nat.le_trans hlen few) room hF bnd fun H onT only sq => ?_
  classical
  have apart : ∀ p ∈ cs, ∀ u, H p.2 = some u → u = .tbl #[] := fun p hp u h => by
    rw [onT p hp] at h
    exact (Option.some.inj h).symm
  let S : Hp := fun b => if ∃ p ∈ cs, b = p.2 then some (TabM (nm b)) else H b
  have sq2 : SqL K S a (ns.map V.int) := by
    rcases sq with h | h
    · have na : ¬ ∃ p ∈ cs, a = p.2 := fun ⟨p, hp, e⟩ => by
        subst e
        rcases h with h | ⟨_, h⟩
        · cases apart p hp _ h
        · cases apart p hp _ h
      rcases h with h | ⟨ob, h⟩
      · exact .inl (.inl ((if_neg na).trans h))
      · exact .inl (.inr ⟨ob, (if_neg na).trans h⟩)
    · exact .inr h
  refine ⟨⟨S, H, []⟩, [.sh (.rol (ns.map .int))], rfl, fun b o h => ?_, OwnL.cons (f := []) (g := []) (.sh (.rol sq2 ?_)) .nil, List.nodup_nil, rfl, fun c P y k1 k2 k3 => ?_, [.rol (ns.map .int)], rfl, C.mono _ _ _ (fun o ho => ?_) (wish ns hlen hbits)⟩
  · by_cases z : ∃ p ∈ cs, b = p.2
    · have h := (if_pos z).symm.trans h
      cases h
      obtain ⟨p, hp, rfl⟩ := z
      exact .inr (.inr ⟨nm p.2, #[], rfl, onT p hp, True.intro, fun pos cv hcv => by
        have y : codeAmong pos [] = some cv := hcv
        simp [codeAmong] at y⟩)
    · exact .inl ((if_neg z).symm.trans h)
  · clear hints hlen hbits sq sq2
    induction ns with
    | nil => exact .nil
    | cons i r ih => exact .cons (.int i) ih
  · obtain ⟨e1, e2⟩ := all_ c P y k1 k2 k3
    rw [← e2]
    exact if_pos e1
  · subst ho
    intro w' fp' l s ow v fr om hF nd
    cases om with
    | sh r => exact r.bl_inv
end DL

namespace DC
open PySem L2 PySem.Spec PyProof.Rows
/-! ### a def whose body wants to know its code object -/
section
variable {prg : Program} {wd : World} {K : PySem.W.Frag} {mg : Str → Option Value} {bs : Heap}
theorem fnG_ofQ {x qual : Str} {params : Arguments} {body : List Stmt} {scp : Scope} {dfl : List V} {kwd : List (Str × V)} {f : Addr} {fd : FuncData} {N names : List Str} {lv : Nat} {sp : Sp} (F : FunD K x qual params body scp dfl kwd f fd) (sc : FnScope N names scp) (ln : ∀ xs H Q E, sp xs H Q E → xs.length = names.length)
    (bd : ∀ (cdv : Value), (∃ o fdd, K.lookup f = some o ∧ o.data = .func fdd ∧ fdd.code = cdv) → ∀ (A : Around) (fr : List Env) (s : Shared) (H : Hp) (xs : List V) (Q : VK) (E : XK), (A.deeper (envOfC qual scp s.heap.objs.size f cdv)).guards = some [] → Room lv (A.deeper (envOfC qual scp s.heap.objs.size f cdv)) → sp xs H Q E →
      ∃ t, PSs (cxOf (L2.CX prg wd) prg wd K mg bs N qual scp f cdv A fr s H E) body t ∧ t { nx := fun _ H' => Q .non H', rt := Q } (start N xs) H) : FnG prg wd K mg bs (L2.CX prg wd) (lv + 1) f fd names sp := by
  obtain ⟨oc, od, dV, kV, dc, pm, an, cdv, ct, os_, rfl, lk, hcd, _, _⟩ := F.ex
  refine ⟨ln, fun A fr s H given us xs Q E gd room e0 bnd rel wish => ?_⟩
  have cnt := ln _ _ _ _ wish
  have kin : K.In s.heap := e0.mod.kin.keeps fun b o z => (e0.bs b o z).1
  have nol : s.heap.NoLimit := e0.mod.nolimit.keeps fun b o z => (e0.bs b o z).1
  have kinds : ∀ y ∈ names.zip us, scp.names.lookup y.1 = some .local ∨ (scp.names.lookup y.1 = some .cell ∧ ((cellsFrom (s.heap.objs.size + 1) scp.names []).lookup y.1).isSome = true) := by
    rintro ⟨n, v⟩ mem
    cases sc.par n (List.of_mem_zip mem).1 with
    | inl q => exact .inl q
    | inr q => exact .inr ⟨q, PySem.W.cellsFrom_some _ _ _ (.inl q)⟩
  refine codeAny_call_function room.depth (kin _ _ lk) rfl sc.co sc.gen rfl (PySem.W.codeRec_of kin hcd) (bnd _ _ _ _ (wpAny_newFunctionEnv_cells sc.kind kinds fun env he s1 y => ?_))
  subst he
  refine ⟨nol.keeps y.toInCall.keep, codeAny_func ?_⟩
  obtain ⟨t, ht, hq⟩ := bd cdv ⟨_, _, lk, rfl, rfl⟩ A fr s H xs Q E (guards_deeper gd) (room.deeper _) wish
  have J : Inv (cxOf (L2.CX prg wd) prg wd K mg bs N qual scp f cdv A fr s H E) [] (start N xs) H s1 := inv_start sc room.hd e0 cnt rel y
  refine wpAny_mono (ht.run [] s1 (start N xs) H _ J hq) (fun out s' got => ?_) fun e s' got => got
  match out, got with
  | .ret u, ⟨v, σ', H', J', rv, q⟩ => exact ⟨v, H', J'.os, J'.bare, J'.base, J'.hok, rv, q⟩
  | .next, ⟨σ', H', J', q⟩ => exact ⟨V.non, H', J'.os, J'.bare, J'.base, J'.hok, rfl, q⟩
  | .brk, ⟨_, _, _, q⟩ => exact False.elim q
  | .cont, ⟨_, _, _, q⟩ => exact False.elim q
end
end DC
namespace DL
open PySem L2 PySem.Spec PyProof.Rows
section
variable {prg : Program} {wd : World} {K : PySem.W.Frag} {mg : Str → Option Value} {bs : Heap} {x qual : Str} {params : Arguments} {body : List Stmt} {scp : Scope} {dfl : List V} {kwd : List (Str × V)} {f : Addr} {fd : FuncData} {N names : List Str} {lv n : Nat}
theorem def_DQ {C : CD} (F : FunD K x qual params body scp dfl kwd f fd) (sc : FnScope N names scp) (hn : names.length = n)
    (bd : ∀ (cdv : Value), (∃ o fdd, K.lookup f = some o ∧ o.data = .func fdd ∧ fdd.code = cdv) → ∀ (A : Around) (fr : List PySem.Env) (s : Shared) (H : Hp) (E : XK) (ds : List D) (kk : Out → Prop), (A.deeper (PyProof.Rows.envOfC qual scp s.heap.objs.size f cdv)).guards = some [] → Room lv (A.deeper (PyProof.Rows.envOfC qual scp s.heap.objs.size f cdv)) → C.c ds kk → ds.length = n →
      ∃ t, PSs (cxOf (L2.CX prg wd) prg wd K mg bs N qual scp f cdv A fr s H E) body t ∧ WS (gxD K E kk) t (envD ds (N.length - n)) (postD kk)) :
    DC.FnG prg wd K mg bs (L2.CX prg wd) (lv + 1) f fd names (toSp K n C.con) :=
  DC.fnG_ofQ F sc (toSp_len hn) fun cdv lkc A fr s H xs Q E gd room ⟨w, ms, eH, hs, ow, ndF, hl, tbk, ds, ems, hc⟩ => by
    subst ems
    subst eH
    obtain ⟨r, eF⟩ := ownL_inv ow
    have hl2 : ds.length = n := by rw [List.length_map] at hl; exact hl
    obtain ⟨t, ht, hw⟩ := bd cdv lkc A fr s w.H E ds (fun o => EndC K w xs Q E o (ds.map .sh)) gd room hc hl2
    refine ⟨t, ht, ?_⟩
    obtain ⟨fps, e, ef⟩ := envOf (N.length - n) tbk ow
    have o0 : Ok (gxD K E fun o => EndC K w xs Q E o (ds.map .sh)) w (L2.start N xs) (envD ds (N.length - n)) := by
      refine ⟨hs, ⟨fps, ?_, by rw [ef, List.append_nil]⟩, ndF, fun i hi => by cases hi⟩
      have el : xs.length = n := by rw [r.len, hl2]
      unfold L2.start
      rw [envD_eq, el]
      exact e
    refine hw w _ _ o0 (fun w' σ ρ' c fs d he l o' ex => ?_) ⟨fun w' σ' ρ' h l o' => ?_, fun v w' σ' m ρ' fp h l o' om => ?_, fun _ _ _ h => h.elim, fun _ _ _ h => h.elim⟩
    · exact he (w'.less []) [] (l.trans (Wd.le_less fun x hx => by cases hx)) o'.sub (ownL_of (r.mono l.s)) d ex rfl List.nodup_nil
    · exact h (w'.less []) [] (l.trans (Wd.le_less fun x hx => by cases hx)) o'.sub (ownL_of (r.mono l.s)) .non [] (.sh .non) rfl List.nodup_nil
    · have nd := o'.nodupFx
      obtain ⟨fps', _, ef'⟩ := o'.env
      exact h (w'.less fp) [] (l.trans (Wd.le_less fun x hx => by rw [ef']; exact List.mem_append_right _ hx)) o'.sub (ownL_of (r.mono l.s)) v fp om rfl nd
end
end DL

namespace DL
open PySem L2 PySem.Spec PyProof.Rows
/-! ### a head that leaves the empty tables of code objects out of K -/
/-- the code objects of K with the table that each tells of -/
def csOf (K : PySem.W.Frag) : List (Addr × Addr) := (K.map fun p => (p.1, He.tabOf K p.1)).filter fun p => PySem.W.codeHdIn K p.1 p.2
/-- the name that a code object of K has -/
def nameC (K : PySem.W.Frag) (c : Addr) : Str := match K.lookup c with
  | some ⟨_, _, .fields vs, _⟩ => (match vs.toList with
    | _ :: .str n _ :: _ => n
    | _ => "")
  | _ => ""
/-- the lambda's name that belongs to a table -/
def nmOf (K : PySem.W.Frag) (P : Addr) : Str := match (csOf K).find? fun p => p.2 == P with
  | some p => (nameC K p.1 ++ ".<locals>.") ++ "<lambda>"
  | none => ""
theorem nameC_of {K : PySem.W.Frag} {c : Addr} {y : Str} (h : PySem.W.codeIn K (.ref c) y = true) : nameC K c = y := by
  have h : (match K.lookup c with | some ⟨_, _, .fields vs, _⟩ => (match vs.toList with | _ :: .str n _ :: _ => n == y | _ => false) | _ => false) = true := h
  unfold nameC
  split at h
  · rename_i vs _ e
    split at h
    · rename_i a n t r hv
      exact beq_iff_eq.mp h
    · cases h
  · cases h
theorem tabOf_of {K : PySem.W.Frag} {c P : Addr} (h : PySem.W.codeHdIn K c P = true) : He.tabOf K c = P := by
  unfold PySem.W.codeHdIn at h
  unfold He.tabOf
  split at h
  · rename_i vs _ e
    rw [e]
    dsimp only
    simp only [Bool.and_eq_true] at h -- all parts
    obtain ⟨⟨⟨⟨⟨h1, _⟩, _⟩, _⟩, _⟩, _⟩ := h
    split at h1
    · rename_i P' q
      rw [Array.getD_eq_getD_getElem?, q]
      exact beq_iff_eq.mp h1
    · cases h1
  · cases h
theorem csOf_mem {K : PySem.W.Frag} {c P : Addr} (h : PySem.W.codeHdIn K c P = true) : (c, P) ∈ csOf K := by
  refine List.mem_filter.mpr ⟨List.mem_map.mpr ?_, h⟩
  have h2 := h
  unfold PySem.W.codeHdIn at h2
  split at h2
  · rename_i vs _ e
    exact ⟨_, He.lookup_mem e, by rw [tabOf_of h]⟩
  · cases h2
/-- tables are told of by code objects of one name alone -/
def oneB (K : PySem.W.Frag) : Bool := (csOf K).all fun p => decide (nmOf K p.2 = (nameC K p.1 ++ ".<locals>.") ++ "<lambda>")
/-- every code object's table is empty -/
def emptB (g : Addr → Option Obj) (K : PySem.W.Frag) : Bool := (csOf K).all fun p => match g p.2 with
  | some o => He.emptyTab o
  | none => false
structure SaysT (fa : List He.Fa) (fn : List He5.DefA) (ex : PySem.W.Frag → Bool) (h : Heap) (K : PySem.W.Frag) : Prop where
  s : SaysS fa fn ex K
  one : ∀ c P y, PySem.W.codeHdIn K c P = true → PySem.W.codeIn K (.ref c) y = true → nmOf K P = (y ++ ".<locals>.") ++ "<lambda>"
  hd : ∀ p ∈ csOf K, PySem.W.codeHdIn K p.1 p.2 = true
  out : ∀ p ∈ csOf K, K.lookup p.2 = none
  empty : ∀ p ∈ csOf K, h.get? p.2 = some DC.tab0
def obsTt (n : Nat) (fa : List He.Fa) (fn : List He5.DefA) (ex : PySem.W.Frag → Bool) (g : Addr → Option Obj) : AlS := (He5.obsA fa fn (He.frT g (asS g n)), ex (He.frT g (asS g n)) && (oneB (He.frT g (asS g n)) && emptB g (He.frT g (asS g n))))
theorem saysT_of {n : Nat} {fa : List He.Fa} {fn : List He5.DefA} {ex : PySem.W.Frag → Bool} {h : Heap} (e : obsTt n fa fn ex h.get? = (He5.valA fn, true)) : SaysT fa fn ex h (He.frT h.get? (asS h.get? n)) := by
  have e1 := congrArg (fun z : AlS => z.1) e
  have e2 := congrArg (fun z : AlS => z.2) e
  obtain ⟨a1, a2⟩ := Bool.and_eq_true_iff.mp e2
  obtain ⟨a3, a4⟩ := Bool.and_eq_true_iff.mp a2
  have key : ∀ p ∈ csOf (He.frT h.get? (asS h.get? n)), ∃ o, h.get? p.2 = some o ∧ He.emptyTab o = true := fun p hp => by
    have q := List.all_eq_true.mp a4 p hp
    cases z : h.get? p.2 with
    | none => rw [z] at q; cases q
    | some o => rw [z] at q; exact ⟨o, rfl, q⟩
  refine ⟨⟨e1, a1⟩, fun c P y k1 k2 => ?_, fun p hp => (List.mem_filter.mp hp).2, fun p hp => ?_, fun p hp => ?_⟩
  · have q := of_decide_eq_true (List.all_eq_true.mp a3 _ (csOf_mem k1))
    rw [← nameC_of k2]
    exact q
  · obtain ⟨o, z, y⟩ := key p hp
    exact He.frT_none z y
  · obtain ⟨o, z, y⟩ := key p hp
    rw [z, He.emptyTab_eq y]
def hookT (n : Nat) (fa : List He.Fa) (fn : List He5.DefA) (ex : PySem.W.Frag → Bool) : PySem.W.Hook where
  α := AlS
  obs := fun s => obsTt n fa fn ex s.heap.get?
  val := fun _ => (He5.valA fn, true)
  says := fun _ h => ∃ K : PySem.W.Frag, K.In h ∧ SaysT fa fn ex h K
  of := fun _ _ e => ⟨_, He.frT_in, saysT_of e⟩
  keeps := fun _ _ _ ⟨K, inK, c⟩ old => ⟨K, PySem.W.Frag.In.keeps inK old, ⟨c.s, c.one, c.hd, c.out, fun p hp => old _ _ (c.empty p hp)⟩⟩
theorem obsT_eq {n : Nat} {fa : List He.Fa} {fn : List He5.DefA} {ex : PySem.W.Frag → Bool} {g : Addr → Option Obj} {s : Shared} (h : ∀ a, g a = s.heap.get? a) : obsTt n fa fn ex g = (hookT n fa fn ex).obs s := by
  have same : g = s.heap.get? := funext h
  rw [same] <;> rfl
/-- a def that makes lambdas: its code object has a table -/
def lamB (K : PySem.W.Frag) (x : Str) : Bool := match K.lookup (He.ga K x) with
  | some ⟨_, _, .func fn, _⟩ => (match fn.code with
    | .ref c => PySem.W.codeHdIn K c (He.tabOf K c) && PySem.W.codeIn K (.ref c) x
    | _ => false)
  | _ => false
theorem lamB_ok {K : PySem.W.Frag} {mg : Str → Option Value} {bs : Heap} {x : Str} (h : lamB K x = true) (out : ∀ p ∈ csOf K, K.lookup p.2 = none) (tb : ∀ p ∈ csOf K, LamX.TabB bs mg p.1 p.2) (cdv : Value) (lk : ∃ o fdd, K.lookup (He.ga K x) = some o ∧ o.data = .func fdd ∧ fdd.code = cdv) :
    ∃ c P, cdv = .ref c ∧ PySem.W.codeHdIn K c P = true ∧ K.lookup P = none ∧ PySem.W.codeIn K (.ref c) x = true ∧ LamX.TabB bs mg c P := by
  obtain ⟨o, fdd, e1, e2, rfl⟩ := lk
  unfold lamB at h
  obtain ⟨oc, od, dt, osl⟩ := o
  cases e2
  rw [e1] at h
  dsimp only at h
  split at h
  · rename_i c e
    obtain ⟨h1, h2⟩ := Bool.and_eq_true_iff.mp h
    exact ⟨c, _, e, h1, out _ (csOf_mem h1), h2, tb _ (csOf_mem h1)⟩
  · cases h
end DL

namespace K20
open PySem PySem.Spec PyProof.Rows L2 DL
def top (i : Nat) : Stmt := PySem.Challenge.pw_evenmarket_k20_turning.main.body.getD i (.Pass ⟨0, 0, 0, 0⟩)
abbrev s_BadPrice_init : Stmt := inClass (top 2) 0
abbrev s_Fis_name : Stmt := top 5
abbrev s_Fis_member : Stmt := top 6
abbrev s_Fis_whole : Stmt := top 7
abbrev s_Fis_price : Stmt := top 8
abbrev s_Fis_side : Stmt := top 11
abbrev s_BadBid_init : Stmt := inClass (top 17) 0
abbrev s_TooManyBids_init : Stmt := inClass (top 18) 0
abbrev s_BidTaken_init : Stmt := inClass (top 19) 0
abbrev s_BothSides_init : Stmt := inClass (top 20) 0
abbrev s_Fclearing : Stmt := top 21
abbrev s_Fturning : Stmt := top 22
abbrev s_Fis_bid : Stmt := top 23
abbrev s_Fcheck_bids : Stmt := top 24
abbrev s_Fcheck_bids_at : Stmt := top 25
abbrev s_Fis_on_other_side : Stmt := top 26
abbrev s_Fcheck_price : Stmt := top 27
abbrev s_Fall_prices : Stmt := top 28
abbrev s_Fworth : Stmt := top 29
abbrev s_Frise : Stmt := top 30
abbrev s_Fof_side : Stmt := top 31
abbrev s_Fcounts_at : Stmt := top 32
abbrev s_Fvolume_at : Stmt := top 33
abbrev s_Fleft_at : Stmt := top 34
abbrev s_Fbest_of : Stmt := top 35
abbrev s_Fclearing_of : Stmt := top 36
abbrev s_Fclearing_price : Stmt := top 37
abbrev s_Fchosen : Stmt := top 38
abbrev s_Llaw_start : Stmt := top 40
abbrev s_Llaw_draw : Stmt := top 41
abbrev s_Llaw_words : Stmt := top 42
abbrev s_Llaw_orders : Stmt := top 43
abbrev s_Llaw_worth : Stmt := top 44
abbrev s_Llaw_counts : Stmt := top 45
abbrev s_Llaw_clearing : Stmt := top 46
abbrev s_Llaw_price : Stmt := top 47
abbrev s_Llaw_due : Stmt := top 48
abbrev s_Llaw_right : Stmt := top 49
abbrev s_Llaw_fresh : Stmt := top 50
abbrev s_Flaw : Stmt := top 51
def dd_BadPrice_init : He5.DefA := ⟨fun K => He.fAd K ("BadPrice", some "__init__"), "__init__", "BadPrice.__init__", defArgs s_BadPrice_init, defBody s_BadPrice_init, defScope s_BadPrice_init, [], []⟩
def dd_Fis_name : He5.DefA := ⟨fun K => He.fAd K ("is_name", none), "is_name", "is_name", defArgs s_Fis_name, defBody s_Fis_name, defScope s_Fis_name, [], []⟩
def dd_Fis_member : He5.DefA := ⟨fun K => He.fAd K ("is_member", none), "is_member", "is_member", defArgs s_Fis_member, defBody s_Fis_member, defScope s_Fis_member, [], []⟩
def dd_Fis_whole : He5.DefA := ⟨fun K => He.fAd K ("is_whole", none), "is_whole", "is_whole", defArgs s_Fis_whole, defBody s_Fis_whole, defScope s_Fis_whole, [], []⟩
def dd_Fis_price : He5.DefA := ⟨fun K => He.fAd K ("is_price", none), "is_price", "is_price", defArgs s_Fis_price, defBody s_Fis_price, defScope s_Fis_price, [], []⟩
def dd_Fis_side : He5.DefA := ⟨fun K => He.fAd K ("is_side", none), "is_side", "is_side", defArgs s_Fis_side, defBody s_Fis_side, defScope s_Fis_side, [], []⟩
def dd_BadBid_init : He5.DefA := ⟨fun K => He.fAd K ("BadBid", some "__init__"), "__init__", "BadBid.__init__", defArgs s_BadBid_init, defBody s_BadBid_init, defScope s_BadBid_init, [], []⟩
def dd_TooManyBids_init : He5.DefA := ⟨fun K => He.fAd K ("TooManyBids", some "__init__"), "__init__", "TooManyBids.__init__", defArgs s_TooManyBids_init, defBody s_TooManyBids_init, defScope s_TooManyBids_init, [], []⟩
def dd_BidTaken_init : He5.DefA := ⟨fun K => He.fAd K ("BidTaken", some "__init__"), "__init__", "BidTaken.__init__", defArgs s_BidTaken_init, defBody s_BidTaken_init, defScope s_BidTaken_init, [], []⟩
def dd_BothSides_init : He5.DefA := ⟨fun K => He.fAd K ("BothSides", some "__init__"), "__init__", "BothSides.__init__", defArgs s_BothSides_init, defBody s_BothSides_init, defScope s_BothSides_init, [], []⟩
def dd_Fclearing : He5.DefA := ⟨fun K => He.fAd K ("clearing", none), "clearing", "clearing", defArgs s_Fclearing, defBody s_Fclearing, defScope s_Fclearing, [], []⟩
def dd_Fturning : He5.DefA := ⟨fun K => He.fAd K ("turning", none), "turning", "turning", defArgs s_Fturning, defBody s_Fturning, defScope s_Fturning, [], []⟩
def dd_Fis_bid : He5.DefA := ⟨fun K => He.fAd K ("is_bid", none), "is_bid", "is_bid", defArgs s_Fis_bid, defBody s_Fis_bid, defScope s_Fis_bid, [], []⟩
def dd_Fcheck_bids : He5.DefA := ⟨fun K => He.fAd K ("check_bids", none), "check_bids", "check_bids", defArgs s_Fcheck_bids, defBody s_Fcheck_bids, defScope s_Fcheck_bids, [], []⟩
def dd_Fcheck_bids_at : He5.DefA := ⟨fun K => He.fAd K ("check_bids_at", none), "check_bids_at", "check_bids_at", defArgs s_Fcheck_bids_at, defBody s_Fcheck_bids_at, defScope s_Fcheck_bids_at, [], []⟩
def dd_Fis_on_other_side : He5.DefA := ⟨fun K => He.fAd K ("is_on_other_side", none), "is_on_other_side", "is_on_other_side", defArgs s_Fis_on_other_side, defBody s_Fis_on_other_side, defScope s_Fis_on_other_side, [], []⟩
def dd_Fcheck_price : He5.DefA := ⟨fun K => He.fAd K ("check_price", none), "check_price", "check_price", defArgs s_Fcheck_price, defBody s_Fcheck_price, defScope s_Fcheck_price, [], []⟩
def dd_Fall_prices : He5.DefA := ⟨fun K => He.fAd K ("all_prices", none), "all_prices", "all_prices", defArgs s_Fall_prices, defBody s_Fall_prices, defScope s_Fall_prices, [], []⟩
def dd_Fworth : He5.DefA := ⟨fun K => He.fAd K ("worth", none), "worth", "worth", defArgs s_Fworth, defBody s_Fworth, defScope s_Fworth, [], []⟩
def dd_Frise : He5.DefA := ⟨fun K => He.fAd K ("rise", none), "rise", "rise", defArgs s_Frise, defBody s_Frise, defScope s_Frise, [], []⟩
def dd_Fof_side : He5.DefA := ⟨fun K => He.fAd K ("of_side", none), "of_side", "of_side", defArgs s_Fof_side, defBody s_Fof_side, defScope s_Fof_side, [], []⟩
def dd_Fcounts_at : He5.DefA := ⟨fun K => He.fAd K ("counts_at", none), "counts_at", "counts_at", defArgs s_Fcounts_at, defBody s_Fcounts_at, defScope s_Fcounts_at, [], []⟩
def dd_Fvolume_at : He5.DefA := ⟨fun K => He.fAd K ("volume_at", none), "volume_at", "volume_at", defArgs s_Fvolume_at, defBody s_Fvolume_at, defScope s_Fvolume_at, [], []⟩
def dd_Fleft_at : He5.DefA := ⟨fun K => He.fAd K ("left_at", none), "left_at", "left_at", defArgs s_Fleft_at, defBody s_Fleft_at, defScope s_Fleft_at, [], []⟩
def dd_Fbest_of : He5.DefA := ⟨fun K => He.fAd K ("best_of", none), "best_of", "best_of", defArgs s_Fbest_of, defBody s_Fbest_of, defScope s_Fbest_of, [], []⟩
def dd_Fclearing_of : He5.DefA := ⟨fun K => He.fAd K ("clearing_of", none), "clearing_of", "clearing_of", defArgs s_Fclearing_of, defBody s_Fclearing_of, defScope s_Fclearing_of, [], []⟩
def dd_Fclearing_price : He5.DefA := ⟨fun K => He.fAd K ("clearing_price", none), "clearing_price", "clearing_price", defArgs s_Fclearing_price, defBody s_Fclearing_price, defScope s_Fclearing_price, [], []⟩
def dd_Fchosen : He5.DefA := ⟨fun K => He.fAd K ("chosen", none), "chosen", "chosen", defArgs s_Fchosen, defBody s_Fchosen, defScope s_Fchosen, [], []⟩
def dd_Llaw_start : He5.DefA := ⟨fun K => He.fAd K ("_law_start", none), "_law_start", "_law_start", defArgs s_Llaw_start, defBody s_Llaw_start, defScope s_Llaw_start, [], []⟩
def dd_Llaw_draw : He5.DefA := ⟨fun K => He.fAd K ("_law_draw", none), "_law_draw", "_law_draw", defArgs s_Llaw_draw, defBody s_Llaw_draw, defScope s_Llaw_draw, [], []⟩
def dd_Llaw_words : He5.DefA := ⟨fun K => He.fAd K ("_law_words", none), "_law_words", "_law_words", defArgs s_Llaw_words, defBody s_Llaw_words, defScope s_Llaw_words, [], []⟩
def dd_Llaw_orders : He5.DefA := ⟨fun K => He.fAd K ("_law_orders", none), "_law_orders", "_law_orders", defArgs s_Llaw_orders, defBody s_Llaw_orders, defScope s_Llaw_orders, [], []⟩
def dd_Llaw_worth : He5.DefA := ⟨fun K => He.fAd K ("_law_worth", none), "_law_worth", "_law_worth", defArgs s_Llaw_worth, defBody s_Llaw_worth, defScope s_Llaw_worth, [], []⟩
def dd_Llaw_counts : He5.DefA := ⟨fun K => He.fAd K ("_law_counts", none), "_law_counts", "_law_counts", defArgs s_Llaw_counts, defBody s_Llaw_counts, defScope s_Llaw_counts, [], []⟩
def dd_Llaw_clearing : He5.DefA := ⟨fun K => He.fAd K ("_law_clearing", none), "_law_clearing", "_law_clearing", defArgs s_Llaw_clearing, defBody s_Llaw_clearing, defScope s_Llaw_clearing, [], []⟩
def dd_Llaw_price : He5.DefA := ⟨fun K => He.fAd K ("_law_price", none), "_law_price", "_law_price", defArgs s_Llaw_price, defBody s_Llaw_price, defScope s_Llaw_price, [], []⟩
def dd_Llaw_due : He5.DefA := ⟨fun K => He.fAd K ("_law_due", none), "_law_due", "_law_due", defArgs s_Llaw_due, defBody s_Llaw_due, defScope s_Llaw_due, [], []⟩
def dd_Llaw_right : He5.DefA := ⟨fun K => He.fAd K ("_law_right", none), "_law_right", "_law_right", defArgs s_Llaw_right, defBody s_Llaw_right, defScope s_Llaw_right, [], []⟩
def dd_Llaw_fresh : He5.DefA := ⟨fun K => He.fAd K ("_law_fresh", none), "_law_fresh", "_law_fresh", defArgs s_Llaw_fresh, defBody s_Llaw_fresh, defScope s_Llaw_fresh, [], []⟩
def dd_Flaw : He5.DefA := ⟨fun K => He.fAd K ("law", none), "law", "law", defArgs s_Flaw, defBody s_Flaw, defScope s_Flaw, [], []⟩
def fn : List He5.DefA := ([dd_BadPrice_init, dd_Fis_name, dd_Fis_member, dd_Fis_whole, dd_Fis_price, dd_Fis_side, dd_BadBid_init, dd_TooManyBids_init, dd_BidTaken_init, dd_BothSides_init, dd_Fclearing, dd_Fturning, dd_Fis_bid, dd_Fcheck_bids, dd_Fcheck_bids_at, dd_Fis_on_other_side, dd_Fcheck_price, dd_Fall_prices, dd_Fworth, dd_Frise, dd_Fof_side, dd_Fcounts_at, dd_Fvolume_at, dd_Fleft_at] : List He5.DefA) ++ ([dd_Fbest_of, dd_Fclearing_of, dd_Fclearing_price, dd_Fchosen, dd_Llaw_start, dd_Llaw_draw, dd_Llaw_words, dd_Llaw_orders, dd_Llaw_worth, dd_Llaw_counts, dd_Llaw_clearing, dd_Llaw_price, dd_Llaw_due, dd_Llaw_right, dd_Llaw_fresh, dd_Flaw] : List He5.DefA)
def fa : List He.Fa := ([.glo "is_name", .glo "is_member", .glo "is_whole", .glo "is_price", .glo "is_side", .glo "clearing", .glo "turning", .glo "is_bid", .glo "check_bids", .glo "check_bids_at", .glo "is_on_other_side", .glo "check_price", .glo "all_prices", .glo "worth", .glo "rise", .glo "of_side", .glo "counts_at", .glo "volume_at", .glo "left_at", .glo "best_of", .glo "clearing_of", .glo "clearing_price", .glo "chosen", .glo "_law_start"] : List He.Fa) ++ ([.glo "_law_draw", .glo "_law_words", .glo "_law_orders", .glo "_law_worth", .glo "_law_counts", .glo "_law_clearing", .glo "_law_price", .glo "_law_due", .glo "_law_right", .glo "_law_fresh", .glo "law", .glo "MarketError", .glo "BadPrice", .glo "BadBid", .glo "TooManyBids", .glo "BidTaken", .glo "BothSides", .free "abs", .free "len", .free "sum", .free "min", .free "max", .free "all", .free "any"] : List He.Fa) ++ ([.free "sorted", .free "isinstance", .free "repr", .free "range", .free "int", .free "str", .free "bool", .free "list", .free "tuple", .free "enumerate", .glo "RESERVED", .glo "SIDES", .int "MOST_BIDS" 12, .int "MOST_UNITS" 12, .int "LEAST_PRICE" 1, .int "GREATEST_PRICE" 99, .noat "BadPrice" "given", .noat "BadBid" "given", .noat "TooManyBids" "given", .noat "BidTaken" "given", .noat "BothSides" "given"] : List He.Fa)
def ex (K : PySem.W.Frag) : Bool := tupB K "RESERVED" ["house", "outside", "money"] && (tupB K "SIDES" ["buy", "sell"] && (oexB K (He.ga K "BadPrice") && (iniB K (He.ga K "BadPrice") && (xfB K (He.ga K "BadPrice") && (oexB K (He.ga K "BadBid") && (iniB K (He.ga K "BadBid") && (xfB K (He.ga K "BadBid") && (oexB K (He.ga K "TooManyBids") && (iniB K (He.ga K "TooManyBids") && (xfB K (He.ga K "TooManyBids") && (oexB K (He.ga K "BidTaken") && (iniB K (He.ga K "BidTaken") && (xfB K (He.ga K "BidTaken") && (oexB K (He.ga K "BothSides") && (iniB K (He.ga K "BothSides") && (xfB K (He.ga K "BothSides") && (smB K && (lamB K "chosen" && (true)))))))))))))))))))
abbrev R : PySem.W.OpenRow := PySem.W.OpenLaw.row PySem.Challenge.rw_evenmarket_k20_turning
abbrev hk : PySem.W.Hook := hookT 6 fa fn ex
def ob (s : PySem.W.SharedT) : AlS := obsTt 6 fa fn ex (HandSHeadRun.getT s)
theorem ob_eq (s : PySem.W.SharedT) : ob s = hk.obs s.abs := obsT_eq (HandSHeadRun.getT_eq s)
def loose : List Str := (["__name__", "MarketError", "BadPrice", "RESERVED", "is_name", "is_member", "is_whole", "is_price", "SIDES", "is_side", "MOST_BIDS", "MOST_UNITS", "LEAST_PRICE", "GREATEST_PRICE", "BadBid", "TooManyBids", "BidTaken", "BothSides", "clearing", "turning", "is_bid", "check_bids", "check_bids_at", "is_on_other_side"] : List Str) ++ (["check_price", "all_prices", "worth", "rise", "of_side", "counts_at", "volume_at", "left_at", "best_of", "clearing_of", "clearing_price", "chosen", "_law_start", "_law_draw", "_law_words", "_law_orders", "_law_worth", "_law_counts", "_law_clearing", "_law_price", "_law_due", "_law_right", "_law_fresh"] : List Str)
theorem run (w : World) : HandSHeadRun.RunEq R (PySem.W.view R.prog [51]) hk ob 60000 loose w := by
  intro os
  kernel_rfl

end K20

namespace K20
open PySem PySem.Spec PyProof.Rows L2 DL
structure Tx (K : PySem.W.Frag) (mg : Str → Option Value) : Prop where
  g_is_name : mg "is_name" = some (.ref (He.ga K "is_name"))
  g_is_member : mg "is_member" = some (.ref (He.ga K "is_member"))
  g_is_whole : mg "is_whole" = some (.ref (He.ga K "is_whole"))
  g_is_price : mg "is_price" = some (.ref (He.ga K "is_price"))
  g_is_side : mg "is_side" = some (.ref (He.ga K "is_side"))
  g_clearing : mg "clearing" = some (.ref (He.ga K "clearing"))
  g_turning : mg "turning" = some (.ref (He.ga K "turning"))
  g_is_bid : mg "is_bid" = some (.ref (He.ga K "is_bid"))
  g_check_bids : mg "check_bids" = some (.ref (He.ga K "check_bids"))
  g_check_bids_at : mg "check_bids_at" = some (.ref (He.ga K "check_bids_at"))
  g_is_on_other_side : mg "is_on_other_side" = some (.ref (He.ga K "is_on_other_side"))
  g_check_price : mg "check_price" = some (.ref (He.ga K "check_price"))
  g_all_prices : mg "all_prices" = some (.ref (He.ga K "all_prices"))
  g_worth : mg "worth" = some (.ref (He.ga K "worth"))
  g_rise : mg "rise" = some (.ref (He.ga K "rise"))
  g_of_side : mg "of_side" = some (.ref (He.ga K "of_side"))
  g_counts_at : mg "counts_at" = some (.ref (He.ga K "counts_at"))
  g_volume_at : mg "volume_at" = some (.ref (He.ga K "volume_at"))
  g_left_at : mg "left_at" = some (.ref (He.ga K "left_at"))
  g_best_of : mg "best_of" = some (.ref (He.ga K "best_of"))
  g_clearing_of : mg "clearing_of" = some (.ref (He.ga K "clearing_of"))
  g_clearing_price : mg "clearing_price" = some (.ref (He.ga K "clearing_price"))
  g_chosen : mg "chosen" = some (.ref (He.ga K "chosen"))
  g__law_start : mg "_law_start" = some (.ref (He.ga K "_law_start"))
  g__law_draw : mg "_law_draw" = some (.ref (He.ga K "_law_draw"))
  g__law_words : mg "_law_words" = some (.ref (He.ga K "_law_words"))
  g__law_orders : mg "_law_orders" = some (.ref (He.ga K "_law_orders"))
  g__law_worth : mg "_law_worth" = some (.ref (He.ga K "_law_worth"))
  g__law_counts : mg "_law_counts" = some (.ref (He.ga K "_law_counts"))
  g__law_clearing : mg "_law_clearing" = some (.ref (He.ga K "_law_clearing"))
  g__law_price : mg "_law_price" = some (.ref (He.ga K "_law_price"))
  g__law_due : mg "_law_due" = some (.ref (He.ga K "_law_due"))
  g__law_right : mg "_law_right" = some (.ref (He.ga K "_law_right"))
  g__law_fresh : mg "_law_fresh" = some (.ref (He.ga K "_law_fresh"))
  g_law : mg "law" = some (.ref (He.ga K "law"))
  g_MarketError : mg "MarketError" = some (.ref (He.ga K "MarketError"))
  g_BadPrice : mg "BadPrice" = some (.ref (He.ga K "BadPrice"))
  g_BadBid : mg "BadBid" = some (.ref (He.ga K "BadBid"))
  g_TooManyBids : mg "TooManyBids" = some (.ref (He.ga K "TooManyBids"))
  g_BidTaken : mg "BidTaken" = some (.ref (He.ga K "BidTaken"))
  g_BothSides : mg "BothSides" = some (.ref (He.ga K "BothSides"))
  n_abs : mg "abs" = none
  n_len : mg "len" = none
  n_sum : mg "sum" = none
  n_min : mg "min" = none
  n_max : mg "max" = none
  n_all : mg "all" = none
  n_any : mg "any" = none
  n_sorted : mg "sorted" = none
  n_isinstance : mg "isinstance" = none
  n_repr : mg "repr" = none
  n_range : mg "range" = none
  n_int : mg "int" = none
  n_str : mg "str" = none
  n_bool : mg "bool" = none
  n_list : mg "list" = none
  n_tuple : mg "tuple" = none
  n_enumerate : mg "enumerate" = none
  g_RESERVED : mg "RESERVED" = some (.ref (He.ga K "RESERVED"))
  g_SIDES : mg "SIDES" = some (.ref (He.ga K "SIDES"))
  i_MOST_BIDS : ∃ t, mg "MOST_BIDS" = some (.int 12 t)
  i_MOST_UNITS : ∃ t, mg "MOST_UNITS" = some (.int 12 t)
  i_LEAST_PRICE : ∃ t, mg "LEAST_PRICE" = some (.int 1 t)
  i_GREATEST_PRICE : ∃ t, mg "GREATEST_PRICE" = some (.int 99 t)
  no_BadPrice_given : NoAttr K (He.ga K "BadPrice") "given"
  no_BadBid_given : NoAttr K (He.ga K "BadBid") "given"
  no_TooManyBids_given : NoAttr K (He.ga K "TooManyBids") "given"
  no_BidTaken_given : NoAttr K (He.ga K "BidTaken") "given"
  no_BothSides_given : NoAttr K (He.ga K "BothSides") "given"
  tup_RESERVED : ∀ S, Rep K S (.ref (He.ga K "RESERVED")) (.tup ((["house", "outside", "money"] : List Str).map .str))
  tup_SIDES : ∀ S, Rep K S (.ref (He.ga K "SIDES")) (.tup ((["buy", "sell"] : List Str).map .str))
  o_BadPrice : OexC K (He.ga K "BadPrice")
  i_BadPrice : PySem.W.findIn K (.ref (He.ga K "BadPrice")) "__init__" = some (some (.ref (He.ma K (He.ga K "BadPrice") "__init__")))
  t_BadPrice : PySem.W.typeIn K (.ref (He.ma K (He.ga K "BadPrice") "__init__")) = some (.type "function")
  x_BadPrice : XfC K (He.ga K "BadPrice")
  o_BadBid : OexC K (He.ga K "BadBid")
  i_BadBid : PySem.W.findIn K (.ref (He.ga K "BadBid")) "__init__" = some (some (.ref (He.ma K (He.ga K "BadBid") "__init__")))
  t_BadBid : PySem.W.typeIn K (.ref (He.ma K (He.ga K "BadBid") "__init__")) = some (.type "function")
  x_BadBid : XfC K (He.ga K "BadBid")
  o_TooManyBids : OexC K (He.ga K "TooManyBids")
  i_TooManyBids : PySem.W.findIn K (.ref (He.ga K "TooManyBids")) "__init__" = some (some (.ref (He.ma K (He.ga K "TooManyBids") "__init__")))
  t_TooManyBids : PySem.W.typeIn K (.ref (He.ma K (He.ga K "TooManyBids") "__init__")) = some (.type "function")
  x_TooManyBids : XfC K (He.ga K "TooManyBids")
  o_BidTaken : OexC K (He.ga K "BidTaken")
  i_BidTaken : PySem.W.findIn K (.ref (He.ga K "BidTaken")) "__init__" = some (some (.ref (He.ma K (He.ga K "BidTaken") "__init__")))
  t_BidTaken : PySem.W.typeIn K (.ref (He.ma K (He.ga K "BidTaken") "__init__")) = some (.type "function")
  x_BidTaken : XfC K (He.ga K "BidTaken")
  o_BothSides : OexC K (He.ga K "BothSides")
  i_BothSides : PySem.W.findIn K (.ref (He.ga K "BothSides")) "__init__" = some (some (.ref (He.ma K (He.ga K "BothSides") "__init__")))
  t_BothSides : PySem.W.typeIn K (.ref (He.ma K (He.ga K "BothSides") "__init__")) = some (.type "function")
  x_BothSides : XfC K (He.ga K "BothSides")
  sm : SmK K
  lam_Fchosen : lamB K "chosen" = true
  d_BadPrice_init : ∃ fd, FunD K "__init__" "BadPrice.__init__" (defArgs s_BadPrice_init) (defBody s_BadPrice_init) (defScope s_BadPrice_init) [] [] (He.ma K (He.ga K "BadPrice") "__init__") fd
  d_Fis_name : ∃ fd, FunD K "is_name" "is_name" (defArgs s_Fis_name) (defBody s_Fis_name) (defScope s_Fis_name) [] [] (He.ga K "is_name") fd
  d_Fis_member : ∃ fd, FunD K "is_member" "is_member" (defArgs s_Fis_member) (defBody s_Fis_member) (defScope s_Fis_member) [] [] (He.ga K "is_member") fd
  d_Fis_whole : ∃ fd, FunD K "is_whole" "is_whole" (defArgs s_Fis_whole) (defBody s_Fis_whole) (defScope s_Fis_whole) [] [] (He.ga K "is_whole") fd
  d_Fis_price : ∃ fd, FunD K "is_price" "is_price" (defArgs s_Fis_price) (defBody s_Fis_price) (defScope s_Fis_price) [] [] (He.ga K "is_price") fd
  d_Fis_side : ∃ fd, FunD K "is_side" "is_side" (defArgs s_Fis_side) (defBody s_Fis_side) (defScope s_Fis_side) [] [] (He.ga K "is_side") fd
  d_BadBid_init : ∃ fd, FunD K "__init__" "BadBid.__init__" (defArgs s_BadBid_init) (defBody s_BadBid_init) (defScope s_BadBid_init) [] [] (He.ma K (He.ga K "BadBid") "__init__") fd
  d_TooManyBids_init : ∃ fd, FunD K "__init__" "TooManyBids.__init__" (defArgs s_TooManyBids_init) (defBody s_TooManyBids_init) (defScope s_TooManyBids_init) [] [] (He.ma K (He.ga K "TooManyBids") "__init__") fd
  d_BidTaken_init : ∃ fd, FunD K "__init__" "BidTaken.__init__" (defArgs s_BidTaken_init) (defBody s_BidTaken_init) (defScope s_BidTaken_init) [] [] (He.ma K (He.ga K "BidTaken") "__init__") fd
  d_BothSides_init : ∃ fd, FunD K "__init__" "BothSides.__init__" (defArgs s_BothSides_init) (defBody s_BothSides_init) (defScope s_BothSides_init) [] [] (He.ma K (He.ga K "BothSides") "__init__") fd
  d_Fclearing : ∃ fd, FunD K "clearing" "clearing" (defArgs s_Fclearing) (defBody s_Fclearing) (defScope s_Fclearing) [] [] (He.ga K "clearing") fd
  d_Fturning : ∃ fd, FunD K "turning" "turning" (defArgs s_Fturning) (defBody s_Fturning) (defScope s_Fturning) [] [] (He.ga K "turning") fd
  d_Fis_bid : ∃ fd, FunD K "is_bid" "is_bid" (defArgs s_Fis_bid) (defBody s_Fis_bid) (defScope s_Fis_bid) [] [] (He.ga K "is_bid") fd
  d_Fcheck_bids : ∃ fd, FunD K "check_bids" "check_bids" (defArgs s_Fcheck_bids) (defBody s_Fcheck_bids) (defScope s_Fcheck_bids) [] [] (He.ga K "check_bids") fd
  d_Fcheck_bids_at : ∃ fd, FunD K "check_bids_at" "check_bids_at" (defArgs s_Fcheck_bids_at) (defBody s_Fcheck_bids_at) (defScope s_Fcheck_bids_at) [] [] (He.ga K "check_bids_at") fd
  d_Fis_on_other_side : ∃ fd, FunD K "is_on_other_side" "is_on_other_side" (defArgs s_Fis_on_other_side) (defBody s_Fis_on_other_side) (defScope s_Fis_on_other_side) [] [] (He.ga K "is_on_other_side") fd
  d_Fcheck_price : ∃ fd, FunD K "check_price" "check_price" (defArgs s_Fcheck_price) (defBody s_Fcheck_price) (defScope s_Fcheck_price) [] [] (He.ga K "check_price") fd
  d_Fall_prices : ∃ fd, FunD K "all_prices" "all_prices" (defArgs s_Fall_prices) (defBody s_Fall_prices) (defScope s_Fall_prices) [] [] (He.ga K "all_prices") fd
  d_Fworth : ∃ fd, FunD K "worth" "worth" (defArgs s_Fworth) (defBody s_Fworth) (defScope s_Fworth) [] [] (He.ga K "worth") fd
  d_Frise : ∃ fd, FunD K "rise" "rise" (defArgs s_Frise) (defBody s_Frise) (defScope s_Frise) [] [] (He.ga K "rise") fd
  d_Fof_side : ∃ fd, FunD K "of_side" "of_side" (defArgs s_Fof_side) (defBody s_Fof_side) (defScope s_Fof_side) [] [] (He.ga K "of_side") fd
  d_Fcounts_at : ∃ fd, FunD K "counts_at" "counts_at" (defArgs s_Fcounts_at) (defBody s_Fcounts_at) (defScope s_Fcounts_at) [] [] (He.ga K "counts_at") fd
  d_Fvolume_at : ∃ fd, FunD K "volume_at" "volume_at" (defArgs s_Fvolume_at) (defBody s_Fvolume_at) (defScope s_Fvolume_at) [] [] (He.ga K "volume_at") fd
  d_Fleft_at : ∃ fd, FunD K "left_at" "left_at" (defArgs s_Fleft_at) (defBody s_Fleft_at) (defScope s_Fleft_at) [] [] (He.ga K "left_at") fd
  d_Fbest_of : ∃ fd, FunD K "best_of" "best_of" (defArgs s_Fbest_of) (defBody s_Fbest_of) (defScope s_Fbest_of) [] [] (He.ga K "best_of") fd
  d_Fclearing_of : ∃ fd, FunD K "clearing_of" "clearing_of" (defArgs s_Fclearing_of) (defBody s_Fclearing_of) (defScope s_Fclearing_of) [] [] (He.ga K "clearing_of") fd
  d_Fclearing_price : ∃ fd, FunD K "clearing_price" "clearing_price" (defArgs s_Fclearing_price) (defBody s_Fclearing_price) (defScope s_Fclearing_price) [] [] (He.ga K "clearing_price") fd
  d_Fchosen : ∃ fd, FunD K "chosen" "chosen" (defArgs s_Fchosen) (defBody s_Fchosen) (defScope s_Fchosen) [] [] (He.ga K "chosen") fd
  d_Llaw_start : ∃ fd, FunD K "_law_start" "_law_start" (defArgs s_Llaw_start) (defBody s_Llaw_start) (defScope s_Llaw_start) [] [] (He.ga K "_law_start") fd
  d_Llaw_draw : ∃ fd, FunD K "_law_draw" "_law_draw" (defArgs s_Llaw_draw) (defBody s_Llaw_draw) (defScope s_Llaw_draw) [] [] (He.ga K "_law_draw") fd
  d_Llaw_words : ∃ fd, FunD K "_law_words" "_law_words" (defArgs s_Llaw_words) (defBody s_Llaw_words) (defScope s_Llaw_words) [] [] (He.ga K "_law_words") fd
  d_Llaw_orders : ∃ fd, FunD K "_law_orders" "_law_orders" (defArgs s_Llaw_orders) (defBody s_Llaw_orders) (defScope s_Llaw_orders) [] [] (He.ga K "_law_orders") fd
  d_Llaw_worth : ∃ fd, FunD K "_law_worth" "_law_worth" (defArgs s_Llaw_worth) (defBody s_Llaw_worth) (defScope s_Llaw_worth) [] [] (He.ga K "_law_worth") fd
  d_Llaw_counts : ∃ fd, FunD K "_law_counts" "_law_counts" (defArgs s_Llaw_counts) (defBody s_Llaw_counts) (defScope s_Llaw_counts) [] [] (He.ga K "_law_counts") fd
  d_Llaw_clearing : ∃ fd, FunD K "_law_clearing" "_law_clearing" (defArgs s_Llaw_clearing) (defBody s_Llaw_clearing) (defScope s_Llaw_clearing) [] [] (He.ga K "_law_clearing") fd
  d_Llaw_price : ∃ fd, FunD K "_law_price" "_law_price" (defArgs s_Llaw_price) (defBody s_Llaw_price) (defScope s_Llaw_price) [] [] (He.ga K "_law_price") fd
  d_Llaw_due : ∃ fd, FunD K "_law_due" "_law_due" (defArgs s_Llaw_due) (defBody s_Llaw_due) (defScope s_Llaw_due) [] [] (He.ga K "_law_due") fd
  d_Llaw_right : ∃ fd, FunD K "_law_right" "_law_right" (defArgs s_Llaw_right) (defBody s_Llaw_right) (defScope s_Llaw_right) [] [] (He.ga K "_law_right") fd
  d_Llaw_fresh : ∃ fd, FunD K "_law_fresh" "_law_fresh" (defArgs s_Llaw_fresh) (defBody s_Llaw_fresh) (defScope s_Llaw_fresh) [] [] (He.ga K "_law_fresh") fd
  d_Flaw : ∃ fd, FunD K "law" "law" (defArgs s_Flaw) (defBody s_Flaw) (defScope s_Flaw) [] [] (He.ga K "law") fd
  out : ∀ p ∈ csOf K, K.lookup p.2 = none
theorem tx_of {K : PySem.W.Frag} {mg : Str → Option Value} {w : World} {h : Heap} (X : K.In h) (G : h.Ns mainGlobals mg) (y0 : SaysT fa fn ex h K) : Tx K mg := by
  have y : SaysS fa fn ex K := y0.s
  have c : He5.SaysA fa fn K := y.d
  have m : ex K = true := y.more
  obtain ⟨e0, m⟩ := Bool.and_eq_true_iff.mp m
  obtain ⟨e1, m⟩ := Bool.and_eq_true_iff.mp m
  obtain ⟨e2, m⟩ := Bool.and_eq_true_iff.mp m
  obtain ⟨e3, m⟩ := Bool.and_eq_true_iff.mp m
  obtain ⟨e4, m⟩ := Bool.and_eq_true_iff.mp m
  obtain ⟨e5, m⟩ := Bool.and_eq_true_iff.mp m
  obtain ⟨e6, m⟩ := Bool.and_eq_true_iff.mp m
  obtain ⟨e7, m⟩ := Bool.and_eq_true_iff.mp m
  obtain ⟨e8, m⟩ := Bool.and_eq_true_iff.mp m
  obtain ⟨e9, m⟩ := Bool.and_eq_true_iff.mp m
  obtain ⟨e10, m⟩ := Bool.and_eq_true_iff.mp m
  obtain ⟨e11, m⟩ := Bool.and_eq_true_iff.mp m
  obtain ⟨e12, m⟩ := Bool.and_eq_true_iff.mp m
  obtain ⟨e13, m⟩ := Bool.and_eq_true_iff.mp m
  obtain ⟨e14, m⟩ := Bool.and_eq_true_iff.mp m
  obtain ⟨e15, m⟩ := Bool.and_eq_true_iff.mp m
  obtain ⟨e16, m⟩ := Bool.and_eq_true_iff.mp m
  obtain ⟨e17, m⟩ := Bool.and_eq_true_iff.mp m
  obtain ⟨e18, m⟩ := Bool.and_eq_true_iff.mp m
  exact ⟨He.glo_ok X G (c.fact 0 (f := .glo "is_name") rfl),
    He.glo_ok X G (c.fact 1 (f := .glo "is_member") rfl),
    He.glo_ok X G (c.fact 2 (f := .glo "is_whole") rfl),
    He.glo_ok X G (c.fact 3 (f := .glo "is_price") rfl),
    He.glo_ok X G (c.fact 4 (f := .glo "is_side") rfl),
    He.glo_ok X G (c.fact 5 (f := .glo "clearing") rfl),
    He.glo_ok X G (c.fact 6 (f := .glo "turning") rfl),
    He.glo_ok X G (c.fact 7 (f := .glo "is_bid") rfl),
    He.glo_ok X G (c.fact 8 (f := .glo "check_bids") rfl),
    He.glo_ok X G (c.fact 9 (f := .glo "check_bids_at") rfl),
    He.glo_ok X G (c.fact 10 (f := .glo "is_on_other_side") rfl),
    He.glo_ok X G (c.fact 11 (f := .glo "check_price") rfl),
    He.glo_ok X G (c.fact 12 (f := .glo "all_prices") rfl),
    He.glo_ok X G (c.fact 13 (f := .glo "worth") rfl),
    He.glo_ok X G (c.fact 14 (f := .glo "rise") rfl),
    He.glo_ok X G (c.fact 15 (f := .glo "of_side") rfl),
    He.glo_ok X G (c.fact 16 (f := .glo "counts_at") rfl),
    He.glo_ok X G (c.fact 17 (f := .glo "volume_at") rfl),
    He.glo_ok X G (c.fact 18 (f := .glo "left_at") rfl),
    He.glo_ok X G (c.fact 19 (f := .glo "best_of") rfl),
    He.glo_ok X G (c.fact 20 (f := .glo "clearing_of") rfl),
    He.glo_ok X G (c.fact 21 (f := .glo "clearing_price") rfl),
    He.glo_ok X G (c.fact 22 (f := .glo "chosen") rfl),
    He.glo_ok X G (c.fact 23 (f := .glo "_law_start") rfl),
    He.glo_ok X G (c.fact 24 (f := .glo "_law_draw") rfl),
    He.glo_ok X G (c.fact 25 (f := .glo "_law_words") rfl),
    He.glo_ok X G (c.fact 26 (f := .glo "_law_orders") rfl),
    He.glo_ok X G (c.fact 27 (f := .glo "_law_worth") rfl),
    He.glo_ok X G (c.fact 28 (f := .glo "_law_counts") rfl),
    He.glo_ok X G (c.fact 29 (f := .glo "_law_clearing") rfl),
    He.glo_ok X G (c.fact 30 (f := .glo "_law_price") rfl),
    He.glo_ok X G (c.fact 31 (f := .glo "_law_due") rfl),
    He.glo_ok X G (c.fact 32 (f := .glo "_law_right") rfl),
    He.glo_ok X G (c.fact 33 (f := .glo "_law_fresh") rfl),
    He.glo_ok X G (c.fact 34 (f := .glo "law") rfl),
    He.glo_ok X G (c.fact 35 (f := .glo "MarketError") rfl),
    He.glo_ok X G (c.fact 36 (f := .glo "BadPrice") rfl),
    He.glo_ok X G (c.fact 37 (f := .glo "BadBid") rfl),
    He.glo_ok X G (c.fact 38 (f := .glo "TooManyBids") rfl),
    He.glo_ok X G (c.fact 39 (f := .glo "BidTaken") rfl),
    He.glo_ok X G (c.fact 40 (f := .glo "BothSides") rfl),
    He.free_ok X G (c.fact 41 (f := .free "abs") rfl),
    He.free_ok X G (c.fact 42 (f := .free "len") rfl),
    He.free_ok X G (c.fact 43 (f := .free "sum") rfl),
    He.free_ok X G (c.fact 44 (f := .free "min") rfl),
    He.free_ok X G (c.fact 45 (f := .free "max") rfl),
    He.free_ok X G (c.fact 46 (f := .free "all") rfl),
    He.free_ok X G (c.fact 47 (f := .free "any") rfl),
    He.free_ok X G (c.fact 48 (f := .free "sorted") rfl),
    He.free_ok X G (c.fact 49 (f := .free "isinstance") rfl),
    He.free_ok X G (c.fact 50 (f := .free "repr") rfl),
    He.free_ok X G (c.fact 51 (f := .free "range") rfl),
    He.free_ok X G (c.fact 52 (f := .free "int") rfl),
    He.free_ok X G (c.fact 53 (f := .free "str") rfl),
    He.free_ok X G (c.fact 54 (f := .free "bool") rfl),
    He.free_ok X G (c.fact 55 (f := .free "list") rfl),
    He.free_ok X G (c.fact 56 (f := .free "tuple") rfl),
    He.free_ok X G (c.fact 57 (f := .free "enumerate") rfl),
    He.glo_ok X G (c.fact 58 (f := .glo "RESERVED") rfl),
    He.glo_ok X G (c.fact 59 (f := .glo "SIDES") rfl),
    He.int_ok X G (c.fact 60 (f := .int "MOST_BIDS" 12) rfl),
    He.int_ok X G (c.fact 61 (f := .int "MOST_UNITS" 12) rfl),
    He.int_ok X G (c.fact 62 (f := .int "LEAST_PRICE" 1) rfl),
    He.int_ok X G (c.fact 63 (f := .int "GREATEST_PRICE" 99) rfl),
    He.noat_ok (c.fact 64 (f := .noat "BadPrice" "given") rfl),
    He.noat_ok (c.fact 65 (f := .noat "BadBid" "given") rfl),
    He.noat_ok (c.fact 66 (f := .noat "TooManyBids" "given") rfl),
    He.noat_ok (c.fact 67 (f := .noat "BidTaken" "given") rfl),
    He.noat_ok (c.fact 68 (f := .noat "BothSides" "given") rfl),
    tupB_ok e0,
    tupB_ok e1,
    oexB_ok e2,
    (iniB_ok e3).1,
    (iniB_ok e3).2,
    xfB_ok e4,
    oexB_ok e5,
    (iniB_ok e6).1,
    (iniB_ok e6).2,
    xfB_ok e7,
    oexB_ok e8,
    (iniB_ok e9).1,
    (iniB_ok e9).2,
    xfB_ok e10,
    oexB_ok e11,
    (iniB_ok e12).1,
    (iniB_ok e12).2,
    xfB_ok e13,
    oexB_ok e14,
    (iniB_ok e15).1,
    (iniB_ok e15).2,
    xfB_ok e16,
    smB_ok e17,
    e18,
    c.def_ 0 (d := dd_BadPrice_init) rfl,
    c.def_ 1 (d := dd_Fis_name) rfl,
    c.def_ 2 (d := dd_Fis_member) rfl,
    c.def_ 3 (d := dd_Fis_whole) rfl,
    c.def_ 4 (d := dd_Fis_price) rfl,
    c.def_ 5 (d := dd_Fis_side) rfl,
    c.def_ 6 (d := dd_BadBid_init) rfl,
    c.def_ 7 (d := dd_TooManyBids_init) rfl,
    c.def_ 8 (d := dd_BidTaken_init) rfl,
    c.def_ 9 (d := dd_BothSides_init) rfl,
    c.def_ 10 (d := dd_Fclearing) rfl,
    c.def_ 11 (d := dd_Fturning) rfl,
    c.def_ 12 (d := dd_Fis_bid) rfl,
    c.def_ 13 (d := dd_Fcheck_bids) rfl,
    c.def_ 14 (d := dd_Fcheck_bids_at) rfl,
    c.def_ 15 (d := dd_Fis_on_other_side) rfl,
    c.def_ 16 (d := dd_Fcheck_price) rfl,
    c.def_ 17 (d := dd_Fall_prices) rfl,
    c.def_ 18 (d := dd_Fworth) rfl,
    c.def_ 19 (d := dd_Frise) rfl,
    c.def_ 20 (d := dd_Fof_side) rfl,
    c.def_ 21 (d := dd_Fcounts_at) rfl,
    c.def_ 22 (d := dd_Fvolume_at) rfl,
    c.def_ 23 (d := dd_Fleft_at) rfl,
    c.def_ 24 (d := dd_Fbest_of) rfl,
    c.def_ 25 (d := dd_Fclearing_of) rfl,
    c.def_ 26 (d := dd_Fclearing_price) rfl,
    c.def_ 27 (d := dd_Fchosen) rfl,
    c.def_ 28 (d := dd_Llaw_start) rfl,
    c.def_ 29 (d := dd_Llaw_draw) rfl,
    c.def_ 30 (d := dd_Llaw_words) rfl,
    c.def_ 31 (d := dd_Llaw_orders) rfl,
    c.def_ 32 (d := dd_Llaw_worth) rfl,
    c.def_ 33 (d := dd_Llaw_counts) rfl,
    c.def_ 34 (d := dd_Llaw_clearing) rfl,
    c.def_ 35 (d := dd_Llaw_price) rfl,
    c.def_ 36 (d := dd_Llaw_due) rfl,
    c.def_ 37 (d := dd_Llaw_right) rfl,
    c.def_ 38 (d := dd_Llaw_fresh) rfl,
    c.def_ 39 (d := dd_Flaw) rfl,
    y0.out⟩
end K20

namespace DL
open PySem L2 PySem.Spec PyProof.Rows
/-! ### enumerate(xs) -/
def enumD (xs : List D) : List D := xs.mapIdx fun i d => .tup [.int i, d]
section
variable {G : Gx} {ρ : Env} {t : TA} {PI_ : List D → Env → Prop}
theorem wi_enum (h : WA G t ρ fun ds ρ1 => ∃ x xs, ds = [x] ∧ IsL x xs ∧ PI_ (enumD xs) ρ1) : WI G (iEnum G.K t) ρ PI_ := fun w σ R o e q =>
  h w σ _ o e fun vs w1 ds ρ1 ⟨x, xs, ed, hx, p⟩ l1 o1 r => by
    subst ed
    obtain ⟨u, rfl, ru⟩ := r.one
    obtain ⟨a, us, rfl, s1, r1⟩ := ru.isL_inv hx
    refine ⟨a, us, rfl, o1.sub.sl s1, q _ w1 _ ρ1 p l1 o1 fun w2 l2 sb => ⟨fun i d hd => ?_, us, sb.sl (l2.s.sl s1), ?_⟩⟩
    · unfold enumD at hd
      rw [List.getElem?_mapIdx] at hd
      obtain ⟨d1, h1, rfl⟩ := Option.map_eq_some_iff.mp hd
      obtain ⟨u, hu, q1⟩ := r1.get h1
      refine ⟨⟨us, u, sb.sl (l2.s.sl s1), hu⟩, fun z H' ⟨T, x', ez, hn, eH, k1⟩ => ?_⟩
      subst ez
      obtain rfl : u = x' := Option.some.inj (hu.symm.trans (k1 us (sb.sl (l2.s.sl s1))))
      obtain ⟨a1, a2, a3⟩ := Wd.repNewT (K := G.K) (xs := [.int (i : Nat), d1]) sb hn (.cons (.int _) (.cons (q1.mono l2.s) .nil))
      exact ⟨_, eH.symm, a1, a2, a3⟩
    · unfold enumD
      rw [List.length_mapIdx, r1.len]
      exact Nat.le_refl _
end
/-! ### list(range(i, j)) -/
def rgD (i j : Int) : List D := (List.range (j - i).toNat).map fun k => .int (i + (k : Nat))
theorem rgD_rep {K : PySem.W.Frag} {S : Hp} (i j : Int) : RepL K S (rgV i j) (rgD i j) := by
  unfold rgV rgD
  induction List.range (j - i).toNat with
  | nil => exact .nil
  | cons k r ih => exact .cons (.int _) ih
theorem wo_listRg {G : Gx} {ρ : Env} {ta tb : TE} {PO : M → Env → Prop} (h : W G ta ρ fun x ρ1 => W G tb ρ1 fun y ρ2 => ∃ i j, x = .int i ∧ y = .int j ∧ 0 ≤ i ∧ 0 ≤ j ∧ i ≤ 16777216 ∧ j ≤ 16777216 ∧ PO (.lst ((rgD i j).map .sh)) ρ2) : WO G (tLstRg (tRg2 ta tb)) ρ PO := fun w σ Q o e q =>
  h w σ _ o e fun u w1 x ρ1 hh l1 o1 r1 => hh w1 σ _ o1 (e.later l1) fun v w2 y ρ2 ⟨i, j, ex, ey, a0, b0, a1, b1, p⟩ l2 o2 r2 => by
    subst ex
    subst ey
    obtain rfl := r1.int_inv
    obtain rfl := r2.int_inv
    refine ⟨i, j, rfl, rfl, RgOk.of_le a0 b1 a1 b0, fun p' hp' => ?_⟩
    exact q (.ref p') (w2.own p' (.lst (rgV i j))) _ ρ2 [p'] p ((l1.trans l2).trans (Wd.le_own hp')) (o2.own hp') (.lst (o2.sub.free hp') upd_same (ownL_of (rgD_rep i j)))
end DL

namespace K20
open PySem PySem.Spec PyProof.Rows L2 DL
variable {prg : Program} {wd : World} {K : PySem.W.Frag} {mg : Str → Option Value} {bs : Heap}
local macro_rules | `(tactic| walk_at "px") => `(tactic| first | exact List.not_mem_nil | (show _ ∉ ([0] : List Nat); decide) | (show _ ∉ ([] : List Nat); decide) | fail)
local macro_rules | `(tactic| walk_at "s") => `(tactic| with_reducible first
  | refine ws_seq ?_ | refine ws_if ?_ | refine ws_next ?_ | refine ws_ret ?_ | refine ws_retN ?_ | refine ws_asg (by walk_at "px") ?_ | refine ws_par (by walk_at "px") (by walk_at "px") ?_
  | refine w_var (by with_unfolding_all rfl) ?_ | refine w_int ?_ | refine w_bl ?_ | refine w_non ?_ | refine w_str ?_ | refine w_dnew ?_ | refine w_ty ?_
  | refine w_op ?_ | refine w_un ?_ | refine w_fld ?_ | refine w_xf ?_ | refine wt_test ?_ | refine wt_B ?_ | refine wt_yes ?_ | refine wt_and ?_ | refine wt_or ?_ | refine wt_not ?_ | refine w_andV ?_ | refine w_orV ?_ | refine w_notV ?_ | refine w_ifE ?_ | refine w_chain ?_
  | refine wa_nil ?_ | refine wa_cons ?_ | refine w_tup ?_ | refine w_lst ?_ | refine w_slice ?_ | refine w_dget ?_ | refine w_dget2 ?_ | refine w_dget1 ?_ | refine wp_no ?_ | refine wp_int ?_
  | refine w_cd repL_nil ?_ | refine w_md repL_nil ?_ | refine w_mk repL_nil ?_ | refine w_co repL_nil ⟨_, by with_unfolding_all rfl⟩ ?_ | refine w_call ?_
  | refine rd_add ?_ | refine rd_sub ?_ | refine rd_lt ?_ | refine rd_le ?_ | refine rd_gt ?_ | refine rd_ge ?_ | refine rd_ltS ?_ | refine rd_leS ?_ | refine rd_gtS ?_ | refine rd_geS ?_ | refine rd_isN ?_ | refine rd_notN ?_ | refine rd_eqAI ?_ | refine rd_neAI ?_ | refine rd_eqAS ?_ | refine rd_neAS ?_
  | refine wg_tup rfl ?_ | refine wgs_cons ?_ | refine wg_name (by walk_at "px") (by simp) ?_ | refine wgs_nil ?_
  | refine ru_neg ?_ | refine ⟨(by show List.length _ ≤ 100000; simp), ?_⟩
  | refine rc_abs ?_ | refine rc_int1 ?_ | refine rc_min2 ?_ | refine rc_max2 ?_
  | refine ⟨_, rfl, ?_⟩ | fail)
local macro_rules | `(tactic| walk_at "go") => `(tactic| repeat' walk_at "s")
local macro_rules | `(tactic| walk_at "args") => `(tactic| repeat' (with_reducible first | refine wa_cons ?_ | refine wa_nil ?_ | refine w_int ?_ | refine w_bl ?_ | refine w_non ?_ | refine w_str ?_ | refine w_dnew ?_ | refine w_tup ?_ | refine w_lst ?_ | refine w_un ?_ | refine ru_neg ?_ | refine w_var (by with_unfolding_all rfl) ?_ | refine ⟨(by show List.length _ ≤ 100000; simp), ?_⟩ | fail))
local macro_rules | `(tactic| walk_at "e") => `(tactic| with_reducible first
  | refine w_var (by with_unfolding_all rfl) ?_ | refine w_int ?_ | refine w_bl ?_ | refine w_non ?_ | refine w_str ?_ | refine w_dnew ?_ | refine w_ty ?_
  | refine w_op ?_ | refine w_un ?_ | refine w_fld ?_ | refine w_xf ?_ | refine wt_test ?_ | refine wt_B ?_ | refine wt_yes ?_ | refine wt_and ?_ | refine wt_or ?_ | refine wt_not ?_ | refine w_andV ?_ | refine w_orV ?_ | refine w_notV ?_ | refine w_ifE ?_ | refine w_chain ?_
  | refine wa_nil ?_ | refine wa_cons ?_ | refine w_tup ?_ | refine w_lst ?_ | refine w_slice ?_ | refine w_dget ?_ | refine w_dget2 ?_ | refine w_dget1 ?_ | refine wp_no ?_ | refine wp_int ?_
  | refine w_cd repL_nil ?_ | refine w_md repL_nil ?_ | refine w_mk repL_nil ?_ | refine w_co repL_nil ⟨_, by with_unfolding_all rfl⟩ ?_ | refine w_call ?_
  | refine rd_add ?_ | refine rd_sub ?_ | refine rd_lt ?_ | refine rd_le ?_ | refine rd_gt ?_ | refine rd_ge ?_ | refine rd_ltS ?_ | refine rd_leS ?_ | refine rd_gtS ?_ | refine rd_geS ?_ | refine rd_isN ?_ | refine rd_notN ?_ | refine rd_eqAI ?_ | refine rd_neAI ?_ | refine rd_eqAS ?_ | refine rd_neAS ?_
  | refine wg_tup rfl ?_ | refine wgs_cons ?_ | refine wg_name (by walk_at "px") (by simp) ?_ | refine wgs_nil ?_
  | refine ru_neg ?_ | refine ⟨(by show List.length _ ≤ 100000; simp), ?_⟩
  | refine rc_abs ?_ | refine rc_int1 ?_ | refine rc_min2 ?_ | refine rc_max2 ?_
  | refine ⟨_, rfl, ?_⟩ | fail)
local macro_rules | `(tactic| walk_at "ex") => `(tactic| repeat' walk_at "e")
local macro_rules | `(tactic| walk_at "a_") => `(tactic| (show WS _ _ _ _; (with_reducible try refine ws_seq ?_); with_reducible refine ws_asg (by walk_at "px") ?_; walk_at "ex"))
local macro_rules | `(tactic| walk_at "i_") => `(tactic| (show WS _ _ _ _; (with_reducible try refine ws_seq ?_); with_reducible refine ws_if ?_; walk_at "ex"))
local macro_rules | `(tactic| walk_at "d_") => `(tactic| (show WS _ _ _ _; (with_reducible try refine ws_seq ?_); with_reducible refine ws_drop ?_; walk_at "ex"))
local macro_rules | `(tactic| walk_at "r_") => `(tactic| (show WS _ _ _ _; with_reducible refine ws_ret ?_; walk_at "ex"))
local macro_rules | `(tactic| walk_at "v_") => `(tactic| refine w_var (by with_unfolding_all rfl) ?_)

theorem sc_BadPrice_init : FnScope ["self", "given"] ["self", "given"] (defScope s_BadPrice_init) := ⟨rfl, rfl, rfl, by decide +kernel, rfl, by decide +kernel, by decide +kernel⟩
theorem ok_BadPrice_init (T : Tx K mg) (tb : ∀ p ∈ csOf K, LamX.TabB bs mg p.1 p.2) : ∃ fd, FnOk prg wd K mg bs (L2.CX prg wd) 1 (He.ma K (He.ga K "BadPrice") "__init__") fd ["self", "given"] (spIni K ["given"]) ∧ L2.Binds K fd ["self", "given"] [] := by
  obtain ⟨fd, F0⟩ := T.d_BadPrice_init
  refine ⟨fd, F0.ok sc_BadPrice_init (fun vs H Q E h => ?_) (fun cdv A outer s H vs Q E hr h => ?_), F0.bindsN fun _ _ _ _ _ _ us hl => match us, hl with | [_, _], _ => rfl⟩
  · obtain ⟨a, C, y, rfl, _⟩ := h
    rfl
  · refine ⟨_, PSs.nox (pss_one (ps_ost (f := "given") (pv 0) (pv 1))), ?_⟩
    obtain ⟨a, C, y, rfl, oc, no, hH, q⟩ := h
    exact ⟨_, rfl, _, rfl, a, C, rfl, oc, no, .inl ⟨hH, q⟩⟩
theorem sc_BadBid_init : FnScope ["self", "given"] ["self", "given"] (defScope s_BadBid_init) := ⟨rfl, rfl, rfl, by decide +kernel, rfl, by decide +kernel, by decide +kernel⟩
theorem ok_BadBid_init (T : Tx K mg) (tb : ∀ p ∈ csOf K, LamX.TabB bs mg p.1 p.2) : ∃ fd, FnOk prg wd K mg bs (L2.CX prg wd) 1 (He.ma K (He.ga K "BadBid") "__init__") fd ["self", "given"] (spIni K ["given"]) ∧ L2.Binds K fd ["self", "given"] [] := by
  obtain ⟨fd, F0⟩ := T.d_BadBid_init
  refine ⟨fd, F0.ok sc_BadBid_init (fun vs H Q E h => ?_) (fun cdv A outer s H vs Q E hr h => ?_), F0.bindsN fun _ _ _ _ _ _ us hl => match us, hl with | [_, _], _ => rfl⟩
  · obtain ⟨a, C, y, rfl, _⟩ := h
    rfl
  · refine ⟨_, PSs.nox (pss_one (ps_ost (f := "given") (pv 0) (pv 1))), ?_⟩
    obtain ⟨a, C, y, rfl, oc, no, hH, q⟩ := h
    exact ⟨_, rfl, _, rfl, a, C, rfl, oc, no, .inl ⟨hH, q⟩⟩
theorem sc_TooManyBids_init : FnScope ["self", "given"] ["self", "given"] (defScope s_TooManyBids_init) := ⟨rfl, rfl, rfl, by decide +kernel, rfl, by decide +kernel, by decide +kernel⟩
theorem ok_TooManyBids_init (T : Tx K mg) (tb : ∀ p ∈ csOf K, LamX.TabB bs mg p.1 p.2) : ∃ fd, FnOk prg wd K mg bs (L2.CX prg wd) 1 (He.ma K (He.ga K "TooManyBids") "__init__") fd ["self", "given"] (spIni K ["given"]) ∧ L2.Binds K fd ["self", "given"] [] := by
  obtain ⟨fd, F0⟩ := T.d_TooManyBids_init
  refine ⟨fd, F0.ok sc_TooManyBids_init (fun vs H Q E h => ?_) (fun cdv A outer s H vs Q E hr h => ?_), F0.bindsN fun _ _ _ _ _ _ us hl => match us, hl with | [_, _], _ => rfl⟩
  · obtain ⟨a, C, y, rfl, _⟩ := h
    rfl
  · refine ⟨_, PSs.nox (pss_one (ps_ost (f := "given") (pv 0) (pv 1))), ?_⟩
    obtain ⟨a, C, y, rfl, oc, no, hH, q⟩ := h
    exact ⟨_, rfl, _, rfl, a, C, rfl, oc, no, .inl ⟨hH, q⟩⟩
theorem sc_BidTaken_init : FnScope ["self", "given"] ["self", "given"] (defScope s_BidTaken_init) := ⟨rfl, rfl, rfl, by decide +kernel, rfl, by decide +kernel, by decide +kernel⟩
theorem ok_BidTaken_init (T : Tx K mg) (tb : ∀ p ∈ csOf K, LamX.TabB bs mg p.1 p.2) : ∃ fd, FnOk prg wd K mg bs (L2.CX prg wd) 1 (He.ma K (He.ga K "BidTaken") "__init__") fd ["self", "given"] (spIni K ["given"]) ∧ L2.Binds K fd ["self", "given"] [] := by
  obtain ⟨fd, F0⟩ := T.d_BidTaken_init
  refine ⟨fd, F0.ok sc_BidTaken_init (fun vs H Q E h => ?_) (fun cdv A outer s H vs Q E hr h => ?_), F0.bindsN fun _ _ _ _ _ _ us hl => match us, hl with | [_, _], _ => rfl⟩
  · obtain ⟨a, C, y, rfl, _⟩ := h
    rfl
  · refine ⟨_, PSs.nox (pss_one (ps_ost (f := "given") (pv 0) (pv 1))), ?_⟩
    obtain ⟨a, C, y, rfl, oc, no, hH, q⟩ := h
    exact ⟨_, rfl, _, rfl, a, C, rfl, oc, no, .inl ⟨hH, q⟩⟩
theorem sc_BothSides_init : FnScope ["self", "given"] ["self", "given"] (defScope s_BothSides_init) := ⟨rfl, rfl, rfl, by decide +kernel, rfl, by decide +kernel, by decide +kernel⟩
theorem ok_BothSides_init (T : Tx K mg) (tb : ∀ p ∈ csOf K, LamX.TabB bs mg p.1 p.2) : ∃ fd, FnOk prg wd K mg bs (L2.CX prg wd) 1 (He.ma K (He.ga K "BothSides") "__init__") fd ["self", "given"] (spIni K ["given"]) ∧ L2.Binds K fd ["self", "given"] [] := by
  obtain ⟨fd, F0⟩ := T.d_BothSides_init
  refine ⟨fd, F0.ok sc_BothSides_init (fun vs H Q E h => ?_) (fun cdv A outer s H vs Q E hr h => ?_), F0.bindsN fun _ _ _ _ _ _ us hl => match us, hl with | [_, _], _ => rfl⟩
  · obtain ⟨a, C, y, rfl, _⟩ := h
    rfl
  · refine ⟨_, PSs.nox (pss_one (ps_ost (f := "given") (pv 0) (pv 1))), ?_⟩
    obtain ⟨a, C, y, rfl, oc, no, hH, q⟩ := h
    exact ⟨_, rfl, _, rfl, a, C, rfl, oc, no, .inl ⟨hH, q⟩⟩
def c_Fis_name : CD := ⟨fun ds k => ∃ v t, ds = [v] ∧ TyB v t ∧ smallD v ∧ k (.ret (.sh (.bl (nameB v)))), by
  rintro ds k k' h ⟨v, t, e, ty, s, q⟩
  exact ⟨v, t, e, ty, s, h _ q⟩⟩
theorem sc_Fis_name : FnScope ["value", "sign"] ["value"] (defScope s_Fis_name) := ⟨rfl, rfl, rfl, by decide +kernel, rfl, by decide +kernel, by decide +kernel⟩
theorem ok_Fis_name (T : Tx K mg) (tb : ∀ p ∈ csOf K, LamX.TabB bs mg p.1 p.2) : ∃ fd, DC.FnG prg wd K mg bs (L2.CX prg wd) 1 (He.ga K "is_name") fd ["value"] (toSp K 1 c_Fis_name.con) ∧ L2.Binds K fd ["value"] [] ∧ PySem.W.keepIn K (.ref (He.ga K "is_name")) = true := by
  obtain ⟨fd, F0⟩ := T.d_Fis_name
  refine ⟨fd, def_D (N := ["value", "sign"]) F0 sc_Fis_name rfl ?_, F0.bindsN fun _ _ _ _ _ _ us hl => match us, hl with | [_], _ => rfl, F0.kp⟩
  intro cdv A fr s H E ds kk gd room hc hl
  have hu := room.units
  have hu7 := room70 room
  have sc := sc_Fis_name
  refine ⟨_, (pss_one (ps_ret (pe_and (pe_callB call_isi (by rfl) T.n_isinstance (by decide +kernel) (pa_cons (pv 0) (pa_cons (pe_bltn (by rfl) T.n_str (by decide +kernel) (show RelV (.ty "str") (.type "str") from rfl)) pa_nil))) (pe_and (pe_chain o_le o_le pe_int (pe_callB o_lenA (by rfl) T.n_len (by decide +kernel) (pa_cons (pv 0) pa_nil)) pe_int) (pe_one (pe_callB (cr_all rfl) (by rfl) T.n_all (by decide +kernel) (pa_cons (pe_lc (own := [("sign", 1)]) (g := (gName 1)) (tt := tYes) (by rfl) sc.nd (pi_str (pv 0)) (blkOk_by (own := [("sign", 1)]) (N := ["value", "sign"]) (sc := defScope s_Fis_name) (by decide +kernel)) (fun _ _ _ _ _ => (pg_name (i := 1) sc.nd rfl (Or.inl rfl))) (fun _ _ _ _ _ => pts_nil) (fun _ _ _ _ _ => (pe_chain o_le o_le pe_str (pv 1) pe_str))) pa_nil))))))), ?_⟩
  try dsimp only [L2.cxOf]
  obtain ⟨v, t, rfl, ty, sm, q⟩ := hc
  walk_at "go"
  refine rc_isStr ⟨t, ty⟩ ?_
  refine ⟨_, rfl, ?_⟩
  refine if_b (fun z => ?_) (fun z => ?_)
  rotate_left
  · have e : nameB v = false := by cases ty <;> first | rfl | cases z
    rw [e] at q
    exact q
  obtain ⟨x, rfl⟩ : ∃ x, v = .str x := by cases ty <;> first | exact ⟨_, rfl⟩ | cases z
  have sm : x.length ≤ 20000 := sm
  have en : nameB (.str x) = (decide (1 ≤ x.length ∧ x.length ≤ 8) && azB x) := rfl
  rw [en] at q
  walk_at "go"
  refine rc_lenAS (by omega) ?_
  walk_at "go"
  refine if_dec (fun a1 => ?_) (fun a1 => ?_)
  rotate_left
  · rw [decide_eq_false (fun z => a1 (by omega)), Bool.false_and] at q
    exact ⟨_, rfl, q⟩
  walk_at "go"
  refine if_dec (fun a2 => ?_) (fun a2 => ?_)
  rotate_left
  · rw [decide_eq_false (fun z => a2 (by omega)), Bool.false_and] at q
    exact q
  rw [decide_eq_true (by omega), Bool.true_and] at q
  walk_at "go"
  refine w_lc (sl := [1]) (by intro i hi; cases hi) (by simp) ?_
  refine wi_str ?_
  walk_at "go"
  refine ⟨by rw [List.length_map, Array.length_toList]; show x.length ≤ 90000; omega, fun i acc ρ => acc = (((sg x).take i).map fun c => decide (97 ≤ c ∧ c ≤ 122)).map .bl ∧ ρ = [some (.sh (.str x)), none], ⟨rfl, rfl⟩, ?_, ?_⟩
  · rintro i d acc ρ2 hd ⟨rfl, rfl⟩
    refine wg_name (by walk_at "px") (by simp) ?_
    walk_at "go"
    rw [List.getElem?_map] at hd
    obtain ⟨c, hc1, hc2⟩ := Option.map_eq_some_iff.mp hd
    subst hc2
    rw [if_pos rfl]
    have et : (sg x).take (i + 1) = (sg x).take i ++ [c] := by rw [List.take_add_one, show (sg x)[i]? = some c from hc1]; rfl
    walk_at "go"
    rw [show decide ((⟨#[c]⟩ : Str).cps.toList < (Str.ofString "a").cps.toList) = decide (c < 97) from lt1 c 97]
    by_cases b1 : c < 97
    · rw [decide_eq_true b1, if_neg (by decide)]
      refine ⟨?_, rfl⟩
      rw [et, List.map_append, List.map_append]
      simp [show ¬ 97 ≤ c by omega]
    · rw [decide_eq_false b1, if_pos (by decide)]
      walk_at "go"
      rw [show decide ((Str.ofString "z").cps.toList < (⟨#[c]⟩ : Str).cps.toList) = decide (122 < c) from lt1 122 c]
      refine ⟨?_, rfl⟩
      rw [et, List.map_append, List.map_append]
      by_cases b2 : 122 < c
      · simp [b2, show ¬ c ≤ 122 by omega]
      · simp [b2, show c ≤ 122 by omega, show 97 ≤ c by omega]
  · rintro acc ρ2 ⟨rfl, rfl⟩
    walk_at "go"
    refine rc_all (.lst _) ?_
    rw [List.length_map, List.take_length, List.all_map]
    exact q
def c_Fis_member : CD := ⟨fun ds k => ∃ v t, ds = [v] ∧ TyB v t ∧ smallD v ∧ k (.ret (.sh (.bl (goodB v)))), by
  rintro ds k k' h ⟨v, t, e, ty, s, q⟩
  exact ⟨v, t, e, ty, s, h _ q⟩⟩
theorem sc_Fis_member : FnScope ["value"] ["value"] (defScope s_Fis_member) := ⟨rfl, rfl, rfl, by decide +kernel, rfl, by decide +kernel, by decide +kernel⟩
theorem ok_Fis_member (T : Tx K mg) (tb : ∀ p ∈ csOf K, LamX.TabB bs mg p.1 p.2) : ∃ fd, DC.FnG prg wd K mg bs (L2.CX prg wd) 2 (He.ga K "is_member") fd ["value"] (toSp K 1 c_Fis_member.con) ∧ L2.Binds K fd ["value"] [] ∧ PySem.W.keepIn K (.ref (He.ga K "is_member")) = true := by
  obtain ⟨fd, F0⟩ := T.d_Fis_member
  obtain ⟨_, F_Fis_name, b_Fis_name, k_Fis_name⟩ := ok_Fis_name (prg := prg) (wd := wd) (bs := bs) T tb
  have c_RESERVED := T.g_RESERVED
  refine ⟨fd, def_D (N := ["value"]) F0 sc_Fis_member rfl ?_, F0.bindsN fun _ _ _ _ _ _ us hl => match us, hl with | [_], _ => rfl, F0.kp⟩
  intro cdv A fr s H E ds kk gd room hc hl
  have hu := room.units
  have hu7 := room70 room
  have sc := sc_Fis_member
  refine ⟨_, (pss_one (ps_ret (pe_and (DC.pe_callG F_Fis_name gd (room.mono (by decide)) (by rfl) T.g_is_name k_Fis_name b_Fis_name .nil (fun σ => passAt (takes_of rfl rfl rfl rfl) σ) (pa_cons (pv 0) pa_nil)) (pe_one (pe_cmpR o_notIn (pv 0) (pe_glob (by rfl) c_RESERVED (show RelV (.ref _) (.ref _) from rfl)) (by rfl)))))), ?_⟩
  try dsimp only [L2.cxOf]
  obtain ⟨v, t, rfl, ty, sm, q⟩ := hc
  have tR := T.tup_RESERVED
  walk_at "go"
  refine ⟨rfl, v, t, rfl, ty, sm, _, .sh _, _, rfl, ?_⟩
  have eg : goodB v = (nameB v && !resB v) := rfl
  rw [eg] at q
  refine if_b (fun z => ?_) (fun z => ?_)
  rotate_left
  · rw [z, Bool.false_and] at q
    exact q
  rw [z, Bool.true_and] at q
  obtain ⟨x, rfl⟩ : ∃ x, v = .str x := by cases ty <;> first | exact ⟨_, rfl⟩ | cases z
  walk_at "go"
  refine w_glob tR ?_
  refine rd_ni (.inr rfl) rfl rfl ?_
  exact q
def c_Fis_whole : CD := ⟨fun ds k => ∃ v m, ds = [v] ∧ TyB v m ∧ k (.ret (.sh (.bl (wholeD v)))), by
  rintro ds k k' h ⟨v, m, e, t, q⟩
  exact ⟨v, m, e, t, h _ q⟩⟩
theorem sc_Fis_whole : FnScope ["value"] ["value"] (defScope s_Fis_whole) := ⟨rfl, rfl, rfl, by decide +kernel, rfl, by decide +kernel, by decide +kernel⟩
theorem ok_Fis_whole (T : Tx K mg) (tb : ∀ p ∈ csOf K, LamX.TabB bs mg p.1 p.2) : ∃ fd, DC.FnG prg wd K mg bs (L2.CX prg wd) 1 (He.ga K "is_whole") fd ["value"] (toSp K 1 c_Fis_whole.con) ∧ L2.Binds K fd ["value"] [] ∧ PySem.W.keepIn K (.ref (He.ga K "is_whole")) = true := by
  obtain ⟨fd, F0⟩ := T.d_Fis_whole
  refine ⟨fd, def_D (N := ["value"]) F0 sc_Fis_whole rfl ?_, F0.bindsN fun _ _ _ _ _ _ us hl => match us, hl with | [_], _ => rfl, F0.kp⟩
  intro cdv A fr s H E ds kk gd room hc hl
  have hu := room.units
  have hu7 := room70 room
  have sc := sc_Fis_whole
  refine ⟨_, (pss_one (ps_ret (pe_and (pe_callB call_isi (by rfl) T.n_isinstance (by decide +kernel) (pa_cons (pv 0) (pa_cons (pe_bltn (by rfl) T.n_int (by decide +kernel) (show RelV (.ty "int") (.type "int") from rfl)) pa_nil))) (pe_one (pe_not (pe_callB call_isi (by rfl) T.n_isinstance (by decide +kernel) (pa_cons (pv 0) (pa_cons (pe_bltn (by rfl) T.n_bool (by decide +kernel) (show RelV (.ty "bool") (.type "bool") from rfl)) pa_nil)))))))), ?_⟩
  try dsimp only [L2.cxOf]
  obtain ⟨v, m, rfl, ty, q⟩ := hc
  walk_at "go"
  refine rc_isInt ⟨m, ty⟩ ?_
  walk_at "go"
  refine if_b (fun h => ?_) (fun h => ?_)
  · walk_at "go"
    refine rc_isBool ⟨m, ty⟩ ?_
    refine ⟨_, rfl, ?_⟩
    cases ty <;> first | exact q | cases h
  · cases ty <;> first | exact q | cases h
def priceD : D → Bool
  | .int i => decide (1 ≤ i) && decide (i ≤ 99)
  | _ => false
def c_Fis_price : CD := ⟨fun ds k => ∃ v t, ds = [v] ∧ TyB v t ∧ k (.ret (.sh (.bl (priceD v)))), by
  rintro ds k k' h ⟨v, t, e, o, q⟩
  exact ⟨v, t, e, o, h _ q⟩⟩
theorem sc_Fis_price : FnScope ["value"] ["value"] (defScope s_Fis_price) := ⟨rfl, rfl, rfl, by decide +kernel, rfl, by decide +kernel, by decide +kernel⟩
theorem ok_Fis_price (T : Tx K mg) (tb : ∀ p ∈ csOf K, LamX.TabB bs mg p.1 p.2) : ∃ fd, DC.FnG prg wd K mg bs (L2.CX prg wd) 2 (He.ga K "is_price") fd ["value"] (toSp K 1 c_Fis_price.con) ∧ L2.Binds K fd ["value"] [] ∧ PySem.W.keepIn K (.ref (He.ga K "is_price")) = true := by
  obtain ⟨fd, F0⟩ := T.d_Fis_price
  obtain ⟨_, F_Fis_whole, b_Fis_whole, k_Fis_whole⟩ := ok_Fis_whole (prg := prg) (wd := wd) (bs := bs) T tb
  refine ⟨fd, def_D (N := ["value"]) F0 sc_Fis_price rfl ?_, F0.bindsN fun _ _ _ _ _ _ us hl => match us, hl with | [_], _ => rfl, F0.kp⟩
  intro cdv A fr s H E ds kk gd room hc hl
  have hu := room.units
  have hu7 := room70 room
  have sc := sc_Fis_price
  refine ⟨_, (pss_one (ps_ret (pe_and (DC.pe_callG F_Fis_whole gd (room.mono (by decide)) (by rfl) T.g_is_whole k_Fis_whole b_Fis_whole .nil (fun σ => passAt (takes_of rfl rfl rfl rfl) σ) (pa_cons (pv 0) pa_nil)) (pe_one (pe_chain o_le o_le pe_int (pv 0) pe_int))))), ?_⟩
  try dsimp only [L2.cxOf]
  obtain ⟨v, t, rfl, ty, q⟩ := hc
  refine ws_ret ?_
  refine w_andV ?_
  walk_at "ex"
  refine ⟨rfl, v, t, rfl, ty, _, .sh _, _, rfl, ?_⟩
  refine if_b (fun z => ?_) (fun z => ?_)
  rotate_left
  · have e : priceD v = false := by cases ty <;> first | rfl | cases z
    rw [e] at q
    exact q
  obtain ⟨i, rfl⟩ : ∃ i, v = .int i := by cases ty <;> first | exact ⟨_, rfl⟩ | cases z
  walk_at "ex"
  refine if_dec (fun w => ?_) (fun w => ?_)
  · walk_at "ex"
    have e : priceD (.int i) = decide (i ≤ 99) := by
      show (decide (1 ≤ i) && decide (i ≤ 99)) = _
      rw [decide_eq_true w, Bool.true_and]
    rw [e] at q
    exact q
  · have e : priceD (.int i) = false := by
      show (decide (1 ≤ i) && decide (i ≤ 99)) = _
      rw [decide_eq_false w, Bool.false_and]
    rw [e] at q
    exact q
def sideS (b : Bool) : Str := if b = true then "buy" else "sell"
def c_Fis_side : CD := ⟨fun ds k => ∃ s, ds = [.str (sideS s)] ∧ k (.ret (.sh (.bl true))), by
  rintro ds k k' h ⟨s, e, q⟩
  exact ⟨s, e, h _ q⟩⟩
theorem sc_Fis_side : FnScope ["value"] ["value"] (defScope s_Fis_side) := ⟨rfl, rfl, rfl, by decide +kernel, rfl, by decide +kernel, by decide +kernel⟩
theorem ok_Fis_side (T : Tx K mg) (tb : ∀ p ∈ csOf K, LamX.TabB bs mg p.1 p.2) : ∃ fd, DC.FnG prg wd K mg bs (L2.CX prg wd) 1 (He.ga K "is_side") fd ["value"] (toSp K 1 c_Fis_side.con) ∧ L2.Binds K fd ["value"] [] ∧ PySem.W.keepIn K (.ref (He.ga K "is_side")) = true := by
  obtain ⟨fd, F0⟩ := T.d_Fis_side
  have c_SIDES := T.g_SIDES
  refine ⟨fd, def_D (N := ["value"]) F0 sc_Fis_side rfl ?_, F0.bindsN fun _ _ _ _ _ _ us hl => match us, hl with | [_], _ => rfl, F0.kp⟩
  intro cdv A fr s H E ds kk gd room hc hl
  have hu := room.units
  have hu7 := room70 room
  have sc := sc_Fis_side
  refine ⟨_, (pss_one (ps_ret (pe_cmpR o_in (pv 0) (pe_glob (by rfl) c_SIDES (show RelV (.ref _) (.ref _) from rfl)) (by rfl)))), ?_⟩
  try dsimp only [L2.cxOf]
  obtain ⟨s, rfl, q⟩ := hc
  refine ws_ret ?_
  have tS := T.tup_SIDES
  walk_at "ex"
  refine w_glob tS ?_
  refine rd_in (.inr rfl) rfl (by rfl) ?_
  have e : (([D.str "buy", .str "sell"] : List D).any fun z => dEq z (.str (sideS s))) = true := by cases s <;> decide +kernel
  rw [show (([("buy" : Str), "sell"] : List Str).map D.str) = [D.str "buy", .str "sell"] from rfl, e]
  exact q
theorem ws_cut {G : Gx} {t u : TS} {ρ : DL.Env} {P : Post} (Mid : DL.Env → Prop) (h : WS G t ρ { P with nx := Mid }) (h2 : ∀ ρ', Mid ρ' → WS G u ρ' P) : WS G (tSeq t u) ρ P := ws_seq fun w σ D o e m => h w σ D o e ⟨fun w' σ' ρ' hm l o' => m.nx w' σ' ρ' (h2 ρ' hm) l o', m.rt, m.bk, m.ct⟩
theorem if_no {A B : Prop} {b : Bool} (h : b = false) (p : B) : if b = true then A else B := by
  rw [h]
  exact p
theorem if_ye {A B : Prop} {b : Bool} (h : b = true) (p : A) : if b = true then A else B := by
  rw [h]
  exact p

def c_Fcheck_price : CD := ⟨fun ds k => ∃ v t, ds = [v] ∧ TyB v t ∧ priceD v = true ∧ k (.ret (.sh .non)), by
  rintro ds k k' h ⟨v, t, e, o, p, q⟩
  exact ⟨v, t, e, o, p, h _ q⟩⟩
theorem sc_Fcheck_price : FnScope ["price"] ["price"] (defScope s_Fcheck_price) := ⟨rfl, rfl, rfl, by decide +kernel, rfl, by decide +kernel, by decide +kernel⟩
theorem ok_Fcheck_price (T : Tx K mg) (tb : ∀ p ∈ csOf K, LamX.TabB bs mg p.1 p.2) : ∃ fd, DC.FnG prg wd K mg bs (L2.CX prg wd) 3 (He.ga K "check_price") fd ["price"] (toSp K 1 c_Fcheck_price.con) ∧ L2.Binds K fd ["price"] [] ∧ PySem.W.keepIn K (.ref (He.ga K "check_price")) = true := by
  obtain ⟨fd, F0⟩ := T.d_Fcheck_price
  obtain ⟨_, F_Fis_price, b_Fis_price, k_Fis_price⟩ := ok_Fis_price (prg := prg) (wd := wd) (bs := bs) T tb
  obtain ⟨_, F_BadPrice_init, b_BadPrice_init⟩ := ok_BadPrice_init (prg := prg) (wd := wd) (bs := bs) T tb
  refine ⟨fd, def_D (N := ["price"]) F0 sc_Fcheck_price rfl ?_, F0.bindsN fun _ _ _ _ _ _ us hl => match us, hl with | [_], _ => rfl, F0.kp⟩
  intro cdv A fr s H E ds kk gd room hc hl
  have hu := room.units
  have hu7 := room70 room
  have sc := sc_Fcheck_price
  refine ⟨_, (pss_one (ps_if (pt_not (pt_val (DC.pe_callG F_Fis_price gd (room.mono (by decide)) (by rfl) T.g_is_price k_Fis_price b_Fis_price .nil (fun σ => passAt (takes_of rfl rfl rfl rfl) σ) (pa_cons (pv 0) pa_nil)))) (pss_one (ps_raise rfl (takes_of rfl rfl rfl rfl) (pmk_oex T.o_BadPrice T.i_BadPrice T.t_BadPrice F_BadPrice_init (room.mono (by decide)) b_BadPrice_init .nil passL (by rfl) T.g_BadPrice (pa_cons (pv 0) pa_nil)))) pss_nil)), ?_⟩
  try dsimp only [L2.cxOf]
  obtain ⟨v, t, rfl, ty, p, q⟩ := hc
  refine ws_if ?_
  walk_at "ex"
  refine ⟨rfl, v, t, rfl, ty, _, .sh _, _, rfl, ?_⟩
  rw [p]
  refine if_no rfl ?_
  exact ws_next q
def c_Fall_prices : CD := ⟨fun ds k => ds = [] ∧ k (.ret (.lst ((intsD 1 99).map .sh))), by
  rintro ds k k' h ⟨e, q⟩
  exact ⟨e, h _ q⟩⟩
theorem sc_Fall_prices : FnScope [] [] (defScope s_Fall_prices) := ⟨rfl, rfl, rfl, by decide +kernel, rfl, by decide +kernel, by decide +kernel⟩
theorem ok_Fall_prices (T : Tx K mg) (tb : ∀ p ∈ csOf K, LamX.TabB bs mg p.1 p.2) : ∃ fd, DC.FnG prg wd K mg bs (L2.CX prg wd) 1 (He.ga K "all_prices") fd [] (toSp K 0 c_Fall_prices.con) ∧ L2.Binds K fd [] [] ∧ PySem.W.keepIn K (.ref (He.ga K "all_prices")) = true := by
  obtain ⟨fd, F0⟩ := T.d_Fall_prices
  obtain ⟨_, c_GREATEST_PRICE⟩ := T.i_GREATEST_PRICE
  obtain ⟨_, c_LEAST_PRICE⟩ := T.i_LEAST_PRICE
  refine ⟨fd, def_D (N := []) F0 sc_Fall_prices rfl ?_, F0.bindsN fun _ _ _ _ _ _ us hl => match us, hl with | [], _ => rfl, F0.kp⟩
  intro cdv A fr s H E ds kk gd room hc hl
  have hu := room.units
  have hu7 := room70 room
  have sc := sc_Fall_prices
  refine ⟨_, (pss_one (ps_ret (pe_listRg rfl (by rfl) T.n_list (prg_2 (by rfl) T.n_range (pe_glob (by rfl) c_LEAST_PRICE (show RelV (.int 1) (.int 1 _) from ⟨_, rfl⟩)) (pe_op o_add (pe_glob (by rfl) c_GREATEST_PRICE (show RelV (.int 99) (.int 99 _) from ⟨_, rfl⟩)) pe_int))))), ?_⟩
  try dsimp only [L2.cxOf]
  obtain ⟨rfl, q⟩ := hc
  refine ws_retO ?_
  refine wo_listRg ?_
  walk_at "ex"
  refine ⟨_, _, rfl, rfl, by decide, by decide, by decide, by decide, ?_⟩
  exact q
end K20

namespace CLR
open PySem
/-- an auction order: its name, its member, whether it buys, its price, its units -/
structure Bid where
  nm : Str
  mb : Str
  buy : Bool
  pr : Option Int
  am : Int
def Bid.worth (b : Bid) : Int := match b.pr with
  | some p => p
  | none => if b.buy = true then 99 else 1
def Bid.rise (b : Bid) (p : Int) : Int := if b.buy = true then b.worth - p else p - b.worth
def able (B : List Bid) (s : Bool) (p : Int) : List Bid := (B.filter fun b => decide (b.buy = s)).filter fun b => decide (0 ≤ b.rise p)
def cnt (B : List Bid) (s : Bool) (p : Int) : Int := ((able B s p).map (·.am)).sum
def vol (B : List Bid) (p : Int) : Int := min (cnt B true p) (cnt B false p)
def lft (B : List Bid) (p : Int) : Int := cnt B true p - cnt B false p
/-- the prices from a to b -/
def ups (a : Int) (n : Nat) : List Int := (List.range n).map fun (i : Nat) => a + (i : Int)
abbrev prices : List Int := ups 1 99
theorem mem_ups {a p : Int} {n : Nat} : p ∈ ups a n ↔ a ≤ p ∧ p < a + n := by
  unfold ups
  rw [List.mem_map]
  constructor
  · rintro ⟨i, hi, rfl⟩
    have := List.mem_range.mp hi
    omega
  · rintro ⟨h1, h2⟩
    exact ⟨(p - a).toNat, List.mem_range.mpr (by omega), by omega⟩
theorem ups_lt {a : Int} {n : Nat} : (ups a n).Pairwise (· < ·) := by
  unfold ups
  rw [List.pairwise_map]
  exact List.pairwise_lt_range.imp fun h => by omega
theorem ups_succ {a : Int} {n : Nat} : ups a (n + 1) = a :: ups (a + 1) n := by
  unfold ups
  (rw [List.range_succ_eq_map, List.map_cons, List.map_map])
  congr 1
  · omega
  · refine List.map_congr_left fun i _ => ?_
    show a + ((i + 1 : Nat) : Int) = a + 1 + (i : Int)
    omega
/-- two ascending lists of the same members -/
theorem asc_eq : ∀ {l m : List Int}, l.Pairwise (· < ·) → m.Pairwise (· < ·) → (∀ x, x ∈ l ↔ x ∈ m) → l = m
  | [], [], _, _, _ => rfl
  | [], y :: _, _, _, h => by have := (h y).mpr List.mem_cons_self; cases this
  | x :: _, [], _, _, h => by have := (h x).mp List.mem_cons_self; cases this
  | x :: l, y :: m, al, am, h => by
    have al2 := List.pairwise_cons.mp al
    have am2 := List.pairwise_cons.mp am
    have e : x = y := by
      rcases List.mem_cons.mp ((h x).mp List.mem_cons_self) with e | e
      · exact e
      · rcases List.mem_cons.mp ((h y).mpr List.mem_cons_self) with e2 | e2
        · exact e2.symm
        · have := am2.1 x e
          have := al2.1 y e2
          omega
    subst e
    congr 1
    refine asc_eq al2.2 am2.2 fun z => ⟨fun hz => ?_, fun hz => ?_⟩
    · rcases List.mem_cons.mp ((h z).mp (List.mem_cons_of_mem _ hz)) with e | e
      · have := al2.1 z hz
        omega
      · exact e
    · rcases List.mem_cons.mp ((h z).mpr (List.mem_cons_of_mem _ hz)) with e | e
      · have := am2.1 z hz
        omega
      · exact e
/-! ### more at a better price -/
theorem sum_mono {B : List Bid} (hB : ∀ b ∈ B, 0 ≤ b.am) {f g : Bid → Bool} (h : ∀ b ∈ B, f b = true → g b = true) : ((B.filter f).map (·.am)).sum ≤ ((B.filter g).map (·.am)).sum := by
  induction B with
  | nil => exact Int.le_refl _
  | cons b r ih =>
    have i := ih (fun x hx => hB x (List.mem_cons_of_mem _ hx)) fun x hx => h x (List.mem_cons_of_mem _ hx)
    have a0 := hB b List.mem_cons_self
    have hb := h b List.mem_cons_self
    by_cases hf : f b = true
    · rw [List.filter_cons_of_pos hf, List.filter_cons_of_pos (hb hf), List.map_cons, List.map_cons, List.sum_cons, List.sum_cons]
      omega
    · rw [List.filter_cons_of_neg hf]
      by_cases hg : g b = true
      · rw [List.filter_cons_of_pos hg, List.map_cons, List.sum_cons]
        omega
      · rw [List.filter_cons_of_neg hg]
        exact i
theorem cnt_eq {B : List Bid} {s : Bool} {p : Int} : cnt B s p = ((B.filter fun b => decide (b.buy = s) && decide (0 ≤ b.rise p)).map (·.am)).sum := by
  unfold cnt able
  rw [List.filter_filter]
  congr 3
  funext b
  exact Bool.and_comm _ _
theorem cnt_buy {B : List Bid} (hB : ∀ b ∈ B, 0 ≤ b.am) {p q : Int} (h : p ≤ q) : cnt B true q ≤ cnt B true p := by
  rw [cnt_eq, cnt_eq]
  refine sum_mono hB fun b _ hb => ?_
  simp only [Bool.and_eq_true, decide_eq_true_eq] at hb ⊢
  refine ⟨hb.1, ?_⟩
  have h2 := hb.2
  unfold Bid.rise at h2 ⊢
  rw [if_pos hb.1] at h2 ⊢
  omega
theorem cnt_sell {B : List Bid} (hB : ∀ b ∈ B, 0 ≤ b.am) {p q : Int} (h : p ≤ q) : cnt B false p ≤ cnt B false q := by
  rw [cnt_eq, cnt_eq]
  refine sum_mono hB fun b _ hb => ?_
  simp only [Bool.and_eq_true, decide_eq_true_eq] at hb ⊢
  refine ⟨hb.1, ?_⟩
  have h2 := hb.2
  unfold Bid.rise at h2 ⊢
  rw [if_neg (by rw [hb.1]; decide)] at h2 ⊢
  omega
theorem cnt_nn {B : List Bid} (hB : ∀ b ∈ B, 0 ≤ b.am) {s : Bool} {p : Int} : 0 ≤ cnt B s p := by
  rw [cnt_eq]
  have := sum_mono hB (f := fun _ => false) (g := fun b => decide (b.buy = s) && decide (0 ≤ b.rise p)) (fun _ _ h => by cases h)
  rw [show (B.filter fun _ => false) = [] from List.filter_eq_nil_iff.mpr fun _ _ => by simp] at this
  exact this
theorem vol_nn {B : List Bid} (hB : ∀ b ∈ B, 0 ≤ b.am) {p : Int} : 0 ≤ vol B p := by
  unfold vol
  have := cnt_nn hB (s := true) (p := p)
  have := cnt_nn hB (s := false) (p := p)
  omega
/-! ### what the clearing price is -/
/-- m is the greatest volume -/
structure Most (B : List Bid) (m : Int) : Prop where
  at_ : ∃ p, (1 ≤ p ∧ p ≤ 99) ∧ vol B p = m
  all : ∀ p, 1 ≤ p → p ≤ 99 → vol B p ≤ m
theorem Most.one {B : List Bid} {m n : Int} (h : Most B m) (k : Most B n) : m = n := by
  obtain ⟨⟨p, ⟨h1, h2⟩, h3⟩, h4⟩ := h
  obtain ⟨⟨q, ⟨k1, k2⟩, k3⟩, k4⟩ := k
  have := h4 q k1 k2
  have := k4 p h1 h2
  omega
/-- f is the least of the units left over among those prices -/
structure Least (g : Int → Int) (V : List Int) (f : Int) : Prop where
  at_ : ∃ p ∈ V, ((g p).natAbs : Int) = f
  all : ∀ p ∈ V, f ≤ ((g p).natAbs : Int)
theorem Least.one {g : Int → Int} {V : List Int} {m n : Int} (h : Least g V m) (k : Least g V n) : m = n := by
  obtain ⟨⟨p, h1, h3⟩, h4⟩ := h
  obtain ⟨⟨q, k1, k3⟩, k4⟩ := k
  have := h4 q k1
  have := k4 p h1
  omega
/-- the first of those nearest to t -/
structure Near (F : List Int) (t p : Int) : Prop where
  mem : p ∈ F
  all : ∀ q ∈ F, (p - t).natAbs ≤ (q - t).natAbs ∧ ((p - t).natAbs = (q - t).natAbs → p ≤ q)
theorem Near.one {F : List Int} {t p q : Int} (h : Near F t p) (k : Near F t q) : p = q := by
  have a := h.all q k.mem
  have b := k.all p h.mem
  have e : (p - t).natAbs = (q - t).natAbs := by omega
  have := a.2 e
  have := b.2 e.symm
  omega
/-- the prices at which as many units are traded -/
def at_ (B : List Bid) (m : Int) : List Int := prices.filter fun p => decide (vol B p = m)
/-- those with so many left over -/
def fit (g : Int → Int) (V : List Int) (f : Int) : List Int := V.filter fun p => decide (((g p).natAbs : Int) = f)
/-- p is chosen of F -/
inductive Choice (g : Int → Int) (F : List Int) (t : Int) : Int → Prop
  | near {p : Int} (h1 : F.filter (fun p => decide (0 < g p)) = []) (h2 : F.filter (fun p => decide (g p < 0)) = []) (h : Near F t p) : Choice g F t p
  | sell {s : Int} {r : List Int} (h1 : F.filter (fun p => decide (0 < g p)) = []) (h2 : F.filter (fun p => decide (g p < 0)) = s :: r) : Choice g F t s
  | buy {b : Int} {r : List Int} (h1 : F.filter (fun p => decide (0 < g p)) = r ++ [b]) (h2 : F.filter (fun p => decide (g p < 0)) = []) : Choice g F t b
  | both {b s : Int} {r l : List Int} (h1 : F.filter (fun p => decide (0 < g p)) = r ++ [b]) (h2 : F.filter (fun p => decide (g p < 0)) = s :: l) : Choice g F t (if s ≤ t then s else b)
theorem Choice.one {g : Int → Int} {F : List Int} {t p q : Int} (h : Choice g F t p) (k : Choice g F t q) : p = q := by
  cases h with
  | near h1 h2 h => cases k with
    | near _ _ k => exact h.one k
    | sell _ k2 => rw [h2] at k2; cases k2
    | buy k1 _ => rw [h1] at k1; simp at k1
    | both _ k2 => rw [h2] at k2; cases k2
  | sell h1 h2 => cases k with
    | near _ k2 _ => rw [h2] at k2; cases k2
    | sell _ k2 => rw [h2] at k2; injection k2
    | buy _ k2 => rw [h2] at k2; cases k2
    | both k1 _ => rw [h1] at k1; simp at k1
  | buy h1 h2 => cases k with
    | near k1 _ _ => rw [h1] at k1; simp at k1
    | sell _ k2 => rw [h2] at k2; cases k2
    | buy k1 _ => rw [h1] at k1; exact (List.append_inj' k1 rfl).2 |> fun e => by injection e
    | both _ k2 => rw [h2] at k2; cases k2
  | both h1 h2 => cases k with
    | near k1 _ _ => rw [h1] at k1; simp at k1
    | sell k1 _ => rw [h1] at k1; simp at k1
    | buy _ k2 => rw [h2] at k2; cases k2
    | both k1 k2 =>
      rw [h1] at k1
      rw [h2] at k2
      have e1 := (List.append_inj' k1 rfl).2
      injection e1 with e1
      injection k2 with k2
      subst e1
      subst k2
      rfl
/-- what is cleared: the price and the volume, or nothing -/
inductive Clr (B : List Bid) (t : Int) : Option (Int × Int) → Prop
  | non (h : Most B 0) : Clr B t none
  | some {m f p : Int} (h : Most B m) (h0 : m ≠ 0) (hf : Least (lft B) (at_ B m) f) (hp : Choice (lft B) (fit (lft B) (at_ B m) f) t p) : Clr B t (some (p, m))
theorem Clr.one {B : List Bid} {t : Int} {x y : Option (Int × Int)} (h : Clr B t x) (k : Clr B t y) : x = y := by
  cases h with
  | non h => cases k with
    | non _ => rfl
    | some k h0 _ _ => exact absurd (k.one h) h0
  | some h h0 hf hp => cases k with
    | non k => exact absurd (h.one k) h0
    | some k _ kf kp =>
      obtain rfl := h.one k
      obtain rfl := hf.one kf
      obtain rfl := hp.one kp
      rfl
/-! ### the span of the prices with the greatest volume -/
theorem span_eq {B : List Bid} (hB : ∀ b ∈ B, 0 ≤ b.am) {m a z : Int} {n : Nat} (h : Most B m) (ha : a ∈ at_ B m) (hz : z ∈ at_ B m) (all : ∀ p ∈ at_ B m, a ≤ p ∧ p ≤ z) (hn : z + 1 = a + n) : ups a n = at_ B m := by
  refine asc_eq ups_lt (List.Pairwise.filter _ ups_lt) fun p => ⟨fun hp => ?_, fun hp => ?_⟩
  · rw [mem_ups] at hp
    obtain ⟨a1, a2⟩ := List.mem_filter.mp ha
    obtain ⟨z1, z2⟩ := List.mem_filter.mp hz
    rw [mem_ups] at a1 z1
    have a2 := of_decide_eq_true a2
    have z2 := of_decide_eq_true z2
    refine List.mem_filter.mpr ⟨mem_ups.mpr (by omega), decide_eq_true ?_⟩
    have u := h.all p (by omega) (by omega)
    have l1 := cnt_buy hB (p := p) (q := z) (by omega)
    have l2 := cnt_sell hB (p := a) (q := p) (by omega)
    unfold vol at *
    omega
  · have := all p hp
    exact mem_ups.mpr (by omega)
theorem lft_down {B : List Bid} (hB : ∀ b ∈ B, 0 ≤ b.am) {p q : Int} (h : p ≤ q) : lft B q ≤ lft B p := by
  have := cnt_buy hB h
  have := cnt_sell hB h
  unfold lft
  omega
/-- between the last of those that buy and the first of those that sell there is no price -/
theorem next_to {g : Int → Int} {V : List Int} {f a : Int} {n : Nat} (hV : V = ups a n) (down : ∀ p q, p ≤ q → g q ≤ g p) (hf : Least g V f) {b s : Int} {r l : List Int} (h1 : (fit g V f).filter (fun p => decide (0 < g p)) = r ++ [b]) (h2 : (fit g V f).filter (fun p => decide (g p < 0)) = s :: l) : s = b + 1 := by
  subst hV
  have asc : (fit g (ups a n) f).Pairwise (· < ·) := List.Pairwise.filter _ ups_lt
  have p1 := List.Pairwise.filter (fun p => decide (0 < g p)) asc
  have p2 := List.Pairwise.filter (fun p => decide (g p < 0)) asc
  have hb : b ∈ (fit g (ups a n) f).filter (fun p => decide (0 < g p)) := by rw [h1]; simp
  have hs : s ∈ (fit g (ups a n) f).filter (fun p => decide (g p < 0)) := by rw [h2]; simp
  obtain ⟨b1, b2⟩ := List.mem_filter.mp hb
  obtain ⟨s1, s2⟩ := List.mem_filter.mp hs
  obtain ⟨b3, b4⟩ := List.mem_filter.mp b1
  obtain ⟨s3, s4⟩ := List.mem_filter.mp s1
  have b2 := of_decide_eq_true b2
  have b4 := of_decide_eq_true b4
  have s2 := of_decide_eq_true s2
  have s4 := of_decide_eq_true s4
  rw [mem_ups] at b3 s3
  have lt : b < s := by
    rcases (show b < s ∨ s ≤ b by omega) with q | q
    · exact q
    · have := down s b q
      omega
  rcases (show b + 1 < s ∨ s ≤ b + 1 by omega) with q | q
  · have mem : b + 1 ∈ ups a n := mem_ups.mpr (by omega)
    have d1 := down b (b + 1) (by omega)
    have d2 := down (b + 1) s (by omega)
    have d3 := hf.all (b + 1) mem
    have fm : b + 1 ∈ fit g (ups a n) f := List.mem_filter.mpr ⟨mem, decide_eq_true (by omega)⟩
    rcases (show 0 < g (b + 1) ∨ g (b + 1) ≤ 0 by omega) with k | k
    · have hm : b + 1 ∈ (fit g (ups a n) f).filter (fun p => decide (0 < g p)) := List.mem_filter.mpr ⟨fm, decide_eq_true k⟩
      rw [h1] at hm p1
      rcases List.mem_append.mp hm with z | z
      · have := (List.pairwise_append.mp p1).2.2 _ z b (by simp)
        omega
      · have : b + 1 = b := by simpa using z
        omega
    · have hm : b + 1 ∈ (fit g (ups a n) f).filter (fun p => decide (g p < 0)) := List.mem_filter.mpr ⟨fm, decide_eq_true (by omega)⟩
      rw [h2] at hm p2
      rcases List.mem_cons.mp hm with z | z
      · omega
      · have := (List.pairwise_cons.mp p2).1 _ z
        omega
  · omega
theorem argBest_first (num : Nat → Int) : ∀ k j, j ≤ k → num j = num (argBest (fun i j => decide (num i < num j)) k) → argBest (fun i j => decide (num i < num j)) k ≤ j
  | 0, j, _, _ => Nat.zero_le _
  | k + 1, j, h, e => by
    have a := argBest_lt num k
    unfold argBest at e ⊢
    by_cases q : num (k + 1) < num (argBest (fun i j => decide (num i < num j)) k)
    · rw [if_pos (decide_eq_true q)] at e ⊢
      rcases Nat.lt_or_ge k j with z | z
      · omega
      · have := a.2 j z
        omega
    · rw [if_neg (by simpa using q)] at e ⊢
      rcases Nat.lt_or_ge k j with z | z
      · have := a.1
        omega
      · exact argBest_first num k j z e
theorem near_of {F : List Int} {t p : Int} (asc : F.Pairwise (· < ·)) (h0 : 0 < F.length) {key : Nat → Int} (hk : ∀ i, key i = ((F.getD i 0 - t).natAbs : Int)) (h : F[argBest (fun i j => decide (key i < key j)) (F.length - 1)]? = some p) : Near F t p := by
  obtain ⟨b1, b2⟩ := argBest_lt key (F.length - 1)
  have b3 := argBest_first key (F.length - 1)
  generalize argBest (fun i j => decide (key i < key j)) (F.length - 1) = b at h b1 b2 b3
  have gd : ∀ i q, F[i]? = some q → key i = ((q - t).natAbs : Int) := fun i q e => by
    rw [hk, List.getD_eq_getElem?_getD, e]
    rfl
  refine ⟨List.mem_of_getElem? h, fun q hq => ?_⟩
  obtain ⟨j, hj⟩ := List.getElem?_of_mem hq
  have lj : j < F.length := (List.getElem?_eq_some_iff.mp hj).1
  have c1 := b2 j (by omega)
  have c2 := b3 j (by omega)
  rw [gd b p h, gd j q hj] at c1 c2
  refine ⟨by omega, fun e => ?_⟩
  have le := c2 (by omega)
  obtain ⟨lb, eb⟩ := List.getElem?_eq_some_iff.mp h
  obtain ⟨_, ej⟩ := List.getElem?_eq_some_iff.mp hj
  rcases Nat.lt_or_ge b j with z | z
  · have := List.pairwise_iff_getElem.mp asc b j lb lj z
    omega
  · have : b = j := by omega
    subst this
    omega
end CLR

namespace DC
open PySem.Spec PySem PyProof.Rows L2
/-- x is a pair of these integers -/
def TwoAt (K : PySem.W.Frag) (H : Hp) (x : V) (p : Int × Int) : Prop := ∃ t, x = V.ref t ∧ SqT K H t [.int p.1, .int p.2]
/-- sorted(xs), xs a list of pairs of integers, wherever they lie -/
def rSrt2 (K : PySem.W.Frag) : List V → Hp → VK → Prop := fun vs H Q => ∃ (l : Addr) (xs : List V), vs = [V.ref l] ∧ SqL K H l xs ∧ (∀ x ∈ xs, ∃ p, TwoAt K H x p) ∧
  ∀ (k : V → Int × Int) ys b, (∀ x ∈ xs, ∀ p, TwoAt K H x p → k x = p) → SrtO.Srtd (ltP k) ys → ys.Perm xs → H b = none → Q (.ref b) (upd H b (.lst ys))
theorem cr_srt2 {X : Cx} : CallR X (.builtin "sorted") (rSrt2 X.K) := fun pins s σ H vs us Q I r ⟨l, xs, ev, hs, two, q⟩ => by
  subst ev
  obtain ⟨its, rv, pl, short⟩ := I.list hs
  obtain ⟨u, rfl, ru⟩ := (vals1 r)
  obtain rfl : u = Value.ref l := ru
  classical
  let k : V → Int × Int := fun x => if h : ∃ p, TwoAt X.K H x p then h.choose else (0, 0)
  have kk : ∀ x p, TwoAt X.K H x p → k x = p := fun x p hp => by
    have h : ∃ p, TwoAt X.K H x p := ⟨p, hp⟩
    have e : k x = h.choose := dif_pos h
    obtain ⟨t, e1, s1⟩ := hp
    obtain ⟨t2, e2, s2⟩ := h.choose_spec
    rw [e1] at e2
    cases e2
    have z := I.tuple_inj s1 s2
    injection z with z1 z2
    injection z2 with z2 _
    injection z1 with z1
    injection z2 with z2
    rw [e]
    exact Prod.ext z1.symm z2.symm
  obtain ⟨b1, b2⟩ := refs_back rv fun x m => by
    obtain ⟨p, t, e, _⟩ := two x m
    exact ⟨t, e⟩
  refine SrtO.sorted_pairsO (k := fun u => k (backV u)) pl.isList (rv.length ▸ short) (fun v hv => ?_) fun h' d out o1 o2 old top hn => ?_
  · obtain ⟨t, rfl⟩ := b2 v hv
    have mem : V.ref t ∈ xs := by
      rw [b1]
      exact (List.mem_map.mpr ⟨_, hv, rfl⟩)
    obtain ⟨p, hp⟩ := two _ mem
    have e := kk _ p hp
    obtain ⟨t2, e2, s2⟩ := hp
    cases e2
    obtain ⟨its2, r2, ⟨o, g1, g2, n, g3⟩, _⟩ := I.tuple s2
    obtain ⟨u1, u2, rfl, r3, r4⟩ := vals2 r2
    obtain ⟨t1, rfl⟩ := r3
    obtain ⟨t2, rfl⟩ := r4
    show Srt.IsPair s.heap (.ref t) (k (.ref t)).1 (k (.ref t)).2
    rw [e]
    exact ⟨t, o, t1, t2, n, rfl, g1, g2, g3⟩
  · obtain ⟨n, at_⟩ := hn
    have refs : ∀ u ∈ out, ∃ a, u = Value.ref a := fun u hu => b2 u (o2.perm.mem_iff.mp hu)
    have pm : (out.map backV).Perm xs := b1 ▸ o2.perm.map backV
    have fits : (out.map backV).length ≤ sizeLine := pm.length_eq ▸ short
    exact ⟨.ref d, upd H d (.lst (out.map backV)), I.laid (t' := s.toks) old top ⟨fits, out, n, vals_back refs, at_⟩, rfl, q k _ d (fun x _ p hp => kk x p hp) (SrtO.srtd_map o1) pm (I.hok.fresh top)⟩
/-- min(t), t a tuple of two integers -/
def rMin2T (K : PySem.W.Frag) : List V → Hp → VK → Prop := fun vs H Q => ∃ (t : Addr) (i j : Int), vs = [V.ref t] ∧ SqT K H t [.int i, .int j] ∧ Q (.int (min i j)) H
theorem cr_min2T {X : Cx} {K : PySem.W.Frag} (hk : X.K = K) (hc : X.calm = true) (hu : X.A.units + 70 < cLine) : CallR X (.builtin "min") (rMin2T K) := fun pins s σ H vs us Q I r ⟨t, i, j, ev, hs, q⟩ => by
  subst ev
  subst hk
  obtain ⟨its, rv, ⟨o, g1, g2, n, g3⟩, _⟩ := I.tuple hs
  obtain ⟨u, rfl, ru⟩ := (vals1 r)
  obtain rfl : u = Value.ref t := ru
  obtain ⟨u1, u2, rfl, r3, r4⟩ := vals2 rv
  obtain ⟨t1, rfl⟩ := r3
  obtain ⟨t2, rfl⟩ := r4
  have rd : ReadsAll s.heap [.int i t1, .int j t2] [.int i, .int j] _ := .cons (.int i t1) (.cons (.int j t2) .nil)
  refine PySem.W.min_tuple_data (l := t) (vs := #[.int i t1, .int j t2]) (x := .int i) (xs := [.int j]) (I.ok.hd hc) ⟨o, g1, g2, n, g3⟩ rd ⟨fun x hx y hy => ?_, fun x hx => ?_⟩ (by show X.A.units + 1 + 0 < cLine; omega) fun k v h' tk bs hv hr old => ?_
  · simp only [List.mem_cons, List.not_mem_nil, or_false] at hx hy
    rcases hx with rfl | rfl <;> rcases hy with rfl | rfl <;> rfl
  · simp only [List.mem_cons, List.not_mem_nil, or_false] at hx
    rcases hx with rfl | rfl <;> (intro z; cases z)
  · have e : PySem.W.minD (.int i) [.int j] = .int (min i j) := PySem.W.minD_ints i [j]
    rw [e] at hr
    cases hr with
    | int _ t => exact ⟨.int _, H, I.kept old, ⟨_, rfl⟩, q⟩
end DC
namespace DL
open PySem L2
theorem rc_min2T {K : PySem.W.Frag} {i j : Int} {k : D → Prop} (p : k (.int (min i j))) : RC K (DC.rMin2T K) [.tup [.int i, .int j]] k := fun w vs Q s r q => by
  obtain ⟨v, rfl, r1⟩ := r.one
  cases r1 with
  | tup h1 r3 =>
    cases r3 with
    | cons a1 r3 => cases r3 with
      | cons a2 r3 =>
        cases r3
        cases a1
        cases a2
        exact ⟨_, i, j, rfl, s.st h1, q _ w _ p (LeP.refl w) s (.int _)⟩
/-- a pair of integers -/
def twoD (p : Int × Int) : D := .tup [.int p.1, .int p.2]
theorem twoD_inj {p q : Int × Int} (h : twoD p = twoD q) : p = q := by
  unfold twoD at h
  injection h with h
  injection h with h1 h2
  injection h2 with h2 _
  injection h1 with h1
  injection h2 with h2
  exact Prod.ext h1 h2
theorem RepL.twos {K : PySem.W.Frag} {S H : Hp} (s : Sub S H) : ∀ {vs : List V} {ps : List (Int × Int)}, RepL K S vs (ps.map twoD) → ∀ x ∈ vs, ∃ p, DC.TwoAt K H x p
  | _, [], r, x, hx => by cases r; cases hx
  | _, p :: ps, r, x, hx => by
    cases r with
    | cons r1 r2 =>
      rcases (List.mem_cons.mp hx) with rfl | hx
      · cases r1 with
        | tup h1 r3 =>
          cases r3 with
          | cons a1 r3 => cases r3 with
            | cons a2 r3 => cases r3; cases a1; cases a2; exact ⟨p, _, rfl, s.st h1⟩
      · exact RepL.twos s r2 x hx
theorem RepL.by_k {K : PySem.W.Frag} {S H : Hp} (s : Sub S H) (k : V → Int × Int) : ∀ {vs : List V} {ps : List (Int × Int)}, RepL K S vs (ps.map twoD) → (∀ x ∈ vs, ∀ p, DC.TwoAt K H x p → k x = p) → ps = vs.map k ∧ ∀ x ∈ vs, Rep K S x (twoD (k x))
  | _, [], r, h => by cases r; exact ⟨rfl, fun x hx => by cases hx⟩
  | _, p :: ps, r, h => by
    cases r with
    | @cons v d vs ds r1 r2 =>
      have r1' := r1
      have e : k v = p := by
        cases r1 with
        | tup h1 r3 =>
          cases r3 with
          | cons a1 r3 => cases r3 with
            | cons a2 r3 => cases r3; cases a1; cases a2; exact h _ List.mem_cons_self p ⟨_, rfl, s.st h1⟩
      obtain ⟨e2, r4⟩ := RepL.by_k s k r2 fun x hx => h x (List.mem_cons_of_mem _ hx)
      refine ⟨by rw [List.map_cons, e, ← e2], fun x hx => ?_⟩
      rcases (List.mem_cons.mp hx) with rfl | hx
      · rw [e]; exact r1'
      · exact r4 x hx
theorem rc_srt2 {K : PySem.W.Frag} {x : D} {k : D → Prop} {ps : List (Int × Int)} (hx : IsL x (ps.map twoD)) (p : ∀ qs : List (Int × Int), qs.Perm ps → qs.Pairwise (fun a b => SrtO.lexB b a = false) → k (.lst (qs.map twoD))) : RC K (DC.rSrt2 K) [x] k := fun w vs Q s r q => by
  obtain ⟨v, rfl, r1⟩ := r.one
  obtain ⟨l, us, rfl, h1, r1⟩ := Rep.isL_inv hx r1
  refine ⟨l, us, rfl, s.sl h1, r1.twos s, fun f ys b hf srt pm hb => ?_⟩
  obtain ⟨e, each⟩ := r1.by_k s f hf
  have r3 : RepL K w.S ys ((ys.map f).map twoD) := by
    have : ∀ x ∈ ys, Rep K w.S x (twoD (f x)) := fun x hx => each x (pm.mem_iff.mp hx)
    clear pm srt
    induction ys with
    | nil => exact .nil
    | cons y r ih => exact .cons (this y List.mem_cons_self) (ih fun x hx => this x (List.mem_cons_of_mem _ hx))
  obtain ⟨a1, a2, a3⟩ := Wd.repNew s hb r3
  exact q _ _ _ (p (ys.map f) (e ▸ pm.map f) (List.pairwise_map.mpr srt)) a1 a2 a3
/-! ### lists and dicts of integers -/
def onI (f : Int → Option D) : D → Option D
  | .int i => f i
  | _ => none
theorem fm_onI (f : Int → Option D) (ps : List Int) : (ps.map D.int).filterMap (onI f) = ps.filterMap f := by
  rw [List.filterMap_map]
  rfl
theorem fm_some {α β : Type} (f : α → β) (ps : List α) : (ps.filterMap fun p => some (f p)) = ps.map f := by
  rw [← List.filterMap_eq_map]
  rfl
theorem fm_if {α β : Type} (c : α → Bool) (f : α → β) (ps : List α) : (ps.filterMap fun p => if c p = true then some (f p) else none) = (ps.filter c).map f := by
  induction ps with
  | nil => rfl
  | cons p r ih =>
    by_cases h : c p = true
    · rw [List.filterMap_cons, if_pos h, List.filter_cons_of_pos h, List.map_cons, ih]
    · rw [List.filterMap_cons, if_neg h, List.filter_cons_of_neg h, ih]
/-- a dict from integers to integers -/
def dicI (ps : List Int) (g : Int → Int) : List (Key × D) := ps.map fun p => (Sum.inl p, D.int (g p))
theorem dicI_keys {ps : List Int} {g : Int → Int} : ((dicI ps g).map fun p => keyD p.1) = ps.map .int := by
  unfold dicI
  rw [List.map_map]
  rfl
theorem dicI_len {ps : List Int} {g : Int → Int} : (dicI ps g).length = ps.length := List.length_map ..
theorem dicI_look {g : Int → Int} {p : Int} : ∀ {ps : List Int}, p ∈ ps → lookD (dicI ps g) (.inl p) = some (.int (g p))
  | q :: ps, h => by
    unfold lookD dicI
    rw [List.map_cons, List.find?_cons]
    by_cases e : q = p
    · subst e
      rw [decide_eq_true rfl]
      rfl
    · rw [decide_eq_false (fun z => e (by injection z))]
      rcases (List.mem_cons.mp h) with rfl | h
      · exact absurd rfl e
      · exact dicI_look (ps := ps) h
section
variable {G : Gx} {ρ : Env} {v : Nat} {tt : TT} {tk tv te0 : TE} {wi : TI} {P : D → Env → Prop} {ps : List Int} {c : Int → Bool} {g : Int → Int}
/-- what is asked of a turn of {e: f for ..} -/
def TurnI (G : Gx) (tt : TT) (tk tv : TE) (c : Int → Bool) (g : Int → Int) (ρ' : Env) (p : Int) : Prop := WT G.nox tt ρ' fun b ρ4 => ρ4 = ρ' ∧ b = c p ∧ (c p = true → W G.nox tk ρ' fun y ρ5 => ρ5 = ρ' ∧ y = .int p ∧ W G.nox tv ρ' fun z ρ6 => ρ6 = ρ' ∧ z = .int (g p))
theorem turnI_ok (n : NameOk v ρ) (hv : v ∉ G.px) (nd : ps.Nodup) {i : Nat} {p : Int} (hp : ps[i]? = some p) (t : TurnI G tt tk tv c g (inE v ρ (.int p)) p) :
    WG G.nox (gName v) (.int p) (wipeE (inL [v]) 0 ρ) [v] fun ρ3 => WT G.nox tt ρ3 fun b ρ4 =>
      if b = true then W G.nox tk ρ4 fun y ρ5 => ∃ k, y = keyD k ∧ (∀ q ∈ ((dicI ((ps.take i).filter c) g).map fun kv => (kv.1, M.sh kv.2)), q.1 ≠ k) ∧ WO G.nox tv ρ5 fun z ρ6 => (((dicI ((ps.take i).filter c) g).map fun kv => (kv.1, M.sh kv.2)) ++ [(k, z)] = ((dicI ((ps.take (i + 1)).filter c) g).map fun kv => (kv.1, M.sh kv.2)) ∧ mixE (inL [v]) 0 ρ ρ6 = ρ)
      else (((dicI ((ps.take i).filter c) g).map fun kv => (kv.1, M.sh kv.2)) = ((dicI ((ps.take (i + 1)).filter c) g).map fun kv => (kv.1, M.sh kv.2)) ∧ mixE (inL [v]) 0 ρ ρ4 = ρ) := by
  have st : ps.take (i + 1) = ps.take i ++ [p] := by rw [List.take_add_one, hp]; rfl
  refine wg_name hv (by simp) ?_
  refine WT.imp t fun b ρ4 h => ?_
  obtain ⟨rfl, rfl, h⟩ := h
  cases e : c p with
  | true =>
    rw [if_pos rfl]
    refine (h e).imp fun y ρ5 h2 => ?_
    obtain ⟨rfl, rfl, h3⟩ := h2
    refine ⟨.inl p, rfl, fun q hq => ?_, ?_⟩
    · obtain ⟨kv, hkv, rfl⟩ := List.mem_map.mp hq
      unfold dicI at hkv
      obtain ⟨r, hr, rfl⟩ := List.mem_map.mp hkv
      have hr2 := (List.mem_filter.mp hr).1
      intro z
      have z : r = p := by injection z
      subst z
      obtain ⟨j, hj⟩ := List.getElem?_of_mem hr2
      rw [List.getElem?_take] at hj
      split at hj
      · rename_i lt
        have := (List.getElem?_inj (by have := List.getElem?_eq_some_iff.mp hj; exact this.1) nd).mp (hj.trans hp.symm)
        omega
      · cases hj
    · refine wo_sh ?_
      refine h3.imp fun z ρ6 h4 => ?_
      obtain ⟨rfl, rfl⟩ := h4
      refine ⟨?_, mix_in n⟩
      rw [st, List.filter_append, List.filter_cons_of_pos e]
      unfold dicI
      rw [List.map_append, List.map_append]
      rfl
  | false =>
    (rw [if_neg Bool.false_ne_true])
    refine ⟨?_, mix_in n⟩
    rw [st, List.filter_append, List.filter_cons_of_neg (by rw [e]; exact Bool.false_ne_true), List.filter_nil, List.append_nil]
theorem w_dcI (hv : v ∉ G.px) (n : NameOk v ρ) (h : WI G wi ρ fun ds ρ1 => ρ1 = ρ ∧ ∃ ps : List Int, ds = ps.map .int ∧ ps.Nodup ∧ ps.length ≤ 90000 ∧ (∀ p ∈ ps, TurnI G tt tk tv c g (inE v ρ (.int p)) p) ∧ P (.dic (dicI (ps.filter c) g)) ρ) : W G (tDc wi (gName v) tt tk tv [v]) ρ P := by
  refine w_frz (wo_dcM (sl := [v]) (fun i hi hm => hv (by rw [List.mem_singleton] at hm; rw [← hm]; exact hi)) (fun j hj => hj) fun w σ R o e q => h w σ R o e fun J w1 ds ρ1 hh => ?_)
  obtain ⟨rfl, ps, rfl, nd, hl, ht, hp⟩ := hh
  refine q J w1 _ _ ⟨by rw [List.length_map]; exact hl, fun i acc ρ' => acc = ((dicI ((ps.take i).filter c) g).map fun kv => (kv.1, M.sh kv.2)) ∧ ρ' = ρ1, ⟨by simp [dicI], rfl⟩, ?_, ?_⟩
  · rintro i d acc ρ2 hd ⟨rfl, rfl⟩
    rw [List.getElem?_map] at hd
    obtain ⟨p, hp2, rfl⟩ := Option.map_eq_some_iff.mp hd
    exact turnI_ok n hv nd hp2 (ht p (List.mem_of_getElem? hp2))
  · rintro acc ρ2 ⟨rfl, rfl⟩
    rw [List.length_map]
    rw [List.take_length]
    exact ⟨_, frz_dic, hp⟩
theorem w_dcKI {g0 : Int → Int} (hv : v ∉ G.px) (n : NameOk v ρ) (hk : KeyE G te0 ρ (dicI ps g0)) (nd : ps.Nodup) (hl : ps.length ≤ 90000) (ht : ∀ p ∈ ps, TurnI G tt tk tv c g (inE v ρ (.int p)) p) (hp : P (.dic (dicI (ps.filter c) g)) ρ) : W G (DC.tLockX (tDc (iKeys te0) (gName v) tt tk tv [v])) ρ P := by
  refine w_frz (wo_dcKM (sl := [v]) (fun i hi hm => hv (by rw [List.mem_singleton] at hm; rw [← hm]; exact hi)) (fun j hj => hj) hk (by rw [dicI_len]; exact hl) (fun i acc ρ' => acc = ((dicI ((ps.take i).filter c) g).map fun kv => (kv.1, M.sh kv.2)) ∧ ρ' = ρ) ⟨by simp [dicI], rfl⟩ ?_ ?_)
  · rintro i d acc ρ2 hd ⟨rfl, rfl⟩
    rw [dicI_keys, List.getElem?_map] at hd
    obtain ⟨p, hp2, rfl⟩ := Option.map_eq_some_iff.mp hd
    exact turnI_ok n hv nd hp2 (ht p (List.mem_of_getElem? hp2))
  · rintro acc ρ2 ⟨rfl, rfl⟩
    rw [dicI_len, List.take_length]
    exact ⟨_, frz_dic, hp⟩
/-- [e for p in d if t], d a dict of integers -/
theorem w_lcKI {te : TE} {F : Int → Option D} {g0 : Int → Int} (hv : v ∉ G.px) (n : NameOk v ρ) (hk : KeyE G te0 ρ (dicI ps g0)) (hl : ps.length ≤ 90000) (ht : ∀ p ∈ ps, WT G.nox tt (inE v ρ (.int p)) fun b ρ4 => ρ4 = inE v ρ (.int p) ∧ if b = true then W G.nox te (inE v ρ (.int p)) fun y ρ5 => ρ5 = inE v ρ (.int p) ∧ F p = some y else F p = none) (hp : P (.lst (ps.filterMap F)) ρ) : W G (DC.tLockX (tLc (iKeys te0) (gName v) tt te [v])) ρ P := by
  refine w_lcKP (F := onI F) hv n hk (by rw [dicI_len]; exact hl) (fun d hd => ?_) ?_
  · rw [dicI_keys] at hd
    obtain ⟨p, hp2, rfl⟩ := List.mem_map.mp hd
    exact ht p hp2
  · rw [dicI_keys, fm_onI]
    exact hp
end
end DL
namespace DL
open PySem L2
/-! ### comprehensions with two names -/
theorem inL2 {v u j : Nat} : inL [v, u] j = (decide (j = v) || decide (j = u)) := by
  unfold inL
  by_cases e : j = v
  · subst e; simp
  · by_cases e2 : j = u
    · subst e2; simp
    · simp [e, e2]
abbrev inE2 (v u : Nat) (ρ : Env) (x y : D) : Env := ((wipeE (inL [v, u]) 0 ρ).set v (some (.sh x))).set u (some (.sh y))
theorem mix_in2 {v u : Nat} {ρ : Env} {x y : D} (h : NameOk v ρ) (k : NameOk u ρ) : mixE (inL [v, u]) 0 ρ (inE2 v u ρ x y) = ρ := by
  obtain ⟨a, ha, hk⟩ := h
  obtain ⟨b, hb, hl⟩ := k
  apply List.ext_getElem?
  intro j
  rw [mixE_get (by rw [List.length_set, List.length_set, wipeE_len]), Nat.zero_add, inL2]
  by_cases e : j = v
  · subst e
    rw [decide_eq_true rfl, Bool.true_or, if_pos rfl, ha]
    show some (keepSh a) = some a
    rw [hk]
  · by_cases e2 : j = u
    · subst e2
      rw [decide_eq_true (p := j = j) rfl, Bool.or_true, if_pos rfl, hb]
      show some (keepSh b) = some b
      rw [hl]
    · rw [decide_eq_false e, decide_eq_false e2, Bool.or_false, if_neg Bool.false_ne_true, List.getElem?_set_ne (fun z => e2 z.symm), List.getElem?_set_ne (fun z => e z.symm), wipeE_at (by rw [Nat.zero_add, inL2, decide_eq_false e, decide_eq_false e2]; rfl)]
section
variable {α : Type} {G : Gx} {ρ : Env} {v u : Nat} {tt : TT} {te : TE} {wi : TI} {P : D → Env → Prop} {f : α → Option D} {xs : List α}
def TurnA (G : Gx) (tt : TT) (te : TE) (o : Option D) (ρ' : Env) : Prop := WT G.nox tt ρ' fun b ρ4 => ρ4 = ρ' ∧ if b = true then W G.nox te ρ' fun y ρ5 => ρ5 = ρ' ∧ o = some y else o = none
theorem turnA_ok {i : Nat} {a : α} {ρ' : Env} {ws : List Nat} (mx : mixE (inL ws) 0 ρ ρ' = ρ) (ha : xs[i]? = some a) (t : TurnA G tt te (f a) ρ') :
    WT G.nox tt ρ' fun b ρ4 => if b = true then W G.nox te ρ4 fun y ρ5 => ((xs.take i).filterMap f ++ [y] = (xs.take (i + 1)).filterMap f ∧ mixE (inL ws) 0 ρ ρ5 = ρ) else ((xs.take i).filterMap f = (xs.take (i + 1)).filterMap f ∧ mixE (inL ws) 0 ρ ρ4 = ρ) := by
  refine WT.imp t fun b ρ4 h4 => ?_
  obtain ⟨rfl, h4⟩ := h4
  cases b with
  | true =>
    rw [if_pos rfl] at h4 ⊢
    refine h4.imp fun z ρ5 h5 => ?_
    obtain ⟨rfl, h5⟩ := h5
    exact ⟨by rw [filterMap_step ha, h5], mx⟩
  | false =>
    rw [if_neg Bool.false_ne_true] at h4 ⊢
    exact ⟨by rw [filterMap_step ha, h4, List.append_nil], mx⟩
/-- over a list of things told by r -/
theorem w_lcA {r : α → D} (hv : v ∉ G.px) (n : NameOk v ρ) (h : WI G wi ρ fun ds ρ1 => ρ1 = ρ ∧ ds = xs.map r ∧ xs.length ≤ 90000 ∧ (∀ a ∈ xs, TurnA G tt te (f a) (inE v ρ (r a))) ∧ P (.lst (xs.filterMap f)) ρ) :
    W G (tLc wi (gName v) tt te [v]) ρ P := by
  refine w_lc (sl := [v]) (fun i hi hm => hv (by rw [List.mem_singleton] at hm; rw [← hm]; exact hi)) (fun j hj => hj) fun w σ R o e q => h w σ R o e fun J w1 ds ρ1 hh => ?_
  obtain ⟨rfl, rfl, hl, ht, hp⟩ := hh
  refine q J w1 _ _ ⟨by rw [List.length_map]; exact hl, fun i acc ρ' => acc = (xs.take i).filterMap f ∧ ρ' = ρ1, ⟨by simp, rfl⟩, ?_, ?_⟩
  · rintro i d acc ρ2 hd ⟨rfl, rfl⟩
    rw [List.getElem?_map] at hd
    obtain ⟨a, ha, rfl⟩ := Option.map_eq_some_iff.mp hd
    exact wg_name hv (by simp) (turnA_ok (mix_in n) ha (ht a (List.mem_of_getElem? ha)))
  · rintro acc ρ2 ⟨rfl, rfl⟩
    rw [List.length_map]
    rw [List.take_length]
    exact hp
/-- over a list of pairs, with two names -/
theorem w_lcA2 {x y : α → D} (hv : v ∉ G.px) (hu : u ∉ G.px) (n : NameOk v ρ) (m : NameOk u ρ) (h : WI G wi ρ fun ds ρ1 => ρ1 = ρ ∧ ds = xs.map (fun a => D.tup [x a, y a]) ∧ xs.length ≤ 90000 ∧ (∀ a ∈ xs, TurnA G tt te (f a) (inE2 v u ρ (x a) (y a))) ∧ P (.lst (xs.filterMap f)) ρ) :
    W G (tLc wi (gTup G.K 2 (gCons (gName v) (gCons (gName u) gNil))) tt te [v, u]) ρ P := by
  refine w_lc (sl := [v, u]) (fun i hi hm => ?_) (fun j hj => hj) fun w σ R o e q => h w σ R o e fun J w1 ds ρ1 hh => ?_
  · simp only [List.mem_cons, List.not_mem_nil, or_false] at hm
    rcases hm with rfl | rfl
    · exact hv hi
    · exact hu hi
  obtain ⟨rfl, rfl, hl, ht, hp⟩ := hh
  refine q J w1 _ _ ⟨by rw [List.length_map]; exact hl, fun i acc ρ' => acc = (xs.take i).filterMap f ∧ ρ' = ρ1, ⟨by simp, rfl⟩, ?_, ?_⟩
  · rintro i d acc ρ2 hd ⟨rfl, rfl⟩
    rw [List.getElem?_map] at hd
    obtain ⟨a, ha, rfl⟩ := Option.map_eq_some_iff.mp hd
    exact wg_tup rfl (wgs_cons (wg_name hv (by simp) (wgs_cons (wg_name hu (by simp) (wgs_nil (turnA_ok (mix_in2 n m) ha (ht a (List.mem_of_getElem? ha))))))))
  · rintro acc ρ2 ⟨rfl, rfl⟩
    rw [List.length_map]
    rw [List.take_length]
    exact hp
end
end DL

namespace K20
open PySem PySem.Spec PyProof.Rows L2 DL
variable {prg : Program} {wd : World} {K : PySem.W.Frag} {mg : Str → Option Value} {bs : Heap}
local macro_rules | `(tactic| walk_at "px") => `(tactic| first | exact List.not_mem_nil | (show _ ∉ ([0] : List Nat); decide) | (show _ ∉ ([] : List Nat); decide) | fail)
local macro_rules | `(tactic| walk_at "s") => `(tactic| with_reducible first
  | refine ws_seq ?_ | refine ws_if ?_ | refine ws_next ?_ | refine ws_ret ?_ | refine ws_retN ?_ | refine ws_asg (by walk_at "px") ?_ | refine ws_par (by walk_at "px") (by walk_at "px") ?_
  | refine w_var (by with_unfolding_all rfl) ?_ | refine w_int ?_ | refine w_bl ?_ | refine w_non ?_ | refine w_str ?_ | refine w_dnew ?_ | refine w_ty ?_
  | refine w_op ?_ | refine w_un ?_ | refine w_fld ?_ | refine w_xf ?_ | refine wt_test ?_ | refine wt_B ?_ | refine wt_yes ?_ | refine wt_and ?_ | refine wt_or ?_ | refine wt_not ?_ | refine w_andV ?_ | refine w_orV ?_ | refine w_notV ?_ | refine w_ifE ?_ | refine w_chain ?_
  | refine wa_nil ?_ | refine wa_cons ?_ | refine w_tup ?_ | refine w_lst ?_ | refine w_slice ?_ | refine w_dget ?_ | refine w_dget2 ?_ | refine w_dget1 ?_ | refine wp_no ?_ | refine wp_int ?_
  | refine w_cd repL_nil ?_ | refine w_md repL_nil ?_ | refine w_mk repL_nil ?_ | refine w_co repL_nil ⟨_, by with_unfolding_all rfl⟩ ?_ | refine w_call ?_
  | refine rd_add ?_ | refine rd_sub ?_ | refine rd_lt ?_ | refine rd_le ?_ | refine rd_gt ?_ | refine rd_ge ?_ | refine rd_ltS ?_ | refine rd_leS ?_ | refine rd_gtS ?_ | refine rd_geS ?_ | refine rd_isN ?_ | refine rd_notN ?_ | refine rd_eqAI ?_ | refine rd_neAI ?_ | refine rd_eqAS ?_ | refine rd_neAS ?_
  | refine wg_tup rfl ?_ | refine wgs_cons ?_ | refine wg_name (by walk_at "px") (by simp) ?_ | refine wgs_nil ?_
  | refine ru_neg ?_ | refine ⟨(by show List.length _ ≤ 100000; simp), ?_⟩
  | refine rc_abs ?_ | refine rc_int1 ?_ | refine rc_min2 ?_ | refine rc_max2 ?_
  | refine ⟨_, rfl, ?_⟩ | fail)
local macro_rules | `(tactic| walk_at "go") => `(tactic| repeat' walk_at "s")
local macro_rules | `(tactic| walk_at "args") => `(tactic| repeat' (with_reducible first | refine wa_cons ?_ | refine wa_nil ?_ | refine w_int ?_ | refine w_bl ?_ | refine w_non ?_ | refine w_str ?_ | refine w_dnew ?_ | refine w_tup ?_ | refine w_lst ?_ | refine w_un ?_ | refine ru_neg ?_ | refine w_var (by with_unfolding_all rfl) ?_ | refine ⟨(by show List.length _ ≤ 100000; simp), ?_⟩ | fail))
local macro_rules | `(tactic| walk_at "e") => `(tactic| with_reducible first
  | refine w_var (by with_unfolding_all rfl) ?_ | refine w_int ?_ | refine w_bl ?_ | refine w_non ?_ | refine w_str ?_ | refine w_dnew ?_ | refine w_ty ?_
  | refine w_op ?_ | refine w_un ?_ | refine w_fld ?_ | refine w_xf ?_ | refine wt_test ?_ | refine wt_B ?_ | refine wt_yes ?_ | refine wt_and ?_ | refine wt_or ?_ | refine wt_not ?_ | refine w_andV ?_ | refine w_orV ?_ | refine w_notV ?_ | refine w_ifE ?_ | refine w_chain ?_
  | refine wa_nil ?_ | refine wa_cons ?_ | refine w_tup ?_ | refine w_lst ?_ | refine w_slice ?_ | refine w_dget ?_ | refine w_dget2 ?_ | refine w_dget1 ?_ | refine wp_no ?_ | refine wp_int ?_
  | refine w_cd repL_nil ?_ | refine w_md repL_nil ?_ | refine w_mk repL_nil ?_ | refine w_co repL_nil ⟨_, by with_unfolding_all rfl⟩ ?_ | refine w_call ?_
  | refine rd_add ?_ | refine rd_sub ?_ | refine rd_lt ?_ | refine rd_le ?_ | refine rd_gt ?_ | refine rd_ge ?_ | refine rd_ltS ?_ | refine rd_leS ?_ | refine rd_gtS ?_ | refine rd_geS ?_ | refine rd_isN ?_ | refine rd_notN ?_ | refine rd_eqAI ?_ | refine rd_neAI ?_ | refine rd_eqAS ?_ | refine rd_neAS ?_
  | refine wg_tup rfl ?_ | refine wgs_cons ?_ | refine wg_name (by walk_at "px") (by simp) ?_ | refine wgs_nil ?_
  | refine ru_neg ?_ | refine ⟨(by show List.length _ ≤ 100000; simp), ?_⟩
  | refine rc_abs ?_ | refine rc_int1 ?_ | refine rc_min2 ?_ | refine rc_max2 ?_
  | refine ⟨_, rfl, ?_⟩ | fail)
local macro_rules | `(tactic| walk_at "ex") => `(tactic| repeat' walk_at "e")
local macro_rules | `(tactic| walk_at "a_") => `(tactic| (show WS _ _ _ _; (with_reducible try refine ws_seq ?_); with_reducible refine ws_asg (by walk_at "px") ?_; walk_at "ex"))
local macro_rules | `(tactic| walk_at "i_") => `(tactic| (show WS _ _ _ _; (with_reducible try refine ws_seq ?_); with_reducible refine ws_if ?_; walk_at "ex"))
local macro_rules | `(tactic| walk_at "d_") => `(tactic| (show WS _ _ _ _; (with_reducible try refine ws_seq ?_); with_reducible refine ws_drop ?_; walk_at "ex"))
local macro_rules | `(tactic| walk_at "r_") => `(tactic| (show WS _ _ _ _; with_reducible refine ws_ret ?_; walk_at "ex"))
local macro_rules | `(tactic| walk_at "v_") => `(tactic| refine w_var (by with_unfolding_all rfl) ?_)

open CLR
def prD : Option Int → D
  | none => .non
  | some p => .int p
def bidL (b : Bid) : List D := [.str b.nm, .str b.mb, .str (sideS b.buy), prD b.pr, .int b.am]
def bidD (b : Bid) : D := .tup (bidL b)
theorem side_buy (b : Bool) : (sideS b == "buy") = b := by cases b <;> decide +kernel
theorem side_eq (s t : Bool) : (sideS s == sideS t) = decide (s = t) := by cases s <;> cases t <;> decide +kernel
theorem side_dec (b : Bool) : decide (sideS b = "buy") = b := by cases b <;> decide +kernel
theorem side_deq (s t : Bool) : decide (sideS s = sideS t) = decide (s = t) := by cases s <;> cases t <;> decide +kernel
def c_Fworth : CD := ⟨fun ds k => ∃ b, ds = [bidD b] ∧ k (.ret (.sh (.int b.worth))), by
  rintro ds k k' h ⟨b, e, q⟩
  exact ⟨b, e, h _ q⟩⟩
theorem sc_Fworth : FnScope ["bid"] ["bid"] (defScope s_Fworth) := ⟨rfl, rfl, rfl, by decide +kernel, rfl, by decide +kernel, by decide +kernel⟩
theorem ok_Fworth (T : Tx K mg) (tb : ∀ p ∈ csOf K, LamX.TabB bs mg p.1 p.2) : ∃ fd, DC.FnG prg wd K mg bs (L2.CX prg wd) 1 (He.ga K "worth") fd ["bid"] (toSp K 1 c_Fworth.con) ∧ L2.Binds K fd ["bid"] [] ∧ PySem.W.keepIn K (.ref (He.ga K "worth")) = true := by
  obtain ⟨fd, F0⟩ := T.d_Fworth
  obtain ⟨_, c_GREATEST_PRICE⟩ := T.i_GREATEST_PRICE
  obtain ⟨_, c_LEAST_PRICE⟩ := T.i_LEAST_PRICE
  refine ⟨fd, def_D (N := ["bid"]) F0 sc_Fworth rfl ?_, F0.bindsN fun _ _ _ _ _ _ us hl => match us, hl with | [_], _ => rfl, F0.kp⟩
  intro cdv A fr s H E ds kk gd room hc hl
  have hu := room.units
  have hu7 := room70 room
  have sc := sc_Fworth
  refine ⟨_, (pss_cons (ps_if (pt_cmpR op_notN (pe_ix ix_seq (pv 0) pe_int (fun _ _ => rfl)) pe_non (nomark _)) (pss_one (ps_ret (pe_ix ix_seq (pv 0) pe_int (fun _ _ => rfl)))) pss_nil)
  (pss_one (ps_ret (pe_ifExp (pt_cmpR (op_eqA hu) (pe_ix ix_seq (pv 0) pe_int (fun _ _ => rfl)) pe_str (nomark _)) (pe_glob (by rfl) c_GREATEST_PRICE (show RelV (.int 99) (.int 99 _) from ⟨_, rfl⟩)) (pe_glob (by rfl) c_LEAST_PRICE (show RelV (.int 1) (.int 1 _) from ⟨_, rfl⟩)))))), ?_⟩
  try dsimp only [L2.cxOf]
  obtain ⟨b, rfl, q⟩ := hc
  obtain ⟨nm, mb, s, pr, am⟩ := b
  walk_at "i_"
  refine rd_ixT (xs := bidL ⟨nm, mb, s, pr, am⟩) (d := prD pr) rfl ?_
  walk_at "ex"
  cases pr with
  | none =>
    refine if_no rfl ?_
    refine ws_next ?_
    show WS _ _ _ _
    refine ws_ret ?_
    walk_at "ex"
    refine rd_ixT (xs := bidL ⟨nm, mb, s, none, am⟩) (d := .str (sideS s)) rfl ?_
    walk_at "ex"
    rw [side_dec]
    cases s
    · refine if_no rfl ?_
      walk_at "ex"
      exact q
    · refine if_ye rfl ?_
      walk_at "ex"
      exact q
  | some p =>
    refine if_ye rfl ?_
    refine ws_ret ?_
    walk_at "ex"
    refine rd_ixT (xs := bidL ⟨nm, mb, s, some p, am⟩) (d := .int p) rfl ?_
    exact q
def c_Frise : CD := ⟨fun ds k => ∃ b p, ds = [bidD b, .int p] ∧ k (.ret (.sh (.int (b.rise p)))), by
  rintro ds k k' h ⟨b, p, e, q⟩
  exact ⟨b, p, e, h _ q⟩⟩
theorem sc_Frise : FnScope ["bid", "price"] ["bid", "price"] (defScope s_Frise) := ⟨rfl, rfl, rfl, by decide +kernel, rfl, by decide +kernel, by decide +kernel⟩
theorem ok_Frise (T : Tx K mg) (tb : ∀ p ∈ csOf K, LamX.TabB bs mg p.1 p.2) : ∃ fd, DC.FnG prg wd K mg bs (L2.CX prg wd) 2 (He.ga K "rise") fd ["bid", "price"] (toSp K 2 c_Frise.con) ∧ L2.Binds K fd ["bid", "price"] [] ∧ PySem.W.keepIn K (.ref (He.ga K "rise")) = true := by
  obtain ⟨fd, F0⟩ := T.d_Frise
  obtain ⟨_, F_Fworth, b_Fworth, k_Fworth⟩ := ok_Fworth (prg := prg) (wd := wd) (bs := bs) T tb
  refine ⟨fd, def_D (N := ["bid", "price"]) F0 sc_Frise rfl ?_, F0.bindsN fun _ _ _ _ _ _ us hl => match us, hl with | [_, _], _ => rfl, F0.kp⟩
  intro cdv A fr s H E ds kk gd room hc hl
  have hu := room.units
  have hu7 := room70 room
  have sc := sc_Frise
  refine ⟨_, (pss_one (ps_ret (pe_ifExp (pt_cmpR (op_eqA hu) (pe_ix ix_seq (pv 0) pe_int (fun _ _ => rfl)) pe_str (nomark _)) (pe_op op_sub (DC.pe_callG F_Fworth gd (room.mono (by decide)) (by rfl) T.g_worth k_Fworth b_Fworth .nil (fun σ => passAt (takes_of rfl rfl rfl rfl) σ) (pa_cons (pv 0) pa_nil)) (pv 1)) (pe_op op_sub (pv 1) (DC.pe_callG F_Fworth gd (room.mono (by decide)) (by rfl) T.g_worth k_Fworth b_Fworth .nil (fun σ => passAt (takes_of rfl rfl rfl rfl) σ) (pa_cons (pv 0) pa_nil)))))), ?_⟩
  try dsimp only [L2.cxOf]
  obtain ⟨b, p, rfl, q⟩ := hc
  refine ws_ret ?_
  walk_at "ex"
  refine rd_ixT (xs := bidL b) (d := .str (sideS b.buy)) rfl ?_
  walk_at "ex"
  rw [side_dec]
  unfold Bid.rise at q
  cases e : b.buy with
  | true =>
    rw [e, if_pos rfl] at q
    refine if_ye rfl ?_
    walk_at "ex"
    refine ⟨rfl, b, rfl, _, .sh _, ?_⟩
    walk_at "ex"
    exact q
  | false =>
    rw [e, if_neg Bool.false_ne_true] at q
    refine if_no rfl ?_
    walk_at "ex"
    refine ⟨rfl, b, rfl, _, .sh _, ?_⟩
    walk_at "ex"
    exact q
def c_Fof_side : CD := ⟨fun ds k => ∃ (B : List Bid) (s : Bool), ds = [.lst (B.map bidD), .str (sideS s)] ∧ B.length ≤ 100 ∧ k (.ret (.sh (.lst ((B.filter fun b => decide (b.buy = s)).map bidD)))), by
  rintro ds k k' h ⟨B, s, e, l, q⟩
  exact ⟨B, s, e, l, h _ q⟩⟩
theorem sc_Fof_side : FnScope ["orders", "side", "bid"] ["orders", "side"] (defScope s_Fof_side) := ⟨rfl, rfl, rfl, by decide +kernel, rfl, by decide +kernel, by decide +kernel⟩
theorem ok_Fof_side (T : Tx K mg) (tb : ∀ p ∈ csOf K, LamX.TabB bs mg p.1 p.2) : ∃ fd, DC.FnG prg wd K mg bs (L2.CX prg wd) 1 (He.ga K "of_side") fd ["orders", "side"] (toSp K 2 c_Fof_side.con) ∧ L2.Binds K fd ["orders", "side"] [] ∧ PySem.W.keepIn K (.ref (He.ga K "of_side")) = true := by
  obtain ⟨fd, F0⟩ := T.d_Fof_side
  refine ⟨fd, def_D (N := ["orders", "side", "bid"]) F0 sc_Fof_side rfl ?_, F0.bindsN fun _ _ _ _ _ _ us hl => match us, hl with | [_, _], _ => rfl, F0.kp⟩
  intro cdv A fr s H E ds kk gd room hc hl
  have hu := room.units
  have hu7 := room70 room
  have sc := sc_Fof_side
  refine ⟨_, (pss_one (ps_ret (pe_lc (own := [("bid", 2)]) (g := (gName 2))  (by rfl) sc.nd (pi_list (pv 0)) (blkOk_by (own := [("bid", 2)]) (N := ["orders", "side", "bid"]) (sc := defScope s_Fof_side) (by decide +kernel)) (fun _ _ _ _ _ => (pg_name (i := 2) sc.nd rfl (Or.inl rfl))) (fun _ _ _ _ _ => (pts_one (pt_cmpR (o_eqAK rfl hu) (pe_ix (o_ixK rfl) (pv 2) pe_int (fun _ _ => rfl)) (pv 1) (nomark _)))) (fun _ _ _ _ _ => (pv 2))))), ?_⟩
  try dsimp only [L2.cxOf]
  obtain ⟨B, s, rfl, hl, q⟩ := hc
  refine ws_ret ?_
  refine w_lcA (xs := B) (r := bidD) (f := fun b => if decide (b.buy = s) = true then some (bidD b) else none) (by walk_at "px") (nameOk_none rfl) ?_
  refine wi_list ?_
  walk_at "ex"
  refine ⟨rfl, rfl, by omega, fun b hb => ?_, ?_⟩
  · show WT _ _ _ _
    refine wt_test ?_
    walk_at "ex"
    refine rd_ixT (xs := bidL b) (d := .str (sideS b.buy)) rfl ?_
    walk_at "ex"
    rw [side_deq]
    refine ⟨rfl, ?_⟩
    refine if_b (fun z => ?_) (fun z => by rw [z]; rfl)
    rw [if_pos z]
    walk_at "ex"
    exact ⟨rfl, rfl⟩
  rw [fm_if]
  exact q
theorem sum_fm {B : List Bid} (c : Bid → Bool) : (B.filterMap fun b => if c b = true then some (D.int b.am) else none) = ((B.filter c).map (·.am)).map .int := by
  rw [fm_if, List.map_map]
  rfl
def c_Fcounts_at : CD := ⟨fun ds k => ∃ B p, ds = [.lst (B.map bidD), .int p] ∧ B.length ≤ 100 ∧ k (.ret (.sh (.tup [.int (cnt B true p), .int (cnt B false p)]))), by
  rintro ds k k' h ⟨B, p, e, l, q⟩
  exact ⟨B, p, e, l, h _ q⟩⟩
theorem sc_Fcounts_at : FnScope ["orders", "price", "bought", "sold", "side", "bid"] ["orders", "price"] (defScope s_Fcounts_at) := ⟨rfl, rfl, rfl, by decide +kernel, rfl, by decide +kernel, by decide +kernel⟩
theorem ok_Fcounts_at (T : Tx K mg) (tb : ∀ p ∈ csOf K, LamX.TabB bs mg p.1 p.2) : ∃ fd, DC.FnG prg wd K mg bs (L2.CX prg wd) 3 (He.ga K "counts_at") fd ["orders", "price"] (toSp K 2 c_Fcounts_at.con) ∧ L2.Binds K fd ["orders", "price"] [] ∧ PySem.W.keepIn K (.ref (He.ga K "counts_at")) = true := by
  obtain ⟨fd, F0⟩ := T.d_Fcounts_at
  obtain ⟨_, F_Fof_side, b_Fof_side, k_Fof_side⟩ := ok_Fof_side (prg := prg) (wd := wd) (bs := bs) T tb
  obtain ⟨_, F_Frise, b_Frise, k_Frise⟩ := ok_Frise (prg := prg) (wd := wd) (bs := bs) T tb
  have c_SIDES := T.g_SIDES
  refine ⟨fd, def_D (N := ["orders", "price", "bought", "sold", "side", "bid"]) F0 sc_Fcounts_at rfl ?_, F0.bindsN fun _ _ _ _ _ _ us hl => match us, hl with | [_, _], _ => rfl, F0.kp⟩
  intro cdv A fr s H E ds kk gd room hc hl
  have hu := room.units
  have hu7 := room70 room
  have sc := sc_Fcounts_at
  refine ⟨_, (pss_cons (ps_asg (pe_lc (own := [("side", 4)]) (g := (gName 4)) (tt := tYes) (by rfl) sc.nd (DC.pi_seq (pe_glob (by rfl) c_SIDES (show RelV (.ref _) (.ref _) from rfl))) (blkOk_by (own := [("side", 4)]) (N := ["orders", "price", "bought", "sold", "side", "bid"]) (sc := defScope s_Fcounts_at) (by decide +kernel)) (fun _ _ _ _ _ => (pg_name (i := 4) sc.nd rfl (Or.inl rfl))) (fun _ _ _ _ _ => pts_nil) (fun _ _ _ _ _ => (pe_callB (o_sumK rfl rfl) (by rfl) T.n_sum (by decide +kernel) (pa_cons (pe_lc (own := [("bid", 5)]) (g := (gName 5))  (by rfl) sc.nd (DL.pi_listK rfl (DC.pe_callG F_Fof_side gd (room.mono (by decide)) (by rfl) T.g_of_side k_Fof_side b_Fof_side .nil (fun σ => passAt takes0 σ) (pa_cons (pv 0) (pa_cons (pv 4) pa_nil)))) (blkOk_by (own := [("bid", 5)]) (by kernel_rfl)) (fun _ _ _ _ _ => (pg_name (i := 5) sc.nd rfl (Or.inl rfl))) (fun _ _ _ _ _ => (pts_one (pt_cmpR o_ge (DC.pe_callG F_Frise gd (room.mono (by decide)) (by rfl) T.g_rise k_Frise b_Frise .nil (fun σ => passAt takes0 σ) (pa_cons (pv 5) (pa_cons (pv 1) pa_nil))) pe_int (nomark _)))) (fun _ _ _ _ _ => (pe_ix (o_ixK rfl) (pv 5) pe_int (fun _ _ => rfl)))) pa_nil)))) (pg_lst (by rfl) (pgs_cons (pg_name (i := 2) sc.nd rfl (Or.inl rfl)) (pgs_cons (pg_name (i := 3) sc.nd rfl (Or.inl rfl)) pgs_nil))))
  (pss_one (ps_ret (pe_tup (pa_cons (pv 2) (pa_cons (pv 3) pa_nil)))))), ?_⟩
  try dsimp only [L2.cxOf]
  obtain ⟨B, p, rfl, hl, q⟩ := hc
  have tS := T.tup_SIDES
  refine ws_seq ?_
  refine ws_asgG (sl := [2, 3]) ?_
  refine w_lcA (xs := [true, false]) (r := fun s => D.str (sideS s)) (f := fun s => some (.int (cnt B s p))) (by walk_at "px") (nameOk_none rfl) ?_
  refine wi_seq ?_
  refine w_glob tS ?_
  refine ⟨_, .inr rfl, rfl, rfl, by decide, fun s hs => ?_, ?_⟩
  · refine wt_yes ⟨rfl, ?_⟩
    rw [if_pos rfl]
    refine w_call ?_
    refine wa_cons ?_
    refine w_lcA (xs := B.filter fun b => decide (b.buy = s)) (r := bidD) (f := fun b => if decide (0 ≤ b.rise p) = true then some (.int b.am) else none) (by walk_at "px") (nameOk_none rfl) ?_
    refine wi_list ?_
    walk_at "ex"
    refine ⟨rfl, B, s, rfl, hl, _, .sh _, _, rfl, rfl, rfl, ?_, fun b hb => ?_, ?_⟩
    · have := List.length_filter_le (fun b : Bid => decide (b.buy = s)) B
      omega
    · show WT _ _ _ _
      refine wt_test ?_
      walk_at "ex"
      refine ⟨rfl, b, p, rfl, _, .sh _, ?_⟩
      walk_at "ex"
      refine ⟨rfl, ?_⟩
      refine if_b (fun z => ?_) (fun z => by rw [z]; rfl)
      rw [if_pos z]
      walk_at "ex"
      refine rd_ixT (xs := bidL b) (d := .int b.am) rfl ?_
      exact ⟨rfl, rfl⟩
    rw [sum_fm]
    refine wa_nil ?_
    refine rc_sum (.lst _) ?_
    exact ⟨rfl, rfl⟩
  refine wg_lst rfl ?_
  show WGs _ _ [D.int (cnt B true p), .int (cnt B false p)] _ _ _
  walk_at "ex"
  show WS _ _ _ _
  refine ws_ret ?_
  walk_at "ex"
  exact q
def c_Fvolume_at : CD := ⟨fun ds k => ∃ B p, ds = [.lst (B.map bidD), .int p] ∧ B.length ≤ 100 ∧ k (.ret (.sh (.int (vol B p)))), by
  rintro ds k k' h ⟨B, p, e, l, q⟩
  exact ⟨B, p, e, l, h _ q⟩⟩
theorem sc_Fvolume_at : FnScope ["orders", "price"] ["orders", "price"] (defScope s_Fvolume_at) := ⟨rfl, rfl, rfl, by decide +kernel, rfl, by decide +kernel, by decide +kernel⟩
theorem ok_Fvolume_at (T : Tx K mg) (tb : ∀ p ∈ csOf K, LamX.TabB bs mg p.1 p.2) : ∃ fd, DC.FnG prg wd K mg bs (L2.CX prg wd) 4 (He.ga K "volume_at") fd ["orders", "price"] (toSp K 2 c_Fvolume_at.con) ∧ L2.Binds K fd ["orders", "price"] [] ∧ PySem.W.keepIn K (.ref (He.ga K "volume_at")) = true := by
  obtain ⟨fd, F0⟩ := T.d_Fvolume_at
  obtain ⟨_, F_Fcounts_at, b_Fcounts_at, k_Fcounts_at⟩ := ok_Fcounts_at (prg := prg) (wd := wd) (bs := bs) T tb
  refine ⟨fd, def_D (N := ["orders", "price"]) F0 sc_Fvolume_at rfl ?_, F0.bindsN fun _ _ _ _ _ _ us hl => match us, hl with | [_, _], _ => rfl, F0.kp⟩
  intro cdv A fr s H E ds kk gd room hc hl
  have hu := room.units
  have hu7 := room70 room
  have sc := sc_Fvolume_at
  refine ⟨_, (pss_one (ps_ret (pe_callB (DC.cr_min2T rfl rfl hu7) (by rfl) T.n_min (by decide +kernel) (pa_cons (DC.pe_callG F_Fcounts_at gd (room.mono (by decide)) (by rfl) T.g_counts_at k_Fcounts_at b_Fcounts_at .nil (fun σ => passAt (takes_of rfl rfl rfl rfl) σ) (pa_cons (pv 0) (pa_cons (pv 1) pa_nil))) pa_nil)))), ?_⟩
  try dsimp only [L2.cxOf]
  obtain ⟨B, p, rfl, hl, q⟩ := hc
  refine ws_ret ?_
  walk_at "ex"
  refine ⟨rfl, B, p, rfl, hl, _, .sh _, ?_⟩
  walk_at "ex"
  refine rc_min2T ?_
  exact q
def c_Fleft_at : CD := ⟨fun ds k => ∃ B p, ds = [.lst (B.map bidD), .int p] ∧ B.length ≤ 100 ∧ k (.ret (.sh (.int (lft B p)))), by
  rintro ds k k' h ⟨B, p, e, l, q⟩
  exact ⟨B, p, e, l, h _ q⟩⟩
theorem sc_Fleft_at : FnScope ["orders", "price", "bought", "sold"] ["orders", "price"] (defScope s_Fleft_at) := ⟨rfl, rfl, rfl, by decide +kernel, rfl, by decide +kernel, by decide +kernel⟩
theorem ok_Fleft_at (T : Tx K mg) (tb : ∀ p ∈ csOf K, LamX.TabB bs mg p.1 p.2) : ∃ fd, DC.FnG prg wd K mg bs (L2.CX prg wd) 4 (He.ga K "left_at") fd ["orders", "price"] (toSp K 2 c_Fleft_at.con) ∧ L2.Binds K fd ["orders", "price"] [] ∧ PySem.W.keepIn K (.ref (He.ga K "left_at")) = true := by
  obtain ⟨fd, F0⟩ := T.d_Fleft_at
  obtain ⟨_, F_Fcounts_at, b_Fcounts_at, k_Fcounts_at⟩ := ok_Fcounts_at (prg := prg) (wd := wd) (bs := bs) T tb
  refine ⟨fd, def_D (N := ["orders", "price", "bought", "sold"]) F0 sc_Fleft_at rfl ?_, F0.bindsN fun _ _ _ _ _ _ us hl => match us, hl with | [_, _], _ => rfl, F0.kp⟩
  intro cdv A fr s H E ds kk gd room hc hl
  have hu := room.units
  have hu7 := room70 room
  have sc := sc_Fleft_at
  refine ⟨_, (pss_cons (ps_asg (DC.pe_callG F_Fcounts_at gd (room.mono (by decide)) (by rfl) T.g_counts_at k_Fcounts_at b_Fcounts_at .nil (fun σ => passAt (takes_of rfl rfl rfl rfl) σ) (pa_cons (pv 0) (pa_cons (pv 1) pa_nil))) (pg_tup (by rfl) (pgs_cons (pg_name (i := 2) sc.nd rfl (Or.inl rfl)) (pgs_cons (pg_name (i := 3) sc.nd rfl (Or.inl rfl)) pgs_nil))))
  (pss_one (ps_ret (pe_op op_sub (pv 2) (pv 3))))), ?_⟩
  try dsimp only [L2.cxOf]
  obtain ⟨B, p, rfl, hl, q⟩ := hc
  refine ws_seq ?_
  refine ws_asgG (sl := [2, 3]) ?_
  walk_at "ex"
  refine ⟨rfl, B, p, rfl, hl, _, .sh _, ?_⟩
  refine wg_tup rfl ?_
  walk_at "ex"
  refine ws_ret ?_
  walk_at "ex"
  exact q
end K20

namespace DC
open PySem.Spec PySem PyProof.Rows L2
section
variable {X : Cx} {i : Nat} {y : Str} {py p1 p2 : Pos} {kx vx tgt iter : Expr} {tests : List Expr} {scp : Scope} {own : List (Str × Nat)} {wi : TI} {g : TG} {tt : TT} {tk tv : TE}
/-- name = {..} on one line, a plain local name -/
theorem ps_setDc (calm_ : X.calm = true) (nd : X.N.Nodup) (at_ : X.N[i]? = some y) (loc : X.env.scope.names.lookup y = some .local)
    (sw : swapsWith (.DictComp kx vx [⟨tgt, iter, tests, 0⟩] scp p1) (some (.Name y py)) p2.line X.env = pure true) (walk : PI X tgt iter wi) (blk : BlkOk X.N X.env.scope scp own)
    (aim : ∀ (s : Shared) (H : Hp) (C : Addr) (cl : List (Str × Addr)) (fp : List Addr), PG (X.blk s H scp (compEnvC scp cl C X.env) fp) tgt g) (asks : ∀ (s : Shared) (H : Hp) (C : Addr) (cl : List (Str × Addr)) (fp : List Addr), PTs (X.blk s H scp (compEnvC scp cl C X.env) fp) tests tt)
    (name_ : ∀ (s : Shared) (H : Hp) (C : Addr) (cl : List (Str × Addr)) (fp : List Addr), PE (X.blk s H scp (compEnvC scp cl C X.env) fp) kx tk) (item : ∀ (s : Shared) (H : Hp) (C : Addr) (cl : List (Str × Addr)) (fp : List Addr), PE (X.blk s H scp (compEnvC scp cl C X.env) fp) vx tv)
    (fold : ∀ x, foldedSetIterable iter X.env x = pure x := by intro _; rfl) : PS X (.Assign [.Name y py] (.DictComp kx vx [⟨tgt, iter, tests, 0⟩] scp p1) p2) (tAsg (tDc wi g tt tk tv (own.map (·.2))) (gName i)) := by
  refine ⟨fun pins s σ H D J w => ?_⟩
  rw [exec_Assign_Name_used _ _ _ _ sw]
  refine wpAny_bind (E := X.xe) (wpAny_standAt (wpAny_bind ?_))
  have w2 : tDc wi g tt tk tv (own.map (·.2)) σ H (fun u T => gName i u σ T D.nx) := w
  have run := dc_core (use := some (assign (.Name y py) X.env)) (Qf := fun _ s' => SP X pins D .next s') (pos := p1) (pos' := firstIterPos [⟨tgt, iter, tests, 0⟩] p1) calm_ nd J walk blk aim asks name_ item fold w2 fun d C st m T J1 after ns fp => ?_
  · show wpAny _ X.A (do let _ ← comprehension (.DictComp kx vx [⟨tgt, iter, tests, 0⟩] scp p1) scp X.env (firstIterPos [⟨tgt, iter, tests, 0⟩] p1) newDict false (eval iter X.env) (some (assign (.Name y py) X.env))) _ _ s
    exact wpAny_bind (thn run fun _ st got => wpAny_pure (wpAny_pure got))
  · show wpAny _ _ (assign (.Name y py) X.env (.ref d)) _ _ _
    obtain ⟨g0, g1, g2, g3, g4, g5⟩ := fp
    refine wpAny_assign_Name (store_ok2 (v := V.ref d) J1 nd at_ (.inl loc) rfl (fun st2 J2 ⟨b, same, hb⟩ => ?_) (.inr loc))
    have apart : C ≠ b := by
      rcases hb with e | e
      · exact e ▸ g1
      · exact fun z => g4 y b e z.symm
    exact ⟨m, ns.sameBut same apart, fun h2 same2 => ⟨_, T, J2.turned (t' := st2.toks) (fun b o nb at2 => (same2.2 b nb).trans at2) g0 g1 g3 g4 g5, after⟩⟩
theorem ps_setDcK (calm_ : X.calm = true) (nd : X.N.Nodup) (at_ : X.N[i]? = some y) (loc : X.env.scope.names.lookup y = some .local)
    (sw : swapsWith (.DictComp kx vx [⟨tgt, iter, tests, 0⟩] scp p1) (some (.Name y py)) p2.line X.env = pure true) (walk : PI X tgt iter wi) (blk : BlkOk X.N X.env.scope scp own)
    (aim : ∀ (s : Shared) (H : Hp) (C : Addr) (cl : List (Str × Addr)) (fp : List Addr), PG (X.blk s H scp (compEnvC scp cl C X.env) fp) tgt g) (asks : ∀ (s : Shared) (H : Hp) (C : Addr) (cl : List (Str × Addr)) (fp : List Addr), PTs (X.blk s H scp (compEnvC scp cl C X.env) fp) tests tt)
    (name_ : ∀ (s : Shared) (H : Hp) (C : Addr) (cl : List (Str × Addr)) (fp : List Addr), PE (X.blk s H scp (compEnvC scp cl C X.env) fp) kx tk) (item : ∀ (s : Shared) (H : Hp) (C : Addr) (cl : List (Str × Addr)) (fp : List Addr), PE (X.blk s H scp (compEnvC scp cl C X.env) fp) vx tv)
    (fold : ∀ x, foldedSetIterable iter X.env x = pure x := by intro _; rfl) : PS X (.Assign [.Name y py] (.DictComp kx vx [⟨tgt, iter, tests, 0⟩] scp p1) p2) (tAsg (tLockX (tDc wi g tt tk tv (own.map (·.2)))) (gName i)) :=
  (ps_lockX (ps_setDc calm_ nd at_ loc sw walk blk aim asks name_ item fold) : PS X _ (sLockX _))
theorem swD_true {gs : List Comprehension} {pos : Pos} {l : Nat} {env : Env} (k1 : env.scope.kind = .function) (k2 : env.scope.names.lookup y = some .local) (k3 : (py.line == pos.line) = true)
    (k4 : (scp.names.any fun (n, k) => n == y && (k == .local || k == .cell)) = false) : swapsWith (.DictComp kx vx gs scp pos) (some (.Name y py)) l env = pure true := by
  have e1 : env.blockKind = .function := by
    unfold Env.blockKind
    rw [k1]
    rfl
  have e2 : env.kindOf y = some .local := k2
  unfold swapsWith
  simp only [e1, e2, k4, Expr.pos, k3]
  rfl
end
end DC

namespace K20
open PySem PySem.Spec PyProof.Rows L2 DL
variable {prg : Program} {wd : World} {K : PySem.W.Frag} {mg : Str → Option Value} {bs : Heap}
local macro_rules | `(tactic| walk_at "px") => `(tactic| first | exact List.not_mem_nil | (show _ ∉ ([0] : List Nat); decide) | (show _ ∉ ([] : List Nat); decide) | fail)
local macro_rules | `(tactic| walk_at "s") => `(tactic| with_reducible first
  | refine ws_seq ?_ | refine ws_if ?_ | refine ws_next ?_ | refine ws_ret ?_ | refine ws_retN ?_ | refine ws_asg (by walk_at "px") ?_ | refine ws_par (by walk_at "px") (by walk_at "px") ?_
  | refine w_var (by with_unfolding_all rfl) ?_ | refine w_int ?_ | refine w_bl ?_ | refine w_non ?_ | refine w_str ?_ | refine w_dnew ?_ | refine w_ty ?_
  | refine w_op ?_ | refine w_un ?_ | refine w_fld ?_ | refine w_xf ?_ | refine wt_test ?_ | refine wt_B ?_ | refine wt_yes ?_ | refine wt_and ?_ | refine wt_or ?_ | refine wt_not ?_ | refine w_andV ?_ | refine w_orV ?_ | refine w_notV ?_ | refine w_ifE ?_ | refine w_chain ?_
  | refine wa_nil ?_ | refine wa_cons ?_ | refine w_tup ?_ | refine w_lst ?_ | refine w_slice ?_ | refine w_dget ?_ | refine w_dget2 ?_ | refine w_dget1 ?_ | refine wp_no ?_ | refine wp_int ?_
  | refine w_cd repL_nil ?_ | refine w_md repL_nil ?_ | refine w_mk repL_nil ?_ | refine w_co repL_nil ⟨_, by with_unfolding_all rfl⟩ ?_ | refine w_call ?_
  | refine rd_add ?_ | refine rd_sub ?_ | refine rd_lt ?_ | refine rd_le ?_ | refine rd_gt ?_ | refine rd_ge ?_ | refine rd_ltS ?_ | refine rd_leS ?_ | refine rd_gtS ?_ | refine rd_geS ?_ | refine rd_isN ?_ | refine rd_notN ?_ | refine rd_eqAI ?_ | refine rd_neAI ?_ | refine rd_eqAS ?_ | refine rd_neAS ?_
  | refine wg_tup rfl ?_ | refine wgs_cons ?_ | refine wg_name (by walk_at "px") (by simp) ?_ | refine wgs_nil ?_
  | refine ru_neg ?_ | refine ⟨(by show List.length _ ≤ 100000; simp), ?_⟩
  | refine rc_abs ?_ | refine rc_int1 ?_ | refine rc_min2 ?_ | refine rc_max2 ?_
  | refine ⟨_, rfl, ?_⟩ | fail)
local macro_rules | `(tactic| walk_at "go") => `(tactic| repeat' walk_at "s")
local macro_rules | `(tactic| walk_at "args") => `(tactic| repeat' (with_reducible first | refine wa_cons ?_ | refine wa_nil ?_ | refine w_int ?_ | refine w_bl ?_ | refine w_non ?_ | refine w_str ?_ | refine w_dnew ?_ | refine w_tup ?_ | refine w_lst ?_ | refine w_un ?_ | refine ru_neg ?_ | refine w_var (by with_unfolding_all rfl) ?_ | refine ⟨(by show List.length _ ≤ 100000; simp), ?_⟩ | fail))
local macro_rules | `(tactic| walk_at "e") => `(tactic| with_reducible first
  | refine w_var (by with_unfolding_all rfl) ?_ | refine w_int ?_ | refine w_bl ?_ | refine w_non ?_ | refine w_str ?_ | refine w_dnew ?_ | refine w_ty ?_
  | refine w_op ?_ | refine w_un ?_ | refine w_fld ?_ | refine w_xf ?_ | refine wt_test ?_ | refine wt_B ?_ | refine wt_yes ?_ | refine wt_and ?_ | refine wt_or ?_ | refine wt_not ?_ | refine w_andV ?_ | refine w_orV ?_ | refine w_notV ?_ | refine w_ifE ?_ | refine w_chain ?_
  | refine wa_nil ?_ | refine wa_cons ?_ | refine w_tup ?_ | refine w_lst ?_ | refine w_slice ?_ | refine w_dget ?_ | refine w_dget2 ?_ | refine w_dget1 ?_ | refine wp_no ?_ | refine wp_int ?_
  | refine w_cd repL_nil ?_ | refine w_md repL_nil ?_ | refine w_mk repL_nil ?_ | refine w_co repL_nil ⟨_, by with_unfolding_all rfl⟩ ?_ | refine w_call ?_
  | refine rd_add ?_ | refine rd_sub ?_ | refine rd_lt ?_ | refine rd_le ?_ | refine rd_gt ?_ | refine rd_ge ?_ | refine rd_ltS ?_ | refine rd_leS ?_ | refine rd_gtS ?_ | refine rd_geS ?_ | refine rd_isN ?_ | refine rd_notN ?_ | refine rd_eqAI ?_ | refine rd_neAI ?_ | refine rd_eqAS ?_ | refine rd_neAS ?_
  | refine wg_tup rfl ?_ | refine wgs_cons ?_ | refine wg_name (by walk_at "px") (by simp) ?_ | refine wgs_nil ?_
  | refine ru_neg ?_ | refine ⟨(by show List.length _ ≤ 100000; simp), ?_⟩
  | refine rc_abs ?_ | refine rc_int1 ?_ | refine rc_min2 ?_ | refine rc_max2 ?_
  | refine ⟨_, rfl, ?_⟩ | fail)
local macro_rules | `(tactic| walk_at "ex") => `(tactic| repeat' walk_at "e")
local macro_rules | `(tactic| walk_at "a_") => `(tactic| (show WS _ _ _ _; (with_reducible try refine ws_seq ?_); with_reducible refine ws_asg (by walk_at "px") ?_; walk_at "ex"))
local macro_rules | `(tactic| walk_at "i_") => `(tactic| (show WS _ _ _ _; (with_reducible try refine ws_seq ?_); with_reducible refine ws_if ?_; walk_at "ex"))
local macro_rules | `(tactic| walk_at "d_") => `(tactic| (show WS _ _ _ _; (with_reducible try refine ws_seq ?_); with_reducible refine ws_drop ?_; walk_at "ex"))
local macro_rules | `(tactic| walk_at "r_") => `(tactic| (show WS _ _ _ _; with_reducible refine ws_ret ?_; walk_at "ex"))
local macro_rules | `(tactic| walk_at "v_") => `(tactic| refine w_var (by with_unfolding_all rfl) ?_)
open CLR

theorem abs_nat (i : Int) : (if i < 0 then -i else i) = (i.natAbs : Int) := by split <;> omega
theorem asc_head {s : Int} {r : List Int} (h : (s :: r).Pairwise (· < ·)) {m : Int} (hm : m ∈ s :: r) (hl : ∀ y, y ∈ s :: r → m ≤ y) : m = s := by
  have a := hl s List.mem_cons_self
  rcases (List.mem_cons.mp hm) with e | e
  · exact e
  · have := (List.pairwise_cons.mp h).1 m e
    omega
theorem asc_last {b : Int} {r : List Int} (h : (r ++ [b]).Pairwise (· < ·)) {m : Int} (hm : m ∈ r ++ [b]) (hl : ∀ y, y ∈ r ++ [b] → y ≤ m) : m = b := by
  have a := hl b (by simp)
  rcases List.mem_append.mp hm with e | e
  · have := (List.pairwise_append.mp h).2.2 m e b (by simp)
    omega
  · simpa using e
theorem snoc_or {α : Type} (l : List α) : l = [] ∨ ∃ r b, l = r ++ [b] := by
  rcases List.eq_nil_or_concat l with e | ⟨r, b, e⟩
  · exact .inl e
  · exact .inr ⟨r, b, by rw [e, List.concat_eq_append]⟩
def c_Fchosen : CD := ⟨fun ds k => ∃ F g t, ds = [.dic (dicI F g), .int t] ∧ F.Pairwise (· < ·) ∧ 0 < F.length ∧ F.length ≤ 1000 ∧ ∀ p, Choice g F t p → k (.ret (.sh (.int p))), by
  rintro ds k k' h ⟨F, g, t, e, a, l0, l1, q⟩
  exact ⟨F, g, t, e, a, l0, l1, fun p c => h _ (q p c)⟩⟩
theorem sc_Fchosen : FnScope ["over", "told", "buys", "sells", "price"] ["over", "told"] (defScope s_Fchosen) := ⟨rfl, rfl, rfl, by decide +kernel, rfl, by decide +kernel, by decide +kernel⟩
theorem ok_Fchosen (T : Tx K mg) (tb : ∀ p ∈ csOf K, LamX.TabB bs mg p.1 p.2) : ∃ fd, DC.FnG prg wd K mg bs (L2.CX prg wd) 3 (He.ga K "chosen") fd ["over", "told"] (toSp K 2 c_Fchosen.con) ∧ L2.Binds K fd ["over", "told"] [] ∧ PySem.W.keepIn K (.ref (He.ga K "chosen")) = true := by
  obtain ⟨fd, F0⟩ := T.d_Fchosen
  refine ⟨fd, def_DQ (N := ["over", "told", "buys", "sells", "price"]) F0 sc_Fchosen rfl ?_, F0.bindsN fun _ _ _ _ _ _ us hl => match us, hl with | [_, _], _ => rfl, F0.kp⟩
  intro cdv lkc A fr s H E ds kk gd room hc hl
  obtain ⟨cc, PP, rfl, kk1, kk2, kk3, TBL⟩ := lamB_ok T.lam_Fchosen T.out tb cdv lkc
  have hu := room.units
  have hu7 := room70 room
  have sc := sc_Fchosen
  refine ⟨_, (pss_cons (DC.ps_setLcK (i := 2) (own := [("price", 4)]) (g := (gName 4))  (by rfl) sc.nd rfl rfl (sw_true rfl rfl rfl (by decide +kernel)) (pi_keys (pv 0)) (blkOk_by (own := [("price", 4)]) (N := ["over", "told", "buys", "sells", "price"]) (sc := defScope s_Fchosen) (by decide +kernel)) (fun _ _ _ _ _ => (pg_name (i := 4) sc.nd rfl (Or.inl rfl))) (fun _ _ _ _ _ => (pts_one (pt_cmpR o_gt (pe_dget (Nat.lt_of_le_of_lt (Nat.add_le_add_left (by decide : 1 ≤ 64) _) hu) (pv 0) (pv 4) (fun _ _ => rfl)) pe_int (nomark _)))) (fun _ _ _ _ _ => (pv 4)))
  (pss_cons (DC.ps_setLcK (i := 3) (own := [("price", 4)]) (g := (gName 4))  (by rfl) sc.nd rfl rfl (sw_true rfl rfl rfl (by decide +kernel)) (pi_keys (pv 0)) (blkOk_by (own := [("price", 4)]) (N := ["over", "told", "buys", "sells", "price"]) (sc := defScope s_Fchosen) (by decide +kernel)) (fun _ _ _ _ _ => (pg_name (i := 4) sc.nd rfl (Or.inl rfl))) (fun _ _ _ _ _ => (pts_one (pt_cmpR o_lt (pe_dget (Nat.lt_of_le_of_lt (Nat.add_le_add_left (by decide : 1 ≤ 64) _) hu) (pv 0) (pv 4) (fun _ _ => rfl)) pe_int (nomark _)))) (fun _ _ _ _ _ => (pv 4)))
  (pss_cons (ps_if (PW.pt (pw_and (pt_cmpR (op_eqA hu) (pe_callB o_lenA (by rfl) T.n_len (by decide +kernel) (pa_cons (pv 2) pa_nil)) pe_int (nomark _)) (pw_and1 (pt_cmpR (op_eqA hu) (pe_callB o_lenA (by rfl) T.n_len (by decide +kernel) (pa_cons (pv 3) pa_nil)) pe_int (nomark _))))) (pss_one (ps_ret (DC.pe_minLam (k := 0) (a := "near") (by rfl) T.n_min (by decide +kernel) (pa_cons (pe_callTy (o_listA rfl) (by rfl) T.n_list (by decide +kernel) (pa_cons (pv 0) pa_nil)) pa_nil) TBL rfl (DC.lamA_by (show DC.lamAB (defScope s_Fchosen) _ "near" = true by decide +kernel)) (show ("near" : Str) ∉ (["over", "told", "buys", "sells", "price"] : List Str) by decide +kernel) rfl (fun _ _ _ _ => rfl) (room.mono (by decide)) (fun _ _ _ _ _ _ _ => (pe_callB call_abs (by rfl) T.n_abs (by decide +kernel) (pa_cons (pe_op op_sub (pv 5) (pv 1)) pa_nil)))))) pss_nil)
  (pss_cons (ps_if (pt_cmpR (op_eqA hu) (pe_callB o_lenA (by rfl) T.n_len (by decide +kernel) (pa_cons (pv 2) pa_nil)) pe_int (nomark _)) (pss_one (ps_ret (pe_callB (cr_min rfl) (by rfl) T.n_min (by decide +kernel) (pa_cons (pv 3) pa_nil)))) pss_nil)
  (pss_cons (ps_if (pt_cmpR (op_eqA hu) (pe_callB o_lenA (by rfl) T.n_len (by decide +kernel) (pa_cons (pv 3) pa_nil)) pe_int (nomark _)) (pss_one (ps_ret (pe_callB (cr_max rfl) (by rfl) T.n_max (by decide +kernel) (pa_cons (pv 2) pa_nil)))) pss_nil)
  (pss_one (ps_ret (pe_ifExp (pt_cmpR o_ge (pv 1) (pe_callB (cr_min rfl) (by rfl) T.n_min (by decide +kernel) (pa_cons (pv 3) pa_nil)) (nomark _)) (pe_callB (cr_min rfl) (by rfl) T.n_min (by decide +kernel) (pa_cons (pv 3) pa_nil)) (pe_callB (cr_max rfl) (by rfl) T.n_max (by decide +kernel) (pa_cons (pv 2) pa_nil)))))))))), ?_⟩
  try dsimp only [L2.cxOf]
  obtain ⟨F, g, t, rfl, asc, h0, h1, q⟩ := hc
  refine ws_seq ?_
  refine ws_asg (by walk_at "px") ?_
  refine w_lcKI (ps := F) (g0 := g) (F := fun p => if decide (0 < g p) = true then some (.int p) else none) (by walk_at "px") (nameOk_none rfl) (keyE_var rfl) (by omega) (fun p hp => ?_) ?_
  · refine wt_test ?_
    walk_at "ex"
    refine ⟨.inl p, .int (g p), rfl, dicI_look hp, ?_⟩
    walk_at "ex"
    refine ⟨rfl, ?_⟩
    refine if_b (fun z => ?_) (fun z => by rw [if_neg (fun y => by rw [z] at y; cases y)])
    rw [if_pos z]
    walk_at "ex"
    exact ⟨rfl, rfl⟩
  show WS _ _ _ _
  refine ws_seq ?_
  refine ws_asg (by walk_at "px") ?_
  refine w_lcKI (ps := F) (g0 := g) (F := fun p => if decide (g p < 0) = true then some (.int p) else none) (by walk_at "px") (nameOk_none rfl) (keyE_var rfl) (by omega) (fun p hp => ?_) ?_
  · refine wt_test ?_
    walk_at "ex"
    refine ⟨.inl p, .int (g p), rfl, dicI_look hp, ?_⟩
    walk_at "ex"
    refine ⟨rfl, ?_⟩
    refine if_b (fun z => ?_) (fun z => by rw [if_neg (fun y => by rw [z] at y; cases y)])
    rw [if_pos z]
    walk_at "ex"
    exact ⟨rfl, rfl⟩
  rw [fm_if, fm_if]
  have pb : (F.filter fun p => decide (0 < g p)).Pairwise (· < ·) := List.Pairwise.filter _ asc
  have ps : (F.filter fun p => decide (g p < 0)).Pairwise (· < ·) := List.Pairwise.filter _ asc
  generalize hb : (F.filter fun p => decide (0 < g p)) = bs at pb
  generalize hs : (F.filter fun p => decide (g p < 0)) = ss at ps
  show WS _ _ _ _
  refine ws_seq ?_
  refine ws_if ?_
  walk_at "ex"
  refine rc_lenAL (.lst _) ?_
  walk_at "ex"
  rw [List.length_map]
  rcases snoc_or bs with rfl | ⟨r, b, rfl⟩
  · refine if_ye rfl ?_
    walk_at "ex"
    refine rc_lenAL (.lst _) ?_
    walk_at "ex"
    rw [List.length_map]
    cases ss with
    | nil =>
      refine if_ye rfl ?_
      refine ws_ret ?_
      refine w_minLam kk1 kk2 kk3 rfl ?_
      refine wo_listAD ?_
      walk_at "ex"
      rw [dicI_keys]
      refine ⟨F.map .int, fun i => ((F.getD i 0 - t).natAbs : Int), rfl, by rw [List.length_map]; exact h0, fun w σ o i d v hd rv H Q hQ => ?_, fun d hd => ?_⟩
      · obtain ⟨p, hp, rfl⟩ : ∃ p, F[i]? = some p ∧ d = .int p := by
          rw [List.getElem?_map] at hd
          obtain ⟨p, hp, rfl⟩ := Option.map_eq_some_iff.mp hd
          exact ⟨p, hp, rfl⟩
        obtain rfl := rv.int_inv
        have ls : σ.length = 5 := o.len
        obtain ⟨v1, e1, r1⟩ := o.get (i := 1) (d := .int t) rfl
        obtain rfl := r1.int_inv
        refine ⟨.int p, by rw [List.getElem?_append_right (by omega), ls]; rfl, .int t, by rw [List.getElem?_append_left (by omega)]; exact e1, p, t, rfl, rfl, p - t, rfl, ?_⟩
        rw [abs_nat]
        have e2 : F.getD i 0 = p := by rw [List.getD_eq_getElem?_getD, hp]; rfl
        rw [← e2]
        exact hQ
      · rw [List.length_map, List.getElem?_map] at hd
        obtain ⟨p, hp, rfl⟩ := Option.map_eq_some_iff.mp hd
        exact q p (.near hb hs (near_of asc h0 (fun _ => rfl) hp))
    | cons s l =>
      refine if_no (by simp; omega) ?_
      refine ws_next ?_
      show WS _ _ _ _
      refine ws_seq ?_
      refine ws_if ?_
      walk_at "ex"
      refine rc_lenAL (.lst _) ?_
      walk_at "ex"
      refine if_ye rfl ?_
      refine ws_ret ?_
      walk_at "ex"
      refine rc_minL (ns := s :: l) (.lst _) (by simp) fun m h1 h2 => ?_
      obtain rfl := asc_head ps h1 h2
      exact q _ (.sell hb hs)
  · refine if_no (by simp; omega) ?_
    refine ws_next ?_
    show WS _ _ _ _
    refine ws_seq ?_
    refine ws_if ?_
    walk_at "ex"
    refine rc_lenAL (.lst _) ?_
    walk_at "ex"
    rw [List.length_map]
    refine if_no (by simp; omega) ?_
    refine ws_next ?_
    show WS _ _ _ _
    refine ws_seq ?_
    refine ws_if ?_
    walk_at "ex"
    refine rc_lenAL (.lst _) ?_
    walk_at "ex"
    rw [List.length_map]
    cases ss with
    | nil =>
      refine if_ye rfl ?_
      refine ws_ret ?_
      walk_at "ex"
      refine rc_maxL (ns := r ++ [b]) (.lst _) (by simp) fun m h1 h2 => ?_
      obtain rfl := asc_last pb h1 h2
      exact q _ (.buy hb hs)
    | cons s l =>
      refine if_no (by simp; omega) ?_
      refine ws_next ?_
      show WS _ _ _ _
      refine ws_ret ?_
      walk_at "ex"
      refine rc_minL (ns := s :: l) (.lst _) (by simp) fun m h1 h2 => ?_
      obtain rfl := asc_head ps h1 h2
      walk_at "ex"
      have fin := q _ (.both (t := t) hb hs)
      refine if_dec (fun w => ?_) (fun w => ?_)
      · rw [if_pos w] at fin
        walk_at "ex"
        refine rc_minL (ns := m :: l) (.lst _) (by simp) fun m' h1 h2 => ?_
        obtain rfl := asc_head ps h1 h2
        exact fin
      · rw [if_neg w] at fin
        walk_at "ex"
        refine rc_maxL (ns := r ++ [b]) (.lst _) (by simp) fun m' h1 h2 => ?_
        obtain rfl := asc_last pb h1 h2
        exact fin
theorem intsD_ups {a : Int} {n : Nat} : intsD a n = (ups a n).map .int := by
  unfold intsD ups
  rw [List.map_map]
  rfl
theorem ups_nd {a : Int} {n : Nat} : (ups a n).Nodup := ups_lt.imp fun h => by omega
def c_Fbest_of : CD := ⟨fun ds k => ∃ B, ds = [.lst (B.map bidD)] ∧ B.length ≤ 100 ∧ ∀ m, Most B m → (m = 0 → k (.ret (.sh .non))) ∧ (m ≠ 0 → ∀ a z, (at_ B m).head? = some a → (at_ B m).getLast? = some z → k (.ret (.sh (.tup [.int a, .int z])))), by
  rintro ds k k' h ⟨B, e, l, q⟩
  exact ⟨B, e, l, fun m hm => ⟨fun z => h _ ((q m hm).1 z), fun n a z h1 h2 => h _ ((q m hm).2 n a z h1 h2)⟩⟩⟩
theorem sc_Fbest_of : FnScope ["orders", "volumes", "greatest", "prices", "price"] ["orders"] (defScope s_Fbest_of) := ⟨rfl, rfl, rfl, by decide +kernel, rfl, by decide +kernel, by decide +kernel⟩
theorem ok_Fbest_of (T : Tx K mg) (tb : ∀ p ∈ csOf K, LamX.TabB bs mg p.1 p.2) : ∃ fd, DC.FnG prg wd K mg bs (L2.CX prg wd) 5 (He.ga K "best_of") fd ["orders"] (toSp K 1 c_Fbest_of.con) ∧ L2.Binds K fd ["orders"] [] ∧ PySem.W.keepIn K (.ref (He.ga K "best_of")) = true := by
  obtain ⟨fd, F0⟩ := T.d_Fbest_of
  obtain ⟨_, F_Fall_prices, b_Fall_prices, k_Fall_prices⟩ := ok_Fall_prices (prg := prg) (wd := wd) (bs := bs) T tb
  obtain ⟨_, F_Fvolume_at, b_Fvolume_at, k_Fvolume_at⟩ := ok_Fvolume_at (prg := prg) (wd := wd) (bs := bs) T tb
  refine ⟨fd, def_D (N := ["orders", "volumes", "greatest", "prices", "price"]) F0 sc_Fbest_of rfl ?_, F0.bindsN fun _ _ _ _ _ _ us hl => match us, hl with | [_], _ => rfl, F0.kp⟩
  intro cdv A fr s H E ds kk gd room hc hl
  have hu := room.units
  have hu7 := room70 room
  have sc := sc_Fbest_of
  refine ⟨_, (pss_cons (ps_set (i := 1) sc.nd rfl (Or.inr rfl) (pe_dc (own := [("price", 4)]) (g := (gName 4)) (tt := tYes) (by rfl) sc.nd (pi_list (DC.pe_callG0 F_Fall_prices gd (room.mono (by decide)) (by rfl) T.g_all_prices k_Fall_prices b_Fall_prices .nil (fun σ => passAt (takes_of rfl rfl rfl rfl) σ))) (blkOk_by (own := [("price", 4)]) (N := ["orders", "volumes", "greatest", "prices", "price"]) (sc := defScope s_Fbest_of) (by decide +kernel)) (fun _ _ _ _ _ => (pg_name (i := 4) sc.nd rfl (Or.inl rfl))) (fun _ _ _ _ _ => pts_nil) (fun _ _ _ _ _ => (pv 4)) (fun _ _ _ _ _ => (DC.pe_callG F_Fvolume_at gd (room.mono (by decide)) (by rfl) T.g_volume_at k_Fvolume_at b_Fvolume_at .nil (fun σ => passAt takes0 σ) (pa_cons (pv 0) (pa_cons (pv 4) pa_nil))))))
  (pss_cons (ps_set (i := 2) sc.nd rfl (Or.inr rfl) (pe_callB (cr_max rfl) (by rfl) T.n_max (by decide +kernel) (pa_cons (DC.pe_lockX (pe_lc (own := [("price", 4)]) (g := (gName 4)) (tt := tYes) (by rfl) sc.nd (pi_keys (pv 1)) (blkOk_by (own := [("price", 4)]) (N := ["orders", "volumes", "greatest", "prices", "price"]) (sc := defScope s_Fbest_of) (by decide +kernel)) (fun _ _ _ _ _ => (pg_name (i := 4) sc.nd rfl (Or.inl rfl))) (fun _ _ _ _ _ => pts_nil) (fun _ _ _ _ _ => (pe_dget (Nat.lt_of_le_of_lt (Nat.add_le_add_left (by decide : 1 ≤ 64) _) hu) (pv 1) (pv 4) (fun _ _ => rfl))))) pa_nil)))
  (pss_cons (ps_if (pt_cmpR (op_eqA hu) (pv 2) pe_int (nomark _)) (pss_one (ps_ret pe_non)) pss_nil)
  (pss_cons (DC.ps_setLcK (i := 3) (own := [("price", 4)]) (g := (gName 4))  (by rfl) sc.nd rfl rfl (sw_true rfl rfl rfl (by decide +kernel)) (pi_keys (pv 1)) (blkOk_by (own := [("price", 4)]) (N := ["orders", "volumes", "greatest", "prices", "price"]) (sc := defScope s_Fbest_of) (by decide +kernel)) (fun _ _ _ _ _ => (pg_name (i := 4) sc.nd rfl (Or.inl rfl))) (fun _ _ _ _ _ => (pts_one (pt_cmpR (o_eqAK rfl hu) (pe_dget (Nat.lt_of_le_of_lt (Nat.add_le_add_left (by decide : 1 ≤ 64) _) hu) (pv 1) (pv 4) (fun _ _ => rfl)) (pv 2) (nomark _)))) (fun _ _ _ _ _ => (pv 4)))
  (pss_one (ps_ret (pe_tup (pa_cons (pe_ix ix_seq (pv 3) pe_int (fun _ _ => rfl)) (pa_cons (pe_ix ix_seq (pv 3) (pe_un un_neg pe_int) (fun _ _ => rfl)) pa_nil))))))))), ?_⟩
  try dsimp only [L2.cxOf]
  obtain ⟨B, rfl, hl, q⟩ := hc
  refine ws_seq ?_
  refine ws_asg (by walk_at "px") ?_
  refine w_dcI (c := fun _ => true) (g := vol B) (by walk_at "px") (nameOk_none rfl) ?_
  refine wi_list ?_
  walk_at "ex"
  refine ⟨rfl, rfl, _, frz_lst, _, rfl, rfl, prices, intsD_ups, ups_nd, by decide, fun p hp => ?_, ?_⟩
  · refine wt_yes ⟨rfl, rfl, fun _ => ?_⟩
    walk_at "ex"
    refine ⟨rfl, rfl, ?_⟩
    walk_at "ex"
    exact ⟨rfl, B, p, rfl, hl, _, .sh _, rfl, rfl⟩
  rw [show (prices.filter fun _ => true) = prices from List.filter_eq_self.mpr fun _ _ => rfl]
  show WS _ _ _ _
  refine ws_seq ?_
  refine ws_asg (by walk_at "px") ?_
  refine w_call ?_
  refine wa_cons ?_
  refine w_lcKI (ps := prices) (g0 := vol B) (F := fun p => some (.int (vol B p))) (by walk_at "px") (nameOk_none rfl) (keyE_var rfl) (by decide) (fun p hp => ?_) ?_
  · refine wt_yes ⟨rfl, ?_⟩
    rw [if_pos rfl]
    walk_at "ex"
    refine ⟨.inl p, .int (vol B p), rfl, dicI_look hp, ?_⟩
    exact ⟨rfl, rfl⟩
  rw [fm_some, show (prices.map fun p => D.int (vol B p)) = (prices.map (vol B)).map .int by rw [List.map_map]; rfl]
  refine wa_nil ?_
  refine rc_maxL (.lst _) (by rw [List.length_map]; decide) fun m m1 m2 => ?_
  have hm : Most B m := by
    obtain ⟨p, hp, e⟩ := List.mem_map.mp m1
    exact ⟨⟨p, by rw [mem_ups] at hp; omega, e⟩, fun p p0 p1 => m2 _ (List.mem_map.mpr ⟨p, mem_ups.mpr (by omega), rfl⟩)⟩
  obtain ⟨q0, q1⟩ := q m hm
  show WS _ _ _ _
  refine ws_seq ?_
  refine ws_if ?_
  walk_at "ex"
  by_cases z : m = 0
  · refine if_ye (decide_eq_true z) ?_
    refine ws_retN ?_
    exact q0 z
  refine if_no (decide_eq_false z) ?_
  refine ws_next ?_
  show WS _ _ _ _
  refine ws_seq ?_
  refine ws_asg (by walk_at "px") ?_
  refine w_lcKI (ps := prices) (g0 := vol B) (F := fun p => if decide (vol B p = m) = true then some (.int p) else none) (by walk_at "px") (nameOk_none rfl) (keyE_var rfl) (by decide) (fun p hp => ?_) ?_
  · refine wt_test ?_
    walk_at "ex"
    refine ⟨.inl p, .int (vol B p), rfl, dicI_look hp, ?_⟩
    walk_at "ex"
    refine ⟨rfl, ?_⟩
    refine if_b (fun z => ?_) (fun z => by rw [if_neg (fun y => by rw [z] at y; cases y)])
    rw [if_pos z]
    walk_at "ex"
    exact ⟨rfl, rfl⟩
  rw [fm_if]
  show WS _ _ _ _
  refine ws_ret ?_
  walk_at "ex"
  have ne : at_ B m ≠ [] := fun e => by
    obtain ⟨p, ⟨p0, p1⟩, e2⟩ := hm.at_
    have : p ∈ at_ B m := List.mem_filter.mpr ⟨mem_ups.mpr (by omega), decide_eq_true e2⟩
    rw [e] at this
    cases this
  obtain ⟨a, r, ea⟩ : ∃ a r, at_ B m = a :: r := by
    cases e : at_ B m with
    | nil => exact absurd e ne
    | cons a r => exact ⟨a, r, rfl⟩
  obtain ⟨r', z', ez⟩ : ∃ r' z', at_ B m = r' ++ [z'] := by
    rcases snoc_or (at_ B m) with e | e
    · exact absurd e ne
    · exact e
  have q2 := q1 z a z' (by rw [ea]; rfl) (by rw [ez, List.getLast?_append]; rfl)
  refine rd_ixL (.lst _) (d := .int a) (by show atI ((at_ B m).map D.int) 0 = _; rw [ea]; exact atI_nat (j := 0) rfl) ?_
  walk_at "ex"
  refine rd_ixL (.lst _) (d := .int z') (by show atI ((at_ B m).map D.int) (-1) = _; rw [ez, List.map_append]; exact atI_last _ _) ?_
  walk_at "ex"
  exact q2
def clrD : Option (Int × Int) → D
  | none => .non
  | some (p, m) => .tup [.int p, .int m]
def c_Fclearing_of : CD := ⟨fun ds k => ∃ B t, ds = [.lst (B.map bidD), .int t] ∧ B.length ≤ 100 ∧ (∀ b ∈ B, 0 ≤ b.am) ∧ ∀ r, Clr B t r → k (.ret (.sh (clrD r))), by
  rintro ds k k' h ⟨B, t, e, l, am, q⟩
  exact ⟨B, t, e, l, am, fun r c => h _ (q r c)⟩⟩
theorem sc_Fclearing_of : FnScope ["orders", "told", "span", "over", "fewest", "fitting", "price"] ["orders", "told"] (defScope s_Fclearing_of) := ⟨rfl, rfl, rfl, by decide +kernel, rfl, by decide +kernel, by decide +kernel⟩
theorem ok_Fclearing_of (T : Tx K mg) (tb : ∀ p ∈ csOf K, LamX.TabB bs mg p.1 p.2) : ∃ fd, DC.FnG prg wd K mg bs (L2.CX prg wd) 6 (He.ga K "clearing_of") fd ["orders", "told"] (toSp K 2 c_Fclearing_of.con) ∧ L2.Binds K fd ["orders", "told"] [] ∧ PySem.W.keepIn K (.ref (He.ga K "clearing_of")) = true := by
  obtain ⟨fd, F0⟩ := T.d_Fclearing_of
  obtain ⟨_, F_Fbest_of, b_Fbest_of, k_Fbest_of⟩ := ok_Fbest_of (prg := prg) (wd := wd) (bs := bs) T tb
  obtain ⟨_, F_Fchosen, b_Fchosen, k_Fchosen⟩ := ok_Fchosen (prg := prg) (wd := wd) (bs := bs) T tb
  obtain ⟨_, F_Fleft_at, b_Fleft_at, k_Fleft_at⟩ := ok_Fleft_at (prg := prg) (wd := wd) (bs := bs) T tb
  obtain ⟨_, F_Fvolume_at, b_Fvolume_at, k_Fvolume_at⟩ := ok_Fvolume_at (prg := prg) (wd := wd) (bs := bs) T tb
  refine ⟨fd, def_D (N := ["orders", "told", "span", "over", "fewest", "fitting", "price"]) F0 sc_Fclearing_of rfl ?_, F0.bindsN fun _ _ _ _ _ _ us hl => match us, hl with | [_, _], _ => rfl, F0.kp⟩
  intro cdv A fr s H E ds kk gd room hc hl
  have hu := room.units
  have hu7 := room70 room
  have sc := sc_Fclearing_of
  refine ⟨_, (pss_cons (ps_set (i := 2) sc.nd rfl (Or.inl rfl) (DC.pe_callG F_Fbest_of gd (room.mono (by decide)) (by rfl) T.g_best_of k_Fbest_of b_Fbest_of .nil (fun σ => passAt (takes_of rfl rfl rfl rfl) σ) (pa_cons (pv 0) pa_nil)))
  (pss_cons (ps_if (pt_cmpR op_isN (pv 2) pe_non (nomark _)) (pss_one (ps_ret pe_non)) pss_nil)
  (pss_cons (ps_set (i := 3) sc.nd rfl (Or.inr rfl) (pe_dc (own := [("price", 6)]) (g := (gName 6)) (tt := tYes) (by rfl) sc.nd (pi_range2 (by rfl) T.n_range (pa_cons (pe_ix ix_seq (pv 2) pe_int (fun _ _ => rfl)) (pa_cons (pe_op o_add (pe_ix ix_seq (pv 2) pe_int (fun _ _ => rfl)) pe_int) pa_nil))) (blkOk_by (own := [("price", 6)]) (N := ["orders", "told", "span", "over", "fewest", "fitting", "price"]) (sc := defScope s_Fclearing_of) (by decide +kernel)) (fun _ _ _ _ _ => (pg_name (i := 6) sc.nd rfl (Or.inl rfl))) (fun _ _ _ _ _ => pts_nil) (fun _ _ _ _ _ => (pv 6)) (fun _ _ _ _ _ => (DC.pe_callG F_Fleft_at gd (room.mono (by decide)) (by rfl) T.g_left_at k_Fleft_at b_Fleft_at .nil (fun σ => passAt takes0 σ) (pa_cons (pv 0) (pa_cons (pv 6) pa_nil))))))
  (pss_cons (ps_set (i := 4) sc.nd rfl (Or.inr rfl) (pe_callB (cr_min rfl) (by rfl) T.n_min (by decide +kernel) (pa_cons (DC.pe_lockX (pe_lc (own := [("price", 6)]) (g := (gName 6)) (tt := tYes) (by rfl) sc.nd (pi_keys (pv 3)) (blkOk_by (own := [("price", 6)]) (N := ["orders", "told", "span", "over", "fewest", "fitting", "price"]) (sc := defScope s_Fclearing_of) (by decide +kernel)) (fun _ _ _ _ _ => (pg_name (i := 6) sc.nd rfl (Or.inl rfl))) (fun _ _ _ _ _ => pts_nil) (fun _ _ _ _ _ => (pe_callB call_abs (by rfl) T.n_abs (by decide +kernel) (pa_cons (pe_dget (Nat.lt_of_le_of_lt (Nat.add_le_add_left (by decide : 1 ≤ 64) _) hu) (pv 3) (pv 6) (fun _ _ => rfl)) pa_nil))))) pa_nil)))
  (pss_cons (DC.ps_setDcK (i := 5) (own := [("price", 6)]) (g := (gName 6))  (by rfl) sc.nd rfl rfl (DC.swD_true rfl rfl rfl (by decide +kernel)) (pi_keys (pv 3)) (blkOk_by (own := [("price", 6)]) (N := ["orders", "told", "span", "over", "fewest", "fitting", "price"]) (sc := defScope s_Fclearing_of) (by decide +kernel)) (fun _ _ _ _ _ => (pg_name (i := 6) sc.nd rfl (Or.inl rfl))) (fun _ _ _ _ _ => (pts_one (pt_cmpR (o_eqAK rfl hu) (pe_callB call_abs (by rfl) T.n_abs (by decide +kernel) (pa_cons (pe_dget (Nat.lt_of_le_of_lt (Nat.add_le_add_left (by decide : 1 ≤ 64) _) hu) (pv 3) (pv 6) (fun _ _ => rfl)) pa_nil)) (pv 4) (nomark _)))) (fun _ _ _ _ _ => (pv 6)) (fun _ _ _ _ _ => (pe_dget (Nat.lt_of_le_of_lt (Nat.add_le_add_left (by decide : 1 ≤ 64) _) hu) (pv 3) (pv 6) (fun _ _ => rfl))))
  (pss_one (ps_ret (pe_tup (pa_cons (DC.pe_callG F_Fchosen gd (room.mono (by decide)) (by rfl) T.g_chosen k_Fchosen b_Fchosen .nil (fun σ => passAt (takes_of rfl rfl rfl rfl) σ) (pa_cons (pv 5) (pa_cons (pv 1) pa_nil))) (pa_cons (DC.pe_callG F_Fvolume_at gd (room.mono (by decide)) (by rfl) T.g_volume_at k_Fvolume_at b_Fvolume_at .nil (fun σ => passAt (takes_of rfl rfl rfl rfl) σ) (pa_cons (pv 0) (pa_cons (pe_ix ix_seq (pv 2) pe_int (fun _ _ => rfl)) pa_nil))) pa_nil)))))))))), ?_⟩
  try dsimp only [L2.cxOf]
  obtain ⟨B, t, rfl, hl, am, q⟩ := hc
  refine ws_seq ?_
  refine ws_asg (by walk_at "px") ?_
  walk_at "ex"
  refine ⟨rfl, B, rfl, hl, fun m hm => ⟨fun z => ⟨_, .sh _, ?_⟩, fun nz a z ha hz => ⟨_, .sh _, ?_⟩⟩⟩
  · subst z
    show WS _ _ _ _
    refine ws_seq ?_
    refine ws_if ?_
    walk_at "ex"
    refine if_ye rfl ?_
    refine ws_retN ?_
    exact q none (.non hm)
  show WS _ _ _ _
  refine ws_seq ?_
  refine ws_if ?_
  walk_at "ex"
  refine if_no rfl ?_
  refine ws_next ?_
  have ia : a ∈ at_ B m := List.mem_of_mem_head? ha
  have iz : z ∈ at_ B m := List.mem_of_getLast? hz
  have asc : (at_ B m).Pairwise (· < ·) := List.Pairwise.filter _ ups_lt
  have bet : ∀ p ∈ at_ B m, a ≤ p ∧ p ≤ z := fun p hp => by
    constructor
    · cases e : at_ B m with
      | nil => rw [e] at hp; cases hp
      | cons x r =>
        rw [e] at ha hp asc
        obtain rfl : x = a := Option.some.inj ha
        rcases (List.mem_cons.mp hp) with e | e
        · omega
        · have := (List.pairwise_cons.mp asc).1 p e
          omega
    · rcases snoc_or (at_ B m) with e | ⟨r, x, e⟩
      · rw [e] at hp; cases hp
      · rw [e] at hz hp asc
        obtain rfl : x = z := by
          rw [List.getLast?_append] at hz
          exact Option.some.inj hz
        rcases List.mem_append.mp hp with e | e
        · have := (List.pairwise_append.mp asc).2.2 p e x (by simp)
          omega
        · have : p = x := by simpa using e
          omega
  have ra := (List.mem_filter.mp ia).1
  have rz := (List.mem_filter.mp iz).1
  rw [mem_ups] at ra rz
  have az := (bet z iz).1
  obtain ⟨n, hn⟩ : ∃ n : Nat, z + 1 = a + n := ⟨(z + 1 - a).toNat, by omega⟩
  have span : ups a n = at_ B m := span_eq am hm ia iz bet hn
  have n0 : 0 < n := by omega
  have n1 : n ≤ 99 := by omega
  show WS _ _ _ _
  refine ws_seq ?_
  refine ws_asg (by walk_at "px") ?_
  refine w_dcI (c := fun _ => true) (g := lft B) (by walk_at "px") (nameOk_none rfl) ?_
  refine wi_rng2 ?_
  walk_at "ex"
  refine rd_ixT (xs := [.int a, .int z]) (d := .int a) rfl ?_
  walk_at "ex"
  refine rd_ixT (xs := [.int a, .int z]) (d := .int z) rfl ?_
  walk_at "ex"
  refine ⟨a, z + 1, rfl, by omega, rfl, ups a n, by rw [show (z + 1 - a).toNat = n by omega]; exact intsD_ups, ups_nd, by unfold ups; rw [List.length_map, List.length_range]; omega, fun p hp => ?_, ?_⟩
  · refine wt_yes ⟨rfl, rfl, fun _ => ?_⟩
    walk_at "ex"
    refine ⟨rfl, rfl, ?_⟩
    walk_at "ex"
    exact ⟨rfl, B, p, rfl, hl, _, .sh _, rfl, rfl⟩
  rw [show ((ups a n).filter fun _ => true) = at_ B m by rw [← span]; exact List.filter_eq_self.mpr fun _ _ => rfl]
  have lv : (at_ B m).length ≤ 99 := by rw [← span]; unfold ups; rw [List.length_map, List.length_range]; exact n1
  have lv0 : 0 < (at_ B m).length := List.length_pos_of_mem ia
  have ndv : (at_ B m).Nodup := asc.imp fun h => by omega
  show WS _ _ _ _
  refine ws_seq ?_
  refine ws_asg (by walk_at "px") ?_
  refine w_call ?_
  refine wa_cons ?_
  refine w_lcKI (ps := at_ B m) (g0 := lft B) (F := fun p => some (.int ((lft B p).natAbs : Int))) (by walk_at "px") (nameOk_none rfl) (keyE_var rfl) (by omega) (fun p hp => ?_) ?_
  · refine wt_yes ⟨rfl, ?_⟩
    rw [if_pos rfl]
    walk_at "ex"
    refine ⟨.inl p, .int (lft B p), rfl, dicI_look hp, ?_⟩
    walk_at "ex"
    exact ⟨rfl, by rw [abs_nat]⟩
  rw [fm_some, show ((at_ B m).map fun p => D.int ((lft B p).natAbs : Int)) = ((at_ B m).map fun p => ((lft B p).natAbs : Int)).map .int by rw [List.map_map]; rfl]
  refine wa_nil ?_
  refine rc_minL (.lst _) (by rw [List.length_map]; exact lv0) fun f f1 f2 => ?_
  have hf : Least (lft B) (at_ B m) f := by
    obtain ⟨p, hp, e⟩ := List.mem_map.mp f1
    exact ⟨⟨p, hp, e⟩, fun p hp => f2 _ (List.mem_map.mpr ⟨p, hp, rfl⟩)⟩
  show WS _ _ _ _
  refine ws_seq ?_
  refine ws_asg (by walk_at "px") ?_
  refine w_dcKI (ps := at_ B m) (g0 := lft B) (c := fun p => decide (((lft B p).natAbs : Int) = f)) (g := lft B) (by walk_at "px") (nameOk_none rfl) (keyE_var rfl) ndv (by omega) (fun p hp => ?_) ?_
  · refine wt_test ?_
    walk_at "ex"
    refine ⟨.inl p, .int (lft B p), rfl, dicI_look hp, ?_⟩
    walk_at "ex"
    rw [abs_nat]
    refine ⟨rfl, rfl, fun _ => ?_⟩
    walk_at "ex"
    refine ⟨rfl, rfl, ?_⟩
    walk_at "ex"
    refine ⟨.inl p, .int (lft B p), rfl, dicI_look hp, ?_⟩
    exact ⟨rfl, rfl⟩
  have lf : 0 < (fit (lft B) (at_ B m) f).length := by
    obtain ⟨p, hp, e⟩ := hf.at_
    exact List.length_pos_of_mem (List.mem_filter.mpr ⟨hp, decide_eq_true e⟩)
  have lf2 : (fit (lft B) (at_ B m) f).length ≤ 99 := Nat.le_trans (List.length_filter_le ..) lv
  show WS _ _ _ _
  refine ws_ret ?_
  walk_at "ex"
  refine ⟨rfl, fit (lft B) (at_ B m) f, lft B, t, rfl, List.Pairwise.filter _ asc, lf, by omega, fun p hp => ⟨_, .sh _, ?_⟩⟩
  walk_at "ex"
  refine rd_ixT (xs := [.int a, .int z]) (d := .int a) rfl ?_
  walk_at "ex"
  refine ⟨rfl, B, a, rfl, hl, _, .sh _, ?_⟩
  walk_at "ex"
  rw [show vol B a = m from of_decide_eq_true (List.mem_filter.mp ia).2]
  exact q (some (p, m)) (.some hm nz hf hp)
def prcD : Option (Int × Int) → D
  | none => .non
  | some (p, _) => .int p
def c_Fclearing_price : CD := ⟨fun ds k => ∃ B t, ds = [.lst (B.map bidD), .int t] ∧ B.length ≤ 100 ∧ (∀ b ∈ B, 0 ≤ b.am) ∧ ∀ r, Clr B t r → k (.ret (.sh (prcD r))), by
  rintro ds k k' h ⟨B, t, e, l, am, q⟩
  exact ⟨B, t, e, l, am, fun r c => h _ (q r c)⟩⟩
theorem sc_Fclearing_price : FnScope ["orders", "told", "found"] ["orders", "told"] (defScope s_Fclearing_price) := ⟨rfl, rfl, rfl, by decide +kernel, rfl, by decide +kernel, by decide +kernel⟩
theorem ok_Fclearing_price (T : Tx K mg) (tb : ∀ p ∈ csOf K, LamX.TabB bs mg p.1 p.2) : ∃ fd, DC.FnG prg wd K mg bs (L2.CX prg wd) 7 (He.ga K "clearing_price") fd ["orders", "told"] (toSp K 2 c_Fclearing_price.con) ∧ L2.Binds K fd ["orders", "told"] [] ∧ PySem.W.keepIn K (.ref (He.ga K "clearing_price")) = true := by
  obtain ⟨fd, F0⟩ := T.d_Fclearing_price
  obtain ⟨_, F_Fclearing_of, b_Fclearing_of, k_Fclearing_of⟩ := ok_Fclearing_of (prg := prg) (wd := wd) (bs := bs) T tb
  refine ⟨fd, def_D (N := ["orders", "told", "found"]) F0 sc_Fclearing_price rfl ?_, F0.bindsN fun _ _ _ _ _ _ us hl => match us, hl with | [_, _], _ => rfl, F0.kp⟩
  intro cdv A fr s H E ds kk gd room hc hl
  have hu := room.units
  have hu7 := room70 room
  have sc := sc_Fclearing_price
  refine ⟨_, (pss_cons (ps_set (i := 2) sc.nd rfl (Or.inl rfl) (DC.pe_callG F_Fclearing_of gd (room.mono (by decide)) (by rfl) T.g_clearing_of k_Fclearing_of b_Fclearing_of .nil (fun σ => passAt (takes_of rfl rfl rfl rfl) σ) (pa_cons (pv 0) (pa_cons (pv 1) pa_nil))))
  (pss_one (ps_ret (pe_ifExp (pt_cmpR op_isN (pv 2) pe_non (nomark _)) pe_non (pe_ix ix_seq (pv 2) pe_int (fun _ _ => rfl)))))), ?_⟩
  try dsimp only [L2.cxOf]
  obtain ⟨B, t, rfl, hl, am, q⟩ := hc
  walk_at "a_"
  refine ⟨rfl, B, t, rfl, hl, am, fun r hr => ⟨_, .sh _, ?_⟩⟩
  have q1 := q r hr
  cases r with
  | none =>
    refine ws_ret ?_
    walk_at "ex"
    refine if_ye rfl ?_
    walk_at "ex"
    exact q1
  | some x =>
    obtain ⟨p, m⟩ := x
    refine ws_ret ?_
    walk_at "ex"
    refine if_no rfl ?_
    walk_at "ex"
    refine rd_ixT (xs := [.int p, .int m]) (d := .int p) rfl ?_
    exact q1
end K20

namespace K20
open PySem PySem.Spec PyProof.Rows L2 DL
variable {prg : Program} {wd : World} {K : PySem.W.Frag} {mg : Str → Option Value} {bs : Heap}
local macro_rules | `(tactic| walk_at "px") => `(tactic| first | exact List.not_mem_nil | (show _ ∉ ([0] : List Nat); decide) | (show _ ∉ ([] : List Nat); decide) | fail)
local macro_rules | `(tactic| walk_at "s") => `(tactic| with_reducible first
  | refine ws_seq ?_ | refine ws_if ?_ | refine ws_next ?_ | refine ws_ret ?_ | refine ws_retN ?_ | refine ws_asg (by walk_at "px") ?_ | refine ws_par (by walk_at "px") (by walk_at "px") ?_
  | refine w_var (by with_unfolding_all rfl) ?_ | refine w_int ?_ | refine w_bl ?_ | refine w_non ?_ | refine w_str ?_ | refine w_dnew ?_ | refine w_ty ?_
  | refine w_op ?_ | refine w_un ?_ | refine w_fld ?_ | refine w_xf ?_ | refine wt_test ?_ | refine wt_B ?_ | refine wt_yes ?_ | refine wt_and ?_ | refine wt_or ?_ | refine wt_not ?_ | refine w_andV ?_ | refine w_orV ?_ | refine w_notV ?_ | refine w_ifE ?_ | refine w_chain ?_
  | refine wa_nil ?_ | refine wa_cons ?_ | refine w_tup ?_ | refine w_lst ?_ | refine w_slice ?_ | refine w_dget ?_ | refine w_dget2 ?_ | refine w_dget1 ?_ | refine wp_no ?_ | refine wp_int ?_
  | refine w_cd repL_nil ?_ | refine w_md repL_nil ?_ | refine w_mk repL_nil ?_ | refine w_co repL_nil ⟨_, by with_unfolding_all rfl⟩ ?_ | refine w_call ?_
  | refine rd_add ?_ | refine rd_sub ?_ | refine rd_lt ?_ | refine rd_le ?_ | refine rd_gt ?_ | refine rd_ge ?_ | refine rd_ltS ?_ | refine rd_leS ?_ | refine rd_gtS ?_ | refine rd_geS ?_ | refine rd_isN ?_ | refine rd_notN ?_ | refine rd_eqAI ?_ | refine rd_neAI ?_ | refine rd_eqAS ?_ | refine rd_neAS ?_
  | refine wg_tup rfl ?_ | refine wgs_cons ?_ | refine wg_name (by walk_at "px") (by simp) ?_ | refine wgs_nil ?_
  | refine ru_neg ?_ | refine ⟨(by show List.length _ ≤ 100000; simp; try omega), ?_⟩
  | refine rc_abs ?_ | refine rc_int1 ?_ | refine rc_min2 ?_ | refine rc_max2 ?_
  | refine ⟨_, rfl, ?_⟩ | fail)
local macro_rules | `(tactic| walk_at "go") => `(tactic| repeat' walk_at "s")
local macro_rules | `(tactic| walk_at "args") => `(tactic| repeat' (with_reducible first | refine wa_cons ?_ | refine wa_nil ?_ | refine w_int ?_ | refine w_bl ?_ | refine w_non ?_ | refine w_str ?_ | refine w_dnew ?_ | refine w_tup ?_ | refine w_lst ?_ | refine w_un ?_ | refine ru_neg ?_ | refine w_var (by with_unfolding_all rfl) ?_ | refine ⟨(by show List.length _ ≤ 100000; simp; try omega), ?_⟩ | fail))
local macro_rules | `(tactic| walk_at "e") => `(tactic| with_reducible first
  | refine w_var (by with_unfolding_all rfl) ?_ | refine w_int ?_ | refine w_bl ?_ | refine w_non ?_ | refine w_str ?_ | refine w_dnew ?_ | refine w_ty ?_
  | refine w_op ?_ | refine w_un ?_ | refine w_fld ?_ | refine w_xf ?_ | refine wt_test ?_ | refine wt_B ?_ | refine wt_yes ?_ | refine wt_and ?_ | refine wt_or ?_ | refine wt_not ?_ | refine w_andV ?_ | refine w_orV ?_ | refine w_notV ?_ | refine w_ifE ?_ | refine w_chain ?_
  | refine wa_nil ?_ | refine wa_cons ?_ | refine w_tup ?_ | refine w_lst ?_ | refine w_slice ?_ | refine w_dget ?_ | refine w_dget2 ?_ | refine w_dget1 ?_ | refine wp_no ?_ | refine wp_int ?_
  | refine w_cd repL_nil ?_ | refine w_md repL_nil ?_ | refine w_mk repL_nil ?_ | refine w_co repL_nil ⟨_, by with_unfolding_all rfl⟩ ?_ | refine w_call ?_
  | refine rd_add ?_ | refine rd_sub ?_ | refine rd_lt ?_ | refine rd_le ?_ | refine rd_gt ?_ | refine rd_ge ?_ | refine rd_ltS ?_ | refine rd_leS ?_ | refine rd_gtS ?_ | refine rd_geS ?_ | refine rd_isN ?_ | refine rd_notN ?_ | refine rd_eqAI ?_ | refine rd_neAI ?_ | refine rd_eqAS ?_ | refine rd_neAS ?_
  | refine wg_tup rfl ?_ | refine wgs_cons ?_ | refine wg_name (by walk_at "px") (by simp) ?_ | refine wgs_nil ?_
  | refine ru_neg ?_ | refine ⟨(by show List.length _ ≤ 100000; simp; try omega), ?_⟩
  | refine rc_abs ?_ | refine rc_int1 ?_ | refine rc_min2 ?_ | refine rc_max2 ?_
  | refine ⟨_, rfl, ?_⟩ | fail)
local macro_rules | `(tactic| walk_at "ex") => `(tactic| repeat' walk_at "e")
local macro_rules | `(tactic| walk_at "a_") => `(tactic| (show WS _ _ _ _; (with_reducible try refine ws_seq ?_); with_reducible refine ws_asg (by walk_at "px") ?_; walk_at "ex"))
local macro_rules | `(tactic| walk_at "i_") => `(tactic| (show WS _ _ _ _; (with_reducible try refine ws_seq ?_); with_reducible refine ws_if ?_; walk_at "ex"))
local macro_rules | `(tactic| walk_at "d_") => `(tactic| (show WS _ _ _ _; (with_reducible try refine ws_seq ?_); with_reducible refine ws_drop ?_; walk_at "ex"))
local macro_rules | `(tactic| walk_at "r_") => `(tactic| (show WS _ _ _ _; with_reducible refine ws_ret ?_; walk_at "ex"))
local macro_rules | `(tactic| walk_at "v_") => `(tactic| refine w_var (by with_unfolding_all rfl) ?_)
open CLR

theorem price_ok {p : Int} (p0 : 1 ≤ p) (p1 : p ≤ 99) : priceD (.int p) = true := by
  show (decide (1 ≤ p) && decide (p ≤ 99)) = true
  rw [decide_eq_true p0, decide_eq_true p1]
  rfl
/-- a right order -/
structure BidOk (b : Bid) : Prop where
  n : nameB (.str b.nm) = true
  m : goodB (.str b.mb) = true
  ln : b.nm.length ≤ 8
  lm : b.mb.length ≤ 8
  p : ∀ i, b.pr = some i → 1 ≤ i ∧ i ≤ 99
  a0 : 1 ≤ b.am
  a1 : b.am ≤ 12
def c_Fis_bid : CD := ⟨fun ds k => ∃ b, ds = [bidD b] ∧ BidOk b ∧ k (.ret (.sh (.bl true))), by
  rintro ds k k' h ⟨b, e, o, q⟩
  exact ⟨b, e, o, h _ q⟩⟩
theorem sc_Fis_bid : FnScope ["value", "name", "member", "side", "price", "amount"] ["value"] (defScope s_Fis_bid) := ⟨rfl, rfl, rfl, by decide +kernel, rfl, by decide +kernel, by decide +kernel⟩
theorem ok_Fis_bid (T : Tx K mg) (tb : ∀ p ∈ csOf K, LamX.TabB bs mg p.1 p.2) : ∃ fd, DC.FnG prg wd K mg bs (L2.CX prg wd) 3 (He.ga K "is_bid") fd ["value"] (toSp K 1 c_Fis_bid.con) ∧ L2.Binds K fd ["value"] [] ∧ PySem.W.keepIn K (.ref (He.ga K "is_bid")) = true := by
  obtain ⟨fd, F0⟩ := T.d_Fis_bid
  obtain ⟨_, F_Fis_member, b_Fis_member, k_Fis_member⟩ := ok_Fis_member (prg := prg) (wd := wd) (bs := bs) T tb
  obtain ⟨_, F_Fis_name, b_Fis_name, k_Fis_name⟩ := ok_Fis_name (prg := prg) (wd := wd) (bs := bs) T tb
  obtain ⟨_, F_Fis_price, b_Fis_price, k_Fis_price⟩ := ok_Fis_price (prg := prg) (wd := wd) (bs := bs) T tb
  obtain ⟨_, F_Fis_side, b_Fis_side, k_Fis_side⟩ := ok_Fis_side (prg := prg) (wd := wd) (bs := bs) T tb
  obtain ⟨_, F_Fis_whole, b_Fis_whole, k_Fis_whole⟩ := ok_Fis_whole (prg := prg) (wd := wd) (bs := bs) T tb
  obtain ⟨_, c_MOST_UNITS⟩ := T.i_MOST_UNITS
  refine ⟨fd, def_D (N := ["value", "name", "member", "side", "price", "amount"]) F0 sc_Fis_bid rfl ?_, F0.bindsN fun _ _ _ _ _ _ us hl => match us, hl with | [_], _ => rfl, F0.kp⟩
  intro cdv A fr s H E ds kk gd room hc hl
  have hu := room.units
  have hu7 := room70 room
  have sc := sc_Fis_bid
  refine ⟨_, (pss_cons (ps_if (PW.pt (pw_or (pt_not (pt_val (pe_callB call_isi (by rfl) T.n_isinstance (by decide +kernel) (pa_cons (pv 0) (pa_cons (pe_bltn (by rfl) T.n_tuple (by decide +kernel) (show RelV (.ty "tuple") (.type "tuple") from rfl)) pa_nil))))) (pw_or1 (pt_cmpR (op_neA hu) (pe_callB o_lenA (by rfl) T.n_len (by decide +kernel) (pa_cons (pv 0) pa_nil)) pe_int (nomark _))))) (pss_one (ps_ret pe_bl)) pss_nil)
  (pss_cons (ps_asg (pv 0) (pg_tup (by rfl) (pgs_cons (pg_name (i := 1) sc.nd rfl (Or.inl rfl)) (pgs_cons (pg_name (i := 2) sc.nd rfl (Or.inl rfl)) (pgs_cons (pg_name (i := 3) sc.nd rfl (Or.inl rfl)) (pgs_cons (pg_name (i := 4) sc.nd rfl (Or.inl rfl)) (pgs_cons (pg_name (i := 5) sc.nd rfl (Or.inl rfl)) pgs_nil)))))))
  (pss_one (ps_ret (pe_and (DC.pe_callG F_Fis_name gd (room.mono (by decide)) (by rfl) T.g_is_name k_Fis_name b_Fis_name .nil (fun σ => passAt (takes_of rfl rfl rfl rfl) σ) (pa_cons (pv 1) pa_nil)) (pe_and (DC.pe_callG F_Fis_member gd (room.mono (by decide)) (by rfl) T.g_is_member k_Fis_member b_Fis_member .nil (fun σ => passAt (takes_of rfl rfl rfl rfl) σ) (pa_cons (pv 2) pa_nil)) (pe_and (DC.pe_callG F_Fis_side gd (room.mono (by decide)) (by rfl) T.g_is_side k_Fis_side b_Fis_side .nil (fun σ => passAt (takes_of rfl rfl rfl rfl) σ) (pa_cons (pv 3) pa_nil)) (pe_and (pe_or (pe_cmpR op_isN (pv 4) pe_non (nomark _)) (pe_one (DC.pe_callG F_Fis_price gd (room.mono (by decide)) (by rfl) T.g_is_price k_Fis_price b_Fis_price .nil (fun σ => passAt (takes_of rfl rfl rfl rfl) σ) (pa_cons (pv 4) pa_nil)))) (pe_and (DC.pe_callG F_Fis_whole gd (room.mono (by decide)) (by rfl) T.g_is_whole k_Fis_whole b_Fis_whole .nil (fun σ => passAt (takes_of rfl rfl rfl rfl) σ) (pa_cons (pv 5) pa_nil)) (pe_one (pe_chain o_le o_le pe_int (pv 5) (pe_glob (by rfl) c_MOST_UNITS (show RelV (.int 12) (.int 12 _) from ⟨_, rfl⟩))))))))))))), ?_⟩
  try dsimp only [L2.cxOf]
  obtain ⟨⟨nm, mb, s, pr, am⟩, rfl, ok, q⟩ := hc
  have ln : nm.length ≤ 8 := ok.ln
  have lm : mb.length ≤ 8 := ok.lm
  walk_at "i_"
  refine rc_isTuple ⟨_, .tup _⟩ ?_
  walk_at "ex"
  refine if_no rfl ?_
  walk_at "ex"
  refine rc_lenAT (xs := bidL ⟨nm, mb, s, pr, am⟩) ?_
  walk_at "ex"
  refine if_no rfl ?_
  refine ws_next ?_
  show WS _ _ _ _
  refine ws_seq ?_
  refine ws_asgG (sl := [1, 2, 3, 4, 5]) ?_
  walk_at "ex"
  refine wg_tup (ds := bidL ⟨nm, mb, s, pr, am⟩) rfl ?_
  show WGs _ _ [D.str nm, .str mb, .str (sideS s), prD pr, .int am] _ _ _
  walk_at "ex"
  show WS _ _ _ _
  refine ws_ret ?_
  walk_at "ex"
  refine ⟨rfl, _, _, rfl, .str _, (by show nm.length ≤ _; omega), _, .sh _, _, rfl, ?_⟩
  rw [show nameB (.str nm) = true from ok.n]
  refine if_ye rfl ?_
  walk_at "ex"
  refine ⟨rfl, _, _, rfl, .str _, (by show mb.length ≤ _; omega), _, .sh _, _, rfl, ?_⟩
  rw [show goodB (.str mb) = true from ok.m]
  refine if_ye rfl ?_
  walk_at "ex"
  refine ⟨rfl, _, rfl, _, .sh _, _, rfl, ?_⟩
  refine if_ye rfl ?_
  walk_at "ex"
  cases pr with
  | none =>
    refine if_ye rfl ?_
    refine ⟨_, rfl, ?_⟩
    refine if_ye rfl ?_
    walk_at "ex"
    refine ⟨rfl, .int am, _, rfl, .int am, _, .sh _, _, rfl, ?_⟩
    refine if_ye rfl ?_
    walk_at "ex"
    refine if_dec (fun _ => ?_) (fun z => absurd ok.a0 z)
    walk_at "ex"
    rw [show decide (am ≤ 12) = true from decide_eq_true ok.a1]
    exact q
  | some p =>
    obtain ⟨p0, p1⟩ := ok.p p rfl
    refine if_no rfl ?_
    walk_at "ex"
    refine ⟨rfl, .int p, _, rfl, .int p, _, .sh _, _, rfl, ?_⟩
    rw [price_ok p0 p1]
    refine if_ye rfl ?_
    walk_at "ex"
    refine ⟨rfl, .int am, _, rfl, .int am, _, .sh _, _, rfl, ?_⟩
    refine if_ye rfl ?_
    walk_at "ex"
    refine if_dec (fun _ => ?_) (fun z => absurd ok.a0 z)
    walk_at "ex"
    rw [show decide (am ≤ 12) = true from decide_eq_true ok.a1]
    exact q
def c_Fis_on_other_side : CD := ⟨fun ds k => ∃ (B : List Bid) (m : Str) (s : Bool), ds = [.lst (B.map bidD), .str m, .str (sideS s)] ∧ B.length ≤ 100 ∧ k (.ret (.sh (.bl (B.any fun b => decide (b.mb = m) && !decide (b.buy = s))))), by
  rintro ds k k' h ⟨B, m, s, e, l, q⟩
  exact ⟨B, m, s, e, l, h _ q⟩⟩
theorem any_bl {α : Type} (l : List α) (c : α → Bool) : (l.filterMap fun a => some (D.bl (c a))) = (l.map c).map .bl := by
  rw [fm_some, List.map_map]
  rfl
theorem sc_Fis_on_other_side : FnScope ["orders", "member", "side", "bid"] ["orders", "member", "side"] (defScope s_Fis_on_other_side) := ⟨rfl, rfl, rfl, by decide +kernel, rfl, by decide +kernel, by decide +kernel⟩
theorem ok_Fis_on_other_side (T : Tx K mg) (tb : ∀ p ∈ csOf K, LamX.TabB bs mg p.1 p.2) : ∃ fd, DC.FnG prg wd K mg bs (L2.CX prg wd) 1 (He.ga K "is_on_other_side") fd ["orders", "member", "side"] (toSp K 3 c_Fis_on_other_side.con) ∧ L2.Binds K fd ["orders", "member", "side"] [] ∧ PySem.W.keepIn K (.ref (He.ga K "is_on_other_side")) = true := by
  obtain ⟨fd, F0⟩ := T.d_Fis_on_other_side
  refine ⟨fd, def_D (N := ["orders", "member", "side", "bid"]) F0 sc_Fis_on_other_side rfl ?_, F0.bindsN fun _ _ _ _ _ _ us hl => match us, hl with | [_, _, _], _ => rfl, F0.kp⟩
  intro cdv A fr s H E ds kk gd room hc hl
  have hu := room.units
  have hu7 := room70 room
  have sc := sc_Fis_on_other_side
  refine ⟨_, (pss_one (ps_ret (pe_callB (cr_any rfl) (by rfl) T.n_any (by decide +kernel) (pa_cons (pe_lc (own := [("bid", 3)]) (g := (gName 3)) (tt := tYes) (by rfl) sc.nd (pi_list (pv 0)) (blkOk_by (own := [("bid", 3)]) (N := ["orders", "member", "side", "bid"]) (sc := defScope s_Fis_on_other_side) (by decide +kernel)) (fun _ _ _ _ _ => (pg_name (i := 3) sc.nd rfl (Or.inl rfl))) (fun _ _ _ _ _ => pts_nil) (fun _ _ _ _ _ => (pe_and (pe_cmpR (o_eqAK rfl hu) (pe_ix (o_ixK rfl) (pv 3) pe_int (fun _ _ => rfl)) (pv 1) (nomark _)) (pe_one (pe_cmpR (o_neAK rfl hu) (pe_ix (o_ixK rfl) (pv 3) pe_int (fun _ _ => rfl)) (pv 2) (nomark _)))))) pa_nil)))), ?_⟩
  try dsimp only [L2.cxOf]
  obtain ⟨B, m, s, rfl, hl, q⟩ := hc
  refine ws_ret ?_
  refine w_call ?_
  refine wa_cons ?_
  refine w_lcA (xs := B) (r := bidD) (f := fun b => some (.bl (decide (b.mb = m) && !decide (b.buy = s)))) (by walk_at "px") (nameOk_none rfl) ?_
  refine wi_list ?_
  walk_at "ex"
  refine ⟨rfl, rfl, by omega, fun b hb => ?_, ?_⟩
  · refine wt_yes ⟨rfl, ?_⟩
    rw [if_pos rfl]
    walk_at "ex"
    refine rd_ixT (xs := bidL b) (d := .str b.mb) rfl ?_
    walk_at "ex"
    by_cases e : b.mb = m
    · rw [decide_eq_true e]
      refine if_ye rfl ?_
      walk_at "ex"
      refine rd_ixT (xs := bidL b) (d := .str (sideS b.buy)) rfl ?_
      walk_at "ex"
      rw [side_deq]
      exact ⟨rfl, rfl⟩
    · rw [decide_eq_false e]
      refine if_no rfl ?_
      exact ⟨rfl, rfl⟩
  rw [any_bl]
  refine wa_nil ?_
  refine rc_any (.lst _) ?_
  rw [List.any_map]
  exact q
theorem enum_map {α : Type} {r : α → D} {xs : List α} {i : Nat} {d : D} (h : (enumD (xs.map r))[i]? = some d) : ∃ a, xs[i]? = some a ∧ d = .tup [.int i, r a] := by
  unfold enumD at h
  rw [List.getElem?_mapIdx] at h
  obtain ⟨x, hx, rfl⟩ := Option.map_eq_some_iff.mp h
  rw [List.getElem?_map] at hx
  obtain ⟨a, ha, rfl⟩ := Option.map_eq_some_iff.mp hx
  exact ⟨a, ha, rfl⟩
theorem names_no {B : List Bid} {i : Nat} {b : Bid} (nd : (B.map (·.nm)).Nodup) (hb : B[i]? = some b) : (((B.take i).map fun b => D.str b.nm).any fun z => dEq z (.str b.nm)) = false := by
  rw [List.any_map, List.any_eq_false]
  intro x hx e
  have e : x.nm = b.nm := by simpa [dEq] using e
  obtain ⟨j, hj⟩ := (List.getElem?_of_mem hx)
  rw [List.getElem?_take] at hj
  split at hj
  · rename_i lt
    have e1 : (B.map (·.nm))[j]? = some x.nm := by rw [List.getElem?_map, hj]; rfl
    have e2 : (B.map (·.nm))[i]? = some b.nm := by rw [List.getElem?_map, hb]; rfl
    have := (List.getElem?_inj (List.getElem?_eq_some_iff.mp e1).1 nd).mp (e1.trans (by rw [e2, e]))
    omega
  · cases hj
/-- a right list of orders -/
structure BidsOk (B : List Bid) : Prop where
  ok : ∀ b ∈ B, BidOk b
  le : B.length ≤ 12
  nd : (B.map (·.nm)).Nodup
  one : ∀ a ∈ B, ∀ b ∈ B, a.mb = b.mb → a.buy = b.buy
theorem BidsOk.am {B : List Bid} (h : BidsOk B) : ∀ b ∈ B, 0 ≤ b.am := fun b hb => by
  have := (h.ok b hb).a0
  omega
def c_Fcheck_bids : CD := ⟨fun ds k => ∃ B, ds = [.lst (B.map bidD)] ∧ BidsOk B ∧ k (.ret (.sh .non)), by
  rintro ds k k' h ⟨B, e, o, q⟩
  exact ⟨B, e, o, h _ q⟩⟩
theorem sc_Fcheck_bids : FnScope ["orders", "bid", "names", "at", "name"] ["orders"] (defScope s_Fcheck_bids) := ⟨rfl, rfl, rfl, by decide +kernel, rfl, by decide +kernel, by decide +kernel⟩
theorem ok_Fcheck_bids (T : Tx K mg) (tb : ∀ p ∈ csOf K, LamX.TabB bs mg p.1 p.2) : ∃ fd, DC.FnG prg wd K mg bs (L2.CX prg wd) 4 (He.ga K "check_bids") fd ["orders"] (toSp K 1 c_Fcheck_bids.con) ∧ L2.Binds K fd ["orders"] [] ∧ PySem.W.keepIn K (.ref (He.ga K "check_bids")) = true := by
  obtain ⟨fd, F0⟩ := T.d_Fcheck_bids
  obtain ⟨_, F_Fis_bid, b_Fis_bid, k_Fis_bid⟩ := ok_Fis_bid (prg := prg) (wd := wd) (bs := bs) T tb
  obtain ⟨_, F_Fis_on_other_side, b_Fis_on_other_side, k_Fis_on_other_side⟩ := ok_Fis_on_other_side (prg := prg) (wd := wd) (bs := bs) T tb
  obtain ⟨_, F_BadBid_init, b_BadBid_init⟩ := ok_BadBid_init (prg := prg) (wd := wd) (bs := bs) T tb
  obtain ⟨_, F_BidTaken_init, b_BidTaken_init⟩ := ok_BidTaken_init (prg := prg) (wd := wd) (bs := bs) T tb
  obtain ⟨_, F_BothSides_init, b_BothSides_init⟩ := ok_BothSides_init (prg := prg) (wd := wd) (bs := bs) T tb
  obtain ⟨_, F_TooManyBids_init, b_TooManyBids_init⟩ := ok_TooManyBids_init (prg := prg) (wd := wd) (bs := bs) T tb
  obtain ⟨_, c_MOST_BIDS⟩ := T.i_MOST_BIDS
  refine ⟨fd, def_D (N := ["orders", "bid", "names", "at", "name"]) F0 sc_Fcheck_bids rfl ?_, F0.bindsN fun _ _ _ _ _ _ us hl => match us, hl with | [_], _ => rfl, F0.kp⟩
  intro cdv A fr s H E ds kk gd room hc hl
  have hu := room.units
  have hu7 := room70 room
  have sc := sc_Fcheck_bids
  refine ⟨_, (pss_cons (ps_for (passes_of rfl) rfl (pi_list (pv 0)) (pg_name (i := 1) sc.nd rfl (Or.inl rfl)) (pss_one (ps_if (pt_not (pt_val (DC.pe_callG F_Fis_bid gd (room.mono (by decide)) (by rfl) T.g_is_bid k_Fis_bid b_Fis_bid .nil (fun σ => passAt (takes_of rfl rfl rfl rfl) σ) (pa_cons (pv 1) pa_nil)))) (pss_one (ps_raise rfl (takes_of rfl rfl rfl rfl) (pmk_oex T.o_BadBid T.i_BadBid T.t_BadBid F_BadBid_init (room.mono (by decide)) b_BadBid_init .nil passL (by rfl) T.g_BadBid (pa_cons (pv 1) pa_nil)))) pss_nil)))
  (pss_cons (ps_if (pt_cmpR o_gt (pe_callB o_lenA (by rfl) T.n_len (by decide +kernel) (pa_cons (pv 0) pa_nil)) (pe_glob (by rfl) c_MOST_BIDS (show RelV (.int 12) (.int 12 _) from ⟨_, rfl⟩)) (nomark _)) (pss_one (ps_raise rfl (takes_of rfl rfl rfl rfl) (pmk_oex T.o_TooManyBids T.i_TooManyBids T.t_TooManyBids F_TooManyBids_init (room.mono (by decide)) b_TooManyBids_init .nil passL (by rfl) T.g_TooManyBids (pa_cons (pe_callB o_lenA (by rfl) T.n_len (by decide +kernel) (pa_cons (pv 0) pa_nil)) pa_nil)))) pss_nil)
  (pss_cons (ps_setLc (i := 2) (own := [("bid", 1)]) (g := (gName 1)) (tt := tYes) (by rfl) sc.nd rfl rfl (sw_true rfl rfl rfl (by decide +kernel)) (pi_list (pv 0)) (blkOk_by (own := [("bid", 1)]) (N := ["orders", "bid", "names", "at", "name"]) (sc := defScope s_Fcheck_bids) (by decide +kernel)) (fun _ _ _ _ _ => (pg_name (i := 1) sc.nd rfl (Or.inl rfl))) (fun _ _ _ _ _ => pts_nil) (fun _ _ _ _ _ => (pe_ix (o_ixK rfl) (pv 1) pe_int (fun _ _ => rfl))))
  (pss_cons (ps_for (passes_of rfl) rfl (pi_enum (by rfl) T.n_enumerate (pa_cons (pv 2) pa_nil)) (pg_tup (by rfl) (pgs_cons (pg_name (i := 3) sc.nd rfl (Or.inl rfl)) (pgs_cons (pg_name (i := 4) sc.nd rfl (Or.inl rfl)) pgs_nil))) (pss_one (ps_if (pt_cmpR o_in (pv 4) (pe_slice o_sl (pv 2) po_none (po_some (pv 3))) (by rfl)) (pss_one (ps_raise rfl (takes_of rfl rfl rfl rfl) (pmk_oex T.o_BidTaken T.i_BidTaken T.t_BidTaken F_BidTaken_init (room.mono (by decide)) b_BidTaken_init .nil passL (by rfl) T.g_BidTaken (pa_cons (pv 4) pa_nil)))) pss_nil)))
  (pss_one (ps_for (passes_of rfl) rfl (pi_enum (by rfl) T.n_enumerate (pa_cons (pv 0) pa_nil)) (pg_tup (by rfl) (pgs_cons (pg_name (i := 3) sc.nd rfl (Or.inl rfl)) (pgs_cons (pg_name (i := 1) sc.nd rfl (Or.inl rfl)) pgs_nil))) (pss_one (ps_if (pt_val (DC.pe_callG F_Fis_on_other_side gd (room.mono (by decide)) (by rfl) T.g_is_on_other_side k_Fis_on_other_side b_Fis_on_other_side .nil (fun σ => passAt (takes_of rfl rfl rfl rfl) σ) (pa_cons (pe_slice o_sl (pv 0) po_none (po_some (pv 3))) (pa_cons (pe_ix ix_seq (pv 1) pe_int (fun _ _ => rfl)) (pa_cons (pe_ix ix_seq (pv 1) pe_int (fun _ _ => rfl)) pa_nil))))) (pss_one (ps_raise rfl (takes_of rfl rfl rfl rfl) (pmk_oex T.o_BothSides T.i_BothSides T.t_BothSides F_BothSides_init (room.mono (by decide)) b_BothSides_init .nil passL (by rfl) T.g_BothSides (pa_cons (pe_ix ix_seq (pv 1) pe_int (fun _ _ => rfl)) pa_nil)))) pss_nil)))))))), ?_⟩
  try dsimp only [L2.cxOf]
  obtain ⟨B, rfl, ok, q⟩ := hc
  have le := ok.le
  refine ws_seq ?_
  refine ws_for (sl := [1]) ?_
  refine wi_list ?_
  walk_at "ex"
  refine ⟨fun i ρ => ∃ y1 : Option M, (y1 = none ∨ ∃ d, y1 = some (.sh d)) ∧ ρ = [some (.sh (.lst (B.map bidD))), y1, none, none, none], ⟨none, .inl rfl, rfl⟩, ?_, ?_⟩
  · rintro i d ρ2 hd ⟨y1, h1, rfl⟩
    rw [List.getElem?_map] at hd
    obtain ⟨b, hb, rfl⟩ := Option.map_eq_some_iff.mp hd
    refine wg_name (by walk_at "px") (by simp) ?_
    refine ws_if ?_
    walk_at "ex"
    refine ⟨rfl, b, rfl, ok.ok b (List.mem_of_getElem? hb), _, .sh _, _, rfl, ?_⟩
    refine if_no rfl ?_
    refine ws_next ?_
    exact ⟨_, .inr ⟨_, rfl⟩, rfl⟩
  rintro ρ2 ⟨y1, h1, rfl⟩
  show WS _ _ _ _
  refine ws_seq ?_
  refine ws_if ?_
  walk_at "ex"
  refine rc_lenAL (.lst _) ?_
  walk_at "ex"
  rw [List.length_map]
  refine if_no (decide_eq_false (by omega)) ?_
  refine ws_next ?_
  show WS _ _ _ _
  refine ws_seq ?_
  refine ws_asg (by walk_at "px") ?_
  have n1 : NameOk 1 [some (M.sh (.lst (B.map bidD))), y1, none, none, none] := by
    refine ⟨y1, rfl, ?_⟩
    rcases h1 with rfl | ⟨d, rfl⟩ <;> rfl
  refine w_lcA (xs := B) (r := bidD) (f := fun b => some (.str b.nm)) (by walk_at "px") n1 ?_
  refine wi_list ?_
  walk_at "ex"
  refine ⟨rfl, rfl, by omega, fun b hb => ?_, ?_⟩
  · refine wt_yes ⟨rfl, ?_⟩
    rw [if_pos rfl]
    walk_at "ex"
    refine rd_ixT (xs := bidL b) (d := .str b.nm) rfl ?_
    exact ⟨rfl, rfl⟩
  rw [fm_some]
  show WS _ _ _ _
  refine ws_seq ?_
  refine ws_for (sl := [3, 4]) ?_
  refine wi_enum ?_
  walk_at "ex"
  refine ⟨_, _, rfl, .lst _, fun i ρ => ∃ y3 y4 : Option M, (y3 = none ∨ ∃ d, y3 = some (.sh d)) ∧ ρ = [some (.sh (.lst (B.map bidD))), y1, some (.sh (.lst (B.map fun b => .str b.nm))), y3, y4], ⟨none, none, .inl rfl, rfl⟩, ?_, ?_⟩
  · rintro i d ρ2 hd ⟨y3, y4, h3, rfl⟩
    obtain ⟨b, hb, rfl⟩ := enum_map hd
    refine wg_tup rfl ?_
    walk_at "ex"
    refine ws_if ?_
    walk_at "ex"
    refine rs_list (.lst _) ?_
    have li : i < B.length := (List.getElem?_eq_some_iff.mp hb).1
    rw [cutD_to (by omega) (by rw [List.length_map]; omega), Int.toNat_natCast, ← List.map_take]
    refine rd_in (.inl (.lst _)) rfl (by rw [List.all_map]; exact List.all_eq_true.mpr fun _ _ => rfl) ?_
    rw [names_no ok.nd hb]
    walk_at "ex"
    refine if_no rfl ?_
    refine ws_next ?_
    exact ⟨_, _, .inr ⟨_, rfl⟩, rfl⟩
  rintro ρ2 ⟨y3, y4, h3, rfl⟩
  show WS _ _ _ _
  refine ws_for (sl := [1, 3]) ?_
  refine wi_enum ?_
  walk_at "ex"
  refine ⟨_, _, rfl, .lst _, fun i ρ => ∃ y1 y3 : Option M, ρ = [some (.sh (.lst (B.map bidD))), y1, some (.sh (.lst (B.map fun b => .str b.nm))), y3, y4], ⟨_, _, rfl⟩, ?_, ?_⟩
  · rintro i d ρ2 hd ⟨y1, y3, rfl⟩
    obtain ⟨b, hb, rfl⟩ := enum_map hd
    refine wg_tup rfl ?_
    walk_at "ex"
    refine ws_if ?_
    walk_at "ex"
    refine rs_list (.lst _) ?_
    have li : i < B.length := (List.getElem?_eq_some_iff.mp hb).1
    rw [cutD_to (by omega) (by rw [List.length_map]; omega), Int.toNat_natCast, ← List.map_take]
    walk_at "ex"
    refine rd_ixT (xs := bidL b) (d := .str b.mb) rfl ?_
    walk_at "ex"
    refine rd_ixT (xs := bidL b) (d := .str (sideS b.buy)) rfl ?_
    walk_at "ex"
    refine ⟨rfl, B.take i, b.mb, b.buy, rfl, by rw [List.length_take]; omega, _, .sh _, _, rfl, ?_⟩
    have no : ((B.take i).any fun x => decide (x.mb = b.mb) && !decide (x.buy = b.buy)) = false := by
      rw [List.any_eq_false]
      intro x hx
      have mx : x ∈ B := List.mem_of_mem_take hx
      by_cases e : x.mb = b.mb
      · rw [ok.one x mx b (List.mem_of_getElem? hb) e]
        simp
      · simp [e]
    rw [no]
    refine if_no rfl ?_
    refine ws_next ?_
    exact ⟨_, _, rfl⟩
  rintro ρ2 ⟨y1, y3, rfl⟩
  exact q
def c_Fcheck_bids_at : CD := ⟨fun ds k => ∃ B p, ds = [.lst (B.map bidD), .int p] ∧ BidsOk B ∧ 1 ≤ p ∧ p ≤ 99 ∧ k (.ret (.sh .non)), by
  rintro ds k k' h ⟨B, p, e, o, p0, p1, q⟩
  exact ⟨B, p, e, o, p0, p1, h _ q⟩⟩
theorem sc_Fcheck_bids_at : FnScope ["orders", "price"] ["orders", "price"] (defScope s_Fcheck_bids_at) := ⟨rfl, rfl, rfl, by decide +kernel, rfl, by decide +kernel, by decide +kernel⟩
theorem ok_Fcheck_bids_at (T : Tx K mg) (tb : ∀ p ∈ csOf K, LamX.TabB bs mg p.1 p.2) : ∃ fd, DC.FnG prg wd K mg bs (L2.CX prg wd) 5 (He.ga K "check_bids_at") fd ["orders", "price"] (toSp K 2 c_Fcheck_bids_at.con) ∧ L2.Binds K fd ["orders", "price"] [] ∧ PySem.W.keepIn K (.ref (He.ga K "check_bids_at")) = true := by
  obtain ⟨fd, F0⟩ := T.d_Fcheck_bids_at
  obtain ⟨_, F_Fcheck_bids, b_Fcheck_bids, k_Fcheck_bids⟩ := ok_Fcheck_bids (prg := prg) (wd := wd) (bs := bs) T tb
  obtain ⟨_, F_Fcheck_price, b_Fcheck_price, k_Fcheck_price⟩ := ok_Fcheck_price (prg := prg) (wd := wd) (bs := bs) T tb
  refine ⟨fd, def_D (N := ["orders", "price"]) F0 sc_Fcheck_bids_at rfl ?_, F0.bindsN fun _ _ _ _ _ _ us hl => match us, hl with | [_, _], _ => rfl, F0.kp⟩
  intro cdv A fr s H E ds kk gd room hc hl
  have hu := room.units
  have hu7 := room70 room
  have sc := sc_Fcheck_bids_at
  refine ⟨_, (pss_cons (ps_expr (DC.pe_callG F_Fcheck_bids gd (room.mono (by decide)) (by rfl) T.g_check_bids k_Fcheck_bids b_Fcheck_bids .nil (fun σ => passAt (takes_of rfl rfl rfl rfl) σ) (pa_cons (pv 0) pa_nil)))
  (pss_one (ps_expr (DC.pe_callG F_Fcheck_price gd (room.mono (by decide)) (by rfl) T.g_check_price k_Fcheck_price b_Fcheck_price .nil (fun σ => passAt (takes_of rfl rfl rfl rfl) σ) (pa_cons (pv 1) pa_nil))))), ?_⟩
  try dsimp only [L2.cxOf]
  obtain ⟨B, p, rfl, ok, p0, p1, q⟩ := hc
  walk_at "d_"
  refine ⟨rfl, B, rfl, ok, .non, .sh _, ?_⟩
  show WS _ _ _ _
  refine ws_drop ?_
  walk_at "ex"
  refine ⟨rfl, .int p, _, rfl, .int p, price_ok p0 p1, .non, .sh _, ?_⟩
  exact q
def c_Fclearing : CD := ⟨fun ds k => ∃ B t, ds = [.lst (B.map bidD), .int t] ∧ BidsOk B ∧ 1 ≤ t ∧ t ≤ 99 ∧ ∀ r, Clr B t r → k (.ret (.sh (clrD r))), by
  rintro ds k k' h ⟨B, t, e, o, p0, p1, q⟩
  exact ⟨B, t, e, o, p0, p1, fun r c => h _ (q r c)⟩⟩
theorem sc_Fclearing : FnScope ["orders", "told"] ["orders", "told"] (defScope s_Fclearing) := ⟨rfl, rfl, rfl, by decide +kernel, rfl, by decide +kernel, by decide +kernel⟩
theorem ok_Fclearing (T : Tx K mg) (tb : ∀ p ∈ csOf K, LamX.TabB bs mg p.1 p.2) : ∃ fd, DC.FnG prg wd K mg bs (L2.CX prg wd) 7 (He.ga K "clearing") fd ["orders", "told"] (toSp K 2 c_Fclearing.con) ∧ L2.Binds K fd ["orders", "told"] [] ∧ PySem.W.keepIn K (.ref (He.ga K "clearing")) = true := by
  obtain ⟨fd, F0⟩ := T.d_Fclearing
  obtain ⟨_, F_Fcheck_bids_at, b_Fcheck_bids_at, k_Fcheck_bids_at⟩ := ok_Fcheck_bids_at (prg := prg) (wd := wd) (bs := bs) T tb
  obtain ⟨_, F_Fclearing_of, b_Fclearing_of, k_Fclearing_of⟩ := ok_Fclearing_of (prg := prg) (wd := wd) (bs := bs) T tb
  refine ⟨fd, def_D (N := ["orders", "told"]) F0 sc_Fclearing rfl ?_, F0.bindsN fun _ _ _ _ _ _ us hl => match us, hl with | [_, _], _ => rfl, F0.kp⟩
  intro cdv A fr s H E ds kk gd room hc hl
  have hu := room.units
  have hu7 := room70 room
  have sc := sc_Fclearing
  refine ⟨_, (pss_cons (ps_expr (DC.pe_callG F_Fcheck_bids_at gd (room.mono (by decide)) (by rfl) T.g_check_bids_at k_Fcheck_bids_at b_Fcheck_bids_at .nil (fun σ => passAt (takes_of rfl rfl rfl rfl) σ) (pa_cons (pv 0) (pa_cons (pv 1) pa_nil))))
  (pss_one (ps_ret (DC.pe_callG F_Fclearing_of gd (room.mono (by decide)) (by rfl) T.g_clearing_of k_Fclearing_of b_Fclearing_of .nil (fun σ => passAt (takes_of rfl rfl rfl rfl) σ) (pa_cons (pv 0) (pa_cons (pv 1) pa_nil)))))), ?_⟩
  try dsimp only [L2.cxOf]
  obtain ⟨B, t, rfl, ok, p0, p1, q⟩ := hc
  have le := ok.le
  walk_at "d_"
  refine ⟨rfl, B, t, rfl, ok, p0, p1, .non, .sh _, ?_⟩
  walk_at "r_"
  exact ⟨rfl, B, t, rfl, by omega, ok.am, fun r hr => ⟨_, .sh _, q r hr⟩⟩
def xBid (s : Bool) (pr : Option Int) (u : Int) : Bid := ⟨"", "", s, pr, u⟩
/-- so many units more turn the price -/
def TurnU (B : List Bid) (t : Int) (s : Bool) (pr : Option Int) (r0 : Option (Int × Int)) (u : Int) (b : Bool) : Prop := ∃ r, Clr (B ++ [xBid s pr u]) t r ∧ (prcD r = prcD r0 ↔ b = false)
/-- the least number of units that turns the price -/
def Turns (B : List Bid) (t : Int) (s : Bool) (pr : Option Int) (o : Option Int) : Prop := ∃ r0, Clr B t r0 ∧ match o with
  | none => ∀ u, 1 ≤ u → u ≤ 12 → TurnU B t s pr r0 u false
  | some v => 1 ≤ v ∧ v ≤ 12 ∧ TurnU B t s pr r0 v true ∧ ∀ u, 1 ≤ u → u < v → TurnU B t s pr r0 u false
theorem TurnU.no {B : List Bid} {t : Int} {s : Bool} {pr : Option Int} {r0 : Option (Int × Int)} {u : Int} (h : TurnU B t s pr r0 u true) (k : TurnU B t s pr r0 u false) : False := by
  obtain ⟨r, h1, h2⟩ := h
  obtain ⟨r', k1, k2⟩ := k
  obtain rfl := h1.one k1
  have := h2.mp (k2.mpr rfl)
  cases this
theorem Turns.uni {B : List Bid} {t : Int} {s : Bool} {pr : Option Int} {o o' : Option Int} (h : Turns B t s pr o) (k : Turns B t s pr o') : o = o' := by
  obtain ⟨r, h0, h⟩ := h
  obtain ⟨r', k0, k⟩ := k
  obtain rfl := h0.one k0
  cases o with
  | none => cases o' with
    | none => rfl
    | some v => exact (TurnU.no k.2.2.1 (h v k.1 k.2.1)).elim
  | some u => cases o' with
    | none => exact (TurnU.no h.2.2.1 (k u h.1 h.2.1)).elim
    | some v =>
      rcases (show u < v ∨ u = v ∨ v < u by omega) with z | z | z
      · exact (TurnU.no h.2.2.1 (k.2.2.2 u h.1 z)).elim
      · rw [z]
      · exact (TurnU.no k.2.2.1 (h.2.2.2 v k.1 z)).elim
theorem rd_nePrc {K : PySem.W.Frag} {k : D → Prop} {r r0 : Option (Int × Int)} (p : ∀ b, (prcD r = prcD r0 ↔ b = false) → k (.bl b)) : RD K (rNeA K) (prcD r) (prcD r0) k := by
  cases r with
  | none => cases r0 with
    | none => exact rd_neL (rd_neD (p := .none) (q := .none) rfl rfl rfl rfl (p _ ⟨fun _ => rfl, fun _ => rfl⟩))
    | some y => exact rd_neL (rd_neD (p := .none) (q := .int y.1) rfl rfl rfl rfl (p _ ⟨fun z => (by cases z), fun z => (by cases z)⟩))
  | some x => cases r0 with
    | none => exact rd_neL (rd_neD (p := .int x.1) (q := .none) rfl rfl rfl rfl (p _ ⟨fun z => (by cases z), fun z => (by cases z)⟩))
    | some y =>
      refine rd_neAI (p _ ⟨fun z => ?_, fun z => ?_⟩)
      · have z : D.int x.1 = .int y.1 := z
        injection z with z
        rw [z, decide_eq_true rfl]
        rfl
      · have z : x.1 = y.1 := by simpa using z
        show D.int x.1 = .int y.1
        rw [z]
def c_Fturning : CD := ⟨fun ds k => ∃ B t s pr, ds = [.lst (B.map bidD), .int t, .str (sideS s), prD pr] ∧ BidsOk B ∧ B.length ≤ 11 ∧ 1 ≤ t ∧ t ≤ 99 ∧ (∀ i, pr = some i → 1 ≤ i ∧ i ≤ 99) ∧ ∀ o, Turns B t s pr o → k (.ret (.sh (prD o))), by
  rintro ds k k' h ⟨B, t, s, pr, e, o, l, p0, p1, pp, q⟩
  exact ⟨B, t, s, pr, e, o, l, p0, p1, pp, fun r c => h _ (q r c)⟩⟩
theorem sc_Fturning : FnScope ["orders", "told", "side", "price", "before", "units"] ["orders", "told", "side", "price"] (defScope s_Fturning) := ⟨rfl, rfl, rfl, by decide +kernel, rfl, by decide +kernel, by decide +kernel⟩
theorem ok_Fturning (T : Tx K mg) (tb : ∀ p ∈ csOf K, LamX.TabB bs mg p.1 p.2) : ∃ fd, DC.FnG prg wd K mg bs (L2.CX prg wd) 8 (He.ga K "turning") fd ["orders", "told", "side", "price"] (toSp K 4 c_Fturning.con) ∧ L2.Binds K fd ["orders", "told", "side", "price"] [] ∧ PySem.W.keepIn K (.ref (He.ga K "turning")) = true := by
  obtain ⟨fd, F0⟩ := T.d_Fturning
  obtain ⟨_, F_Fcheck_bids_at, b_Fcheck_bids_at, k_Fcheck_bids_at⟩ := ok_Fcheck_bids_at (prg := prg) (wd := wd) (bs := bs) T tb
  obtain ⟨_, F_Fcheck_price, b_Fcheck_price, k_Fcheck_price⟩ := ok_Fcheck_price (prg := prg) (wd := wd) (bs := bs) T tb
  obtain ⟨_, F_Fclearing_price, b_Fclearing_price, k_Fclearing_price⟩ := ok_Fclearing_price (prg := prg) (wd := wd) (bs := bs) T tb
  obtain ⟨_, F_Fis_side, b_Fis_side, k_Fis_side⟩ := ok_Fis_side (prg := prg) (wd := wd) (bs := bs) T tb
  obtain ⟨_, F_BadBid_init, b_BadBid_init⟩ := ok_BadBid_init (prg := prg) (wd := wd) (bs := bs) T tb
  obtain ⟨_, F_TooManyBids_init, b_TooManyBids_init⟩ := ok_TooManyBids_init (prg := prg) (wd := wd) (bs := bs) T tb
  obtain ⟨_, c_MOST_BIDS⟩ := T.i_MOST_BIDS
  obtain ⟨_, c_MOST_UNITS⟩ := T.i_MOST_UNITS
  refine ⟨fd, def_D (N := ["orders", "told", "side", "price", "before", "units"]) F0 sc_Fturning rfl ?_, F0.bindsN fun _ _ _ _ _ _ us hl => match us, hl with | [_, _, _, _], _ => rfl, F0.kp⟩
  intro cdv A fr s H E ds kk gd room hc hl
  have hu := room.units
  have hu7 := room70 room
  have sc := sc_Fturning
  refine ⟨_, (pss_cons (ps_expr (DC.pe_callG F_Fcheck_bids_at gd (room.mono (by decide)) (by rfl) T.g_check_bids_at k_Fcheck_bids_at b_Fcheck_bids_at .nil (fun σ => passAt (takes_of rfl rfl rfl rfl) σ) (pa_cons (pv 0) (pa_cons (pv 1) pa_nil))))
  (pss_cons (ps_if (pt_not (pt_val (DC.pe_callG F_Fis_side gd (room.mono (by decide)) (by rfl) T.g_is_side k_Fis_side b_Fis_side .nil (fun σ => passAt (takes_of rfl rfl rfl rfl) σ) (pa_cons (pv 2) pa_nil)))) (pss_one (ps_raise rfl (takes_of rfl rfl rfl rfl) (pmk_oex T.o_BadBid T.i_BadBid T.t_BadBid F_BadBid_init (room.mono (by decide)) b_BadBid_init .nil passL (by rfl) T.g_BadBid (pa_cons (pv 2) pa_nil)))) pss_nil)
  (pss_cons (ps_if (pt_cmpR op_notN (pv 3) pe_non (nomark _)) (pss_one (ps_expr (DC.pe_callG F_Fcheck_price gd (room.mono (by decide)) (by rfl) T.g_check_price k_Fcheck_price b_Fcheck_price .nil (fun σ => passAt (takes_of rfl rfl rfl rfl) σ) (pa_cons (pv 3) pa_nil)))) pss_nil)
  (pss_cons (ps_if (pt_cmpR (op_eqA hu) (pe_callB o_lenA (by rfl) T.n_len (by decide +kernel) (pa_cons (pv 0) pa_nil)) (pe_glob (by rfl) c_MOST_BIDS (show RelV (.int 12) (.int 12 _) from ⟨_, rfl⟩)) (nomark _)) (pss_one (ps_raise rfl (takes_of rfl rfl rfl rfl) (pmk_oex T.o_TooManyBids T.i_TooManyBids T.t_TooManyBids F_TooManyBids_init (room.mono (by decide)) b_TooManyBids_init .nil passL (by rfl) T.g_TooManyBids (pa_cons (pe_op o_add (pe_glob (by rfl) c_MOST_BIDS (show RelV (.int 12) (.int 12 _) from ⟨_, rfl⟩)) pe_int) pa_nil)))) pss_nil)
  (pss_cons (ps_set (i := 4) sc.nd rfl (Or.inl rfl) (DC.pe_callG F_Fclearing_price gd (room.mono (by decide)) (by rfl) T.g_clearing_price k_Fclearing_price b_Fclearing_price .nil (fun σ => passAt (takes_of rfl rfl rfl rfl) σ) (pa_cons (pv 0) (pa_cons (pv 1) pa_nil))))
  (pss_cons (ps_for (passes_of rfl) rfl (pi_range2 (by rfl) T.n_range (pa_cons pe_int (pa_cons (pe_op o_add (pe_glob (by rfl) c_MOST_UNITS (show RelV (.int 12) (.int 12 _) from ⟨_, rfl⟩)) pe_int) pa_nil))) (pg_name (i := 5) sc.nd rfl (Or.inl rfl)) (pss_one (ps_if (pt_cmpR (op_neA hu) (DC.pe_callG F_Fclearing_price gd (room.mono (by decide)) (by rfl) T.g_clearing_price k_Fclearing_price b_Fclearing_price .nil (fun σ => passAt (takes_of rfl rfl rfl rfl) σ) (pa_cons (pe_lst (DL.pa_starK rfl (pv 0) (pa_cons (pe_tup (pa_cons pe_str (pa_cons pe_str (pa_cons (pv 2) (pa_cons (pv 3) (pa_cons (pv 5) pa_nil)))))) pa_nil))) (pa_cons (pv 1) pa_nil))) (pv 4) (nomark _)) (pss_one (ps_ret (pv 5))) pss_nil)))
  (pss_one (ps_ret pe_non)))))))), ?_⟩
  try dsimp only [L2.cxOf]
  obtain ⟨B, t, s, pr, rfl, ok, le, t0, t1, pp, q⟩ := hc
  walk_at "d_"
  refine ⟨rfl, B, t, rfl, ok, t0, t1, .non, .sh _, ?_⟩
  walk_at "i_"
  refine ⟨rfl, s, rfl, _, .sh _, _, rfl, ?_⟩
  refine if_no rfl ?_
  refine ws_next ?_
  refine ws_cut (fun ρ => ρ = envD [.lst (B.map bidD), .int t, .str (sideS s), prD pr] 2) ?_ fun ρ e => ?_
  · refine ws_if ?_
    walk_at "ex"
    cases pr with
    | none =>
      refine if_no rfl ?_
      exact ws_next rfl
    | some p =>
      obtain ⟨p0, p1⟩ := pp p rfl
      refine if_ye rfl ?_
      refine ws_drop ?_
      walk_at "ex"
      exact ⟨rfl, .int p, _, rfl, .int p, price_ok p0 p1, .non, .sh _, rfl⟩
  subst e
  show WS _ _ _ _
  refine ws_seq ?_
  refine ws_if ?_
  walk_at "ex"
  refine rc_lenAL (.lst _) ?_
  walk_at "ex"
  rw [List.length_map]
  refine if_no (decide_eq_false (by omega)) ?_
  refine ws_next ?_
  show WS _ _ _ _
  refine ws_seq ?_
  refine ws_asg (by walk_at "px") ?_
  walk_at "ex"
  refine ⟨rfl, B, t, rfl, by omega, ok.am, fun r0 h0 => ⟨_, .sh _, ?_⟩⟩
  show WS _ _ _ _
  refine ws_seq ?_
  refine ws_for (sl := [5]) ?_
  refine wi_rng2 ?_
  walk_at "ex"
  refine ⟨1, 13, rfl, by decide, fun i ρ => ∃ y5 : Option M, (∀ u, 1 ≤ u → u < 1 + (i : Int) → TurnU B t s pr r0 u false) ∧ ρ = [some (.sh (.lst (B.map bidD))), some (.sh (.int t)), some (.sh (.str (sideS s))), some (.sh (prD pr)), some (.sh (prcD r0)), y5], ⟨none, fun u h1 h2 => by omega, rfl⟩, ?_, ?_⟩
  · rintro i d ρ2 hd ⟨y5, same, rfl⟩
    obtain ⟨hi, rfl⟩ := intsD_get hd
    have hi : i < 12 := hi
    refine wg_name (by walk_at "px") (by simp) ?_
    refine ws_if ?_
    walk_at "ex"
    refine wa_star ?_
    walk_at "ex"
    refine ⟨_, .inl (.lst _), ?_⟩
    walk_at "ex"
    rw [show B.map bidD ++ [D.tup [D.str "", D.str "", D.str (sideS s), prD pr, D.int (1 + (i : Int))]] = (B ++ [xBid s pr (1 + (i : Int))]).map bidD by rw [List.map_append]; rfl]
    refine ⟨rfl, B ++ [xBid s pr (1 + (i : Int))], t, rfl, by rw [List.length_append]; show B.length + 1 ≤ 100; omega, fun b hb => ?_, fun r hr => ⟨_, .sh _, ?_⟩⟩
    · rcases List.mem_append.mp hb with e | e
      · exact ok.am b e
      · obtain rfl : b = xBid s pr (1 + (i : Int)) := by simpa using e
        show 0 ≤ 1 + (i : Int)
        omega
    walk_at "ex"
    refine rd_nePrc fun b hb => ?_
    refine ⟨b, rfl, ?_⟩
    cases b with
    | true =>
      refine if_ye rfl ?_
      refine ws_ret ?_
      walk_at "ex"
      exact q (some (1 + (i : Int))) ⟨r0, h0, by omega, by omega, ⟨r, hr, hb⟩, fun u h1 h2 => same u h1 h2⟩
    | false =>
      refine if_no rfl ?_
      refine ws_next ?_
      refine ⟨_, fun u h1 h2 => ?_, rfl⟩
      rcases (show u < 1 + (i : Int) ∨ u = 1 + (i : Int) by omega) with e | e
      · exact same u h1 e
      · rw [e]
        exact ⟨r, hr, hb⟩
  rintro ρ2 ⟨y5, same, rfl⟩
  show WS _ _ _ _
  refine ws_retN ?_
  exact q none ⟨r0, h0, fun u h1 h2 => same u h1 (by rw [intsD_len]; show u < 1 + ((12 : Nat) : Int); omega)⟩
end K20

namespace K20
open PySem PySem.Spec PyProof.Rows L2 DL
variable {prg : Program} {wd : World} {K : PySem.W.Frag} {mg : Str → Option Value} {bs : Heap}
local macro_rules | `(tactic| walk_at "px") => `(tactic| first | exact List.not_mem_nil | (show _ ∉ ([0] : List Nat); decide) | (show _ ∉ ([] : List Nat); decide) | fail)
local macro_rules | `(tactic| walk_at "s") => `(tactic| with_reducible first
  | refine ws_seq ?_ | refine ws_if ?_ | refine ws_next ?_ | refine ws_ret ?_ | refine ws_retN ?_ | refine ws_asg (by walk_at "px") ?_ | refine ws_par (by walk_at "px") (by walk_at "px") ?_
  | refine w_var (by with_unfolding_all rfl) ?_ | refine w_int ?_ | refine w_bl ?_ | refine w_non ?_ | refine w_str ?_ | refine w_dnew ?_ | refine w_ty ?_
  | refine w_op ?_ | refine w_un ?_ | refine w_fld ?_ | refine w_xf ?_ | refine wt_test ?_ | refine wt_B ?_ | refine wt_yes ?_ | refine wt_and ?_ | refine wt_or ?_ | refine wt_not ?_ | refine w_andV ?_ | refine w_orV ?_ | refine w_notV ?_ | refine w_ifE ?_ | refine w_chain ?_
  | refine wa_nil ?_ | refine wa_cons ?_ | refine w_tup ?_ | refine w_lst ?_ | refine w_slice ?_ | refine w_dget ?_ | refine w_dget2 ?_ | refine w_dget1 ?_ | refine wp_no ?_ | refine wp_int ?_
  | refine w_cd repL_nil ?_ | refine w_md repL_nil ?_ | refine w_mk repL_nil ?_ | refine w_co repL_nil ⟨_, by with_unfolding_all rfl⟩ ?_ | refine w_call ?_
  | refine rd_add ?_ | refine rd_sub ?_ | refine rd_lt ?_ | refine rd_le ?_ | refine rd_gt ?_ | refine rd_ge ?_ | refine rd_ltS ?_ | refine rd_leS ?_ | refine rd_gtS ?_ | refine rd_geS ?_ | refine rd_isN ?_ | refine rd_notN ?_ | refine rd_eqAI ?_ | refine rd_neAI ?_ | refine rd_eqAS ?_ | refine rd_neAS ?_
  | refine wg_tup rfl ?_ | refine wgs_cons ?_ | refine wg_name (by walk_at "px") (by simp) ?_ | refine wgs_nil ?_
  | refine ru_neg ?_ | refine ⟨(by show List.length _ ≤ 100000; simp), ?_⟩
  | refine rc_abs ?_ | refine rc_int1 ?_ | refine rc_min2 ?_ | refine rc_max2 ?_
  | refine ⟨_, rfl, ?_⟩ | fail)
local macro_rules | `(tactic| walk_at "go") => `(tactic| repeat' walk_at "s")
local macro_rules | `(tactic| walk_at "args") => `(tactic| repeat' (with_reducible first | refine wa_cons ?_ | refine wa_nil ?_ | refine w_int ?_ | refine w_bl ?_ | refine w_non ?_ | refine w_str ?_ | refine w_dnew ?_ | refine w_tup ?_ | refine w_lst ?_ | refine w_un ?_ | refine ru_neg ?_ | refine w_var (by with_unfolding_all rfl) ?_ | refine ⟨(by show List.length _ ≤ 100000; simp), ?_⟩ | fail))
local macro_rules | `(tactic| walk_at "e") => `(tactic| with_reducible first
  | refine w_var (by with_unfolding_all rfl) ?_ | refine w_int ?_ | refine w_bl ?_ | refine w_non ?_ | refine w_str ?_ | refine w_dnew ?_ | refine w_ty ?_
  | refine w_op ?_ | refine w_un ?_ | refine w_fld ?_ | refine w_xf ?_ | refine wt_test ?_ | refine wt_B ?_ | refine wt_yes ?_ | refine wt_and ?_ | refine wt_or ?_ | refine wt_not ?_ | refine w_andV ?_ | refine w_orV ?_ | refine w_notV ?_ | refine w_ifE ?_ | refine w_chain ?_
  | refine wa_nil ?_ | refine wa_cons ?_ | refine w_tup ?_ | refine w_lst ?_ | refine w_slice ?_ | refine w_dget ?_ | refine w_dget2 ?_ | refine w_dget1 ?_ | refine wp_no ?_ | refine wp_int ?_
  | refine w_cd repL_nil ?_ | refine w_md repL_nil ?_ | refine w_mk repL_nil ?_ | refine w_co repL_nil ⟨_, by with_unfolding_all rfl⟩ ?_ | refine w_call ?_
  | refine rd_add ?_ | refine rd_sub ?_ | refine rd_lt ?_ | refine rd_le ?_ | refine rd_gt ?_ | refine rd_ge ?_ | refine rd_ltS ?_ | refine rd_leS ?_ | refine rd_gtS ?_ | refine rd_geS ?_ | refine rd_isN ?_ | refine rd_notN ?_ | refine rd_eqAI ?_ | refine rd_neAI ?_ | refine rd_eqAS ?_ | refine rd_neAS ?_
  | refine wg_tup rfl ?_ | refine wgs_cons ?_ | refine wg_name (by walk_at "px") (by simp) ?_ | refine wgs_nil ?_
  | refine ru_neg ?_ | refine ⟨(by show List.length _ ≤ 100000; simp), ?_⟩
  | refine rc_abs ?_ | refine rc_int1 ?_ | refine rc_min2 ?_ | refine rc_max2 ?_
  | refine ⟨_, rfl, ?_⟩ | fail)
local macro_rules | `(tactic| walk_at "ex") => `(tactic| repeat' walk_at "e")
local macro_rules | `(tactic| walk_at "a_") => `(tactic| (show WS _ _ _ _; (with_reducible try refine ws_seq ?_); with_reducible refine ws_asg (by walk_at "px") ?_; walk_at "ex"))
local macro_rules | `(tactic| walk_at "i_") => `(tactic| (show WS _ _ _ _; (with_reducible try refine ws_seq ?_); with_reducible refine ws_if ?_; walk_at "ex"))
local macro_rules | `(tactic| walk_at "d_") => `(tactic| (show WS _ _ _ _; (with_reducible try refine ws_seq ?_); with_reducible refine ws_drop ?_; walk_at "ex"))
local macro_rules | `(tactic| walk_at "r_") => `(tactic| (show WS _ _ _ _; with_reducible refine ws_ret ?_; walk_at "ex"))
local macro_rules | `(tactic| walk_at "v_") => `(tactic| refine w_var (by with_unfolding_all rfl) ?_)
open CLR

def c_Llaw_worth : CD := ⟨fun ds k => ∃ b, ds = [bidD b] ∧ k (.ret (.sh (.int b.worth))), by
  rintro ds k k' h ⟨b, e, q⟩
  exact ⟨b, e, h _ q⟩⟩
theorem sc_Llaw_worth : FnScope ["order"] ["order"] (defScope s_Llaw_worth) := ⟨rfl, rfl, rfl, by decide +kernel, rfl, by decide +kernel, by decide +kernel⟩
theorem ok_Llaw_worth (T : Tx K mg) (tb : ∀ p ∈ csOf K, LamX.TabB bs mg p.1 p.2) : ∃ fd, DC.FnG prg wd K mg bs (L2.CX prg wd) 1 (He.ga K "_law_worth") fd ["order"] (toSp K 1 c_Llaw_worth.con) ∧ L2.Binds K fd ["order"] [] ∧ PySem.W.keepIn K (.ref (He.ga K "_law_worth")) = true := by
  obtain ⟨fd, F0⟩ := T.d_Llaw_worth
  refine ⟨fd, def_D (N := ["order"]) F0 sc_Llaw_worth rfl ?_, F0.bindsN fun _ _ _ _ _ _ us hl => match us, hl with | [_], _ => rfl, F0.kp⟩
  intro cdv A fr s H E ds kk gd room hc hl
  have hu := room.units
  have hu7 := room70 room
  have sc := sc_Llaw_worth
  refine ⟨_, (pss_cons (ps_if (pt_cmpR op_isN (pe_ix ix_seq (pv 0) pe_int (fun _ _ => rfl)) pe_non (nomark _)) (pss_one (ps_ret (pe_ifExp (pt_cmpR (op_eqA hu) (pe_ix ix_seq (pv 0) pe_int (fun _ _ => rfl)) pe_str (nomark _)) pe_int pe_int))) pss_nil)
  (pss_one (ps_ret (pe_ix ix_seq (pv 0) pe_int (fun _ _ => rfl))))), ?_⟩
  try dsimp only [L2.cxOf]
  obtain ⟨b, rfl, q⟩ := hc
  obtain ⟨nm, mb, s, pr, am⟩ := b
  walk_at "i_"
  refine rd_ixT (xs := bidL ⟨nm, mb, s, pr, am⟩) (d := prD pr) rfl ?_
  walk_at "ex"
  cases pr with
  | none =>
    refine if_ye rfl ?_
    refine ws_ret ?_
    walk_at "ex"
    refine rd_ixT (xs := bidL ⟨nm, mb, s, none, am⟩) (d := .str (sideS s)) rfl ?_
    walk_at "ex"
    rw [side_dec]
    cases s
    · refine if_no rfl ?_
      walk_at "ex"
      exact q
    · refine if_ye rfl ?_
      walk_at "ex"
      exact q
  | some p =>
    refine if_no rfl ?_
    refine ws_next ?_
    show WS _ _ _ _
    refine ws_ret ?_
    walk_at "ex"
    refine rd_ixT (xs := bidL ⟨nm, mb, s, some p, am⟩) (d := .int p) rfl ?_
    exact q
def c_Llaw_counts : CD := ⟨fun ds k => ∃ B p, ds = [.lst (B.map bidD), .int p] ∧ B.length ≤ 100 ∧ k (.ret (.sh (.tup [.int (cnt B true p), .int (cnt B false p)]))), by
  rintro ds k k' h ⟨B, p, e, l, q⟩
  exact ⟨B, p, e, l, h _ q⟩⟩
theorem sc_Llaw_counts : FnScope ["orders", "price", "bought", "order"] ["orders", "price"] (defScope s_Llaw_counts) := ⟨rfl, rfl, rfl, by decide +kernel, rfl, by decide +kernel, by decide +kernel⟩
theorem ok_Llaw_counts (T : Tx K mg) (tb : ∀ p ∈ csOf K, LamX.TabB bs mg p.1 p.2) : ∃ fd, DC.FnG prg wd K mg bs (L2.CX prg wd) 2 (He.ga K "_law_counts") fd ["orders", "price"] (toSp K 2 c_Llaw_counts.con) ∧ L2.Binds K fd ["orders", "price"] [] ∧ PySem.W.keepIn K (.ref (He.ga K "_law_counts")) = true := by
  obtain ⟨fd, F0⟩ := T.d_Llaw_counts
  obtain ⟨_, F_Llaw_worth, b_Llaw_worth, k_Llaw_worth⟩ := ok_Llaw_worth (prg := prg) (wd := wd) (bs := bs) T tb
  refine ⟨fd, def_D (N := ["orders", "price", "bought", "order"]) F0 sc_Llaw_counts rfl ?_, F0.bindsN fun _ _ _ _ _ _ us hl => match us, hl with | [_, _], _ => rfl, F0.kp⟩
  intro cdv A fr s H E ds kk gd room hc hl
  have hu := room.units
  have hu7 := room70 room
  have sc := sc_Llaw_counts
  refine ⟨_, (pss_cons (ps_set (i := 2) sc.nd rfl (Or.inl rfl) (pe_callB (cr_sum rfl) (by rfl) T.n_sum (by decide +kernel) (pa_cons (pe_lc (own := [("order", 3)]) (g := (gName 3))  (by rfl) sc.nd (pi_list (pv 0)) (blkOk_by (own := [("order", 3)]) (N := ["orders", "price", "bought", "order"]) (sc := defScope s_Llaw_counts) (by decide +kernel)) (fun _ _ _ _ _ => (pg_name (i := 3) sc.nd rfl (Or.inl rfl))) (fun _ _ _ _ _ => (pts_one (PW.pt (pw_and (pt_cmpR (o_eqAK rfl hu) (pe_ix (o_ixK rfl) (pv 3) pe_int (fun _ _ => rfl)) pe_str (nomark _)) (pw_and1 (pt_cmpR o_ge (DC.pe_callG F_Llaw_worth gd (room.mono (by decide)) (by rfl) T.g__law_worth k_Llaw_worth b_Llaw_worth .nil (fun σ => passAt takes0 σ) (pa_cons (pv 3) pa_nil)) (pv 1) (nomark _))))))) (fun _ _ _ _ _ => (pe_ix (o_ixK rfl) (pv 3) pe_int (fun _ _ => rfl)))) pa_nil)))
  (pss_one (ps_ret (pe_tup (pa_cons (pv 2) (pa_cons (pe_callB (cr_sum rfl) (by rfl) T.n_sum (by decide +kernel) (pa_cons (pe_lc (own := [("order", 3)]) (g := (gName 3))  (by rfl) sc.nd (pi_list (pv 0)) (blkOk_by (own := [("order", 3)]) (N := ["orders", "price", "bought", "order"]) (sc := defScope s_Llaw_counts) (by decide +kernel)) (fun _ _ _ _ _ => (pg_name (i := 3) sc.nd rfl (Or.inl rfl))) (fun _ _ _ _ _ => (pts_one (PW.pt (pw_and (pt_cmpR (o_eqAK rfl hu) (pe_ix (o_ixK rfl) (pv 3) pe_int (fun _ _ => rfl)) pe_str (nomark _)) (pw_and1 (pt_cmpR o_le (DC.pe_callG F_Llaw_worth gd (room.mono (by decide)) (by rfl) T.g__law_worth k_Llaw_worth b_Llaw_worth .nil (fun σ => passAt takes0 σ) (pa_cons (pv 3) pa_nil)) (pv 1) (nomark _))))))) (fun _ _ _ _ _ => (pe_ix (o_ixK rfl) (pv 3) pe_int (fun _ _ => rfl)))) pa_nil)) pa_nil)))))), ?_⟩
  try dsimp only [L2.cxOf]
  obtain ⟨B, p, rfl, hl, q⟩ := hc
  refine ws_seq ?_
  refine ws_asg (by walk_at "px") ?_
  refine w_call ?_
  refine wa_cons ?_
  refine w_lcA (xs := B) (r := bidD) (f := fun b => if (decide (b.buy = true) && decide (0 ≤ b.rise p)) = true then some (.int b.am) else none) (by walk_at "px") (nameOk_none rfl) ?_
  refine wi_list ?_
  walk_at "ex"
  refine ⟨rfl, rfl, by omega, fun b hb => ?_, ?_⟩
  · show WT _ _ _ _
    walk_at "ex"
    refine rd_ixT (xs := bidL b) (d := .str (sideS b.buy)) rfl ?_
    walk_at "ex"
    rw [side_dec]
    refine if_b (fun z => ?_) (fun z => by rw [z]; exact ⟨rfl, rfl⟩)
    rw [z]
    walk_at "ex"
    refine ⟨rfl, b, rfl, _, .sh _, ?_⟩
    walk_at "ex"
    have er : b.rise p = b.worth - p := if_pos z
    rw [show decide (b.worth ≥ p) = decide (0 ≤ b.rise p) by rw [er]; exact decide_eq_decide.mpr (by omega)]
    refine ⟨rfl, ?_⟩
    refine if_b (fun y => ?_) (fun y => by rw [y]; rfl)
    rw [y]
    walk_at "ex"
    refine rd_ixT (xs := bidL b) (d := .int b.am) rfl ?_
    exact ⟨rfl, rfl⟩
  rw [sum_fm]
  refine wa_nil ?_
  refine rc_sum (.lst _) ?_
  rw [← cnt_eq]
  show WS _ _ _ _
  refine ws_ret ?_
  walk_at "ex"
  refine w_lcA (xs := B) (r := bidD) (f := fun b => if (decide (b.buy = false) && decide (0 ≤ b.rise p)) = true then some (.int b.am) else none) (by walk_at "px") (nameOk_none rfl) ?_
  refine wi_list ?_
  walk_at "ex"
  refine ⟨rfl, rfl, by omega, fun b hb => ?_, ?_⟩
  · show WT _ _ _ _
    walk_at "ex"
    refine rd_ixT (xs := bidL b) (d := .str (sideS b.buy)) rfl ?_
    walk_at "ex"
    rw [show decide (sideS b.buy = Str.ofString "sell") = decide (b.buy = false) from side_deq b.buy false]
    refine if_b (fun z => ?_) (fun z => by rw [z]; exact ⟨rfl, rfl⟩)
    rw [z]
    walk_at "ex"
    refine ⟨rfl, b, rfl, _, .sh _, ?_⟩
    walk_at "ex"
    have zf : b.buy = false := of_decide_eq_true z
    have er : b.rise p = p - b.worth := if_neg (by rw [zf]; exact Bool.false_ne_true)
    rw [show decide (b.worth ≤ p) = decide (0 ≤ b.rise p) by rw [er]; exact decide_eq_decide.mpr (by omega)]
    refine ⟨rfl, ?_⟩
    refine if_b (fun y => ?_) (fun y => by rw [y]; rfl)
    rw [y]
    walk_at "ex"
    refine rd_ixT (xs := bidL b) (d := .int b.am) rfl ?_
    exact ⟨rfl, rfl⟩
  rw [sum_fm]
  refine wa_nil ?_
  refine rc_sum (.lst _) ?_
  rw [← cnt_eq]
  walk_at "ex"
  exact q
theorem cut_tail {r : List D} {b : D} : DL.cutD (r ++ [b]) (some (-1)) none = [b] := by
  unfold DL.cutD HT.sIx
  (simp only [List.length_append, List.length_singleton])
  have e : (if (-1 : Int) < 0 then ((-1 : Int) + ((r.length + 1 : Nat) : Int)).toNat else min (-1 : Int).toNat (r.length + 1)) = r.length := by
    rw [if_pos (by decide)]
    omega
  rw [e, List.drop_left, Nat.add_sub_cancel_left]
  rfl
theorem at_ups {B : List Bid} (am : ∀ b ∈ B, 0 ≤ b.am) {m : Int} (hm : Most B m) : ∃ a n, at_ B m = ups a n := by
  have asc : (at_ B m).Pairwise (· < ·) := List.Pairwise.filter _ ups_lt
  obtain ⟨p, ⟨p0, p1⟩, e2⟩ := hm.at_
  have hp : p ∈ at_ B m := List.mem_filter.mpr ⟨mem_ups.mpr (by omega), decide_eq_true e2⟩
  cases e : at_ B m with
  | nil => rw [e] at hp; cases hp
  | cons a r =>
    rcases snoc_or (at_ B m) with e3 | ⟨r', z, e3⟩
    · rw [e3] at e; cases e
    have ia : a ∈ at_ B m := by rw [e]; exact List.mem_cons_self
    have iz : z ∈ at_ B m := by rw [e3]; simp
    have bet : ∀ x ∈ at_ B m, a ≤ x ∧ x ≤ z := fun x hx => by
      constructor
      · have hx2 := hx
        rw [e] at hx2 asc
        rcases List.mem_cons.mp hx2 with y | y
        · omega
        · have := (List.pairwise_cons.mp asc).1 x y
          omega
      · have hx2 := hx
        rw [e3] at hx2 asc
        rcases List.mem_append.mp hx2 with y | y
        · have := (List.pairwise_append.mp asc).2.2 x y z (by simp)
          omega
        · have : x = z := by simpa using y
          omega
    have az := (bet z iz).1
    refine ⟨a, (z + 1 - a).toNat, ?_⟩
    rw [← e]
    exact (span_eq am hm ia iz bet (by omega)).symm
theorem head_two {qs : List (Int × Int)} {F : List Int} {t : Int} (h0 : 0 < F.length) (pm : qs.Perm (F.map fun p => (((p - t).natAbs : Int), p))) (srt : qs.Pairwise fun a b => SrtO.lexB b a = false) : ∃ p r, qs = (((p - t).natAbs : Int), p) :: r ∧ Near F t p := by
  cases qs with
  | nil => have := pm.length_eq; rw [List.length_map] at this; simp at this; omega
  | cons x r =>
    obtain ⟨p, hp, rfl⟩ := List.mem_map.mp (pm.mem_iff.mp List.mem_cons_self)
    refine ⟨p, r, rfl, hp, fun q hq => ?_⟩
    rcases List.mem_cons.mp (pm.mem_iff.mpr (List.mem_map.mpr ⟨q, hq, rfl⟩)) with e | e
    · have : q = p := congrArg Prod.snd e
      subst this
      exact ⟨Nat.le_refl _, fun _ => Int.le_refl _⟩
    · have := SrtO.lexB_no.mp ((List.pairwise_cons.mp srt).1 _ e)
      dsimp only at this
      exact (⟨by omega, fun _ => by omega⟩)
def c_Llaw_clearing : CD := ⟨fun ds k => ∃ B t, ds = [.lst (B.map bidD), .int t] ∧ B.length ≤ 100 ∧ (∀ b ∈ B, 0 ≤ b.am) ∧ ∀ r, Clr B t r → k (.ret (.sh (clrD r))), by
  rintro ds k k' h ⟨B, t, e, l, am, q⟩
  exact ⟨B, t, e, l, am, fun r c => h _ (q r c)⟩⟩
theorem sc_Llaw_clearing : FnScope ["orders", "got", "rows", "most", "least", "more", "fewer", "price", "pair", "over"] ["orders", "got"] (defScope s_Llaw_clearing) := ⟨rfl, rfl, rfl, by decide +kernel, rfl, by decide +kernel, by decide +kernel⟩
theorem ok_Llaw_clearing (T : Tx K mg) (tb : ∀ p ∈ csOf K, LamX.TabB bs mg p.1 p.2) : ∃ fd, DC.FnG prg wd K mg bs (L2.CX prg wd) 3 (He.ga K "_law_clearing") fd ["orders", "got"] (toSp K 2 c_Llaw_clearing.con) ∧ L2.Binds K fd ["orders", "got"] [] ∧ PySem.W.keepIn K (.ref (He.ga K "_law_clearing")) = true := by
  obtain ⟨fd, F0⟩ := T.d_Llaw_clearing
  obtain ⟨_, F_Llaw_counts, b_Llaw_counts, k_Llaw_counts⟩ := ok_Llaw_counts (prg := prg) (wd := wd) (bs := bs) T tb
  refine ⟨fd, def_D (N := ["orders", "got", "rows", "most", "least", "more", "fewer", "price", "pair", "over"]) F0 sc_Llaw_clearing rfl ?_, F0.bindsN fun _ _ _ _ _ _ us hl => match us, hl with | [_, _], _ => rfl, F0.kp⟩
  intro cdv A fr s H E ds kk gd room hc hl
  have hu := room.units
  have hu7 := room70 room
  have sc := sc_Llaw_clearing
  refine ⟨_, (pss_cons (ps_setLc (i := 2) (own := [("price", 7)]) (g := (gName 7)) (tt := tYes) (by rfl) sc.nd rfl rfl (sw_true rfl rfl rfl (by decide +kernel)) (pi_range2 (by rfl) T.n_range (pa_cons pe_int (pa_cons pe_int pa_nil))) (blkOk_by (own := [("price", 7)]) (N := ["orders", "got", "rows", "most", "least", "more", "fewer", "price", "pair", "over"]) (sc := defScope s_Llaw_clearing) (by decide +kernel)) (fun _ _ _ _ _ => (pg_name (i := 7) sc.nd rfl (Or.inl rfl))) (fun _ _ _ _ _ => pts_nil) (fun _ _ _ _ _ => (pe_tup (pa_cons (DC.pe_callG F_Llaw_counts gd (room.mono (by decide)) (by rfl) T.g__law_counts k_Llaw_counts b_Llaw_counts .nil (fun σ => passAt takes0 σ) (pa_cons (pv 0) (pa_cons (pv 7) pa_nil))) (pa_cons (pv 7) pa_nil)))))
  (pss_cons (ps_set (i := 3) sc.nd rfl (Or.inr rfl) (pe_callB (cr_max rfl) (by rfl) T.n_max (by decide +kernel) (pa_cons (pe_lc (own := [("pair", 8), ("price", 7)]) (g := (gTup K 2 (gCons (gName 8) (gCons (gName 7) gNil)))) (tt := tYes) (by rfl) sc.nd (pi_list (pv 2)) (blkOk_by (own := [("pair", 8), ("price", 7)]) (N := ["orders", "got", "rows", "most", "least", "more", "fewer", "price", "pair", "over"]) (sc := defScope s_Llaw_clearing) (by decide +kernel)) (fun _ _ _ _ _ => (pg_tup (by rfl) (pgs_cons (pg_name (i := 8) sc.nd rfl (Or.inl rfl)) (pgs_cons (pg_name (i := 7) sc.nd rfl (Or.inl rfl)) pgs_nil)))) (fun _ _ _ _ _ => pts_nil) (fun _ _ _ _ _ => (pe_callB (DC.cr_min2T rfl rfl hu7) (by rfl) T.n_min (by decide +kernel) (pa_cons (pv 8) pa_nil)))) pa_nil)))
  (pss_cons (ps_if (pt_cmpR (op_eqA hu) (pv 3) pe_int (nomark _)) (pss_one (ps_ret pe_non)) pss_nil)
  (pss_cons (ps_setLc (i := 2) (own := [("pair", 8), ("price", 7)]) (g := (gTup K 2 (gCons (gName 8) (gCons (gName 7) gNil))))  (by rfl) sc.nd rfl rfl (sw_true rfl rfl rfl (by decide +kernel)) (pi_list (pv 2)) (blkOk_by (own := [("pair", 8), ("price", 7)]) (N := ["orders", "got", "rows", "most", "least", "more", "fewer", "price", "pair", "over"]) (sc := defScope s_Llaw_clearing) (by decide +kernel)) (fun _ _ _ _ _ => (pg_tup (by rfl) (pgs_cons (pg_name (i := 8) sc.nd rfl (Or.inl rfl)) (pgs_cons (pg_name (i := 7) sc.nd rfl (Or.inl rfl)) pgs_nil)))) (fun _ _ _ _ _ => (pts_one (pt_cmpR (o_eqAK rfl hu) (pe_callB (DC.cr_min2T rfl rfl hu7) (by rfl) T.n_min (by decide +kernel) (pa_cons (pv 8) pa_nil)) (pv 3) (nomark _)))) (fun _ _ _ _ _ => (pe_tup (pa_cons (pe_op op_sub (pe_ix (o_ixK rfl) (pv 8) pe_int (fun _ _ => rfl)) (pe_ix (o_ixK rfl) (pv 8) pe_int (fun _ _ => rfl))) (pa_cons (pv 7) pa_nil)))))
  (pss_cons (ps_set (i := 4) sc.nd rfl (Or.inr rfl) (pe_callB (cr_min rfl) (by rfl) T.n_min (by decide +kernel) (pa_cons (pe_lc (own := [("over", 9), ("price", 7)]) (g := (gTup K 2 (gCons (gName 9) (gCons (gName 7) gNil)))) (tt := tYes) (by rfl) sc.nd (pi_list (pv 2)) (blkOk_by (own := [("over", 9), ("price", 7)]) (N := ["orders", "got", "rows", "most", "least", "more", "fewer", "price", "pair", "over"]) (sc := defScope s_Llaw_clearing) (by decide +kernel)) (fun _ _ _ _ _ => (pg_tup (by rfl) (pgs_cons (pg_name (i := 9) sc.nd rfl (Or.inl rfl)) (pgs_cons (pg_name (i := 7) sc.nd rfl (Or.inl rfl)) pgs_nil)))) (fun _ _ _ _ _ => pts_nil) (fun _ _ _ _ _ => (pe_callB call_abs (by rfl) T.n_abs (by decide +kernel) (pa_cons (pv 9) pa_nil)))) pa_nil)))
  (pss_cons (ps_setLc (i := 2) (own := [("over", 9), ("price", 7)]) (g := (gTup K 2 (gCons (gName 9) (gCons (gName 7) gNil))))  (by rfl) sc.nd rfl rfl (sw_true rfl rfl rfl (by decide +kernel)) (pi_list (pv 2)) (blkOk_by (own := [("over", 9), ("price", 7)]) (N := ["orders", "got", "rows", "most", "least", "more", "fewer", "price", "pair", "over"]) (sc := defScope s_Llaw_clearing) (by decide +kernel)) (fun _ _ _ _ _ => (pg_tup (by rfl) (pgs_cons (pg_name (i := 9) sc.nd rfl (Or.inl rfl)) (pgs_cons (pg_name (i := 7) sc.nd rfl (Or.inl rfl)) pgs_nil)))) (fun _ _ _ _ _ => (pts_one (pt_cmpR (o_eqAK rfl hu) (pe_callB call_abs (by rfl) T.n_abs (by decide +kernel) (pa_cons (pv 9) pa_nil)) (pv 4) (nomark _)))) (fun _ _ _ _ _ => (pe_tup (pa_cons (pv 9) (pa_cons (pv 7) pa_nil)))))
  (pss_cons (ps_if (pt_cmpR (op_eqA hu) (pv 4) pe_int (nomark _)) (pss_one (ps_ret (pe_tup (pa_cons (pe_ix ix_seq (pe_ix ix_seq (pe_callB DC.cr_srt2 (by rfl) T.n_sorted (by decide +kernel) (pa_cons (pe_lc (own := [("over", 9), ("price", 7)]) (g := (gTup K 2 (gCons (gName 9) (gCons (gName 7) gNil)))) (tt := tYes) (by rfl) sc.nd (pi_list (pv 2)) (blkOk_by (own := [("over", 9), ("price", 7)]) (N := ["orders", "got", "rows", "most", "least", "more", "fewer", "price", "pair", "over"]) (sc := defScope s_Llaw_clearing) (by decide +kernel)) (fun _ _ _ _ _ => (pg_tup (by rfl) (pgs_cons (pg_name (i := 9) sc.nd rfl (Or.inl rfl)) (pgs_cons (pg_name (i := 7) sc.nd rfl (Or.inl rfl)) pgs_nil)))) (fun _ _ _ _ _ => pts_nil) (fun _ _ _ _ _ => (pe_tup (pa_cons (pe_callB call_abs (by rfl) T.n_abs (by decide +kernel) (pa_cons (pe_op op_sub (pv 7) (pv 1)) pa_nil)) (pa_cons (pv 7) pa_nil))))) pa_nil)) pe_int (fun _ _ => rfl)) pe_int (fun _ _ => rfl)) (pa_cons (pv 3) pa_nil))))) pss_nil)
  (pss_cons (ps_setLc (i := 5) (own := [("over", 9), ("price", 7)]) (g := (gTup K 2 (gCons (gName 9) (gCons (gName 7) gNil))))  (by rfl) sc.nd rfl rfl (sw_true rfl rfl rfl (by decide +kernel)) (pi_list (pv 2)) (blkOk_by (own := [("over", 9), ("price", 7)]) (N := ["orders", "got", "rows", "most", "least", "more", "fewer", "price", "pair", "over"]) (sc := defScope s_Llaw_clearing) (by decide +kernel)) (fun _ _ _ _ _ => (pg_tup (by rfl) (pgs_cons (pg_name (i := 9) sc.nd rfl (Or.inl rfl)) (pgs_cons (pg_name (i := 7) sc.nd rfl (Or.inl rfl)) pgs_nil)))) (fun _ _ _ _ _ => (pts_one (pt_cmpR o_gt (pv 9) pe_int (nomark _)))) (fun _ _ _ _ _ => (pv 7)))
  (pss_cons (ps_setLc (i := 6) (own := [("over", 9), ("price", 7)]) (g := (gTup K 2 (gCons (gName 9) (gCons (gName 7) gNil))))  (by rfl) sc.nd rfl rfl (sw_true rfl rfl rfl (by decide +kernel)) (pi_list (pv 2)) (blkOk_by (own := [("over", 9), ("price", 7)]) (N := ["orders", "got", "rows", "most", "least", "more", "fewer", "price", "pair", "over"]) (sc := defScope s_Llaw_clearing) (by decide +kernel)) (fun _ _ _ _ _ => (pg_tup (by rfl) (pgs_cons (pg_name (i := 9) sc.nd rfl (Or.inl rfl)) (pgs_cons (pg_name (i := 7) sc.nd rfl (Or.inl rfl)) pgs_nil)))) (fun _ _ _ _ _ => (pts_one (pt_cmpR o_lt (pv 9) pe_int (nomark _)))) (fun _ _ _ _ _ => (pv 7)))
  (pss_cons (ps_if (PW.pt (pw_or (pt_cmpR (op_eqA hu) (pv 5) (pe_lst pa_nil) (nomark _)) (pw_or1 (pt_cmpR (op_eqA hu) (pv 6) (pe_lst pa_nil) (nomark _))))) (pss_one (ps_ret (pe_tup (pa_cons (pe_ix ix_seq (pe_op o_add (pe_slice o_sl (pv 5) (po_some (pe_un un_neg pe_int)) po_none) (pe_slice o_sl (pv 6) po_none (po_some pe_int))) pe_int (fun _ _ => rfl)) (pa_cons (pv 3) pa_nil))))) pss_nil)
  (pss_one (ps_ret (pe_tup (pa_cons (pe_ifExp (pt_cmpR o_le (pv 1) (pe_ix ix_seq (pv 5) (pe_un un_neg pe_int) (fun _ _ => rfl)) (nomark _)) (pe_ix ix_seq (pv 5) (pe_un un_neg pe_int) (fun _ _ => rfl)) (pe_ix ix_seq (pv 6) pe_int (fun _ _ => rfl))) (pa_cons (pv 3) pa_nil))))))))))))))), ?_⟩
  try dsimp only [L2.cxOf]
  obtain ⟨B, t, rfl, hl, am, q⟩ := hc
  refine ws_seq ?_
  refine ws_asg (by walk_at "px") ?_
  refine w_lcA (xs := prices) (r := D.int) (f := fun p => some (.tup [.tup [.int (cnt B true p), .int (cnt B false p)], .int p])) (by walk_at "px") (nameOk_none rfl) ?_
  refine wi_rng2 ?_
  walk_at "ex"
  refine ⟨1, 100, rfl, by decide, rfl, intsD_ups, by decide, fun p hp => ?_, ?_⟩
  · refine wt_yes ⟨rfl, ?_⟩
    rw [if_pos rfl]
    walk_at "ex"
    refine ⟨rfl, B, p, rfl, hl, _, .sh _, ?_⟩
    walk_at "ex"
    exact ⟨rfl, rfl⟩
  rw [fm_some]
  show WS _ _ _ _
  refine ws_seq ?_
  refine ws_asg (by walk_at "px") ?_
  refine w_call ?_
  refine wa_cons ?_
  refine w_lcA2 (xs := prices) (x := fun p => .tup [.int (cnt B true p), .int (cnt B false p)]) (y := fun p => .int p) (f := fun p => some (.int (vol B p))) (by walk_at "px") (by walk_at "px") (nameOk_none rfl) (nameOk_none rfl) ?_
  refine wi_list ?_
  walk_at "ex"
  refine ⟨rfl, rfl, by decide, fun p hp => ?_, ?_⟩
  · refine wt_yes ⟨rfl, ?_⟩
    rw [if_pos rfl]
    walk_at "ex"
    refine rc_min2T ?_
    exact ⟨rfl, rfl⟩
  rw [fm_some, show (prices.map fun p => D.int (vol B p)) = (prices.map (vol B)).map .int by rw [List.map_map]; rfl]
  refine wa_nil ?_
  refine rc_maxL (.lst _) (by rw [List.length_map]; decide) fun m m1 m2 => ?_
  have hm : Most B m := by
    obtain ⟨p, hp, e⟩ := List.mem_map.mp m1
    exact ⟨⟨p, by rw [mem_ups] at hp; omega, e⟩, fun p p0 p1 => m2 _ (List.mem_map.mpr ⟨p, mem_ups.mpr (by omega), rfl⟩)⟩
  show WS _ _ _ _
  refine ws_seq ?_
  refine ws_if ?_
  walk_at "ex"
  by_cases z : m = 0
  · refine if_ye (decide_eq_true z) ?_
    refine ws_retN ?_
    subst z
    exact q none (.non hm)
  refine if_no (decide_eq_false z) ?_
  refine ws_next ?_
  show WS _ _ _ _
  refine ws_seq ?_
  refine ws_asg (by walk_at "px") ?_
  refine w_lcA2 (xs := prices) (x := fun p => .tup [.int (cnt B true p), .int (cnt B false p)]) (y := fun p => .int p) (f := fun p => if decide (vol B p = m) = true then some (.tup [.int (lft B p), .int p]) else none) (by walk_at "px") (by walk_at "px") (nameOk_none rfl) (nameOk_none rfl) ?_
  refine wi_list ?_
  walk_at "ex"
  refine ⟨rfl, rfl, by decide, fun p hp => ?_, ?_⟩
  · refine wt_test ?_
    walk_at "ex"
    refine rc_min2T ?_
    walk_at "ex"
    refine ⟨rfl, ?_⟩
    refine if_b (fun z => ?_) (fun z => if_neg (fun y => by rw [show decide (vol B p = m) = false from z] at y; cases y))
    rw [if_pos (show decide (vol B p = m) = true from z)]
    walk_at "ex"
    refine rd_ixT (xs := [.int (cnt B true p), .int (cnt B false p)]) (d := .int (cnt B true p)) rfl ?_
    walk_at "ex"
    refine rd_ixT (xs := [.int (cnt B true p), .int (cnt B false p)]) (d := .int (cnt B false p)) rfl ?_
    walk_at "ex"
    exact ⟨rfl, rfl⟩
  rw [fm_if]
  have lv : (at_ B m).length ≤ 99 := Nat.le_trans (List.length_filter_le ..) (by decide)
  have lv0 : 0 < (at_ B m).length := by
    obtain ⟨p, ⟨p0, p1⟩, e2⟩ := hm.at_
    exact List.length_pos_of_mem (show p ∈ at_ B m from List.mem_filter.mpr ⟨mem_ups.mpr (by omega), decide_eq_true e2⟩)
  show WS _ _ _ _
  refine ws_seq ?_
  refine ws_asg (by walk_at "px") ?_
  refine w_call ?_
  refine wa_cons ?_
  refine w_lcA2 (xs := at_ B m) (x := fun p => .int (lft B p)) (y := fun p => .int p) (f := fun p => some (.int ((lft B p).natAbs : Int))) (by walk_at "px") (by walk_at "px") (nameOk_none rfl) (nameOk_none rfl) ?_
  refine wi_list ?_
  walk_at "ex"
  refine ⟨rfl, rfl, by omega, fun p hp => ?_, ?_⟩
  · refine wt_yes ⟨rfl, ?_⟩
    rw [if_pos rfl]
    walk_at "ex"
    exact ⟨rfl, by rw [abs_nat]⟩
  rw [fm_some, show ((at_ B m).map fun p => D.int ((lft B p).natAbs : Int)) = ((at_ B m).map fun p => ((lft B p).natAbs : Int)).map .int by rw [List.map_map]; rfl]
  refine wa_nil ?_
  refine rc_minL (.lst _) (by rw [List.length_map]; exact lv0) fun f f1 f2 => ?_
  have hf : Least (lft B) (at_ B m) f := by
    obtain ⟨p, hp, e⟩ := List.mem_map.mp f1
    exact ⟨⟨p, hp, e⟩, fun p hp => f2 _ (List.mem_map.mpr ⟨p, hp, rfl⟩)⟩
  show WS _ _ _ _
  refine ws_seq ?_
  refine ws_asg (by walk_at "px") ?_
  refine w_lcA2 (xs := at_ B m) (x := fun p => .int (lft B p)) (y := fun p => .int p) (f := fun p => if decide (((lft B p).natAbs : Int) = f) = true then some (.tup [.int (lft B p), .int p]) else none) (by walk_at "px") (by walk_at "px") (nameOk_none rfl) (nameOk_none rfl) ?_
  refine wi_list ?_
  walk_at "ex"
  refine ⟨rfl, rfl, by omega, fun p hp => ?_, ?_⟩
  · refine wt_test ?_
    walk_at "ex"
    rw [abs_nat]
    refine ⟨rfl, ?_⟩
    refine if_b (fun z => ?_) (fun z => by rw [z]; rfl)
    rw [z]
    walk_at "ex"
    exact ⟨rfl, rfl⟩
  rw [fm_if]
  have eF : (at_ B m).filter (fun p => decide (((lft B p).natAbs : Int) = f)) = fit (lft B) (at_ B m) f := rfl
  rw [eF]
  have asc : (fit (lft B) (at_ B m) f).Pairwise (· < ·) := List.Pairwise.filter _ (List.Pairwise.filter _ ups_lt)
  have lf0 : 0 < (fit (lft B) (at_ B m) f).length := by
    obtain ⟨p, hp, e⟩ := hf.at_
    exact List.length_pos_of_mem (List.mem_filter.mpr ⟨hp, decide_eq_true e⟩)
  have lf : (fit (lft B) (at_ B m) f).length ≤ 99 := Nat.le_trans (List.length_filter_le ..) lv
  have q1 := fun p hp => q (some (p, m)) (.some hm z hf hp)
  show WS _ _ _ _
  refine ws_seq ?_
  refine ws_if ?_
  walk_at "ex"
  have each : ∀ p ∈ fit (lft B) (at_ B m) f, ((lft B p).natAbs : Int) = f := fun p hp => of_decide_eq_true (List.mem_filter.mp hp).2
  by_cases z0 : f = 0
  · refine if_ye (decide_eq_true z0) ?_
    have hb : (fit (lft B) (at_ B m) f).filter (fun p => decide (0 < lft B p)) = [] := List.filter_eq_nil_iff.mpr fun p hp => by
      have := each p hp
      rw [decide_eq_true_eq]
      omega
    have hs : (fit (lft B) (at_ B m) f).filter (fun p => decide (lft B p < 0)) = [] := List.filter_eq_nil_iff.mpr fun p hp => by
      have := each p hp
      rw [decide_eq_true_eq]
      omega
    refine ws_ret ?_
    walk_at "ex"
    refine w_lcA2 (xs := fit (lft B) (at_ B m) f) (x := fun p => .int (lft B p)) (y := fun p => .int p) (f := fun p => some (twoD (((p - t).natAbs : Int), p))) (by walk_at "px") (by walk_at "px") (nameOk_none rfl) (nameOk_none rfl) ?_
    refine wi_list ?_
    walk_at "ex"
    refine ⟨rfl, rfl, by omega, fun p hp => ?_, ?_⟩
    · refine wt_yes ⟨rfl, ?_⟩
      rw [if_pos rfl]
      walk_at "ex"
      exact ⟨rfl, by rw [abs_nat]; rfl⟩
    rw [fm_some, show ((fit (lft B) (at_ B m) f).map fun p => twoD (((p - t).natAbs : Int), p)) = ((fit (lft B) (at_ B m) f).map fun p => (((p - t).natAbs : Int), p)).map twoD by rw [List.map_map]; rfl]
    refine wa_nil ?_
    refine rc_srt2 (.lst _) fun qs pm srt => ?_
    obtain ⟨p, r, rfl, near⟩ := head_two lf0 pm srt
    walk_at "ex"
    refine rd_ixL (.lst _) (d := twoD (((p - t).natAbs : Int), p)) (atI_nat (j := 0) rfl) ?_
    walk_at "ex"
    refine rd_ixT (xs := [.int ((p - t).natAbs : Int), .int p]) (d := .int p) rfl ?_
    walk_at "ex"
    exact q1 p (.near hb hs near)
  refine if_no (decide_eq_false z0) ?_
  refine ws_next ?_
  show WS _ _ _ _
  refine ws_seq ?_
  refine ws_asg (by walk_at "px") ?_
  refine w_lcA2 (xs := fit (lft B) (at_ B m) f) (x := fun p => .int (lft B p)) (y := fun p => .int p) (f := fun p => if decide (0 < lft B p) = true then some (.int p) else none) (by walk_at "px") (by walk_at "px") (nameOk_none rfl) (nameOk_none rfl) ?_
  refine wi_list ?_
  walk_at "ex"
  refine ⟨rfl, rfl, by omega, fun p hp => ?_, ?_⟩
  · refine wt_test ?_
    walk_at "ex"
    refine ⟨rfl, ?_⟩
    refine if_b (fun z => ?_) (fun z => if_neg (fun y => by rw [show decide (0 < lft B p) = false from z] at y; cases y))
    rw [if_pos (show decide (0 < lft B p) = true from z)]
    walk_at "ex"
    exact ⟨rfl, rfl⟩
  show WS _ _ _ _
  refine ws_seq ?_
  refine ws_asg (by walk_at "px") ?_
  refine w_lcA2 (xs := fit (lft B) (at_ B m) f) (x := fun p => .int (lft B p)) (y := fun p => .int p) (f := fun p => if decide (lft B p < 0) = true then some (.int p) else none) (by walk_at "px") (by walk_at "px") (nameOk_none rfl) (nameOk_none rfl) ?_
  refine wi_list ?_
  walk_at "ex"
  refine ⟨rfl, rfl, by omega, fun p hp => ?_, ?_⟩
  · refine wt_test ?_
    walk_at "ex"
    refine ⟨rfl, ?_⟩
    refine if_b (fun z => ?_) (fun z => by rw [z]; rfl)
    rw [z]
    walk_at "ex"
    exact ⟨rfl, rfl⟩
  rw [fm_if, fm_if]
  obtain ⟨a, n, hV⟩ := at_ups am hm
  have adj := @next_to (lft B) (at_ B m) f a n hV (fun p q h => lft_down am h) hf
  have some1 : ¬ (((fit (lft B) (at_ B m) f).filter fun p => decide (0 < lft B p)) = [] ∧ ((fit (lft B) (at_ B m) f).filter fun p => decide (lft B p < 0)) = []) := fun ⟨e1, e2⟩ => by
    obtain ⟨p, hp⟩ : ∃ p, p ∈ fit (lft B) (at_ B m) f := by
      cases e : fit (lft B) (at_ B m) f with
      | nil => rw [e] at lf0; cases lf0
      | cons p r => exact ⟨p, List.mem_cons_self⟩
    have h := each p hp
    rcases (show 0 < lft B p ∨ lft B p < 0 by omega) with y | y
    · have : p ∈ (fit (lft B) (at_ B m) f).filter fun p => decide (0 < lft B p) := List.mem_filter.mpr ⟨hp, decide_eq_true y⟩
      rw [e1] at this
      cases this
    · have : p ∈ (fit (lft B) (at_ B m) f).filter fun p => decide (lft B p < 0) := List.mem_filter.mpr ⟨hp, decide_eq_true y⟩
      rw [e2] at this
      cases this
  generalize hb : ((fit (lft B) (at_ B m) f).filter fun p => decide (0 < lft B p)) = bs at adj some1
  generalize hs : ((fit (lft B) (at_ B m) f).filter fun p => decide (lft B p < 0)) = ss at adj some1
  show WS _ _ _ _
  refine ws_seq ?_
  refine ws_if ?_
  walk_at "ex"
  refine rd_eqNil (.lst _) ?_
  walk_at "ex"
  rcases snoc_or bs with rfl | ⟨r, b, rfl⟩
  · cases ss with
    | nil => exact absurd ⟨rfl, rfl⟩ some1
    | cons s l =>
      refine if_ye rfl ?_
      refine ws_ret ?_
      walk_at "ex"
      refine rs_list (.lst _) ?_
      walk_at "ex"
      refine rs_list (.lst _) ?_
      rw [cutD_to (by decide) (by rw [List.length_map, List.length_cons]; omega)]
      refine rd_addL (.lst _) (.lst _) (ys := [D.int s]) (by show 0 + 1 ≤ 100000; decide) ?_
      walk_at "ex"
      refine rd_ixL (.lst _) (d := .int s) (atI_nat (j := 0) rfl) ?_
      walk_at "ex"
      exact q1 s (.sell hb hs)
  · refine if_no (by rw [List.map_append]; simp) ?_
    walk_at "ex"
    refine rd_eqNil (.lst _) ?_
    walk_at "ex"
    cases ss with
    | nil =>
      refine if_ye rfl ?_
      refine ws_ret ?_
      walk_at "ex"
      refine rs_list (.lst _) ?_
      rw [List.map_append, show [b].map D.int = [.int b] from rfl, cut_tail]
      walk_at "ex"
      refine rs_list (.lst _) ?_
      refine rd_addL (xs := [D.int b]) (ys := []) (.lst _) (.lst _) (by show 1 + 0 ≤ 100000; decide) ?_
      walk_at "ex"
      refine rd_ixL (.lst _) (d := .int b) (atI_nat (j := 0) rfl) ?_
      walk_at "ex"
      exact q1 b (.buy hb hs)
    | cons s l =>
      refine if_no rfl ?_
      refine ws_next ?_
      show WS _ _ _ _
      refine ws_ret ?_
      walk_at "ex"
      have at1 : atI ((r ++ [b]).map D.int) (-1) = some (.int b) := by
        rw [List.map_append]
        exact atI_last _ _
      refine rd_ixL (.lst _) (d := .int b) at1 ?_
      walk_at "ex"
      have nx := adj rfl rfl
      have fin := q1 _ (.both (t := t) hb hs)
      refine if_dec (fun w => ?_) (fun w => ?_)
      · rw [if_neg (by omega)] at fin
        walk_at "ex"
        refine rd_ixL (.lst _) (d := .int b) at1 ?_
        walk_at "ex"
        exact fin
      · rw [if_pos (by omega)] at fin
        walk_at "ex"
        refine rd_ixL (.lst _) (d := .int s) (atI_nat (j := 0) rfl) ?_
        walk_at "ex"
        exact fin
def c_Llaw_price : CD := ⟨fun ds k => ∃ r, ds = [clrD r] ∧ k (.ret (.sh (prcD r))), by
  rintro ds k k' h ⟨r, e, q⟩
  exact ⟨r, e, h _ q⟩⟩
theorem sc_Llaw_price : FnScope ["found"] ["found"] (defScope s_Llaw_price) := ⟨rfl, rfl, rfl, by decide +kernel, rfl, by decide +kernel, by decide +kernel⟩
theorem ok_Llaw_price (T : Tx K mg) (tb : ∀ p ∈ csOf K, LamX.TabB bs mg p.1 p.2) : ∃ fd, DC.FnG prg wd K mg bs (L2.CX prg wd) 1 (He.ga K "_law_price") fd ["found"] (toSp K 1 c_Llaw_price.con) ∧ L2.Binds K fd ["found"] [] ∧ PySem.W.keepIn K (.ref (He.ga K "_law_price")) = true := by
  obtain ⟨fd, F0⟩ := T.d_Llaw_price
  refine ⟨fd, def_D (N := ["found"]) F0 sc_Llaw_price rfl ?_, F0.bindsN fun _ _ _ _ _ _ us hl => match us, hl with | [_], _ => rfl, F0.kp⟩
  intro cdv A fr s H E ds kk gd room hc hl
  have hu := room.units
  have hu7 := room70 room
  have sc := sc_Llaw_price
  refine ⟨_, (pss_one (ps_ret (pe_ifExp (pt_cmpR op_isN (pv 0) pe_non (nomark _)) pe_non (pe_ix ix_seq (pv 0) pe_int (fun _ _ => rfl))))), ?_⟩
  try dsimp only [L2.cxOf]
  obtain ⟨r, rfl, q⟩ := hc
  cases r with
  | none =>
    refine ws_ret ?_
    walk_at "ex"
    refine if_ye rfl ?_
    walk_at "ex"
    exact q
  | some x =>
    obtain ⟨p, m⟩ := x
    refine ws_ret ?_
    walk_at "ex"
    refine if_no rfl ?_
    walk_at "ex"
    refine rd_ixT (xs := [.int p, .int m]) (d := .int p) rfl ?_
    exact q
end K20

namespace K20
open PySem PySem.Spec PyProof.Rows L2 DL
variable {prg : Program} {wd : World} {K : PySem.W.Frag} {mg : Str → Option Value} {bs : Heap}
local macro_rules | `(tactic| walk_at "px") => `(tactic| first | exact List.not_mem_nil | (show _ ∉ ([0] : List Nat); decide) | (show _ ∉ ([] : List Nat); decide) | fail)
local macro_rules | `(tactic| walk_at "s") => `(tactic| with_reducible first
  | refine ws_seq ?_ | refine ws_if ?_ | refine ws_next ?_ | refine ws_ret ?_ | refine ws_retN ?_ | refine ws_asg (by walk_at "px") ?_ | refine ws_par (by walk_at "px") (by walk_at "px") ?_
  | refine w_var (by with_unfolding_all rfl) ?_ | refine w_int ?_ | refine w_bl ?_ | refine w_non ?_ | refine w_str ?_ | refine w_dnew ?_ | refine w_ty ?_
  | refine w_st (by with_unfolding_all rfl) (.inl ⟨rfl, rfl⟩) ?_ | refine w_st (by with_unfolding_all rfl) (.inr ⟨rfl, rfl⟩) ?_ | refine w_op ?_ | refine w_un ?_ | refine w_fld ?_ | refine w_xf ?_ | refine wt_test ?_ | refine wt_B ?_ | refine wt_yes ?_ | refine wt_and ?_ | refine wt_or ?_ | refine wt_not ?_ | refine w_andV ?_ | refine w_orV ?_ | refine w_notV ?_ | refine w_ifE ?_ | refine w_chain ?_
  | refine wa_nil ?_ | refine wa_cons ?_ | refine w_tup ?_ | refine w_lst ?_ | refine w_slice ?_ | refine w_dget ?_ | refine w_dget2 ?_ | refine w_dget1 ?_ | refine wp_no ?_ | refine wp_int ?_
  | refine w_cd repL_nil ?_ | refine w_md repL_nil ?_ | refine w_mk repL_nil ?_ | refine w_co repL_nil ⟨_, by with_unfolding_all rfl⟩ ?_ | refine w_call ?_
  | refine rd_add ?_ | refine rd_sub ?_ | refine rd_lt ?_ | refine rd_le ?_ | refine rd_gt ?_ | refine rd_ge ?_ | refine rd_ltS ?_ | refine rd_leS ?_ | refine rd_gtS ?_ | refine rd_geS ?_ | refine rd_isN ?_ | refine rd_notN ?_ | refine rd_eqAI ?_ | refine rd_neAI ?_ | refine rd_eqAS ?_ | refine rd_neAS ?_
  | refine wg_tup rfl ?_ | refine wgs_cons ?_ | refine wg_name (by walk_at "px") (by simp) ?_ | refine wgs_nil ?_
  | refine ru_neg ?_ | refine ⟨(by show List.length _ ≤ 100000; simp; try omega), ?_⟩
  | refine rc_abs ?_ | refine rc_int1 ?_ | refine rc_min2 ?_ | refine rc_max2 ?_
  | refine ⟨_, rfl, ?_⟩ | fail)
local macro_rules | `(tactic| walk_at "go") => `(tactic| repeat' walk_at "s")
local macro_rules | `(tactic| walk_at "args") => `(tactic| repeat' (with_reducible first | refine wa_cons ?_ | refine wa_nil ?_ | refine w_int ?_ | refine w_bl ?_ | refine w_non ?_ | refine w_str ?_ | refine w_dnew ?_ | refine w_tup ?_ | refine w_lst ?_ | refine w_un ?_ | refine ru_neg ?_ | refine w_var (by with_unfolding_all rfl) ?_ | refine ⟨(by show List.length _ ≤ 100000; simp; try omega), ?_⟩ | fail))
local macro_rules | `(tactic| walk_at "e") => `(tactic| with_reducible first
  | refine w_var (by with_unfolding_all rfl) ?_ | refine w_int ?_ | refine w_bl ?_ | refine w_non ?_ | refine w_str ?_ | refine w_dnew ?_ | refine w_ty ?_
  | refine w_st (by with_unfolding_all rfl) (.inl ⟨rfl, rfl⟩) ?_ | refine w_st (by with_unfolding_all rfl) (.inr ⟨rfl, rfl⟩) ?_ | refine w_op ?_ | refine w_un ?_ | refine w_fld ?_ | refine w_xf ?_ | refine wt_test ?_ | refine wt_B ?_ | refine wt_yes ?_ | refine wt_and ?_ | refine wt_or ?_ | refine wt_not ?_ | refine w_andV ?_ | refine w_orV ?_ | refine w_notV ?_ | refine w_ifE ?_ | refine w_chain ?_
  | refine wa_nil ?_ | refine wa_cons ?_ | refine w_tup ?_ | refine w_lst ?_ | refine w_slice ?_ | refine w_dget ?_ | refine w_dget2 ?_ | refine w_dget1 ?_ | refine wp_no ?_ | refine wp_int ?_
  | refine w_cd repL_nil ?_ | refine w_md repL_nil ?_ | refine w_mk repL_nil ?_ | refine w_co repL_nil ⟨_, by with_unfolding_all rfl⟩ ?_ | refine w_call ?_
  | refine rd_add ?_ | refine rd_sub ?_ | refine rd_lt ?_ | refine rd_le ?_ | refine rd_gt ?_ | refine rd_ge ?_ | refine rd_ltS ?_ | refine rd_leS ?_ | refine rd_gtS ?_ | refine rd_geS ?_ | refine rd_isN ?_ | refine rd_notN ?_ | refine rd_eqAI ?_ | refine rd_neAI ?_ | refine rd_eqAS ?_ | refine rd_neAS ?_
  | refine wg_tup rfl ?_ | refine wgs_cons ?_ | refine wg_name (by walk_at "px") (by simp) ?_ | refine wgs_nil ?_
  | refine ru_neg ?_ | refine ⟨(by show List.length _ ≤ 100000; simp; try omega), ?_⟩
  | refine rc_abs ?_ | refine rc_int1 ?_ | refine rc_min2 ?_ | refine rc_max2 ?_
  | refine ⟨_, rfl, ?_⟩ | fail)
local macro_rules | `(tactic| walk_at "ex") => `(tactic| repeat' walk_at "e")
local macro_rules | `(tactic| walk_at "a_") => `(tactic| (show WS _ _ _ _; (with_reducible try refine ws_seq ?_); with_reducible refine ws_asg (by walk_at "px") ?_; walk_at "ex"))
local macro_rules | `(tactic| walk_at "i_") => `(tactic| (show WS _ _ _ _; (with_reducible try refine ws_seq ?_); with_reducible refine ws_if ?_; walk_at "ex"))
local macro_rules | `(tactic| walk_at "d_") => `(tactic| (show WS _ _ _ _; (with_reducible try refine ws_seq ?_); with_reducible refine ws_drop ?_; walk_at "ex"))
local macro_rules | `(tactic| walk_at "r_") => `(tactic| (show WS _ _ _ _; with_reducible refine ws_ret ?_; walk_at "ex"))
local macro_rules | `(tactic| walk_at "v_") => `(tactic| refine w_var (by with_unfolding_all rfl) ?_)
open CLR

theorem ws_mid {G : Gx} {t u : TS} {ρ : DL.Env} {P : Post} (Mid : DL.Env → Prop) (h : WS G t ρ { P with nx := Mid }) (h2 : ∀ ρ', Mid ρ' → WS G u ρ' P) : WS G (tSeq t u) ρ P := ws_seq fun w σ D o e m => h w σ D o e ⟨fun w' σ' ρ' hm l o' => m.nx w' σ' ρ' (h2 ρ' hm) l o', m.rt, m.bk, m.ct⟩
theorem bits_mono {x y : Int} (h0 : 0 ≤ x) (h1 : x ≤ y) : Builtin.Int.intBits x ≤ Builtin.Int.intBits y := by
  unfold Builtin.Int.intBits
  by_cases z : x = 0
  · subst z
    rw [if_pos (by rfl)]
    exact Nat.zero_le _
  · rw [if_neg (by simpa using z), if_neg (by simpa using (show y ≠ 0 by omega))]
    have l : x.natAbs ≤ y.natAbs := by omega
    have n : x.natAbs ≠ 0 := by omega
    exact Nat.succ_le_succ ((Nat.le_log2 (by omega)).mpr (Nat.le_trans (Nat.log2_self_le n) l))
theorem bits_le {x : Int} {n : Nat} (h0 : 0 ≤ x) (h1 : x < 2 ^ n) (hn : 0 < n) : Builtin.Int.intBits x ≤ n := by
  unfold Builtin.Int.intBits
  split
  · exact Nat.zero_le _
  · have z : x.natAbs.log2 < n := PySem.Flt.log2_lt_of hn (by
      have e : ((x.natAbs : Nat) : Int) < ((2 ^ n : Nat) : Int) := by
        rw [show ((2 ^ n : Nat) : Int) = 2 ^ n by norm_cast]
        omega
      exact_mod_cast e)
    omega
theorem five {x : Int} (h0 : 0 ≤ x) (h1 : x < 2 ^ 100) : CPowW x 5 := by
  have b := bits_le (n := 100) h0 h1 (by decide)
  refine ⟨by decide, ?_⟩
  omega
theorem cell_at {cs : List Int} {i : Int} (h0 : 0 ≤ i) (h1 : i < cs.length) : ∃ c, atI (cs.map D.int) i = some (.int c) := by
  obtain ⟨k, rfl⟩ : ∃ k : Nat, i = (k : Int) := ⟨i.toNat, by omega⟩
  have hk : k < cs.length := by omega
  exact ⟨cs[k], atI_nat (by rw [List.getElem?_map, List.getElem?_eq_getElem hk]; rfl)⟩
/-- a draw: below size, the state one older -/
def c_Llaw_draw : CO := ⟨fun m ds k => ∃ n size, m = .ex n ∧ ds = [.int size] ∧ 0 < size ∧ size < 2 ^ 60 ∧ n ≤ 1000000 ∧ ∀ i : Int, 0 ≤ i → i < size → k (.ret (.sh (.int i))) (.ex (n + 1)), by
  rintro m ds k k' h ⟨n, size, e1, e2, g1, g2, g3, q⟩
  exact ⟨n, size, e1, e2, g1, g2, g3, fun i a b => h _ _ (q i a b)⟩⟩
theorem sc_Llaw_draw : FnScope ["state", "size", "cell", "one", "digit"] ["state", "size"] (defScope s_Llaw_draw) := ⟨rfl, rfl, rfl, by decide +kernel, rfl, by decide +kernel, by decide +kernel⟩
theorem ok_Llaw_draw (T : Tx K mg) (tb : ∀ p ∈ csOf K, LamX.TabB bs mg p.1 p.2) : ∃ fd, DC.FnG prg wd K mg bs (L2.CX prg wd) 1 (He.ga K "_law_draw") fd ["state", "size"] (toSp K 2 c_Llaw_draw.con) ∧ L2.Binds K fd ["state", "size"] [] ∧ PySem.W.keepIn K (.ref (He.ga K "_law_draw")) = true := by
  obtain ⟨fd, F0⟩ := T.d_Llaw_draw
  refine ⟨fd, def_O (N := ["state", "size", "cell", "one", "digit"]) F0 sc_Llaw_draw rfl ?_, F0.bindsN fun _ _ _ _ _ _ us hl => match us, hl with | [_, _], _ => rfl, F0.kp⟩
  intro cdv A fr s H E v0 m0 ds kk gd room hc hl
  have hu := room.units
  have hu7 := room70 room
  have sc := sc_Llaw_draw
  refine ⟨_, (pss_cons (ps_augS (pv 0) pe_int DL.get_list pe_int ip_add set_list)
  (pss_cons (ps_while (passes_of rfl) (PW.pt (pw_and (pt_cmpR (op_neA hu) (pe_ix ix_seq (pv 0) pe_int (fun _ _ => rfl)) (pe_lst pa_nil) (nomark _)) (pw_and1 (pt_cmpR (op_eqA hu) (pe_ix ix_seq (pe_ix ix_seq (pv 0) pe_int (fun _ _ => rfl)) pe_int (fun _ _ => rfl)) pe_int (nomark _))))) (pss_one (ps_asg (pe_slice o_sl (pe_ix ix_seq (pv 0) pe_int (fun _ _ => rfl)) (po_some pe_int) po_none) (pg_sub (pv 0) pe_int set_list))))
  (pss_cons (ps_if (pt_cmpR (op_neA hu) (pe_ix ix_seq (pv 0) pe_int (fun _ _ => rfl)) (pe_lst pa_nil) (nomark _)) (pss_cons (ps_set (i := 4) sc.nd rfl (Or.inl rfl) (pe_op op_mod (pe_callTy call_int1 (by rfl) T.n_int (by decide +kernel) (pa_cons (pe_ix ix_seq (pe_ix ix_seq (pv 0) pe_int (fun _ _ => rfl)) pe_int (fun _ _ => rfl)) pa_nil)) (pv 1)))
    (pss_cons (ps_asg (pe_op op_fdivW (pe_ix ix_seq (pe_ix ix_seq (pv 0) pe_int (fun _ _ => rfl)) pe_int (fun _ _ => rfl)) (pv 1)) (pg_sub (pe_ix ix_seq (pv 0) pe_int (fun _ _ => rfl)) pe_int set_list))
    (pss_one (ps_ret (pv 4))))) pss_nil)
  (pss_cons (ps_set (i := 2) sc.nd rfl (Or.inl rfl) (pe_op op_mod (pe_callTy call_int1 (by rfl) T.n_int (by decide +kernel) (pa_cons (pe_ix ix_seq (pe_ix ix_seq (pv 0) pe_int (fun _ _ => rfl)) (pe_op op_mod (pe_callTy call_int1 (by rfl) T.n_int (by decide +kernel) (pa_cons (pe_ix ix_seq (pv 0) pe_int (fun _ _ => rfl)) pa_nil)) (pe_callB o_lenA (by rfl) T.n_len (by decide +kernel) (pa_cons (pe_ix ix_seq (pv 0) pe_int (fun _ _ => rfl)) pa_nil))) (fun _ _ => rfl)) pa_nil)) pe_int))
  (pss_cons (ps_set (i := 3) sc.nd rfl (Or.inl rfl) (pe_op op_mod (pe_callTy call_int1 (by rfl) T.n_int (by decide +kernel) (pa_cons (pe_op o_pow (pe_op o_add (pe_op o_add (pe_op o_mul (pv 2) pe_int) (pe_op o_mul (pe_ix ix_seq (pv 0) pe_int (fun _ _ => rfl)) pe_int)) pe_int) pe_int) pa_nil)) pe_int))
  (pss_one (ps_ret (pe_op op_mod (pe_op op_fdivW (pe_op op_mod (pe_callTy call_int1 (by rfl) T.n_int (by decide +kernel) (pa_cons (pe_op o_pow (pe_op o_add (pe_op o_add (pe_op o_mul (pv 3) pe_int) (pe_op o_mul (pe_ix ix_seq (pv 0) pe_int (fun _ _ => rfl)) pe_int)) pe_int) pe_int) pa_nil)) pe_int) pe_int) (pv 1))))))))), ?_⟩
  try dsimp only [L2.cxOf]
  obtain ⟨n, size, rfl, rfl, g1, g2, g3, q⟩ := hc
  refine ws_open (i := 0) rfl fun m hx => ?_
  obtain ⟨bl, cs, k, rfl, k0, kn, cne, cl, bl63, b0, bb, cb⟩ := hx.st
  refine ws_seq ?_
  refine ws_stInc rfl ?_
  show WS _ _ _ _
  refine ws_mid (fun ρ => ∃ bl' : List Int, bl'.length ≤ 63 ∧ (∀ b ∈ bl', 0 ≤ b) ∧ (∀ b ∈ bl', Builtin.Int.intBits b ≤ 1048576) ∧ ρ = [some (StM bl' cs (k + 1)), some (.sh (.int size)), none, none, none]) ?_ ?_
  · refine ws_while (fun l ρ => ∃ bl' : List Int, bl'.length = l ∧ l ≤ 63 ∧ (∀ b ∈ bl', 0 ≤ b) ∧ (∀ b ∈ bl', Builtin.Int.intBits b ≤ 1048576) ∧ ρ = [some (StM bl' cs (k + 1)), some (.sh (.int size)), none, none, none]) bl.length ⟨bl, rfl, bl63, b0, bb, rfl⟩ ?_
    rintro l ρ ⟨bl', rfl, l63, b0', bb', rfl⟩
    refine wt_and ?_
    refine wt_test ?_
    refine w_stNeA rfl ?_
    refine ⟨_, rfl, ?_⟩
    cases bl' with
    | nil => exact ⟨[], by decide, b0', bb', rfl⟩
    | cons b r =>
      rw [if_pos (show (!(b :: r).isEmpty) = true from rfl)]
      refine wt_test ?_
      refine w_op ?_
      refine w_st00 rfl ?_
      walk_at "go"
      refine if_dec (fun z => ?_) (fun z => ?_)
      · refine ws_stTail rfl ?_
        exact ⟨r.length, by rw [List.length_cons]; omega, r, rfl, by rw [List.length_cons] at l63; omega, fun x h => b0' x (List.mem_cons_of_mem _ h), fun x h => bb' x (List.mem_cons_of_mem _ h), rfl⟩
      · exact ⟨b :: r, l63, b0', bb', rfl⟩
  rintro ρ ⟨bl', l63, b0', bb', rfl⟩
  refine ws_seq ?_
  refine ws_if ?_
  refine wt_test ?_
  refine w_stNeA rfl ?_
  refine ⟨_, rfl, ?_⟩
  cases bl' with
  | cons b r =>
    rw [if_pos (show (!(b :: r).isEmpty) = true from rfl)]
    have hb0 := b0' b List.mem_cons_self
    refine ws_seq ?_
    refine ws_asg (by walk_at "px") ?_
    refine w_op ?_
    refine w_call ?_
    refine wa_cons ?_
    refine w_st00 rfl ?_
    walk_at "go"
    refine rd_mod g1 ?_
    walk_at "go"
    refine ws_stHead (b := b) (bl := r) (cs := cs) (k := k + 1) ⟨_, rfl⟩ ?_
    refine w_op ?_
    refine w_st00 rfl ?_
    walk_at "go"
    refine rd_div (wide_div (b := 61) g1 (by omega) (by decide) (by decide)) ?_
    refine ⟨_, rfl, rfl, ?_⟩
    show WS _ _ _ _
    refine ws_ret ?_
    refine w_seal (i := 0) (n := n + 1) ?_
    walk_at "go"
    have q0 : 0 ≤ b / size := Int.ediv_nonneg hb0 (by omega)
    have q1 : b / size ≤ b := Int.ediv_le_self _ hb0
    refine ⟨⟨b / size :: r, cs, k + 1, rfl, by omega, by omega, cne, cl, l63, ?_, ?_, cb⟩, ?_⟩
    · intro x h
      rcases List.mem_cons.mp h with h | h
      · subst h
        exact q0
      · exact b0' x (List.mem_cons_of_mem _ h)
    · intro x h
      rcases List.mem_cons.mp h with h | h
      · subst h
        exact Nat.le_trans (bits_mono q0 q1) (bb' b List.mem_cons_self)
      · exact bb' x (List.mem_cons_of_mem _ h)
    · exact ⟨_, rfl, q _ (Int.emod_nonneg _ (by omega)) (Int.emod_lt_of_pos _ g1)⟩
  | nil =>
    rw [if_neg (show ¬ (!([] : List Int).isEmpty) = true by decide)]
    walk_at "go"
    have c0 : 0 < cs.length := Nat.pos_of_ne_zero fun z => cne (List.eq_nil_of_length_eq_zero z)
    refine rc_lenAL (.lst _) ?_
    refine rd_mod (by rw [List.length_map]; omega) ?_
    rw [List.length_map]
    obtain ⟨c, hc⟩ := cell_at (cs := cs) (i := (k + 1) % (cs.length : Int)) (Int.emod_nonneg _ (by omega)) (Int.emod_lt_of_pos _ (by omega))
    refine rd_ixL (.lst _) hc ?_
    walk_at "go"
    refine rd_mod (by decide) ?_
    have e0 : 0 ≤ c % 2147483647 := Int.emod_nonneg _ (by decide)
    have e1 : c % 2147483647 < 2147483647 := Int.emod_lt_of_pos _ (by decide)
    generalize c % 2147483647 = cell at e0 e1
    walk_at "go"
    refine rd_mul (cmulW (a := 40) (b := 40) (by omega) (by decide) (by decide)) ?_
    walk_at "go"
    refine rd_mul (cmulW (a := 40) (b := 40) (by omega) (by decide) (by decide)) ?_
    walk_at "go"
    refine rd_pow (five (by omega) (by omega)) ?_
    walk_at "go"
    refine rd_mod (by decide) ?_
    generalize hone : (cell * 39373 + (k + 1) * 40692 + 7) ^ (5 : Int).toNat % 2147483647 = one
    have o0 : 0 ≤ one := by rw [← hone]; exact Int.emod_nonneg _ (by decide)
    have o1 : one < 2147483647 := by rw [← hone]; exact Int.emod_lt_of_pos _ (by decide)
    clear hone
    refine ws_ret ?_
    refine w_seal (i := 0) (n := n + 1) ?_
    walk_at "go"
    refine rd_mul (cmulW (a := 40) (b := 40) (by omega) (by decide) (by decide)) ?_
    walk_at "go"
    refine rd_mul (cmulW (a := 40) (b := 40) (by omega) (by decide) (by decide)) ?_
    walk_at "go"
    refine rd_pow (five (by omega) (by omega)) ?_
    walk_at "go"
    refine rd_mod (by decide) ?_
    walk_at "go"
    refine rd_div (wide_div (b := 5) (by decide) (by decide) (by decide) (by decide)) ?_
    walk_at "go"
    refine rd_mod g1 ?_
    exact ⟨_, rfl, ⟨[], cs, k + 1, rfl, by omega, by omega, cne, cl, by decide, b0', bb', cb⟩, _, rfl, q _ (Int.emod_nonneg _ (by omega)) (Int.emod_lt_of_pos _ g1)⟩
theorem intBits_neg (c : Int) : Builtin.Int.intBits (-c) = Builtin.Int.intBits c := by
  unfold Builtin.Int.intBits
  rw [Int.natAbs_neg]
  by_cases z : c = 0
  · subst z
    rfl
  · have z1 : (c == 0) = false := beq_eq_false_iff_ne.mpr z
    have z2 : (-c == 0) = false := beq_eq_false_iff_ne.mpr (by omega)
    rw [z1, z2]
def c_Llaw_start : CD := ⟨fun ds k => ∃ ns : List Int, ds = [.rol (ns.map .int)] ∧ ns.length ≤ 63 ∧ (∀ z ∈ ns, Builtin.Int.intBits z ≤ 1048576) ∧ k (.ret (.ex 0)), by
  rintro ds k k' h ⟨ns, e, g1, g2, q⟩
  exact ⟨ns, e, g1, g2, h _ q⟩⟩
theorem sc_Llaw_start : FnScope ["script", "cell"] ["script"] (defScope s_Llaw_start) := ⟨rfl, rfl, rfl, by decide +kernel, rfl, by decide +kernel, by decide +kernel⟩
theorem ok_Llaw_start (T : Tx K mg) (tb : ∀ p ∈ csOf K, LamX.TabB bs mg p.1 p.2) : ∃ fd, DC.FnG prg wd K mg bs (L2.CX prg wd) 1 (He.ga K "_law_start") fd ["script"] (toSp K 1 c_Llaw_start.con) ∧ L2.Binds K fd ["script"] [] ∧ PySem.W.keepIn K (.ref (He.ga K "_law_start")) = true := by
  obtain ⟨fd, F0⟩ := T.d_Llaw_start
  refine ⟨fd, def_D (N := ["script", "cell"]) F0 sc_Llaw_start rfl ?_, F0.bindsN fun _ _ _ _ _ _ us hl => match us, hl with | [_], _ => rfl, F0.kp⟩
  intro cdv A fr s H E ds kk gd room hc hl
  have hu := room.units
  have hu7 := room70 room
  have sc := sc_Llaw_start
  refine ⟨_, (pss_one (ps_ret (pe_lst (pa_cons (pe_lc (own := [("cell", 1)]) (g := (gName 1))  (by rfl) sc.nd (pi_list (pv 0)) (blkOk_by (own := [("cell", 1)]) (N := ["script", "cell"]) (sc := defScope s_Llaw_start) (by decide +kernel)) (fun _ _ _ _ _ => (pg_name (i := 1) sc.nd rfl (Or.inl rfl))) (fun _ _ _ _ _ => (pts_one (pt_cmpR o_ge (pe_callB call_abs (by rfl) T.n_abs (by decide +kernel) (pa_cons (pv 1) pa_nil)) (pe_op o_pow pe_int pe_int) (nomark _)))) (fun _ _ _ _ _ => (pe_callB call_abs (by rfl) T.n_abs (by decide +kernel) (pa_cons (pv 1) pa_nil)))) (pa_cons (pe_op o_add (pe_callTy (o_listA rfl) (by rfl) T.n_list (by decide +kernel) (pa_cons (pv 0) pa_nil)) (pe_lst (pa_cons pe_int pa_nil))) (pa_cons pe_int pa_nil)))))), ?_⟩
  try dsimp only [L2.cxOf]
  obtain ⟨ns, rfl, z1, z2, q⟩ := hc
  refine ws_retO ?_
  refine wo_ex (k := 0) ?_
  refine wo_lst1 ?_
  refine wo_lc (sl := [1]) (by intro i hi; cases hi) (by simp) ?_
  refine wi_rol ?_
  walk_at "go"
  refine ⟨by rw [List.length_map]; omega, fun i acc ρ => ∃ bl : List Int, acc = bl.map .int ∧ bl.length ≤ i ∧ (∀ b ∈ bl, 0 ≤ b ∧ Builtin.Int.intBits b ≤ 1048576) ∧ ρ = [some (.sh (.rol (ns.map .int))), none], ⟨[], rfl, Nat.le_refl _, (fun b h => by cases h), rfl⟩, ?_, ?_⟩
  · rintro i d acc ρ2 hd ⟨bl, rfl, hl, hb, rfl⟩
    rw [List.getElem?_map] at hd
    obtain ⟨c, hc1, hc2⟩ := Option.map_eq_some_iff.mp hd
    subst hc2
    have cb := z2 c (List.mem_of_getElem? hc1)
    walk_at "go"
    refine rd_pow ⟨by decide, by decide⟩ ?_
    walk_at "go"
    refine if_dec (fun big => ?_) (fun _ => ?_)
    · walk_at "go"
      refine ⟨bl ++ [if c < 0 then -c else c], ?_, ?_, ?_, rfl⟩
      · rw [List.map_append]
        rfl
      · rw [List.length_append]
        simp only [List.length_nil, List.length_cons]
        omega
      · intro b hb2
        rcases List.mem_append.mp hb2 with h | h
        · exact hb b h
        · obtain rfl : b = if c < 0 then -c else c := by simpa using h
          split
          · refine ⟨by omega, ?_⟩
            rw [intBits_neg]
            exact cb
          · exact ⟨by omega, cb⟩
    · exact ⟨bl, rfl, by omega, hb, rfl⟩
  · rintro acc ρ2 ⟨bl, rfl, hl, hb, rfl⟩
    rw [List.length_map] at hl
    walk_at "go"
    refine rc_listAL (.rol _) ?_
    walk_at "go"
    refine rd_addL (.lst _) (.lst _) (by rw [List.length_map]; simp only [List.length_cons, List.length_nil]; omega) ?_
    walk_at "go"
    refine ⟨by simp, ⟨bl, ns ++ [5], 0, ?_, by omega, by omega, by simp, ?_, by omega, fun b h => (hb b h).1, fun b h => (hb b h).2, ?_⟩, q⟩
    · rw [List.map_append, List.map_map]
      rfl
    · rw [List.length_append]
      simp only [List.length_nil, List.length_cons]
      omega
    · intro c h
      rcases (List.mem_append.mp h) with h | h
      · exact z2 c h
      · obtain rfl : c = 5 := by simpa using h
        decide +kernel
end K20

namespace CLR
open PySem L2 DL
/-- the letter of a turn -/
def letN (a t : Int) (j : Nat) : Nat := 97 + ((a + t * (j : Int)) % 26).toNat
def sgnS (a t : Int) (j : Nat) : Str := ⟨#[letN a t j]⟩
/-- the word of a turn -/
def wordS (st : Str) (a t pl : Int) (j : Nat) : Str :=
  if pl = 0 then sgnS a t j else if pl = 1 then st ++ sgnS a t j else if pl = 2 then sgnS a t j ++ st else if j % 2 = 0 then sgnS a t j else st ++ sgnS a t j
theorem let_inj {a t : Int} {j k : Nat} (ht : t = 1 ∨ t = 3 ∨ t = 5 ∨ t = 7 ∨ t = 9 ∨ t = 11) (hj : j < 26) (hk : k < 26) (e : letN a t j = letN a t k) : j = k := by
  unfold letN at e
  have h1 : 0 ≤ (a + t * (j : Int)) % 26 := Int.emod_nonneg _ (by decide)
  have h2 : 0 ≤ (a + t * (k : Int)) % 26 := Int.emod_nonneg _ (by decide)
  have e2 : (a + t * (j : Int)) % 26 = (a + t * (k : Int)) % 26 := by omega
  rcases ht with rfl | rfl | rfl | rfl | rfl | rfl <;> omega
theorem tl_sgn {a t : Int} {j : Nat} : TL.tl (sgnS a t j) = [letN a t j] := rfl
theorem tl_word {st : Str} {a t pl : Int} {j : Nat} : TL.tl (wordS st a t pl j) = TL.tl st ++ [letN a t j] ∨ TL.tl (wordS st a t pl j) = [letN a t j] ∨ TL.tl (wordS st a t pl j) = [letN a t j] ++ TL.tl st := by
  unfold wordS
  split
  · exact .inr (.inl rfl)
  · split
    · exact .inl (TL.tl_append _ _)
    · split
      · exact .inr (.inr (TL.tl_append _ _))
      · split
        · exact .inr (.inl rfl)
        · exact .inl (TL.tl_append _ _)
theorem word_inj {st : Str} {a t pl : Int} {j k : Nat} (ht : t = 1 ∨ t = 3 ∨ t = 5 ∨ t = 7 ∨ t = 9 ∨ t = 11) (hj : j < 26) (hk : k < 26) (e : wordS st a t pl j = wordS st a t pl k) : j = k := by
  refine let_inj (a := a) ht hj hk ?_
  have e2 := congrArg TL.tl e
  have ap : ∀ (x y : List Nat) (c d : Nat), x ++ [c] = y ++ [d] → c = d := fun x y c d h => by
    have := (List.append_inj' h rfl).2
    injection this
  unfold wordS at e2
  by_cases h0 : pl = 0
  · rw [if_pos h0, if_pos h0] at e2
    exact ap [] [] _ _ e2
  rw [if_neg h0, if_neg h0] at e2
  by_cases h1 : pl = 1
  · rw [if_pos h1, if_pos h1, TL.tl_append, TL.tl_append] at e2
    exact ap _ _ _ _ e2
  rw [if_neg h1, if_neg h1] at e2
  by_cases h2 : pl = 2
  · rw [if_pos h2, if_pos h2, TL.tl_append, TL.tl_append] at e2
    injection e2
  rw [if_neg h2, if_neg h2] at e2
  split at e2 <;> split at e2
  · exact ap [] [] _ _ e2
  · rw [TL.tl_append] at e2
    exact ap [] _ _ _ e2
  · rw [TL.tl_append] at e2
    exact ap _ [] _ _ e2
  · rw [TL.tl_append, TL.tl_append] at e2
    exact ap _ _ _ _ e2
theorem words_nd {st : Str} {a t pl : Int} {n : Nat} (ht : t = 1 ∨ t = 3 ∨ t = 5 ∨ t = 7 ∨ t = 9 ∨ t = 11) (hn : n ≤ 26) : ((List.range n).map (wordS st a t pl)).Nodup := by
  rw [List.Nodup, List.pairwise_map]
  refine List.Pairwise.imp_of_mem (fun {x y} hx hy h e => ?_) List.nodup_range
  have hx := List.mem_range.mp hx
  have hy := List.mem_range.mp hy
  exact h (word_inj ht (by omega) (by omega) e)
theorem let_az {a t : Int} {j : Nat} : 97 ≤ letN a t j ∧ letN a t j ≤ 122 := by
  unfold letN
  have h1 : 0 ≤ (a + t * (j : Int)) % 26 := Int.emod_nonneg _ (by decide)
  have h2 : (a + t * (j : Int)) % 26 < 26 := Int.emod_lt_of_pos _ (by decide)
  omega
theorem word_name {st : Str} {a t pl : Int} {j : Nat} (l : st.length ≤ 7) (az : ∀ c ∈ TL.tl st, 97 ≤ c ∧ c ≤ 122) : nameB (.str (wordS st a t pl j)) = true := by
  have key : ∀ x : Str, (1 ≤ (TL.tl x).length ∧ (TL.tl x).length ≤ 8) → (∀ c ∈ TL.tl x, 97 ≤ c ∧ c ≤ 122) → nameB (.str x) = true := fun x h1 h2 => by
    rw [← TL.len_tl] at h1
    show (decide (1 ≤ x.length ∧ x.length ≤ 8) && azB x) = true
    rw [decide_eq_true h1, Bool.true_and]
    exact List.all_eq_true.mpr fun c hc => decide_eq_true (h2 c hc)
  rw [TL.len_tl] at l
  have la := @let_az a t j
  refine key _ ?_ ?_
  · rcases @tl_word st a t pl j with e | e | e <;> rw [e]
    · (rw [List.length_append, List.length_singleton]; omega)
    · simp
    · (rw [List.length_append, List.length_singleton]; omega)
  · intro c hc
    rcases @tl_word st a t pl j with e | e | e <;> rw [e] at hc
    · rcases List.mem_append.mp hc with h | h
      · exact az c h
      · obtain rfl : c = letN a t j := by simpa using h
        exact la
    · obtain rfl : c = letN a t j := by simpa using hc
      exact la
    · rcases List.mem_append.mp hc with h | h
      · obtain rfl : c = letN a t j := by simpa using h
        exact la
      · exact az c h
theorem good_of {x : Str} (n : nameB (.str x) = true) (h : x ≠ "house" ∧ x ≠ "outside" ∧ x ≠ "money") : goodB (.str x) = true := by
  show (nameB (.str x) && !resB (.str x)) = true
  rw [n, resB_str, decide_eq_false h.1, decide_eq_false h.2.1, decide_eq_false h.2.2]
  rfl
end CLR

namespace K20
open PySem PySem.Spec PyProof.Rows L2 DL
variable {prg : Program} {wd : World} {K : PySem.W.Frag} {mg : Str → Option Value} {bs : Heap}
local macro_rules | `(tactic| walk_at "px") => `(tactic| first | exact List.not_mem_nil | (show _ ∉ ([0] : List Nat); decide) | (show _ ∉ ([] : List Nat); decide) | fail)
local macro_rules | `(tactic| walk_at "s") => `(tactic| with_reducible first
  | refine ws_seq ?_ | refine ws_if ?_ | refine ws_next ?_ | refine ws_ret ?_ | refine ws_retN ?_ | refine ws_asg (by walk_at "px") ?_ | refine ws_par (by walk_at "px") (by walk_at "px") ?_
  | refine w_var (by with_unfolding_all rfl) ?_ | refine w_int ?_ | refine w_bl ?_ | refine w_non ?_ | refine w_str ?_ | refine w_dnew ?_ | refine w_ty ?_
  | refine w_op ?_ | refine w_un ?_ | refine w_fld ?_ | refine w_xf ?_ | refine wt_test ?_ | refine wt_B ?_ | refine wt_yes ?_ | refine wt_and ?_ | refine wt_or ?_ | refine wt_not ?_ | refine w_andV ?_ | refine w_orV ?_ | refine w_notV ?_ | refine w_ifE ?_ | refine w_chain ?_
  | refine wa_nil ?_ | refine wa_cons ?_ | refine w_tup ?_ | refine w_lst ?_ | refine w_slice ?_ | refine w_dget ?_ | refine w_dget2 ?_ | refine w_dget1 ?_ | refine wp_no ?_ | refine wp_int ?_
  | refine w_cd repL_nil ?_ | refine w_md repL_nil ?_ | refine w_mk repL_nil ?_ | refine w_co repL_nil ⟨_, by with_unfolding_all rfl⟩ ?_ | refine w_call ?_
  | refine rd_add ?_ | refine rd_sub ?_ | refine rd_lt ?_ | refine rd_le ?_ | refine rd_gt ?_ | refine rd_ge ?_ | refine rd_ltS ?_ | refine rd_leS ?_ | refine rd_gtS ?_ | refine rd_geS ?_ | refine rd_isN ?_ | refine rd_notN ?_ | refine rd_eqAI ?_ | refine rd_neAI ?_ | refine rd_eqAS ?_ | refine rd_neAS ?_
  | refine wg_tup rfl ?_ | refine wgs_cons ?_ | refine wg_name (by walk_at "px") (by simp) ?_ | refine wgs_nil ?_
  | refine ru_neg ?_ | refine ⟨(by show List.length _ ≤ 100000; simp; try omega), ?_⟩
  | refine rc_abs ?_ | refine rc_int1 ?_ | refine rc_min2 ?_ | refine rc_max2 ?_
  | refine ⟨_, rfl, ?_⟩ | fail)
local macro_rules | `(tactic| walk_at "go") => `(tactic| repeat' walk_at "s")
local macro_rules | `(tactic| walk_at "args") => `(tactic| repeat' (with_reducible first | refine wa_cons ?_ | refine wa_nil ?_ | refine w_int ?_ | refine w_bl ?_ | refine w_non ?_ | refine w_str ?_ | refine w_dnew ?_ | refine w_tup ?_ | refine w_lst ?_ | refine w_un ?_ | refine ru_neg ?_ | refine w_var (by with_unfolding_all rfl) ?_ | refine ⟨(by show List.length _ ≤ 100000; simp; try omega), ?_⟩ | fail))
local macro_rules | `(tactic| walk_at "e") => `(tactic| with_reducible first
  | refine w_var (by with_unfolding_all rfl) ?_ | refine w_int ?_ | refine w_bl ?_ | refine w_non ?_ | refine w_str ?_ | refine w_dnew ?_ | refine w_ty ?_
  | refine w_op ?_ | refine w_un ?_ | refine w_fld ?_ | refine w_xf ?_ | refine wt_test ?_ | refine wt_B ?_ | refine wt_yes ?_ | refine wt_and ?_ | refine wt_or ?_ | refine wt_not ?_ | refine w_andV ?_ | refine w_orV ?_ | refine w_notV ?_ | refine w_ifE ?_ | refine w_chain ?_
  | refine wa_nil ?_ | refine wa_cons ?_ | refine w_tup ?_ | refine w_lst ?_ | refine w_slice ?_ | refine w_dget ?_ | refine w_dget2 ?_ | refine w_dget1 ?_ | refine wp_no ?_ | refine wp_int ?_
  | refine w_cd repL_nil ?_ | refine w_md repL_nil ?_ | refine w_mk repL_nil ?_ | refine w_co repL_nil ⟨_, by with_unfolding_all rfl⟩ ?_ | refine w_call ?_
  | refine rd_add ?_ | refine rd_sub ?_ | refine rd_lt ?_ | refine rd_le ?_ | refine rd_gt ?_ | refine rd_ge ?_ | refine rd_ltS ?_ | refine rd_leS ?_ | refine rd_gtS ?_ | refine rd_geS ?_ | refine rd_isN ?_ | refine rd_notN ?_ | refine rd_eqAI ?_ | refine rd_neAI ?_ | refine rd_eqAS ?_ | refine rd_neAS ?_
  | refine wg_tup rfl ?_ | refine wgs_cons ?_ | refine wg_name (by walk_at "px") (by simp) ?_ | refine wgs_nil ?_
  | refine ru_neg ?_ | refine ⟨(by show List.length _ ≤ 100000; simp; try omega), ?_⟩
  | refine rc_abs ?_ | refine rc_int1 ?_ | refine rc_min2 ?_ | refine rc_max2 ?_
  | refine ⟨_, rfl, ?_⟩ | fail)
local macro_rules | `(tactic| walk_at "ex") => `(tactic| repeat' walk_at "e")
local macro_rules | `(tactic| walk_at "a_") => `(tactic| (show WS _ _ _ _; (with_reducible try refine ws_seq ?_); with_reducible refine ws_asg (by walk_at "px") ?_; walk_at "ex"))
local macro_rules | `(tactic| walk_at "i_") => `(tactic| (show WS _ _ _ _; (with_reducible try refine ws_seq ?_); with_reducible refine ws_if ?_; walk_at "ex"))
local macro_rules | `(tactic| walk_at "d_") => `(tactic| (show WS _ _ _ _; (with_reducible try refine ws_seq ?_); with_reducible refine ws_drop ?_; walk_at "ex"))
local macro_rules | `(tactic| walk_at "r_") => `(tactic| (show WS _ _ _ _; with_reducible refine ws_ret ?_; walk_at "ex"))
local macro_rules | `(tactic| walk_at "v_") => `(tactic| refine w_var (by with_unfolding_all rfl) ?_)
open CLR

theorem six {i : Int} (h0 : 0 ≤ i) (h1 : i < 6) : ∃ v, atI [D.int 1, .int 3, .int 5, .int 7, .int 9, .int 11] i = some (.int v) ∧ (v = 1 ∨ v = 3 ∨ v = 5 ∨ v = 7 ∨ v = 9 ∨ v = 11) := by
  obtain rfl | rfl | rfl | rfl | rfl | rfl : i = 0 ∨ i = 1 ∨ i = 2 ∨ i = 3 ∨ i = 4 ∨ i = 5 := by omega
  all_goals exact ⟨_, rfl, by decide⟩
theorem alpha {i : Int} (h0 : 0 ≤ i) (h1 : i < 26) : ∃ c, atI (("abcdefghijklmnopqrstuvwxyz" : Str).cps.toList) i = some c ∧ 97 ≤ c ∧ c ≤ 122 := by
  obtain ⟨k, rfl⟩ : ∃ k : Nat, i = (k : Int) := ⟨i.toNat, by omega⟩
  have hk : k < 26 := by omega
  have all : ∀ k : Fin 26, ("abcdefghijklmnopqrstuvwxyz" : Str).cps.toList[k.val]? = some (97 + k.val) := by decide +kernel
  exact ⟨97 + k, atI_nat (all ⟨k, hk⟩), by omega, by omega⟩
theorem join_flat : ∀ l : List (List Nat), TL.joinL [] l = l.flatten
  | [] => rfl
  | [a] => by simp [TL.joinL]
  | a :: b :: r => by
    have ih := join_flat (b :: r)
    show a ++ ([] ++ TL.joinL [] (b :: r)) = a ++ (b :: r).flatten
    rw [ih, List.nil_append]
theorem stem_ok {ws : List Str} (h : ∀ w ∈ ws, ∃ c, w = ⟨#[c]⟩ ∧ 97 ≤ c ∧ c ≤ 122) : (Txt.join "" ws).length = ws.length ∧ ∀ c ∈ (Txt.join "" ws).cps.toList, 97 ≤ c ∧ c ≤ 122 := by
  have e : TL.tl (Txt.join "" ws) = (ws.map TL.tl).flatten := by
    rw [TL.join_eq, TL.tl_join, show TL.tl "" = [] from rfl, join_flat]
  constructor
  · rw [TL.len_tl, e]
    clear e
    induction ws with
    | nil => rfl
    | cons w r ih =>
      obtain ⟨c, rfl, _⟩ := h w List.mem_cons_self
      rw [List.map_cons, List.flatten_cons, List.length_append, ih fun x hx => h x (List.mem_cons_of_mem _ hx), List.length_cons]
      show 1 + r.length = Nat.succ r.length
      omega
  · intro c hc
    have hc2 : c ∈ TL.tl (Txt.join "" ws) := hc
    rw [e] at hc2
    obtain ⟨l, hl, hm⟩ := List.mem_flatten.mp hc2
    obtain ⟨w, hw, rfl⟩ := List.mem_map.mp hl
    obtain ⟨c', rfl, k1, k2⟩ := h w hw
    obtain rfl : c = c' := by simpa [TL.tl] using hm
    exact ⟨k1, k2⟩
theorem stem_sum {ws : List Str} (h : ∀ w ∈ ws, ∃ c, w = ⟨#[c]⟩ ∧ 97 ≤ c ∧ c ≤ 122) : (ws.map (·.length)).sum = ws.length := by
  induction ws with
  | nil => rfl
  | cons w r ih =>
    obtain ⟨c, rfl, _⟩ := h w List.mem_cons_self
    rw [List.map_cons, List.sum_cons, ih fun x hx => h x (List.mem_cons_of_mem _ hx), List.length_cons]
    show 1 + r.length = Nat.succ r.length
    omega

theorem alpha2 {i : Int} (h0 : 0 ≤ i) (h1 : i < 26) : atI (("abcdefghijklmnopqrstuvwxyz" : Str).cps.toList) i = some (97 + i.toNat) := by
  obtain ⟨k, rfl⟩ : ∃ k : Nat, i = (k : Int) := ⟨i.toNat, by omega⟩
  have hk : k < 26 := by omega
  have all : ∀ k : Fin 26, ("abcdefghijklmnopqrstuvwxyz" : Str).cps.toList[k.val]? = some (97 + k.val) := by decide +kernel
  exact atI_nat (all ⟨k, hk⟩)
def abc18 : List Str := ["a", "b", "c", "d", "e", "f", "g", "h", "i", "j", "k", "l", "m", "n", "o", "p", "q", "r"]
/-- words as drawn -/
structure Words (ws : List Str) : Prop where
  len : ws.length = 18
  nd : ws.Nodup
  good : ∀ w ∈ ws, goodB (.str w) = true ∧ nameB (.str w) = true ∧ w.length ≤ 8
def c_Llaw_words : CO := ⟨fun m ds k => ∃ n, m = .ex n ∧ ds = [.int 18] ∧ n ≤ 900000 ∧ ∀ ws n', Words ws → n' ≤ n + 50 → k (.ret (.sh (.lst (ws.map .str)))) (.ex n'), by
  rintro m ds k k' h ⟨n, e1, e2, g3, q⟩
  exact ⟨n, e1, e2, g3, fun w n' a b => h _ _ (q w n' a b)⟩⟩
theorem name_len {x : Str} (h : nameB (.str x) = true) : x.length ≤ 8 := by
  have h : (decide (1 ≤ x.length ∧ x.length ≤ 8) && azB x) = true := h
  have := of_decide_eq_true (Bool.and_eq_true_iff.mp h).1
  omega
theorem sc_Llaw_words : FnScope ["state", "count", "signs", "stem", "plan", "found", "k", "odd", "start", "stride", "sign", "word"] ["state", "count"] (defScope s_Llaw_words) := ⟨rfl, rfl, rfl, by decide +kernel, rfl, by decide +kernel, by decide +kernel⟩
theorem ok_Llaw_words (T : Tx K mg) (tb : ∀ p ∈ csOf K, LamX.TabB bs mg p.1 p.2) : ∃ fd, DC.FnG prg wd K mg bs (L2.CX prg wd) 2 (He.ga K "_law_words") fd ["state", "count"] (toSp K 2 c_Llaw_words.con) ∧ L2.Binds K fd ["state", "count"] [] ∧ PySem.W.keepIn K (.ref (He.ga K "_law_words")) = true := by
  obtain ⟨fd, F0⟩ := T.d_Llaw_words
  obtain ⟨_, F_Llaw_draw, b_Llaw_draw, k_Llaw_draw⟩ := ok_Llaw_draw (prg := prg) (wd := wd) (bs := bs) T tb
  refine ⟨fd, def_O (N := ["state", "count", "signs", "stem", "plan", "found", "k", "odd", "start", "stride", "sign", "word"]) F0 sc_Llaw_words rfl ?_, F0.bindsN fun _ _ _ _ _ _ us hl => match us, hl with | [_, _], _ => rfl, F0.kp⟩
  intro cdv A fr s H E v0 m0 ds kk gd room hc hl
  have hu := room.units
  have hu7 := room70 room
  have sc := sc_Llaw_words
  refine ⟨_, (pss_cons (ps_set (i := 2) sc.nd rfl (Or.inr rfl) pe_str)
  (pss_cons (ps_set (i := 3) sc.nd rfl (Or.inl rfl) (pe_join pe_str (pe_lc (own := [("k", 6)]) (g := (gName 6)) (tt := tYes) (by rfl) sc.nd (pi_range1 (by rfl) T.n_range (pa_cons (DC.pe_callG F_Llaw_draw gd (room.mono (by decide)) (by rfl) T.g__law_draw k_Llaw_draw b_Llaw_draw .nil (fun σ => passAt (takes_of rfl rfl rfl rfl) σ) (pa_cons (pv 0) (pa_cons pe_int pa_nil))) pa_nil)) (blkOk_by (own := [("k", 6)]) (N := ["state", "count", "signs", "stem", "plan", "found", "k", "odd", "start", "stride", "sign", "word"]) (sc := defScope s_Llaw_words) (by decide +kernel)) (fun _ _ _ _ _ => (pg_name (i := 6) sc.nd rfl (Or.inl rfl))) (fun _ _ _ _ _ => pts_nil) (fun _ _ _ _ _ => (pe_ix (o_ixK rfl) (pv 2) (DC.pe_callG F_Llaw_draw gd (room.mono (by decide)) (by rfl) T.g__law_draw k_Llaw_draw b_Llaw_draw .nil (fun σ => passAt takes0 σ) (pa_cons (pv 0) (pa_cons pe_int pa_nil))) (fun _ _ => rfl))))))
  (pss_cons (ps_par (i := 8) (j := 9) (by rfl) sc.nd rfl rfl (by decide) rfl rfl (pa_cons (DC.pe_callG F_Llaw_draw gd (room.mono (by decide)) (by rfl) T.g__law_draw k_Llaw_draw b_Llaw_draw .nil (fun σ => passAt (takes_of rfl rfl rfl rfl) σ) (pa_cons (pv 0) (pa_cons pe_int pa_nil))) (pa_cons (pe_ix ix_seq (pe_lst (pa_cons pe_int (pa_cons pe_int (pa_cons pe_int (pa_cons pe_int (pa_cons pe_int (pa_cons pe_int pa_nil))))))) (DC.pe_callG F_Llaw_draw gd (room.mono (by decide)) (by rfl) T.g__law_draw k_Llaw_draw b_Llaw_draw .nil (fun σ => passAt (takes_of rfl rfl rfl rfl) σ) (pa_cons (pv 0) (pa_cons pe_int pa_nil))) (fun _ _ => rfl)) pa_nil)) (by rfl))
  (pss_cons (ps_set (i := 4) sc.nd rfl (Or.inl rfl) (DC.pe_callG F_Llaw_draw gd (room.mono (by decide)) (by rfl) T.g__law_draw k_Llaw_draw b_Llaw_draw .nil (fun σ => passAt (takes_of rfl rfl rfl rfl) σ) (pa_cons (pv 0) (pa_cons pe_int pa_nil))))
  (pss_cons (ps_set (i := 5) sc.nd rfl (Or.inl rfl) (pe_lst pa_nil))
  (pss_cons (ps_for (passes_of rfl) rfl (pi_range1 (by rfl) T.n_range (pa_cons (pv 1) pa_nil)) (pg_name (i := 6) sc.nd rfl (Or.inl rfl)) (pss_cons (ps_set (i := 10) sc.nd rfl (Or.inl rfl) (pe_ix ix_seq (pv 2) (pe_op op_mod (pe_callTy call_int1 (by rfl) T.n_int (by decide +kernel) (pa_cons (pe_op o_add (pv 8) (pe_op o_mul (pv 9) (pv 6))) pa_nil)) pe_int) (fun _ _ => rfl)))
    (pss_one (ps_expr (pe_bm PySem.F.plainAttrs_list PySem.F.slot_list_append PySem.F.type_list_append mt_append (pv 5) (pa_cons (pe_ix ix_seq (pe_lst (pa_cons (pv 10) (pa_cons (pe_op o_add (pv 3) (pv 10)) (pa_cons (pe_op o_add (pv 10) (pv 3)) (pa_cons (pe_ix ix_seq (pe_lst (pa_cons (pv 10) (pa_cons (pe_op o_add (pv 3) (pv 10)) pa_nil))) (pe_op op_mod (pv 6) pe_int) (fun _ _ => rfl)) pa_nil))))) (pv 4) (fun _ _ => rfl)) pa_nil))))))
  (pss_cons (ps_setLc (i := 7) (own := [("word", 11)]) (g := (gName 11))  (by rfl) sc.nd rfl rfl (sw_true rfl rfl rfl (by decide +kernel)) (pi_list (pv 5)) (blkOk_by (own := [("word", 11)]) (N := ["state", "count", "signs", "stem", "plan", "found", "k", "odd", "start", "stride", "sign", "word"]) (sc := defScope s_Llaw_words) (by decide +kernel)) (fun _ _ _ _ _ => (pg_name (i := 11) sc.nd rfl (Or.inl rfl))) (fun _ _ _ _ _ => (pts_one (pt_cmpR (o_inK rfl) (pv 11) (pe_lst (pa_cons pe_str (pa_cons pe_str (pa_cons pe_str pa_nil)))) (by rfl)))) (fun _ _ _ _ _ => (pv 11)))
  (pss_one (ps_ret (pe_ifExp (pt_cmpR (op_eqA hu) (pv 7) (pe_lst pa_nil) (nomark _)) (pv 5) (pe_callTy (o_listA rfl) (by rfl) T.n_list (by decide +kernel) (pa_cons (pe_slice o_sl (pv 2) po_none (po_some (pv 1))) pa_nil)))))))))))), ?_⟩
  try dsimp only [L2.cxOf]
  obtain ⟨n, rfl, rfl, hn, q⟩ := hc
  refine ws_seq ?_
  refine ws_asg (by walk_at "px") ?_
  walk_at "ex"
  show WS _ _ _ _
  refine ws_seq ?_
  refine ws_asg (by walk_at "px") ?_
  refine w_join ?_
  walk_at "ex"
  refine w_lc (sl := [6]) (by intro i hi; obtain rfl : i = 0 := by simpa using hi
                              decide) (by simp) ?_
  refine wi_rng1 ?_
  walk_at "ex"
  refine ⟨rfl, n, 8, rfl, rfl, by omega, by omega, by omega, fun c c0 c1 => ⟨_, .sh _, ?_⟩⟩
  walk_at "ex"
  refine ⟨by omega, by rw [intsD_len]; omega, fun i acc ρ => ∃ ws : List Str, ∃ n', acc = ws.map .str ∧ ws.length = i ∧ (∀ w ∈ ws, ∃ c, w = ⟨#[c]⟩ ∧ 97 ≤ c ∧ c ≤ 122) ∧ n' ≤ n + 1 + i ∧ ρ = [some (.ex n'), some (.sh (.int 18)), some (.sh (.str "abcdefghijklmnopqrstuvwxyz")), none, none, none, none, none, none, none, none, none], ⟨[], n + 1, rfl, rfl, (fun w h => by cases h), by omega, rfl⟩, ?_, ?_⟩
  · rintro i d acc ρ2 hd ⟨ws, n', rfl, hl, hw, hn', rfl⟩
    obtain ⟨hi, rfl⟩ := intsD_get hd
    refine wg_name (by walk_at "px") (by simp) ?_
    refine wt_yes ?_
    rw [if_pos rfl]
    walk_at "ex"
    refine ⟨rfl, n', 26, rfl, rfl, by omega, by omega, by omega, fun x x0 x1 => ⟨_, .sh _, ?_⟩⟩
    obtain ⟨ch, hch, cl, cu⟩ := alpha x0 x1
    refine rd_ixS (by decide) hch ?_
    refine ⟨ws ++ [⟨#[ch]⟩], n' + 1, ?_, ?_, ?_, by omega, rfl⟩
    · rw [List.map_append]
      rfl
    · rw [List.length_append, hl]
      rfl
    · intro w h
      rcases (List.mem_append.mp h) with h | h
      · exact hw w h
      · exact ⟨ch, by simpa using h, cl, cu⟩
  rintro acc ρ2 ⟨ws, n2, rfl, hl, hw, hn2, rfl⟩
  rw [intsD_len] at hl hn2
  obtain ⟨st1, st2⟩ := stem_ok hw
  have sum1 := stem_sum hw
  refine ⟨ws, .lst _, by rw [sum1]; simp only [show ("" : Str).length = 0 from rfl]; omega, ?_⟩
  generalize Txt.join "" ws = stem at st1 st2
  show WS _ _ _ _
  refine ws_seq ?_
  refine ws_par (by walk_at "px") (by walk_at "px") ?_
  walk_at "ex"
  refine ⟨rfl, n2, 26, rfl, rfl, by omega, by omega, by omega, fun sta sa0 sa1 => ⟨_, .sh _, ?_⟩⟩
  walk_at "ex"
  refine ⟨rfl, n2 + 1, 6, rfl, rfl, by omega, by omega, by omega, fun x x0 x1 => ⟨_, .sh _, ?_⟩⟩
  obtain ⟨str, hstr, sb⟩ := six x0 x1
  refine rd_ixL (.lst _) hstr ?_
  walk_at "ex"
  refine ⟨_, _, rfl, ?_⟩
  show WS _ _ _ _
  refine ws_seq ?_
  refine ws_asg (by walk_at "px") ?_
  walk_at "ex"
  refine ⟨rfl, n2 + 2, 4, rfl, rfl, by omega, by omega, by omega, fun pl p0 p1 => ⟨_, .sh _, ?_⟩⟩
  show WS _ _ _ _
  refine ws_seq ?_
  refine ws_asgO (by walk_at "px") (by show 5 < 12; decide) ?_
  refine wo_lst ?_
  walk_at "ex"
  refine ⟨rfl, ?_⟩
  show WS _ _ _ _
  refine ws_seq ?_
  refine ws_for (sl := [6]) ?_
  refine wi_rng1 ?_
  walk_at "ex"
  refine ⟨by omega, ?_⟩
  refine ⟨fun i ρ => ∃ kk2 sg, ρ = [some (.ex (n2 + 3)), some (.sh (.int 18)), some (.sh (.str "abcdefghijklmnopqrstuvwxyz")), some (.sh (.str stem)), some (.sh (.int pl)), some (.lst ((((List.range i).map (wordS stem sta str pl)).map .str).map .sh)), kk2, none, some (.sh (.int sta)), some (.sh (.int str)), sg, none], ⟨_, _, rfl⟩, ?_, ?_⟩
  · rintro i d ρ2 hd ⟨kk2, sg, rfl⟩
    obtain ⟨hi, rfl⟩ := intsD_get hd
    have hi : i < 18 := hi
    have sb2 : 0 ≤ str ∧ str ≤ 11 := by omega
    refine wg_name (by walk_at "px") (by simp) ?_
    refine ws_seq ?_
    refine ws_asg (by walk_at "px") ?_
    walk_at "ex"
    refine rd_mul (cmulW (a := 10) (b := 10) (by omega) (by omega) (by decide)) ?_
    rw [show (0 : Int) + (i : Int) = (i : Int) from Int.zero_add _]
    walk_at "ex"
    refine rd_mod (by decide) ?_
    walk_at "ex"
    have m0 : 0 ≤ (sta + str * (i : Int)) % 26 := Int.emod_nonneg _ (by decide)
    have m1 : (sta + str * (i : Int)) % 26 < 26 := Int.emod_lt_of_pos _ (by decide)
    refine rd_ixS (by decide) (alpha2 m0 m1) ?_
    rw [show (⟨#[97 + ((sta + str * (i : Int)) % 26).toNat]⟩ : Str) = sgnS sta str i from rfl]
    have len1 : (sgnS sta str i).length = 1 := rfl
    show WS _ _ _ _
    refine ws_append ⟨_, rfl⟩ ?_
    walk_at "ex"
    refine rd_addS (by rw [len1]; omega) ?_
    walk_at "ex"
    refine rd_addS (by rw [len1]; omega) ?_
    walk_at "ex"
    refine rd_addS (by rw [len1]; omega) ?_
    walk_at "ex"
    refine rd_mod (by decide) ?_
    have two : atI [D.str (sgnS sta str i), .str (stem ++ sgnS sta str i)] ((i : Int) % 2) = some (.str (if i % 2 = 0 then sgnS sta str i else stem ++ sgnS sta str i)) := by
      rcases Nat.mod_two_eq_zero_or_one i with e | e
      · rw [show (i : Int) % 2 = 0 by omega, if_pos e]
        rfl
      · rw [show (i : Int) % 2 = 1 by omega, if_neg (by omega)]
        rfl
    refine rd_ixL (.lst _) two ?_
    walk_at "ex"
    have four : atI [D.str (sgnS sta str i), .str (stem ++ sgnS sta str i), .str (sgnS sta str i ++ stem), .str (if i % 2 = 0 then sgnS sta str i else stem ++ sgnS sta str i)] pl = some (.str (wordS stem sta str pl i)) := by
      obtain rfl | rfl | rfl | rfl : pl = 0 ∨ pl = 1 ∨ pl = 2 ∨ pl = 3 := by omega
      all_goals rfl
    refine rd_ixL (.lst _) four ?_
    refine ⟨_, rfl, by simp; omega, some (.sh (.int (i : Int))), some (.sh (.str (sgnS sta str i))), ?_⟩
    rw [List.range_succ, List.map_append, List.map_append, List.map_append]
    rfl
  rintro ρ2 ⟨kk2, sg, rfl⟩
  rw [show (intsD 0 (Int.toNat 18)).length = 18 from intsD_len]
  have nd : ((List.range 18).map (wordS stem sta str pl)).Nodup := words_nd sb (by decide)
  have nm : ∀ w ∈ (List.range 18).map (wordS stem sta str pl), nameB (.str w) = true := fun w hw => by
    obtain ⟨j, _, rfl⟩ := List.mem_map.mp hw
    exact word_name (by omega) st2
  have len : ((List.range 18).map (wordS stem sta str pl)).length = 18 := by rw [List.length_map, List.length_range]
  generalize (List.range 18).map (wordS stem sta str pl) = fs at nd nm len
  show WS _ _ _ _
  refine ws_letBe (i := 5) rfl frz_lst (by walk_at "px") ?_
  refine ws_seq ?_
  refine ws_asg (by walk_at "px") ?_
  refine w_lcA (xs := fs) (r := D.str) (f := fun w => if DL.resB (.str w) = true then some (.str w) else none) (by walk_at "px") (nameOk_none rfl) ?_
  refine wi_list ?_
  walk_at "ex"
  refine ⟨rfl, rfl, by omega, fun w hw => ?_, ?_⟩
  · refine wt_test ?_
    walk_at "ex"
    refine rd_in (.inl (.lst _)) rfl rfl ?_
    refine ⟨_, rfl, rfl, ?_⟩
    refine if_b (fun z => ?_) (fun z => if_neg (fun y => by rw [show DL.resB (.str w) = false from z] at y; cases y))
    rw [if_pos (show DL.resB (.str w) = true from z)]
    walk_at "ex"
    exact ⟨rfl, rfl⟩
  rw [fm_if]
  show WS _ _ _ _
  refine ws_ret ?_
  walk_at "ex"
  refine rd_eqNil (.lst _) ?_
  walk_at "ex"
  by_cases no : fs.filter (fun w => DL.resB (.str w)) = []
  · refine if_ye (by rw [no]; rfl) ?_
    walk_at "ex"
    refine q fs (n2 + 3) ⟨len, nd, fun w hw => ⟨?_, nm w hw, name_len (nm w hw)⟩⟩ (by omega)
    have := List.filter_eq_nil_iff.mp no w hw
    show (nameB (.str w) && !DL.resB (.str w)) = true
    have r : DL.resB (.str w) = false := by simpa using this
    rw [nm w hw, r]
    rfl
  · refine if_no (by rw [List.isEmpty_eq_false_iff]; simpa using no) ?_
    walk_at "ex"
    refine rs_str (by decide) ?_
    walk_at "ex"
    refine rc_listAS (by decide) ?_
    have e18 : (cutS "abcdefghijklmnopqrstuvwxyz" none (some 18)).cps.toList.map (fun c => (⟨#[c]⟩ : Str)) = abc18 := by decide +kernel
    rw [show (fun c => D.str (⟨#[c]⟩ : Str)) = D.str ∘ (fun c => (⟨#[c]⟩ : Str)) from rfl, ← List.map_map, e18]
    refine ⟨_, rfl, q abc18 (n2 + 3) ⟨rfl, by decide +kernel, fun w hw => ?_⟩ (by omega)⟩
    have all : ∀ w ∈ abc18, goodB (.str w) = true ∧ nameB (.str w) = true ∧ w.length ≤ 8 := by decide +kernel
    exact all w hw
end K20

namespace K20
open PySem PySem.Spec PyProof.Rows L2 DL
variable {prg : Program} {wd : World} {K : PySem.W.Frag} {mg : Str → Option Value} {bs : Heap}
local macro_rules | `(tactic| walk_at "px") => `(tactic| first | exact List.not_mem_nil | (show _ ∉ ([0] : List Nat); decide) | (show _ ∉ ([] : List Nat); decide) | fail)
local macro_rules | `(tactic| walk_at "s") => `(tactic| with_reducible first
  | refine ws_seq ?_ | refine ws_if ?_ | refine ws_next ?_ | refine ws_ret ?_ | refine ws_retN ?_ | refine ws_asg (by walk_at "px") ?_ | refine ws_par (by walk_at "px") (by walk_at "px") ?_
  | refine w_var (by with_unfolding_all rfl) ?_ | refine w_int ?_ | refine w_bl ?_ | refine w_non ?_ | refine w_str ?_ | refine w_dnew ?_ | refine w_ty ?_
  | refine w_op ?_ | refine w_un ?_ | refine w_fld ?_ | refine w_xf ?_ | refine wt_test ?_ | refine wt_B ?_ | refine wt_yes ?_ | refine wt_and ?_ | refine wt_or ?_ | refine wt_not ?_ | refine w_andV ?_ | refine w_orV ?_ | refine w_notV ?_ | refine w_ifE ?_ | refine w_chain ?_
  | refine wa_nil ?_ | refine wa_cons ?_ | refine w_tup ?_ | refine w_lst ?_ | refine w_slice ?_ | refine w_dget ?_ | refine w_dget2 ?_ | refine w_dget1 ?_ | refine wp_no ?_ | refine wp_int ?_
  | refine w_cd repL_nil ?_ | refine w_md repL_nil ?_ | refine w_mk repL_nil ?_ | refine w_co repL_nil ⟨_, by with_unfolding_all rfl⟩ ?_ | refine w_call ?_
  | refine rd_add ?_ | refine rd_sub ?_ | refine rd_lt ?_ | refine rd_le ?_ | refine rd_gt ?_ | refine rd_ge ?_ | refine rd_ltS ?_ | refine rd_leS ?_ | refine rd_gtS ?_ | refine rd_geS ?_ | refine rd_isN ?_ | refine rd_notN ?_ | refine rd_eqAI ?_ | refine rd_neAI ?_ | refine rd_eqAS ?_ | refine rd_neAS ?_
  | refine wg_tup rfl ?_ | refine wgs_cons ?_ | refine wg_name (by walk_at "px") (by simp) ?_ | refine wgs_nil ?_
  | refine ru_neg ?_ | refine ⟨(by show List.length _ ≤ 100000; simp; try omega), ?_⟩
  | refine rc_abs ?_ | refine rc_int1 ?_ | refine rc_min2 ?_ | refine rc_max2 ?_
  | refine ⟨_, rfl, ?_⟩ | fail)
local macro_rules | `(tactic| walk_at "go") => `(tactic| repeat' walk_at "s")
local macro_rules | `(tactic| walk_at "args") => `(tactic| repeat' (with_reducible first | refine wa_cons ?_ | refine wa_nil ?_ | refine w_int ?_ | refine w_bl ?_ | refine w_non ?_ | refine w_str ?_ | refine w_dnew ?_ | refine w_tup ?_ | refine w_lst ?_ | refine w_un ?_ | refine ru_neg ?_ | refine w_var (by with_unfolding_all rfl) ?_ | refine ⟨(by show List.length _ ≤ 100000; simp; try omega), ?_⟩ | fail))
local macro_rules | `(tactic| walk_at "e") => `(tactic| with_reducible first
  | refine w_var (by with_unfolding_all rfl) ?_ | refine w_int ?_ | refine w_bl ?_ | refine w_non ?_ | refine w_str ?_ | refine w_dnew ?_ | refine w_ty ?_
  | refine w_op ?_ | refine w_un ?_ | refine w_fld ?_ | refine w_xf ?_ | refine wt_test ?_ | refine wt_B ?_ | refine wt_yes ?_ | refine wt_and ?_ | refine wt_or ?_ | refine wt_not ?_ | refine w_andV ?_ | refine w_orV ?_ | refine w_notV ?_ | refine w_ifE ?_ | refine w_chain ?_
  | refine wa_nil ?_ | refine wa_cons ?_ | refine w_tup ?_ | refine w_lst ?_ | refine w_slice ?_ | refine w_dget ?_ | refine w_dget2 ?_ | refine w_dget1 ?_ | refine wp_no ?_ | refine wp_int ?_
  | refine w_cd repL_nil ?_ | refine w_md repL_nil ?_ | refine w_mk repL_nil ?_ | refine w_co repL_nil ⟨_, by with_unfolding_all rfl⟩ ?_ | refine w_call ?_
  | refine rd_add ?_ | refine rd_sub ?_ | refine rd_lt ?_ | refine rd_le ?_ | refine rd_gt ?_ | refine rd_ge ?_ | refine rd_ltS ?_ | refine rd_leS ?_ | refine rd_gtS ?_ | refine rd_geS ?_ | refine rd_isN ?_ | refine rd_notN ?_ | refine rd_eqAI ?_ | refine rd_neAI ?_ | refine rd_eqAS ?_ | refine rd_neAS ?_
  | refine wg_tup rfl ?_ | refine wgs_cons ?_ | refine wg_name (by walk_at "px") (by simp) ?_ | refine wgs_nil ?_
  | refine ru_neg ?_ | refine ⟨(by show List.length _ ≤ 100000; simp; try omega), ?_⟩
  | refine rc_abs ?_ | refine rc_int1 ?_ | refine rc_min2 ?_ | refine rc_max2 ?_
  | refine ⟨_, rfl, ?_⟩ | fail)
local macro_rules | `(tactic| walk_at "ex") => `(tactic| repeat' walk_at "e")
local macro_rules | `(tactic| walk_at "a_") => `(tactic| (show WS _ _ _ _; (with_reducible try refine ws_seq ?_); with_reducible refine ws_asg (by walk_at "px") ?_; walk_at "ex"))
local macro_rules | `(tactic| walk_at "i_") => `(tactic| (show WS _ _ _ _; (with_reducible try refine ws_seq ?_); with_reducible refine ws_if ?_; walk_at "ex"))
local macro_rules | `(tactic| walk_at "d_") => `(tactic| (show WS _ _ _ _; (with_reducible try refine ws_seq ?_); with_reducible refine ws_drop ?_; walk_at "ex"))
local macro_rules | `(tactic| walk_at "r_") => `(tactic| (show WS _ _ _ _; with_reducible refine ws_ret ?_; walk_at "ex"))
local macro_rules | `(tactic| walk_at "v_") => `(tactic| refine w_var (by with_unfolding_all rfl) ?_)
open CLR

theorem cut_mid {ds : List D} (h : ds.length = 18) : DL.cutD ds (some 12) (some 17) = (ds.drop 12).take 5 := by
  unfold DL.cutD HT.sIx
  rw [h]
  rfl
theorem two_sides {i : Int} (h0 : 0 ≤ i) (h1 : i < 2) : atI [D.str "buy", .str "sell"] i = some (.str (sideS (decide (i = 0)))) := by
  obtain rfl | rfl : i = 0 ∨ i = 1 := by omega
  · rfl
  · rfl
structure DrawnB (ns ms : List Str) (ss : List Bool) (i : Nat) (B : List Bid) : Prop where
  nm : B.map (·.nm) = ns.take i
  ok : ∀ b ∈ B, BidOk b
  at_ : ∀ b ∈ B, ∃ t : Nat, ms[t]? = some b.mb ∧ ss[t]? = some b.buy
theorem DrawnB.bids {ns ms : List Str} {ss : List Bool} {i : Nat} {B : List Bid} (h : DrawnB ns ms ss i B) (hi : i ≤ 11) (nn : ns.Nodup) (mm : ms.Nodup) : BidsOk B ∧ B.length ≤ 11 := by
  have l : B.length ≤ 11 := by
    have := congrArg List.length h.nm
    rw [List.length_map, List.length_take] at this
    omega
  refine ⟨⟨h.ok, by omega, by rw [h.nm]; exact nn.sublist (List.take_sublist ..), fun a ha b hb e => ?_⟩, l⟩
  obtain ⟨t, t1, t2⟩ := h.at_ a ha
  obtain ⟨u, u1, u2⟩ := h.at_ b hb
  rw [e] at t1
  have := (List.getElem?_inj (List.getElem?_eq_some_iff.mp t1).1 mm).mp (t1.trans u1.symm)
  subst this
  rw [t2] at u2
  exact Option.some.inj u2
theorem DrawnB.more {ns ms : List Str} {ss : List Bool} {i : Nat} {B : List Bid} {b : Bid} (h : DrawnB ns ms ss i B) (hn : ns[i]? = some b.nm) (ok : BidOk b) {t : Nat} (h1 : ms[t]? = some b.mb) (h2 : ss[t]? = some b.buy) : DrawnB ns ms ss (i + 1) (B ++ [b]) := by
  refine ⟨by rw [List.map_append, h.nm, List.take_add_one, hn]; rfl, fun x hx => ?_, fun x hx => ?_⟩
  · rcases List.mem_append.mp hx with e | e
    · exact h.ok x e
    · obtain rfl : x = b := by simpa using e
      exact ok
  · rcases List.mem_append.mp hx with e | e
    · exact h.at_ x e
    · obtain rfl : x = b := by simpa using e
      exact ⟨t, h1, h2⟩
def c_Llaw_orders : CO := ⟨fun m ds k => ∃ n, m = .ex n ∧ ds = [.int 11] ∧ n ≤ 800000 ∧ ∀ (B : List Bid) n', BidsOk B → B.length ≤ 11 → n' ≤ n + 2000 → k (.ret (.lst ((B.map bidD).map .sh))) (.ex n'), by
  rintro m ds k k' h ⟨n, e1, e2, g3, q⟩
  exact ⟨n, e1, e2, g3, fun B n' a b c => h _ _ (q B n' a b c)⟩⟩
theorem sc_Llaw_orders : FnScope ["state", "most", "many", "words", "sides", "few", "plan", "found", "k", "names", "members", "at", "price", "amount", "member"] ["state", "most"] (defScope s_Llaw_orders) := ⟨rfl, rfl, rfl, by decide +kernel, rfl, by decide +kernel, by decide +kernel⟩
theorem ok_Llaw_orders (T : Tx K mg) (tb : ∀ p ∈ csOf K, LamX.TabB bs mg p.1 p.2) : ∃ fd, DC.FnG prg wd K mg bs (L2.CX prg wd) 3 (He.ga K "_law_orders") fd ["state", "most"] (toSp K 2 c_Llaw_orders.con) ∧ L2.Binds K fd ["state", "most"] [] ∧ PySem.W.keepIn K (.ref (He.ga K "_law_orders")) = true := by
  obtain ⟨fd, F0⟩ := T.d_Llaw_orders
  obtain ⟨_, F_Llaw_draw, b_Llaw_draw, k_Llaw_draw⟩ := ok_Llaw_draw (prg := prg) (wd := wd) (bs := bs) T tb
  obtain ⟨_, F_Llaw_words, b_Llaw_words, k_Llaw_words⟩ := ok_Llaw_words (prg := prg) (wd := wd) (bs := bs) T tb
  refine ⟨fd, def_O (N := ["state", "most", "many", "words", "sides", "few", "plan", "found", "k", "names", "members", "at", "price", "amount", "member"]) F0 sc_Llaw_orders rfl ?_, F0.bindsN fun _ _ _ _ _ _ us hl => match us, hl with | [_, _], _ => rfl, F0.kp⟩
  intro cdv A fr s H E v0 m0 ds kk gd room hc hl
  have hu := room.units
  have hu7 := room70 room
  have sc := sc_Llaw_orders
  refine ⟨_, (pss_cons (ps_set (i := 2) sc.nd rfl (Or.inl rfl) (pe_ix ix_seq (pe_lst (pa_cons (DC.pe_callG F_Llaw_draw gd (room.mono (by decide)) (by rfl) T.g__law_draw k_Llaw_draw b_Llaw_draw .nil (fun σ => passAt (takes_of rfl rfl rfl rfl) σ) (pa_cons (pv 0) (pa_cons (pe_op o_add (pv 1) pe_int) pa_nil))) (pa_cons (DC.pe_callG F_Llaw_draw gd (room.mono (by decide)) (by rfl) T.g__law_draw k_Llaw_draw b_Llaw_draw .nil (fun σ => passAt (takes_of rfl rfl rfl rfl) σ) (pa_cons (pv 0) (pa_cons (pe_op o_add (pe_callB (call_min2 rfl) (by rfl) T.n_min (by decide +kernel) (pa_cons (pv 1) (pa_cons pe_int pa_nil))) pe_int) pa_nil))) (pa_cons (pv 1) pa_nil)))) (DC.pe_callG F_Llaw_draw gd (room.mono (by decide)) (by rfl) T.g__law_draw k_Llaw_draw b_Llaw_draw .nil (fun σ => passAt (takes_of rfl rfl rfl rfl) σ) (pa_cons (pv 0) (pa_cons pe_int pa_nil))) (fun _ _ => rfl)))
  (pss_cons (ps_set (i := 3) sc.nd rfl (Or.inl rfl) (DC.pe_callG F_Llaw_words gd (room.mono (by decide)) (by rfl) T.g__law_words k_Llaw_words b_Llaw_words .nil (fun σ => passAt (takes_of rfl rfl rfl rfl) σ) (pa_cons (pv 0) (pa_cons pe_int pa_nil))))
  (pss_cons (ps_par (i := 9) (j := 10) (by rfl) sc.nd rfl rfl (by decide) rfl rfl (pa_cons (pe_slice o_sl (pv 3) po_none (po_some pe_int)) (pa_cons (pe_slice o_sl (pv 3) (po_some pe_int) (po_some pe_int)) pa_nil)) (by rfl))
  (pss_cons (ps_setLc (i := 4) (own := [("member", 14)]) (g := (gName 14)) (tt := tYes) (by rfl) sc.nd rfl rfl (sw_true rfl rfl rfl (by decide +kernel)) (pi_list (pv 10)) (blkOk_by (own := [("member", 14)]) (N := ["state", "most", "many", "words", "sides", "few", "plan", "found", "k", "names", "members", "at", "price", "amount", "member"]) (sc := defScope s_Llaw_orders) (by decide +kernel)) (fun _ _ _ _ _ => (pg_name (i := 14) sc.nd rfl (Or.inl rfl))) (fun _ _ _ _ _ => pts_nil) (fun _ _ _ _ _ => (pe_ix (o_ixK rfl) (pe_lst (pa_cons pe_str (pa_cons pe_str pa_nil))) (DC.pe_callG F_Llaw_draw gd (room.mono (by decide)) (by rfl) T.g__law_draw k_Llaw_draw b_Llaw_draw .nil (fun σ => passAt takes0 σ) (pa_cons (pv 0) (pa_cons pe_int pa_nil))) (fun _ _ => rfl))))
  (pss_cons (ps_setLc (i := 5) (own := [("k", 8)]) (g := (gName 8)) (tt := tYes) (by rfl) sc.nd rfl rfl (sw_true rfl rfl rfl (by decide +kernel)) (pi_range1 (by rfl) T.n_range (pa_cons pe_int pa_nil)) (blkOk_by (own := [("k", 8)]) (N := ["state", "most", "many", "words", "sides", "few", "plan", "found", "k", "names", "members", "at", "price", "amount", "member"]) (sc := defScope s_Llaw_orders) (by decide +kernel)) (fun _ _ _ _ _ => (pg_name (i := 8) sc.nd rfl (Or.inl rfl))) (fun _ _ _ _ _ => pts_nil) (fun _ _ _ _ _ => (pe_op (o_addK rfl) pe_int (DC.pe_callG F_Llaw_draw gd (room.mono (by decide)) (by rfl) T.g__law_draw k_Llaw_draw b_Llaw_draw .nil (fun σ => passAt takes0 σ) (pa_cons (pv 0) (pa_cons pe_int pa_nil))))))
  (pss_cons (ps_set (i := 6) sc.nd rfl (Or.inl rfl) (DC.pe_callG F_Llaw_draw gd (room.mono (by decide)) (by rfl) T.g__law_draw k_Llaw_draw b_Llaw_draw .nil (fun σ => passAt (takes_of rfl rfl rfl rfl) σ) (pa_cons (pv 0) (pa_cons pe_int pa_nil))))
  (pss_cons (ps_set (i := 7) sc.nd rfl (Or.inl rfl) (pe_lst pa_nil))
  (pss_cons (ps_for (passes_of rfl) rfl (pi_range1 (by rfl) T.n_range (pa_cons (pv 2) pa_nil)) (pg_name (i := 8) sc.nd rfl (Or.inl rfl)) (pss_cons (ps_set (i := 11) sc.nd rfl (Or.inl rfl) (DC.pe_callG F_Llaw_draw gd (room.mono (by decide)) (by rfl) T.g__law_draw k_Llaw_draw b_Llaw_draw .nil (fun σ => passAt (takes_of rfl rfl rfl rfl) σ) (pa_cons (pv 0) (pa_cons (pe_op o_add pe_int (DC.pe_callG F_Llaw_draw gd (room.mono (by decide)) (by rfl) T.g__law_draw k_Llaw_draw b_Llaw_draw .nil (fun σ => passAt (takes_of rfl rfl rfl rfl) σ) (pa_cons (pv 0) (pa_cons pe_int pa_nil)))) pa_nil))))
    (pss_cons (ps_set (i := 12) sc.nd rfl (Or.inl rfl) (pe_ix ix_seq (pe_lst (pa_cons (pe_op o_add pe_int (DC.pe_callG F_Llaw_draw gd (room.mono (by decide)) (by rfl) T.g__law_draw k_Llaw_draw b_Llaw_draw .nil (fun σ => passAt (takes_of rfl rfl rfl rfl) σ) (pa_cons (pv 0) (pa_cons pe_int pa_nil)))) (pa_cons (pe_ix ix_seq (pv 5) (DC.pe_callG F_Llaw_draw gd (room.mono (by decide)) (by rfl) T.g__law_draw k_Llaw_draw b_Llaw_draw .nil (fun σ => passAt (takes_of rfl rfl rfl rfl) σ) (pa_cons (pv 0) (pa_cons pe_int pa_nil))) (fun _ _ => rfl)) (pa_cons (pe_op o_add pe_int (DC.pe_callG F_Llaw_draw gd (room.mono (by decide)) (by rfl) T.g__law_draw k_Llaw_draw b_Llaw_draw .nil (fun σ => passAt (takes_of rfl rfl rfl rfl) σ) (pa_cons (pv 0) (pa_cons pe_int pa_nil)))) (pa_cons pe_int pa_nil))))) (pv 6) (fun _ _ => rfl)))
    (pss_cons (ps_if (pt_cmpR (op_eqA hu) (DC.pe_callG F_Llaw_draw gd (room.mono (by decide)) (by rfl) T.g__law_draw k_Llaw_draw b_Llaw_draw .nil (fun σ => passAt (takes_of rfl rfl rfl rfl) σ) (pa_cons (pv 0) (pa_cons pe_int pa_nil))) pe_int (nomark _)) (pss_one (ps_set (i := 12) sc.nd rfl (Or.inl rfl) (pe_ix ix_seq (pe_lst (pa_cons pe_non (pa_cons pe_int (pa_cons pe_int pa_nil)))) (DC.pe_callG F_Llaw_draw gd (room.mono (by decide)) (by rfl) T.g__law_draw k_Llaw_draw b_Llaw_draw .nil (fun σ => passAt (takes_of rfl rfl rfl rfl) σ) (pa_cons (pv 0) (pa_cons pe_int pa_nil))) (fun _ _ => rfl)))) pss_nil)
    (pss_cons (ps_set (i := 13) sc.nd rfl (Or.inl rfl) (pe_op o_add pe_int (DC.pe_callG F_Llaw_draw gd (room.mono (by decide)) (by rfl) T.g__law_draw k_Llaw_draw b_Llaw_draw .nil (fun σ => passAt (takes_of rfl rfl rfl rfl) σ) (pa_cons (pv 0) (pa_cons (pe_ix ix_seq (pe_lst (pa_cons pe_int (pa_cons pe_int (pa_cons pe_int pa_nil)))) (DC.pe_callG F_Llaw_draw gd (room.mono (by decide)) (by rfl) T.g__law_draw k_Llaw_draw b_Llaw_draw .nil (fun σ => passAt (takes_of rfl rfl rfl rfl) σ) (pa_cons (pv 0) (pa_cons pe_int pa_nil))) (fun _ _ => rfl)) pa_nil)))))
    (pss_one (ps_expr (pe_bm PySem.F.plainAttrs_list PySem.F.slot_list_append PySem.F.type_list_append mt_append (pv 7) (pa_cons (pe_tup (pa_cons (pe_ix ix_seq (pv 9) (pv 8) (fun _ _ => rfl)) (pa_cons (pe_ix ix_seq (pv 10) (pv 11) (fun _ _ => rfl)) (pa_cons (pe_ix ix_seq (pv 4) (pv 11) (fun _ _ => rfl)) (pa_cons (pv 12) (pa_cons (pv 13) pa_nil)))))) pa_nil)))))))))
  (pss_one (ps_ret (pv 7))))))))))), ?_⟩
  try dsimp only [L2.cxOf]
  obtain ⟨n, rfl, rfl, hn, q⟩ := hc
  refine ws_seq ?_
  refine ws_asg (by walk_at "px") ?_
  walk_at "ex"
  refine ⟨rfl, n, 12, rfl, rfl, by omega, by omega, by omega, fun m1 m10 m11 => ⟨_, .sh _, ?_⟩⟩
  walk_at "ex"
  refine ⟨rfl, n + 1, 5, rfl, rfl, by omega, by omega, by omega, fun m2 m20 m21 => ⟨_, .sh _, ?_⟩⟩
  walk_at "ex"
  refine ⟨rfl, n + 2, 3, rfl, rfl, by omega, by omega, by omega, fun i3 i30 i31 => ⟨_, .sh _, ?_⟩⟩
  obtain ⟨many, hm, mn0, mn1⟩ : ∃ v : Int, atI [D.int m1, .int m2, .int 11] i3 = some (.int v) ∧ 0 ≤ v ∧ v ≤ 11 := by
    obtain rfl | rfl | rfl : i3 = 0 ∨ i3 = 1 ∨ i3 = 2 := by omega
    · exact ⟨m1, rfl, by omega, by omega⟩
    · exact ⟨m2, rfl, by omega, by omega⟩
    · exact ⟨11, rfl, by omega, by omega⟩
  refine rd_ixL (.lst _) hm ?_
  show WS _ _ _ _
  refine ws_seq ?_
  refine ws_asg (by walk_at "px") ?_
  walk_at "ex"
  refine ⟨rfl, n + 3, rfl, rfl, by omega, fun ws n1 W hn1 => ⟨_, .sh _, ?_⟩⟩
  have wl := W.len
  show WS _ _ _ _
  refine ws_seq ?_
  refine ws_par (by walk_at "px") (by walk_at "px") ?_
  walk_at "ex"
  refine rs_list (.lst _) ?_
  rw [cutD_to (by decide) (by rw [List.length_map, wl]; decide), show (12 : Int).toNat = 12 from rfl, ← List.map_take]
  walk_at "ex"
  refine rs_list (.lst _) ?_
  rw [cut_mid (by rw [List.length_map, wl]), ← List.map_drop, ← List.map_take]
  walk_at "ex"
  refine ⟨_, _, rfl, ?_⟩
  have nn : (ws.take 12).Nodup := W.nd.sublist (List.take_sublist ..)
  have mm : ((ws.drop 12).take 5).Nodup := W.nd.sublist ((List.take_sublist ..).trans (List.drop_sublist ..))
  have nl : (ws.take 12).length = 12 := by rw [List.length_take, wl]; rfl
  have ml : ((ws.drop 12).take 5).length = 5 := by rw [List.length_take, List.length_drop, wl]; rfl
  have ng : ∀ w ∈ ws.take 12, goodB (.str w) = true ∧ nameB (.str w) = true ∧ w.length ≤ 8 := fun w hw => W.good w (List.mem_of_mem_take hw)
  have mg : ∀ w ∈ (ws.drop 12).take 5, goodB (.str w) = true ∧ nameB (.str w) = true ∧ w.length ≤ 8 := fun w hw => W.good w (List.mem_of_mem_drop (List.mem_of_mem_take hw))
  generalize ws.take 12 = ns at nn nl ng
  generalize (ws.drop 12).take 5 = ms at mm ml mg
  generalize hW : D.lst (ws.map D.str) = wsD
  show WS _ _ _ _
  refine ws_seq ?_
  refine ws_asg (by walk_at "px") ?_
  refine w_lc (sl := [14]) (by intro i hi; rw [show i = 0 from (by simpa using hi)]; decide) (by simp) ?_
  refine wi_list ?_
  walk_at "ex"
  refine ⟨by rw [List.length_map]; omega, fun i acc ρ => ∃ (bs : List Bool) (n' : Nat), acc = bs.map (fun b => D.str (sideS b)) ∧ bs.length = i ∧ n' ≤ n1 + i ∧ ρ = [some (.ex n'), some (.sh (.int 11)), some (.sh (.int many)), some (.sh wsD), none, none, none, none, none, some (.sh (.lst (ns.map .str))), some (.sh (.lst (ms.map .str))), none, none, none, none], ⟨[], n1, rfl, rfl, by omega, rfl⟩, ?_, ?_⟩
  · rintro i d acc ρ2 hd ⟨bs, n', rfl, hl, hn', rfl⟩
    have hi : i < 5 := by
      have := (List.getElem?_eq_some_iff.mp hd).1
      rw [List.length_map] at this
      omega
    refine wg_name (by walk_at "px") (by simp) ?_
    refine wt_yes ?_
    rw [if_pos rfl]
    walk_at "ex"
    refine ⟨rfl, n', 2, rfl, rfl, by omega, by omega, by omega, fun x x0 x1 => ⟨_, .sh _, ?_⟩⟩
    refine rd_ixL (.lst _) (two_sides x0 x1) ?_
    refine ⟨bs ++ [decide (x = 0)], n' + 1, ?_, ?_, by omega, rfl⟩
    · rw [List.map_append]
      rfl
    · rw [List.length_append, hl]
      rfl
  rintro acc ρ2 ⟨bs, n2, rfl, hl, hn2, rfl⟩
  rw [List.length_map, ml] at hl hn2
  show WS _ _ _ _
  refine ws_seq ?_
  refine ws_asg (by walk_at "px") ?_
  refine w_lc (sl := [8]) (by intro i hi; rw [show i = 0 from (by simpa using hi)]; decide) (by simp) ?_
  refine wi_rng1 ?_
  walk_at "ex"
  refine ⟨by omega, by rw [intsD_len]; decide, fun i acc ρ => ∃ (fl : List Int) (n' : Nat), acc = fl.map .int ∧ fl.length = i ∧ (∀ x ∈ fl, 1 ≤ x ∧ x ≤ 99) ∧ n' ≤ n2 + i ∧ ρ = [some (.ex n'), some (.sh (.int 11)), some (.sh (.int many)), some (.sh wsD), some (.sh (.lst (bs.map fun b => .str (sideS b)))), none, none, none, none, some (.sh (.lst (ns.map .str))), some (.sh (.lst (ms.map .str))), none, none, none, none], ⟨[], n2, rfl, rfl, (fun x h => by cases h), by omega, rfl⟩, ?_, ?_⟩
  · rintro i d acc ρ2 hd ⟨fl, n', rfl, hl', hf, hn', rfl⟩
    obtain ⟨hi, rfl⟩ := intsD_get hd
    have hi : i < 3 := hi
    refine wg_name (by walk_at "px") (by simp) ?_
    refine wt_yes ?_
    rw [if_pos rfl]
    walk_at "ex"
    refine ⟨rfl, n', 99, rfl, rfl, by omega, by omega, by omega, fun x x0 x1 => ⟨_, .sh _, ?_⟩⟩
    walk_at "ex"
    refine ⟨fl ++ [1 + x], n' + 1, ?_, ?_, fun y hy => ?_, by omega, rfl⟩
    · rw [List.map_append]
      rfl
    · rw [List.length_append, hl']
      rfl
    · rcases List.mem_append.mp hy with e | e
      · exact hf y e
      · obtain rfl : y = 1 + x := by simpa using e
        omega
  rintro acc ρ2 ⟨fl, n3, rfl, hl3, hf, hn3, rfl⟩
  rw [intsD_len] at hl3 hn3
  have hl3 : fl.length = 3 := hl3
  have hn3 : n3 ≤ n2 + 3 := hn3
  show WS _ _ _ _
  refine ws_seq ?_
  refine ws_asg (by walk_at "px") ?_
  walk_at "ex"
  refine ⟨rfl, n3, 4, rfl, rfl, by omega, by omega, by omega, fun pl p0 p1 => ⟨_, .sh _, ?_⟩⟩
  show WS _ _ _ _
  refine ws_seq ?_
  refine ws_asgO (by walk_at "px") (by show 7 < 15; decide) ?_
  refine wo_lst ?_
  walk_at "ex"
  refine ⟨rfl, ?_⟩
  show WS _ _ _ _
  refine ws_seq ?_
  refine ws_for (sl := [8]) ?_
  refine wi_rng1 ?_
  walk_at "ex"
  refine ⟨by omega, ?_⟩
  refine ⟨fun i ρ => ∃ (B : List Bid) (n' : Nat) (k11 k12 k13 k8 : Option M), DrawnB ns ms bs i B ∧ n' ≤ n3 + 1 + 10 * i ∧ ρ = [some (.ex n'), some (.sh (.int 11)), some (.sh (.int many)), some (.sh wsD), some (.sh (.lst (bs.map fun b => .str (sideS b)))), some (.sh (.lst (fl.map .int))), some (.sh (.int pl)), some (.lst ((B.map bidD).map .sh)), k8, some (.sh (.lst (ns.map .str))), some (.sh (.lst (ms.map .str))), k11, k12, k13, none], ⟨[], n3 + 1, none, none, none, none, ⟨rfl, (fun b h => by cases h), fun b h => by cases h⟩, by omega, rfl⟩, ?_, ?_⟩
  · rintro i d ρ2 hd ⟨B, n', k11, k12, k13, k8, dr, hn', rfl⟩
    obtain ⟨hi, rfl⟩ := intsD_get hd
    have hi : i < many.toNat := hi
    rw [show (0 : Int) + (i : Int) = (i : Int) from Int.zero_add _]
    refine wg_name (by walk_at "px") (by simp) ?_
    refine ws_seq ?_
    refine ws_asg (by walk_at "px") ?_
    walk_at "ex"
    refine ⟨rfl, n', 5, rfl, rfl, by omega, by omega, by omega, fun x x0 x1 => ⟨_, .sh _, ?_⟩⟩
    walk_at "ex"
    refine ⟨rfl, n' + 1, 1 + x, rfl, rfl, by omega, by omega, by omega, fun t t0 t1 => ⟨_, .sh _, ?_⟩⟩
    show WS _ _ _ _
    refine ws_seq ?_
    refine ws_asg (by walk_at "px") ?_
    walk_at "ex"
    refine ⟨rfl, n' + 2, 99, rfl, rfl, by omega, by omega, by omega, fun a a0 a1 => ⟨_, .sh _, ?_⟩⟩
    walk_at "ex"
    refine ⟨rfl, n' + 3, 3, rfl, rfl, by omega, by omega, by omega, fun y y0 y1 => ⟨_, .sh _, ?_⟩⟩
    obtain ⟨fw, hfw, fw0, fw1⟩ : ∃ v : Int, atI (fl.map D.int) y = some (.int v) ∧ 1 ≤ v ∧ v ≤ 99 := by
      obtain ⟨k, rfl⟩ : ∃ k : Nat, y = (k : Int) := ⟨y.toNat, by omega⟩
      have hk : k < fl.length := by omega
      exact ⟨fl[k], atI_nat (by rw [List.getElem?_map, List.getElem?_eq_getElem hk]; rfl), hf _ (List.getElem_mem hk)⟩
    refine rd_ixL (.lst _) hfw ?_
    walk_at "ex"
    refine ⟨rfl, n' + 4, 9, rfl, rfl, by omega, by omega, by omega, fun z z0 z1 => ⟨_, .sh _, ?_⟩⟩
    walk_at "ex"
    obtain ⟨pv, hpv, pv0, pv1⟩ : ∃ v : Int, atI [D.int (1 + a), .int fw, .int (40 + z), .int 50] pl = some (.int v) ∧ 1 ≤ v ∧ v ≤ 99 := by
      obtain rfl | rfl | rfl | rfl : pl = 0 ∨ pl = 1 ∨ pl = 2 ∨ pl = 3 := by omega
      · exact ⟨1 + a, rfl, by omega, by omega⟩
      · exact ⟨fw, rfl, by omega, by omega⟩
      · exact ⟨40 + z, rfl, by omega, by omega⟩
      · exact ⟨50, rfl, by omega, by omega⟩
    refine rd_ixL (.lst _) hpv ?_
    show WS _ _ _ _
    refine ws_cut (fun ρ => ∃ (pr : Option Int) (n4 : Nat), (∀ v, pr = some v → 1 ≤ v ∧ v ≤ 99) ∧ n4 ≤ n' + 7 ∧ ρ = [some (.ex n4), some (.sh (.int 11)), some (.sh (.int many)), some (.sh wsD), some (.sh (.lst (bs.map fun b => .str (sideS b)))), some (.sh (.lst (fl.map .int))), some (.sh (.int pl)), some (.lst ((B.map bidD).map .sh)), some (.sh (.int (i : Int))), some (.sh (.lst (ns.map .str))), some (.sh (.lst (ms.map .str))), some (.sh (.int t)), some (.sh (prD pr)), k13, none]) ?_ ?_
    · refine ws_if ?_
      walk_at "ex"
      refine ⟨rfl, n' + 5, 6, rfl, rfl, by omega, by omega, by omega, fun c c0 c1 => ⟨_, .sh _, ?_⟩⟩
      walk_at "ex"
      refine if_dec (fun w => ?_) (fun w => ?_)
      · refine ws_asg (by walk_at "px") ?_
        walk_at "ex"
        refine ⟨rfl, n' + 6, 3, rfl, rfl, by omega, by omega, by omega, fun e e0 e1 => ⟨_, .sh _, ?_⟩⟩
        obtain ⟨pr, hpr, pr1⟩ : ∃ pr : Option Int, atI [D.non, .int 1, .int 99] e = some (prD pr) ∧ ∀ v, pr = some v → 1 ≤ v ∧ v ≤ 99 := by
          obtain rfl | rfl | rfl : e = 0 ∨ e = 1 ∨ e = 2 := by omega
          · exact ⟨none, rfl, fun v h => by cases h⟩
          · exact ⟨some 1, rfl, fun v h => by cases h; decide⟩
          · exact ⟨some 99, rfl, fun v h => by cases h; decide⟩
        refine rd_ixL (.lst _) hpr ?_
        exact ⟨pr, n' + 7, pr1, by omega, rfl⟩
      · exact ws_next ⟨some pv, n' + 6, fun v h => by cases h; exact ⟨pv0, pv1⟩, by omega, rfl⟩
    rintro ρ ⟨pr, n4, pr1, hn4, rfl⟩
    refine ws_seq ?_
    refine ws_asg (by walk_at "px") ?_
    walk_at "ex"
    refine ⟨rfl, n4, 3, rfl, rfl, by omega, by omega, by omega, fun e e0 e1 => ⟨_, .sh _, ?_⟩⟩
    obtain ⟨up, hup, up0, up1⟩ : ∃ v : Int, atI [D.int 2, .int 4, .int 12] e = some (.int v) ∧ 2 ≤ v ∧ v ≤ 12 := by
      obtain rfl | rfl | rfl : e = 0 ∨ e = 1 ∨ e = 2 := by omega
      · exact ⟨2, rfl, by omega, by omega⟩
      · exact ⟨4, rfl, by omega, by omega⟩
      · exact ⟨12, rfl, by omega, by omega⟩
    refine rd_ixL (.lst _) hup ?_
    walk_at "ex"
    refine ⟨rfl, n4 + 1, up, rfl, rfl, by omega, by omega, by omega, fun u u0 u1 => ⟨_, .sh _, ?_⟩⟩
    walk_at "ex"
    obtain ⟨tn, rfl⟩ : ∃ k : Nat, t = (k : Int) := ⟨t.toNat, by omega⟩
    have htm : tn < ms.length := by omega
    have htb : tn < bs.length := by omega
    have hin : i < ns.length := by omega
    show WS _ _ _ _
    refine ws_append ⟨_, rfl⟩ ?_
    walk_at "ex"
    refine rd_ixL (.lst _) (d := .str ns[i]) (atI_nat (by rw [List.getElem?_map, List.getElem?_eq_getElem hin]; rfl)) ?_
    walk_at "ex"
    refine rd_ixL (.lst _) (d := .str ms[tn]) (atI_nat (by rw [List.getElem?_map, List.getElem?_eq_getElem htm]; rfl)) ?_
    walk_at "ex"
    refine rd_ixL (.lst _) (d := .str (sideS bs[tn])) (atI_nat (by rw [List.getElem?_map, List.getElem?_eq_getElem htb]; rfl)) ?_
    walk_at "ex"
    have lb : B.length ≤ 11 := (dr.bids (by omega) nn mm).2
    have okb : BidOk ⟨ns[i], ms[tn], bs[tn], pr, 1 + u⟩ := ⟨(ng _ (List.getElem_mem hin)).2.1, (mg _ (List.getElem_mem htm)).1, (ng _ (List.getElem_mem hin)).2.2, (mg _ (List.getElem_mem htm)).2.2, pr1, by show 1 ≤ 1 + u; omega, by show 1 + u ≤ 12; omega⟩
    refine ⟨by rw [List.length_map, List.length_map]; omega, B ++ [⟨ns[i], ms[tn], bs[tn], pr, 1 + u⟩], n4 + 2, some (.sh (.int (tn : Int))), some (.sh (prD pr)), some (.sh (.int (1 + u))), some (.sh (.int (i : Int))), dr.more (List.getElem?_eq_getElem hin) okb (t := tn) (List.getElem?_eq_getElem htm) (List.getElem?_eq_getElem htb), by omega, ?_⟩
    rw [List.map_append, List.map_append]
    rfl
  rintro ρ2 ⟨B, n', k11, k12, k13, k8, dr, hn', rfl⟩
  rw [intsD_len] at dr hn'
  obtain ⟨b1, b2⟩ := dr.bids (by omega) nn mm
  refine ws_retV rfl ?_
  exact ⟨_, rfl, q B n' b1 b2 (by omega)⟩
end K20

namespace K20
open PySem PySem.Spec PyProof.Rows L2 DL
variable {prg : Program} {wd : World} {K : PySem.W.Frag} {mg : Str → Option Value} {bs : Heap}
local macro_rules | `(tactic| walk_at "px") => `(tactic| first | exact List.not_mem_nil | (show _ ∉ ([0] : List Nat); decide) | (show _ ∉ ([] : List Nat); decide) | fail)
local macro_rules | `(tactic| walk_at "s") => `(tactic| with_reducible first
  | refine ws_seq ?_ | refine ws_if ?_ | refine ws_next ?_ | refine ws_ret ?_ | refine ws_retN ?_ | refine ws_asg (by walk_at "px") ?_ | refine ws_par (by walk_at "px") (by walk_at "px") ?_
  | refine w_var (by with_unfolding_all rfl) ?_ | refine w_int ?_ | refine w_bl ?_ | refine w_non ?_ | refine w_str ?_ | refine w_dnew ?_ | refine w_ty ?_
  | refine w_op ?_ | refine w_un ?_ | refine w_fld ?_ | refine w_xf ?_ | refine wt_test ?_ | refine wt_B ?_ | refine wt_yes ?_ | refine wt_and ?_ | refine wt_or ?_ | refine wt_not ?_ | refine w_andV ?_ | refine w_orV ?_ | refine w_notV ?_ | refine w_ifE ?_ | refine w_chain ?_
  | refine wa_nil ?_ | refine wa_cons ?_ | refine w_tup ?_ | refine w_lst ?_ | refine w_slice ?_ | refine w_dget ?_ | refine w_dget2 ?_ | refine w_dget1 ?_ | refine wp_no ?_ | refine wp_int ?_
  | refine w_cd repL_nil ?_ | refine w_md repL_nil ?_ | refine w_mk repL_nil ?_ | refine w_co repL_nil ⟨_, by with_unfolding_all rfl⟩ ?_ | refine w_call ?_
  | refine rd_add ?_ | refine rd_sub ?_ | refine rd_lt ?_ | refine rd_le ?_ | refine rd_gt ?_ | refine rd_ge ?_ | refine rd_ltS ?_ | refine rd_leS ?_ | refine rd_gtS ?_ | refine rd_geS ?_ | refine rd_isN ?_ | refine rd_notN ?_ | refine rd_eqAI ?_ | refine rd_neAI ?_ | refine rd_eqAS ?_ | refine rd_neAS ?_
  | refine wg_tup rfl ?_ | refine wgs_cons ?_ | refine wg_name (by walk_at "px") (by simp) ?_ | refine wgs_nil ?_
  | refine ru_neg ?_ | refine ⟨(by show List.length _ ≤ 100000; simp; try omega), ?_⟩
  | refine rc_abs ?_ | refine rc_int1 ?_ | refine rc_min2 ?_ | refine rc_max2 ?_
  | refine ⟨_, rfl, ?_⟩ | fail)
local macro_rules | `(tactic| walk_at "go") => `(tactic| repeat' walk_at "s")
local macro_rules | `(tactic| walk_at "args") => `(tactic| repeat' (with_reducible first | refine wa_cons ?_ | refine wa_nil ?_ | refine w_int ?_ | refine w_bl ?_ | refine w_non ?_ | refine w_str ?_ | refine w_dnew ?_ | refine w_tup ?_ | refine w_lst ?_ | refine w_un ?_ | refine ru_neg ?_ | refine w_var (by with_unfolding_all rfl) ?_ | refine ⟨(by show List.length _ ≤ 100000; simp; try omega), ?_⟩ | fail))
local macro_rules | `(tactic| walk_at "e") => `(tactic| with_reducible first
  | refine w_var (by with_unfolding_all rfl) ?_ | refine w_int ?_ | refine w_bl ?_ | refine w_non ?_ | refine w_str ?_ | refine w_dnew ?_ | refine w_ty ?_
  | refine w_op ?_ | refine w_un ?_ | refine w_fld ?_ | refine w_xf ?_ | refine wt_test ?_ | refine wt_B ?_ | refine wt_yes ?_ | refine wt_and ?_ | refine wt_or ?_ | refine wt_not ?_ | refine w_andV ?_ | refine w_orV ?_ | refine w_notV ?_ | refine w_ifE ?_ | refine w_chain ?_
  | refine wa_nil ?_ | refine wa_cons ?_ | refine w_tup ?_ | refine w_lst ?_ | refine w_slice ?_ | refine w_dget ?_ | refine w_dget2 ?_ | refine w_dget1 ?_ | refine wp_no ?_ | refine wp_int ?_
  | refine w_cd repL_nil ?_ | refine w_md repL_nil ?_ | refine w_mk repL_nil ?_ | refine w_co repL_nil ⟨_, by with_unfolding_all rfl⟩ ?_ | refine w_call ?_
  | refine rd_add ?_ | refine rd_sub ?_ | refine rd_lt ?_ | refine rd_le ?_ | refine rd_gt ?_ | refine rd_ge ?_ | refine rd_ltS ?_ | refine rd_leS ?_ | refine rd_gtS ?_ | refine rd_geS ?_ | refine rd_isN ?_ | refine rd_notN ?_ | refine rd_eqAI ?_ | refine rd_neAI ?_ | refine rd_eqAS ?_ | refine rd_neAS ?_
  | refine wg_tup rfl ?_ | refine wgs_cons ?_ | refine wg_name (by walk_at "px") (by simp) ?_ | refine wgs_nil ?_
  | refine ru_neg ?_ | refine ⟨(by show List.length _ ≤ 100000; simp; try omega), ?_⟩
  | refine rc_abs ?_ | refine rc_int1 ?_ | refine rc_min2 ?_ | refine rc_max2 ?_
  | refine ⟨_, rfl, ?_⟩ | fail)
local macro_rules | `(tactic| walk_at "ex") => `(tactic| repeat' walk_at "e")
local macro_rules | `(tactic| walk_at "a_") => `(tactic| (show WS _ _ _ _; (with_reducible try refine ws_seq ?_); with_reducible refine ws_asg (by walk_at "px") ?_; walk_at "ex"))
local macro_rules | `(tactic| walk_at "i_") => `(tactic| (show WS _ _ _ _; (with_reducible try refine ws_seq ?_); with_reducible refine ws_if ?_; walk_at "ex"))
local macro_rules | `(tactic| walk_at "d_") => `(tactic| (show WS _ _ _ _; (with_reducible try refine ws_seq ?_); with_reducible refine ws_drop ?_; walk_at "ex"))
local macro_rules | `(tactic| walk_at "r_") => `(tactic| (show WS _ _ _ _; with_reducible refine ws_ret ?_; walk_at "ex"))
local macro_rules | `(tactic| walk_at "v_") => `(tactic| refine w_var (by with_unfolding_all rfl) ?_)
open CLR

def c_Llaw_due : CD := ⟨fun ds k => ∃ B t s pr, ds = [.lst (B.map bidD), .int t, .str (sideS s), prD pr] ∧ B.length ≤ 50 ∧ (∀ b ∈ B, 0 ≤ b.am) ∧ ∀ o, Turns B t s pr o → k (.ret (.sh (prD o))), by
  rintro ds k k' h ⟨B, t, s, pr, e, l, am, q⟩
  exact ⟨B, t, s, pr, e, l, am, fun r c => h _ (q r c)⟩⟩
theorem sc_Llaw_due : FnScope ["orders", "got", "side", "price", "before", "units"] ["orders", "got", "side", "price"] (defScope s_Llaw_due) := ⟨rfl, rfl, rfl, by decide +kernel, rfl, by decide +kernel, by decide +kernel⟩
theorem ok_Llaw_due (T : Tx K mg) (tb : ∀ p ∈ csOf K, LamX.TabB bs mg p.1 p.2) : ∃ fd, DC.FnG prg wd K mg bs (L2.CX prg wd) 4 (He.ga K "_law_due") fd ["orders", "got", "side", "price"] (toSp K 4 c_Llaw_due.con) ∧ L2.Binds K fd ["orders", "got", "side", "price"] [] ∧ PySem.W.keepIn K (.ref (He.ga K "_law_due")) = true := by
  obtain ⟨fd, F0⟩ := T.d_Llaw_due
  obtain ⟨_, F_Llaw_clearing, b_Llaw_clearing, k_Llaw_clearing⟩ := ok_Llaw_clearing (prg := prg) (wd := wd) (bs := bs) T tb
  obtain ⟨_, F_Llaw_price, b_Llaw_price, k_Llaw_price⟩ := ok_Llaw_price (prg := prg) (wd := wd) (bs := bs) T tb
  refine ⟨fd, def_D (N := ["orders", "got", "side", "price", "before", "units"]) F0 sc_Llaw_due rfl ?_, F0.bindsN fun _ _ _ _ _ _ us hl => match us, hl with | [_, _, _, _], _ => rfl, F0.kp⟩
  intro cdv A fr s H E ds kk gd room hc hl
  have hu := room.units
  have hu7 := room70 room
  have sc := sc_Llaw_due
  refine ⟨_, (pss_cons (ps_set (i := 4) sc.nd rfl (Or.inl rfl) (DC.pe_callG F_Llaw_price gd (room.mono (by decide)) (by rfl) T.g__law_price k_Llaw_price b_Llaw_price .nil (fun σ => passAt (takes_of rfl rfl rfl rfl) σ) (pa_cons (DC.pe_callG F_Llaw_clearing gd (room.mono (by decide)) (by rfl) T.g__law_clearing k_Llaw_clearing b_Llaw_clearing .nil (fun σ => passAt (takes_of rfl rfl rfl rfl) σ) (pa_cons (pv 0) (pa_cons (pv 1) pa_nil))) pa_nil)))
  (pss_cons (ps_for (passes_of rfl) rfl (pi_range2 (by rfl) T.n_range (pa_cons pe_int (pa_cons pe_int pa_nil))) (pg_name (i := 5) sc.nd rfl (Or.inl rfl)) (pss_one (ps_if (pt_cmpR (op_neA hu) (DC.pe_callG F_Llaw_price gd (room.mono (by decide)) (by rfl) T.g__law_price k_Llaw_price b_Llaw_price .nil (fun σ => passAt (takes_of rfl rfl rfl rfl) σ) (pa_cons (DC.pe_callG F_Llaw_clearing gd (room.mono (by decide)) (by rfl) T.g__law_clearing k_Llaw_clearing b_Llaw_clearing .nil (fun σ => passAt (takes_of rfl rfl rfl rfl) σ) (pa_cons (pe_op o_add (pv 0) (pe_lst (pa_cons (pe_tup (pa_cons pe_str (pa_cons pe_str (pa_cons (pv 2) (pa_cons (pv 3) (pa_cons (pv 5) pa_nil)))))) pa_nil))) (pa_cons (pv 1) pa_nil))) pa_nil)) (pv 4) (nomark _)) (pss_one (ps_ret (pv 5))) pss_nil)))
  (pss_one (ps_ret pe_non)))), ?_⟩
  try dsimp only [L2.cxOf]
  obtain ⟨B, t, s, pr, rfl, le, am, q⟩ := hc
  refine ws_seq ?_
  refine ws_asg (by walk_at "px") ?_
  walk_at "ex"
  refine ⟨rfl, B, t, rfl, by omega, am, fun r0 h0 => ⟨_, .sh _, ?_⟩⟩
  walk_at "ex"
  refine ⟨rfl, r0, rfl, _, .sh _, ?_⟩
  show WS _ _ _ _
  refine ws_seq ?_
  refine ws_for (sl := [5]) ?_
  refine wi_rng2 ?_
  walk_at "ex"
  refine ⟨1, 13, rfl, by decide, fun i ρ => ∃ y5 : Option M, (∀ u, 1 ≤ u → u < 1 + (i : Int) → TurnU B t s pr r0 u false) ∧ ρ = [some (.sh (.lst (B.map bidD))), some (.sh (.int t)), some (.sh (.str (sideS s))), some (.sh (prD pr)), some (.sh (prcD r0)), y5], ⟨none, fun u h1 h2 => by omega, rfl⟩, ?_, ?_⟩
  · rintro i d ρ2 hd ⟨y5, same, rfl⟩
    obtain ⟨hi, rfl⟩ := intsD_get hd
    have hi : i < 12 := hi
    refine wg_name (by walk_at "px") (by simp) ?_
    refine ws_if ?_
    walk_at "ex"
    refine rd_addL (.lst _) (.lst _) (by rw [List.length_map]; show B.length + 1 ≤ 100000; omega) ?_
    rw [show B.map bidD ++ [D.tup [D.str "", D.str "", D.str (sideS s), prD pr, D.int (1 + (i : Int))]] = (B ++ [xBid s pr (1 + (i : Int))]).map bidD by rw [List.map_append]; rfl]
    walk_at "ex"
    refine ⟨rfl, B ++ [xBid s pr (1 + (i : Int))], t, rfl, by rw [List.length_append]; show B.length + 1 ≤ 100; omega, fun b hb => ?_, fun r hr => ⟨_, .sh _, ?_⟩⟩
    · rcases List.mem_append.mp hb with e | e
      · exact am b e
      · obtain rfl : b = xBid s pr (1 + (i : Int)) := by simpa using e
        show 0 ≤ 1 + (i : Int)
        omega
    walk_at "ex"
    refine ⟨rfl, r, rfl, _, .sh _, ?_⟩
    walk_at "ex"
    refine rd_nePrc fun b hb => ?_
    refine ⟨b, rfl, ?_⟩
    cases b with
    | true =>
      refine if_ye rfl ?_
      refine ws_ret ?_
      walk_at "ex"
      exact q (some (1 + (i : Int))) ⟨r0, h0, by omega, by omega, ⟨r, hr, hb⟩, fun u h1 h2 => same u h1 h2⟩
    | false =>
      refine if_no rfl ?_
      refine ws_next ?_
      refine ⟨_, fun u h1 h2 => ?_, rfl⟩
      rcases (show u < 1 + (i : Int) ∨ u = 1 + (i : Int) by omega) with e | e
      · exact same u h1 e
      · rw [e]
        exact ⟨r, hr, hb⟩
  rintro ρ2 ⟨y5, same, rfl⟩
  show WS _ _ _ _
  refine ws_retN ?_
  exact q none ⟨r0, h0, fun u h1 h2 => same u h1 (by rw [intsD_len]; show u < 1 + ((12 : Nat) : Int); omega)⟩
theorem nodup_le : ∀ {L U : List Str}, L.Nodup → (∀ x ∈ L, x ∈ U) → L.length ≤ U.length
  | [], U, _, _ => Nat.zero_le _
  | x :: L, U, nd, h => by
    have h1 := List.nodup_cons.mp nd
    have hx := h x List.mem_cons_self
    have := nodup_le (L := L) (U := U.erase x) h1.2 fun y hy => (List.mem_erase_of_ne (fun e => by subst e; exact h1.1 hy)).mpr (h y (List.mem_cons_of_mem _ hy))
    rw [List.length_erase_of_mem hx] at this
    have := List.length_pos_of_mem hx
    rw [List.length_cons]
    omega
def fresh26 : List Str := (("abcdefghijklmnopqrstuvwxyz" : Str).cps.toList).map fun c => ("y" : Str) ++ ⟨#[c]⟩
theorem fresh_nd : fresh26.Nodup := by decide +kernel
theorem fresh_ok : ∀ w ∈ fresh26, goodB (.str w) = true ∧ nameB (.str w) = true ∧ w.length ≤ 8 := by decide +kernel
theorem part_len (c : Str → Bool) : ∀ l : List Str, l.length = (l.filter c).length + (l.filter fun w => !c w).length
  | [] => rfl
  | x :: l => by
    have ih := part_len c l
    by_cases h : c x = true
    · rw [List.filter_cons_of_pos h, List.filter_cons_of_neg (by rw [h]; decide), List.length_cons, List.length_cons]
      omega
    · rw [List.filter_cons_of_neg h, List.filter_cons_of_pos (by simpa using h), List.length_cons, List.length_cons]
      omega
theorem fresh_two {U : List Str} (h : U.length ≤ 22) : ∃ a b l, fresh26.filter (fun w => !decide (w ∈ U)) = a :: b :: l := by
  have e : fresh26.length = (fresh26.filter fun w => decide (w ∈ U)).length + (fresh26.filter fun w => !decide (w ∈ U)).length := part_len _ _
  have l : (fresh26.filter fun w => decide (w ∈ U)).length ≤ U.length := nodup_le (fresh_nd.filter _) fun x hx => of_decide_eq_true (List.mem_filter.mp hx).2
  have l26 : fresh26.length = 26 := by decide +kernel
  match hm : fresh26.filter (fun w => !decide (w ∈ U)) with
  | [] => rw [hm] at e; simp at e; omega
  | [a] => rw [hm] at e; simp at e; omega
  | a :: b :: l => exact ⟨a, b, l, rfl⟩
structure Fresh (B : List Bid) (a b : Str) : Prop where
  na : nameB (.str a) = true
  gb : goodB (.str b) = true
  la : a.length ≤ 8
  lb : b.length ≤ 8
  noa : a ∉ B.map (·.nm)
  nob : b ∉ B.map (·.mb)
def c_Llaw_fresh : CD := ⟨fun ds k => ∃ B, ds = [.lst (B.map bidD)] ∧ B.length ≤ 11 ∧ ∀ a b, Fresh B a b → k (.ret (.sh (.lst [.str a, .str b]))), by
  rintro ds k k' h ⟨B, e, l, q⟩
  exact ⟨B, e, l, fun a b f => h _ (q a b f)⟩⟩
theorem any_mem {U : List Str} {w : Str} : ((U.map D.str).any fun z => dEq z (.str w)) = decide (w ∈ U) := by
  (rw [List.any_map, Bool.eq_iff_iff, List.any_eq_true, decide_eq_true_eq])
  constructor
  · rintro ⟨x, hx, e⟩
    have e : x = w := by simpa [dEq] using e
    rw [← e]
    exact hx
  · intro h
    exact ⟨w, h, by simp [dEq]⟩
theorem sc_Llaw_fresh : FnScope ["orders", "used", "order", "word", "sign"] ["orders"] (defScope s_Llaw_fresh) := ⟨rfl, rfl, rfl, by decide +kernel, rfl, by decide +kernel, by decide +kernel⟩
theorem ok_Llaw_fresh (T : Tx K mg) (tb : ∀ p ∈ csOf K, LamX.TabB bs mg p.1 p.2) : ∃ fd, DC.FnG prg wd K mg bs (L2.CX prg wd) 1 (He.ga K "_law_fresh") fd ["orders"] (toSp K 1 c_Llaw_fresh.con) ∧ L2.Binds K fd ["orders"] [] ∧ PySem.W.keepIn K (.ref (He.ga K "_law_fresh")) = true := by
  obtain ⟨fd, F0⟩ := T.d_Llaw_fresh
  refine ⟨fd, def_D (N := ["orders", "used", "order", "word", "sign"]) F0 sc_Llaw_fresh rfl ?_, F0.bindsN fun _ _ _ _ _ _ us hl => match us, hl with | [_], _ => rfl, F0.kp⟩
  intro cdv A fr s H E ds kk gd room hc hl
  have hu := room.units
  have hu7 := room70 room
  have sc := sc_Llaw_fresh
  refine ⟨_, (pss_cons (ps_set (i := 1) sc.nd rfl (Or.inr rfl) (pe_op o_add (pe_lc (own := [("order", 2)]) (g := (gName 2)) (tt := tYes) (by rfl) sc.nd (pi_list (pv 0)) (blkOk_by (own := [("order", 2)]) (N := ["orders", "used", "order", "word", "sign"]) (sc := defScope s_Llaw_fresh) (by decide +kernel)) (fun _ _ _ _ _ => (pg_name (i := 2) sc.nd rfl (Or.inl rfl))) (fun _ _ _ _ _ => pts_nil) (fun _ _ _ _ _ => (pe_ix (o_ixK rfl) (pv 2) pe_int (fun _ _ => rfl)))) (pe_lc (own := [("order", 2)]) (g := (gName 2)) (tt := tYes) (by rfl) sc.nd (pi_list (pv 0)) (blkOk_by (own := [("order", 2)]) (N := ["orders", "used", "order", "word", "sign"]) (sc := defScope s_Llaw_fresh) (by decide +kernel)) (fun _ _ _ _ _ => (pg_name (i := 2) sc.nd rfl (Or.inl rfl))) (fun _ _ _ _ _ => pts_nil) (fun _ _ _ _ _ => (pe_ix (o_ixK rfl) (pv 2) pe_int (fun _ _ => rfl))))))
  (pss_one (ps_ret (pe_slice o_sl (pe_lc (own := [("word", 3)]) (g := (gName 3))  (by rfl) sc.nd (pi_list (pe_lc (own := [("sign", 4)]) (g := (gName 4)) (tt := tYes) (by rfl) sc.nd (pi_str pe_str) (blkOk_by (own := [("sign", 4)]) (N := ["orders", "used", "order", "word", "sign"]) (sc := defScope s_Llaw_fresh) (by decide +kernel)) (fun _ _ _ _ _ => (pg_name (i := 4) sc.nd rfl (Or.inl rfl))) (fun _ _ _ _ _ => pts_nil) (fun _ _ _ _ _ => (pe_op (o_addK rfl) pe_str (pv 4))))) (blkOk_by (own := [("word", 3)]) (N := ["orders", "used", "order", "word", "sign"]) (sc := defScope s_Llaw_fresh) (by decide +kernel)) (fun _ _ _ _ _ => (pg_name (i := 3) sc.nd rfl (Or.inl rfl))) (fun _ _ _ _ _ => (pts_one (pt_cmpR (o_notInK rfl) (pv 3) (pv 1) (by rfl)))) (fun _ _ _ _ _ => (pv 3))) po_none (po_some pe_int))))), ?_⟩
  try dsimp only [L2.cxOf]
  obtain ⟨B, rfl, hl, q⟩ := hc
  refine ws_seq ?_
  refine ws_asg (by walk_at "px") ?_
  refine w_op ?_
  refine w_lcA (xs := B) (r := bidD) (f := fun b => some (.str b.nm)) (by walk_at "px") (nameOk_none rfl) ?_
  refine wi_list ?_
  walk_at "ex"
  refine ⟨rfl, rfl, by omega, fun b hb => ?_, ?_⟩
  · refine wt_yes ⟨rfl, ?_⟩
    rw [if_pos rfl]
    walk_at "ex"
    refine rd_ixT (xs := bidL b) (d := .str b.nm) rfl ?_
    exact ⟨rfl, rfl⟩
  refine w_lcA (xs := B) (r := bidD) (f := fun b => some (.str b.mb)) (by walk_at "px") (nameOk_none rfl) ?_
  refine wi_list ?_
  walk_at "ex"
  refine ⟨rfl, rfl, by omega, fun b hb => ?_, ?_⟩
  · refine wt_yes ⟨rfl, ?_⟩
    rw [if_pos rfl]
    walk_at "ex"
    refine rd_ixT (xs := bidL b) (d := .str b.mb) rfl ?_
    exact ⟨rfl, rfl⟩
  refine rd_addL (.lst _) (.lst _) (by rw [fm_some, fm_some, List.length_map, List.length_map]; omega) ?_
  rw [fm_some, fm_some, show (B.map fun b => D.str b.nm) ++ (B.map fun b => D.str b.mb) = (B.map (·.nm) ++ B.map (·.mb)).map .str by rw [List.map_append, List.map_map, List.map_map]; rfl]
  obtain ⟨a, b, l, hf⟩ := fresh_two (U := B.map (·.nm) ++ B.map (·.mb)) (by rw [List.length_append, List.length_map, List.length_map]; omega)
  have ma : a ∈ fresh26.filter fun w => !decide (w ∈ B.map (·.nm) ++ B.map (·.mb)) := by rw [hf]; exact List.mem_cons_self
  have mb : b ∈ fresh26.filter fun w => !decide (w ∈ B.map (·.nm) ++ B.map (·.mb)) := by rw [hf]; exact List.mem_cons_of_mem _ List.mem_cons_self
  obtain ⟨a1, a2⟩ := List.mem_filter.mp ma
  obtain ⟨b1, b2⟩ := List.mem_filter.mp mb
  have a3 : a ∉ B.map (·.nm) ++ B.map (·.mb) := by simpa using a2
  have b3 : b ∉ B.map (·.nm) ++ B.map (·.mb) := by simpa using b2
  have q1 := q a b ⟨(fresh_ok a a1).2.1, (fresh_ok b b1).1, (fresh_ok a a1).2.2, (fresh_ok b b1).2.2, fun h => a3 (List.mem_append_left _ h), fun h => b3 (List.mem_append_right _ h)⟩
  generalize hU : B.map (·.nm) ++ B.map (·.mb) = U at hf
  have lU : U.length ≤ 22 := by rw [← hU, List.length_append, List.length_map, List.length_map]; omega
  show WS _ _ _ _
  refine ws_ret ?_
  refine w_slice ?_
  refine w_lcA (xs := fresh26) (r := D.str) (f := fun w => if (!decide (w ∈ U)) = true then some (.str w) else none) (by walk_at "px") (nameOk_none rfl) ?_
  refine wi_list ?_
  refine w_lcA (xs := ("abcdefghijklmnopqrstuvwxyz" : Str).cps.toList) (r := fun c => D.str ⟨#[c]⟩) (f := fun c => some (.str (("y" : Str) ++ ⟨#[c]⟩))) (by walk_at "px") (nameOk_none rfl) ?_
  refine wi_str ?_
  walk_at "ex"
  refine ⟨rfl, rfl, by decide, fun c hc => ?_, ?_⟩
  · refine wt_yes ⟨rfl, ?_⟩
    rw [if_pos rfl]
    walk_at "ex"
    refine rd_addS (by show 1 + 1 ≤ 100000; decide) ?_
    exact ⟨rfl, rfl⟩
  rw [fm_some, show (("abcdefghijklmnopqrstuvwxyz" : Str).cps.toList.map fun c => D.str (("y" : Str) ++ ⟨#[c]⟩)) = fresh26.map .str by unfold fresh26; rw [List.map_map]; rfl]
  refine ⟨_, rfl, rfl, rfl, by decide +kernel, fun w hw => ?_, ?_⟩
  · refine wt_test ?_
    walk_at "ex"
    refine rd_ni (.inl (.lst _)) rfl (by rw [List.all_map]; exact List.all_eq_true.mpr fun _ _ => rfl) ?_
    rw [any_mem]
    refine ⟨_, rfl, rfl, ?_⟩
    refine if_b (fun z => ?_) (fun z => by rw [z]; rfl)
    rw [z]
    walk_at "ex"
    exact ⟨rfl, rfl⟩
  rw [fm_if, hf]
  walk_at "ex"
  refine rs_list (.lst _) ?_
  rw [cutD_to (by decide) (by simp; omega)]
  exact q1
end K20

namespace K20
open PySem PySem.Spec PyProof.Rows L2 DL
variable {prg : Program} {wd : World} {K : PySem.W.Frag} {mg : Str → Option Value} {bs : Heap}
local macro_rules | `(tactic| walk_at "px") => `(tactic| first | exact List.not_mem_nil | (show _ ∉ ([0] : List Nat); decide) | (show _ ∉ ([] : List Nat); decide) | fail)
local macro_rules | `(tactic| walk_at "s") => `(tactic| with_reducible first
  | refine ws_seq ?_ | refine ws_if ?_ | refine ws_next ?_ | refine ws_ret ?_ | refine ws_retN ?_ | refine ws_asg (by walk_at "px") ?_ | refine ws_par (by walk_at "px") (by walk_at "px") ?_
  | refine w_var (by with_unfolding_all rfl) ?_ | refine w_int ?_ | refine w_bl ?_ | refine w_non ?_ | refine w_str ?_ | refine w_dnew ?_ | refine w_ty ?_
  | refine w_op ?_ | refine w_un ?_ | refine w_fld ?_ | refine w_xf ?_ | refine wt_test ?_ | refine wt_B ?_ | refine wt_yes ?_ | refine wt_and ?_ | refine wt_or ?_ | refine wt_not ?_ | refine w_andV ?_ | refine w_orV ?_ | refine w_notV ?_ | refine w_ifE ?_ | refine w_chain ?_
  | refine wa_nil ?_ | refine wa_cons ?_ | refine w_tup ?_ | refine w_lst ?_ | refine w_slice ?_ | refine w_dget ?_ | refine w_dget2 ?_ | refine w_dget1 ?_ | refine wp_no ?_ | refine wp_int ?_
  | refine w_cd repL_nil ?_ | refine w_md repL_nil ?_ | refine w_mk repL_nil ?_ | refine w_co repL_nil ⟨_, by with_unfolding_all rfl⟩ ?_ | refine w_call ?_
  | refine rd_add ?_ | refine rd_sub ?_ | refine rd_lt ?_ | refine rd_le ?_ | refine rd_gt ?_ | refine rd_ge ?_ | refine rd_ltS ?_ | refine rd_leS ?_ | refine rd_gtS ?_ | refine rd_geS ?_ | refine rd_isN ?_ | refine rd_notN ?_ | refine rd_eqAI ?_ | refine rd_neAI ?_ | refine rd_eqAS ?_ | refine rd_neAS ?_
  | refine wg_tup rfl ?_ | refine wgs_cons ?_ | refine wg_name (by walk_at "px") (by simp) ?_ | refine wgs_nil ?_
  | refine ru_neg ?_ | refine ⟨(by show List.length _ ≤ 100000; simp; try omega), ?_⟩
  | refine rc_abs ?_ | refine rc_int1 ?_ | refine rc_min2 ?_ | refine rc_max2 ?_
  | refine ⟨_, rfl, ?_⟩ | fail)
local macro_rules | `(tactic| walk_at "go") => `(tactic| repeat' walk_at "s")
local macro_rules | `(tactic| walk_at "args") => `(tactic| repeat' (with_reducible first | refine wa_cons ?_ | refine wa_nil ?_ | refine w_int ?_ | refine w_bl ?_ | refine w_non ?_ | refine w_str ?_ | refine w_dnew ?_ | refine w_tup ?_ | refine w_lst ?_ | refine w_un ?_ | refine ru_neg ?_ | refine w_var (by with_unfolding_all rfl) ?_ | refine ⟨(by show List.length _ ≤ 100000; simp; try omega), ?_⟩ | fail))
local macro_rules | `(tactic| walk_at "e") => `(tactic| with_reducible first
  | refine w_var (by with_unfolding_all rfl) ?_ | refine w_int ?_ | refine w_bl ?_ | refine w_non ?_ | refine w_str ?_ | refine w_dnew ?_ | refine w_ty ?_
  | refine w_op ?_ | refine w_un ?_ | refine w_fld ?_ | refine w_xf ?_ | refine wt_test ?_ | refine wt_B ?_ | refine wt_yes ?_ | refine wt_and ?_ | refine wt_or ?_ | refine wt_not ?_ | refine w_andV ?_ | refine w_orV ?_ | refine w_notV ?_ | refine w_ifE ?_ | refine w_chain ?_
  | refine wa_nil ?_ | refine wa_cons ?_ | refine w_tup ?_ | refine w_lst ?_ | refine w_slice ?_ | refine w_dget ?_ | refine w_dget2 ?_ | refine w_dget1 ?_ | refine wp_no ?_ | refine wp_int ?_
  | refine w_cd repL_nil ?_ | refine w_md repL_nil ?_ | refine w_mk repL_nil ?_ | refine w_co repL_nil ⟨_, by with_unfolding_all rfl⟩ ?_ | refine w_call ?_
  | refine rd_add ?_ | refine rd_sub ?_ | refine rd_lt ?_ | refine rd_le ?_ | refine rd_gt ?_ | refine rd_ge ?_ | refine rd_ltS ?_ | refine rd_leS ?_ | refine rd_gtS ?_ | refine rd_geS ?_ | refine rd_isN ?_ | refine rd_notN ?_ | refine rd_eqAI ?_ | refine rd_neAI ?_ | refine rd_eqAS ?_ | refine rd_neAS ?_
  | refine wg_tup rfl ?_ | refine wgs_cons ?_ | refine wg_name (by walk_at "px") (by simp) ?_ | refine wgs_nil ?_
  | refine ru_neg ?_ | refine ⟨(by show List.length _ ≤ 100000; simp; try omega), ?_⟩
  | refine rc_abs ?_ | refine rc_int1 ?_ | refine rc_min2 ?_ | refine rc_max2 ?_
  | refine ⟨_, rfl, ?_⟩ | fail)
local macro_rules | `(tactic| walk_at "ex") => `(tactic| repeat' walk_at "e")
local macro_rules | `(tactic| walk_at "a_") => `(tactic| (show WS _ _ _ _; (with_reducible try refine ws_seq ?_); with_reducible refine ws_asg (by walk_at "px") ?_; walk_at "ex"))
local macro_rules | `(tactic| walk_at "i_") => `(tactic| (show WS _ _ _ _; (with_reducible try refine ws_seq ?_); with_reducible refine ws_if ?_; walk_at "ex"))
local macro_rules | `(tactic| walk_at "d_") => `(tactic| (show WS _ _ _ _; (with_reducible try refine ws_seq ?_); with_reducible refine ws_drop ?_; walk_at "ex"))
local macro_rules | `(tactic| walk_at "r_") => `(tactic| (show WS _ _ _ _; with_reducible refine ws_ret ?_; walk_at "ex"))
local macro_rules | `(tactic| walk_at "v_") => `(tactic| refine w_var (by with_unfolding_all rfl) ?_)
open CLR

theorem rd_neAB {K : PySem.W.Frag} {k : D → Prop} {a b : Bool} (p : k (.bl (!(a == b)))) : RD K (rNeA K) (.bl a) (.bl b) k := rd_neL (rd_neD (p := .bool a) (q := .bool b) rfl rfl rfl rfl (by
  have : PyData.eqv (.bool a) (.bool b) = (a == b) := by cases a <;> cases b <;> rfl
  rw [this]
  exact p))

theorem Clr.same {B B' : List Bid} {t : Int} {r : Option (Int × Int)} (h : ∀ s p, CLR.cnt B s p = CLR.cnt B' s p) (c : Clr B t r) : Clr B' t r := by
  have v : vol B = vol B' := funext fun p => by unfold vol; rw [h, h]
  have l : lft B = lft B' := funext fun p => by unfold lft; rw [h, h]
  have a : at_ B = at_ B' := funext fun m => by unfold at_; rw [v]
  have mo : ∀ m, Most B m → Most B' m := fun m hm => ⟨by rw [← v]; exact hm.at_, by rw [← v]; exact hm.all⟩
  cases c with
  | non h => exact .non (mo _ h)
  | some h1 h2 h3 h4 =>
    rw [l, a] at h3 h4
    exact .some (mo _ h1) h2 h3 h4
theorem cnt_app {B : List Bid} {x y : Bid} (h1 : x.buy = y.buy) (h2 : x.pr = y.pr) (h3 : x.am = y.am) (s : Bool) (p : Int) : CLR.cnt (B ++ [x]) s p = CLR.cnt (B ++ [y]) s p := by
  have w : x.worth = y.worth := by unfold Bid.worth; rw [h1, h2]
  have r : x.rise p = y.rise p := by unfold Bid.rise; rw [h1, w]
  rw [cnt_eq, cnt_eq, List.filter_append, List.filter_append, List.map_append, List.map_append, List.sum_append, List.sum_append]
  congr 1
  have e : (decide (x.buy = s) && decide (0 ≤ x.rise p)) = (decide (y.buy = s) && decide (0 ≤ y.rise p)) := by rw [h1, r]
  simp only [List.filter_cons, List.filter_nil]
  rw [e]
  split <;> simp [h3]
theorem bids_more {B : List Bid} {a b : Str} {s : Bool} {pr : Option Int} {u : Int} (ok : BidsOk B) (le : B.length ≤ 11) (f : Fresh B a b) (pp : ∀ i, pr = some i → 1 ≤ i ∧ i ≤ 99) (u0 : 1 ≤ u) (u1 : u ≤ 12) : BidsOk (B ++ [⟨a, b, s, pr, u⟩]) := by
  refine ⟨fun x hx => ?_, by rw [List.length_append]; show B.length + 1 ≤ 12; omega, ?_, fun x hx y hy e => ?_⟩
  · rcases List.mem_append.mp hx with h | h
    · exact ok.ok x h
    · obtain rfl : x = ⟨a, b, s, pr, u⟩ := by simpa using h
      exact ⟨f.na, f.gb, f.la, f.lb, pp, u0, u1⟩
  · rw [List.map_append]
    refine List.nodup_append.mpr ⟨ok.nd, by simp, fun x hx y hy e => ?_⟩
    have : y = a := by simpa using hy
    subst this
    subst e
    exact f.noa hx
  · rcases List.mem_append.mp hx with h | h <;> rcases List.mem_append.mp hy with k | k
    · exact ok.one x h y k e
    · obtain rfl : y = ⟨a, b, s, pr, u⟩ := by simpa using k
      exact (f.nob (List.mem_map.mpr ⟨x, h, e⟩)).elim
    · obtain rfl : x = ⟨a, b, s, pr, u⟩ := by simpa using h
      exact (f.nob (List.mem_map.mpr ⟨y, k, e.symm⟩)).elim
    · obtain rfl : x = ⟨a, b, s, pr, u⟩ := by simpa using h
      obtain rfl : y = ⟨a, b, s, pr, u⟩ := by simpa using k
      rfl
theorem TurnU.of {B : List Bid} {t : Int} {s : Bool} {pr : Option Int} {r0 r : Option (Int × Int)} {u : Int} {b c : Bool} (h : TurnU B t s pr r0 u c) (hr : Clr (B ++ [xBid s pr u]) t r) (hb : prcD r = prcD r0 ↔ b = false) : b = c := by
  obtain ⟨r', h1, h2⟩ := h
  obtain rfl := h1.one hr
  cases b <;> cases c <;> simp_all
def shownO : Option Int → Str
  | none => PyData.shown .none
  | some v => PyData.shown (.int v)
theorem rc_reprO {K : PySem.W.Frag} {o : Option Int} {k : D → Prop} (h : ∀ v, o = some v → 1 ≤ v ∧ v ≤ 12) (q : k (.str (shownO o))) : RC K (rReprD K) [prD o] k := by
  cases o with
  | none => exact rc_reprD (p := .none) rfl rfl (by decide) (by decide +kernel) q
  | some v =>
    obtain ⟨h1, h2⟩ := h v rfl
    have all : v = 1 ∨ v = 2 ∨ v = 3 ∨ v = 4 ∨ v = 5 ∨ v = 6 ∨ v = 7 ∨ v = 8 ∨ v = 9 ∨ v = 10 ∨ v = 11 ∨ v = 12 := by omega
    refine rc_reprD (p := .int v) rfl ?_ (by show 0 ≤ 64; decide) ?_ q
    · rcases all with rfl | rfl | rfl | rfl | rfl | rfl | rfl | rfl | rfl | rfl | rfl | rfl <;> decide +kernel
    · rcases all with rfl | rfl | rfl | rfl | rfl | rfl | rfl | rfl | rfl | rfl | rfl | rfl <;> decide +kernel
theorem Turns.small {B : List Bid} {t : Int} {s : Bool} {pr o : Option Int} (h : Turns B t s pr o) : ∀ v, o = some v → 1 ≤ v ∧ v ≤ 12 := fun v e => by
  subst e
  obtain ⟨_, _, h1, h2, _⟩ := h
  exact ⟨h1, h2⟩
def c_Llaw_right : CD := ⟨fun ds k => ∃ B t s pr, ds = [.lst (B.map bidD), .int t, .str (sideS s), prD pr] ∧ BidsOk B ∧ B.length ≤ 11 ∧ 1 ≤ t ∧ t ≤ 99 ∧ (∀ i, pr = some i → 1 ≤ i ∧ i ≤ 99) ∧ k (.ret (.sh (.bl true))), by
  rintro ds k k' h ⟨B, t, s, pr, e, o, l, p0, p1, pp, q⟩
  exact ⟨B, t, s, pr, e, o, l, p0, p1, pp, h _ q⟩⟩
theorem sc_Llaw_right : FnScope ["orders", "got", "side", "price", "due", "before", "units", "more"] ["orders", "got", "side", "price"] (defScope s_Llaw_right) := ⟨rfl, rfl, rfl, by decide +kernel, rfl, by decide +kernel, by decide +kernel⟩
theorem ok_Llaw_right (T : Tx K mg) (tb : ∀ p ∈ csOf K, LamX.TabB bs mg p.1 p.2) : ∃ fd, DC.FnG prg wd K mg bs (L2.CX prg wd) 9 (He.ga K "_law_right") fd ["orders", "got", "side", "price"] (toSp K 4 c_Llaw_right.con) ∧ L2.Binds K fd ["orders", "got", "side", "price"] [] ∧ PySem.W.keepIn K (.ref (He.ga K "_law_right")) = true := by
  obtain ⟨fd, F0⟩ := T.d_Llaw_right
  obtain ⟨_, F_Llaw_due, b_Llaw_due, k_Llaw_due⟩ := ok_Llaw_due (prg := prg) (wd := wd) (bs := bs) T tb
  obtain ⟨_, F_Llaw_fresh, b_Llaw_fresh, k_Llaw_fresh⟩ := ok_Llaw_fresh (prg := prg) (wd := wd) (bs := bs) T tb
  obtain ⟨_, F_Llaw_price, b_Llaw_price, k_Llaw_price⟩ := ok_Llaw_price (prg := prg) (wd := wd) (bs := bs) T tb
  obtain ⟨_, F_Fclearing, b_Fclearing, k_Fclearing⟩ := ok_Fclearing (prg := prg) (wd := wd) (bs := bs) T tb
  obtain ⟨_, F_Fturning, b_Fturning, k_Fturning⟩ := ok_Fturning (prg := prg) (wd := wd) (bs := bs) T tb
  refine ⟨fd, def_D (N := ["orders", "got", "side", "price", "due", "before", "units", "more"]) F0 sc_Llaw_right rfl ?_, F0.bindsN fun _ _ _ _ _ _ us hl => match us, hl with | [_, _, _, _], _ => rfl, F0.kp⟩
  intro cdv A fr s H E ds kk gd room hc hl
  have hu := room.units
  have hu7 := room70 room
  have sc := sc_Llaw_right
  refine ⟨_, (pss_cons (ps_set (i := 4) sc.nd rfl (Or.inl rfl) (DC.pe_callG F_Llaw_due gd (room.mono (by decide)) (by rfl) T.g__law_due k_Llaw_due b_Llaw_due .nil (fun σ => passAt (takes_of rfl rfl rfl rfl) σ) (pa_cons (pv 0) (pa_cons (pv 1) (pa_cons (pv 2) (pa_cons (pv 3) pa_nil))))))
  (pss_cons (ps_if (pt_cmpR (op_neA hu) (pe_callB (o_reprD gd hu7 T.sm) (by rfl) T.n_repr (by decide +kernel) (pa_cons (DC.pe_callG F_Fturning gd (room.mono (by decide)) (by rfl) T.g_turning k_Fturning b_Fturning .nil (fun σ => passAt (takes_of rfl rfl rfl rfl) σ) (pa_cons (pv 0) (pa_cons (pv 1) (pa_cons (pv 2) (pa_cons (pv 3) pa_nil))))) pa_nil)) (pe_callB (o_reprD gd hu7 T.sm) (by rfl) T.n_repr (by decide +kernel) (pa_cons (pv 4) pa_nil)) (nomark _)) (pss_one (ps_ret pe_bl)) pss_nil)
  (pss_cons (ps_set (i := 5) sc.nd rfl (Or.inl rfl) (DC.pe_callG F_Llaw_price gd (room.mono (by decide)) (by rfl) T.g__law_price k_Llaw_price b_Llaw_price .nil (fun σ => passAt (takes_of rfl rfl rfl rfl) σ) (pa_cons (DC.pe_callG F_Fclearing gd (room.mono (by decide)) (by rfl) T.g_clearing k_Fclearing b_Fclearing .nil (fun σ => passAt (takes_of rfl rfl rfl rfl) σ) (pa_cons (pv 0) (pa_cons (pv 1) pa_nil))) pa_nil)))
  (pss_cons (ps_for (passes_of rfl) rfl (pi_range2 (by rfl) T.n_range (pa_cons pe_int (pa_cons pe_int pa_nil))) (pg_name (i := 6) sc.nd rfl (Or.inl rfl)) (pss_cons (ps_set (i := 7) sc.nd rfl (Or.inl rfl) (pe_lst (pa_cons (pe_op op_catA (pe_callTy call_tuple_of (by rfl) T.n_tuple (by decide +kernel) (pa_cons (DC.pe_callG F_Llaw_fresh gd (room.mono (by decide)) (by rfl) T.g__law_fresh k_Llaw_fresh b_Llaw_fresh .nil (fun σ => passAt (takes_of rfl rfl rfl rfl) σ) (pa_cons (pv 0) pa_nil)) pa_nil)) (pe_tup (pa_cons (pv 2) (pa_cons (pv 3) (pa_cons (pv 6) pa_nil))))) pa_nil)))
    (pss_one (ps_if (PW.pt (pw_and (pt_cmpR op_notN (pv 4) pe_non (nomark _)) (pw_and1 (pt_cmpR o_le (pv 6) (pv 4) (nomark _))))) (pss_one (ps_if (pt_cmpR (op_neA hu) (pe_cmpR (op_neA hu) (DC.pe_callG F_Llaw_price gd (room.mono (by decide)) (by rfl) T.g__law_price k_Llaw_price b_Llaw_price .nil (fun σ => passAt (takes_of rfl rfl rfl rfl) σ) (pa_cons (DC.pe_callG F_Fclearing gd (room.mono (by decide)) (by rfl) T.g_clearing k_Fclearing b_Fclearing .nil (fun σ => passAt (takes_of rfl rfl rfl rfl) σ) (pa_cons (pe_op o_add (pv 0) (pv 7)) (pa_cons (pv 1) pa_nil))) pa_nil)) (pv 5) (nomark _)) (pe_cmpR (op_eqA hu) (pv 6) (pv 4) (nomark _)) (nomark _)) (pss_one (ps_ret pe_bl)) pss_nil)) pss_nil))))
  (pss_one (ps_ret pe_bl)))))), ?_⟩
  try dsimp only [L2.cxOf]
  obtain ⟨B, t, s, pr, rfl, ok, le, t0, t1, pp, q⟩ := hc
  refine ws_seq ?_
  refine ws_asg (by walk_at "px") ?_
  walk_at "ex"
  refine ⟨rfl, B, t, s, pr, rfl, by omega, ok.am, fun o ho => ⟨_, .sh _, ?_⟩⟩
  show WS _ _ _ _
  refine ws_seq ?_
  refine ws_if ?_
  walk_at "ex"
  refine ⟨rfl, B, t, s, pr, rfl, ok, le, t0, t1, pp, fun o2 ho2 => ⟨_, .sh _, ?_⟩⟩
  obtain rfl := ho.uni ho2
  walk_at "ex"
  refine rc_reprO ho.small ?_
  walk_at "ex"
  refine rc_reprO ho.small ?_
  walk_at "ex"
  refine if_no (by simp) ?_
  refine ws_next ?_
  show WS _ _ _ _
  refine ws_seq ?_
  refine ws_asg (by walk_at "px") ?_
  walk_at "ex"
  refine ⟨rfl, B, t, rfl, ok, t0, t1, fun r0 h0 => ⟨_, .sh _, ?_⟩⟩
  walk_at "ex"
  refine ⟨rfl, r0, rfl, _, .sh _, ?_⟩
  show WS _ _ _ _
  refine ws_seq ?_
  refine ws_for (sl := [6]) ?_
  refine wi_rng2 ?_
  walk_at "ex"
  refine ⟨1, 13, rfl, by decide, fun i ρ => ∃ y6 y7 : Option M, ρ = [some (.sh (.lst (B.map bidD))), some (.sh (.int t)), some (.sh (.str (sideS s))), some (.sh (prD pr)), some (.sh (prD o)), some (.sh (prcD r0)), y6, y7], ⟨none, none, rfl⟩, ?_, ?_⟩
  · rintro i d ρ2 hd ⟨y6, y7, rfl⟩
    obtain ⟨hi, rfl⟩ := intsD_get hd
    have hi : i < 12 := hi
    refine wg_name (by walk_at "px") (by simp) ?_
    refine ws_seq ?_
    refine ws_asg (by walk_at "px") ?_
    walk_at "ex"
    refine ⟨rfl, B, rfl, le, fun a b fr => ⟨_, .sh _, ?_⟩⟩
    walk_at "ex"
    refine rc_tuple (.lst _) ?_
    walk_at "ex"
    refine rd_catA (by show 2 + 3 ≤ 100000; decide) ?_
    walk_at "ex"
    have e1 : ([D.tup ([D.str a, .str b] ++ [D.str (sideS s), prD pr, .int (1 + (i : Int))])] : List D) = [bidD ⟨a, b, s, pr, 1 + (i : Int)⟩] := rfl
    show WS _ _ _ _
    refine ws_if ?_
    walk_at "ex"
    cases o with
    | none =>
      refine if_no rfl ?_
      exact ws_next ⟨_, _, rfl⟩
    | some v =>
      obtain ⟨r1, h1, v0, v1, tv, before⟩ := ho
      obtain rfl := h0.one h1
      refine if_ye rfl ?_
      refine wt_test ?_
      refine w_op ?_
      walk_at "ex"
      refine rd_le (i := 1 + (i : Int)) (j := v) ?_
      refine ⟨_, rfl, ?_⟩
      refine if_dec (fun w => ?_) (fun w => ?_)
      rotate_left
      · exact ws_next ⟨_, _, rfl⟩
      refine ws_if ?_
      walk_at "ex"
      refine rd_addL (.lst _) (.lst _) (by rw [List.length_map]; show B.length + 1 ≤ 100000; omega) ?_
      rw [e1, show B.map bidD ++ [bidD ⟨a, b, s, pr, 1 + (i : Int)⟩] = (B ++ [(⟨a, b, s, pr, 1 + (i : Int)⟩ : Bid)]).map bidD by rw [List.map_append]; rfl]
      walk_at "ex"
      refine ⟨rfl, B ++ [(⟨a, b, s, pr, 1 + (i : Int)⟩ : Bid)], t, rfl, bids_more ok le fr pp (by omega) (by omega), t0, t1, fun r hr => ⟨_, .sh _, ?_⟩⟩
      walk_at "ex"
      refine ⟨rfl, r, rfl, _, .sh _, ?_⟩
      walk_at "ex"
      refine rd_nePrc fun c hc => ?_
      walk_at "ex"
      refine rd_eqAI (i := 1 + (i : Int)) (j := v) ?_
      walk_at "ex"
      refine rd_neAB ?_
      have hr2 : Clr (B ++ [xBid s pr (1 + (i : Int))]) t r := Clr.same (B := B ++ [(⟨a, b, s, pr, 1 + (i : Int)⟩ : Bid)]) (fun s' p' => cnt_app (x := ⟨a, b, s, pr, 1 + (i : Int)⟩) (y := xBid s pr (1 + (i : Int))) rfl rfl rfl s' p') hr
      have ec : c = decide (1 + (i : Int) = v) := by
        rcases (show 1 + (i : Int) < v ∨ 1 + (i : Int) = v by omega) with z | z
        · rw [decide_eq_false (by omega)]
          exact (before _ (by omega) z).of hr2 hc
        · rw [decide_eq_true z]
          rw [← z] at tv
          exact tv.of hr2 hc
      rw [ec]
      refine ⟨_, rfl, ?_⟩
      refine if_no (by simp) ?_
      exact ws_next ⟨_, _, rfl⟩
  rintro ρ2 ⟨y6, y7, rfl⟩
  show WS _ _ _ _
  refine ws_ret ?_
  walk_at "ex"
  exact q
end K20

namespace K20
open PySem PySem.Spec PyProof.Rows L2 DL
variable {prg : Program} {wd : World} {K : PySem.W.Frag} {mg : Str → Option Value} {bs : Heap}
local macro_rules | `(tactic| walk_at "px") => `(tactic| first | exact List.not_mem_nil | (show _ ∉ ([0] : List Nat); decide) | (show _ ∉ ([] : List Nat); decide) | fail)
local macro_rules | `(tactic| walk_at "s") => `(tactic| with_reducible first
  | refine ws_seq ?_ | refine ws_if ?_ | refine ws_next ?_ | refine ws_ret ?_ | refine ws_retN ?_ | refine ws_asg (by walk_at "px") ?_ | refine ws_par (by walk_at "px") (by walk_at "px") ?_
  | refine w_var (by with_unfolding_all rfl) ?_ | refine w_int ?_ | refine w_bl ?_ | refine w_non ?_ | refine w_str ?_ | refine w_dnew ?_ | refine w_ty ?_
  | refine w_op ?_ | refine w_un ?_ | refine w_fld ?_ | refine w_xf ?_ | refine wt_test ?_ | refine wt_B ?_ | refine wt_yes ?_ | refine wt_and ?_ | refine wt_or ?_ | refine wt_not ?_ | refine w_andV ?_ | refine w_orV ?_ | refine w_notV ?_ | refine w_ifE ?_ | refine w_chain ?_
  | refine wa_nil ?_ | refine wa_cons ?_ | refine w_tup ?_ | refine w_lst ?_ | refine w_slice ?_ | refine w_dget ?_ | refine w_dget2 ?_ | refine w_dget1 ?_ | refine wp_no ?_ | refine wp_int ?_
  | refine w_cd repL_nil ?_ | refine w_md repL_nil ?_ | refine w_mk repL_nil ?_ | refine w_co repL_nil ⟨_, by with_unfolding_all rfl⟩ ?_ | refine w_call ?_
  | refine rd_add ?_ | refine rd_sub ?_ | refine rd_lt ?_ | refine rd_le ?_ | refine rd_gt ?_ | refine rd_ge ?_ | refine rd_ltS ?_ | refine rd_leS ?_ | refine rd_gtS ?_ | refine rd_geS ?_ | refine rd_isN ?_ | refine rd_notN ?_ | refine rd_eqAI ?_ | refine rd_neAI ?_ | refine rd_eqAS ?_ | refine rd_neAS ?_
  | refine wg_tup rfl ?_ | refine wgs_cons ?_ | refine wg_name (by walk_at "px") (by simp) ?_ | refine wgs_nil ?_
  | refine ru_neg ?_ | refine ⟨(by show List.length _ ≤ 100000; simp; try omega), ?_⟩
  | refine rc_abs ?_ | refine rc_int1 ?_ | refine rc_min2 ?_ | refine rc_max2 ?_
  | refine ⟨_, rfl, ?_⟩ | fail)
local macro_rules | `(tactic| walk_at "go") => `(tactic| repeat' walk_at "s")
local macro_rules | `(tactic| walk_at "args") => `(tactic| repeat' (with_reducible first | refine wa_cons ?_ | refine wa_nil ?_ | refine w_int ?_ | refine w_bl ?_ | refine w_non ?_ | refine w_str ?_ | refine w_dnew ?_ | refine w_tup ?_ | refine w_lst ?_ | refine w_un ?_ | refine ru_neg ?_ | refine w_var (by with_unfolding_all rfl) ?_ | refine ⟨(by show List.length _ ≤ 100000; simp; try omega), ?_⟩ | fail))
local macro_rules | `(tactic| walk_at "e") => `(tactic| with_reducible first
  | refine w_var (by with_unfolding_all rfl) ?_ | refine w_int ?_ | refine w_bl ?_ | refine w_non ?_ | refine w_str ?_ | refine w_dnew ?_ | refine w_ty ?_
  | refine w_op ?_ | refine w_un ?_ | refine w_fld ?_ | refine w_xf ?_ | refine wt_test ?_ | refine wt_B ?_ | refine wt_yes ?_ | refine wt_and ?_ | refine wt_or ?_ | refine wt_not ?_ | refine w_andV ?_ | refine w_orV ?_ | refine w_notV ?_ | refine w_ifE ?_ | refine w_chain ?_
  | refine wa_nil ?_ | refine wa_cons ?_ | refine w_tup ?_ | refine w_lst ?_ | refine w_slice ?_ | refine w_dget ?_ | refine w_dget2 ?_ | refine w_dget1 ?_ | refine wp_no ?_ | refine wp_int ?_
  | refine w_cd repL_nil ?_ | refine w_md repL_nil ?_ | refine w_mk repL_nil ?_ | refine w_co repL_nil ⟨_, by with_unfolding_all rfl⟩ ?_ | refine w_call ?_
  | refine rd_add ?_ | refine rd_sub ?_ | refine rd_lt ?_ | refine rd_le ?_ | refine rd_gt ?_ | refine rd_ge ?_ | refine rd_ltS ?_ | refine rd_leS ?_ | refine rd_gtS ?_ | refine rd_geS ?_ | refine rd_isN ?_ | refine rd_notN ?_ | refine rd_eqAI ?_ | refine rd_neAI ?_ | refine rd_eqAS ?_ | refine rd_neAS ?_
  | refine wg_tup rfl ?_ | refine wgs_cons ?_ | refine wg_name (by walk_at "px") (by simp) ?_ | refine wgs_nil ?_
  | refine ru_neg ?_ | refine ⟨(by show List.length _ ≤ 100000; simp; try omega), ?_⟩
  | refine rc_abs ?_ | refine rc_int1 ?_ | refine rc_min2 ?_ | refine rc_max2 ?_
  | refine ⟨_, rfl, ?_⟩ | fail)
local macro_rules | `(tactic| walk_at "ex") => `(tactic| repeat' walk_at "e")
local macro_rules | `(tactic| walk_at "a_") => `(tactic| (show WS _ _ _ _; (with_reducible try refine ws_seq ?_); with_reducible refine ws_asg (by walk_at "px") ?_; walk_at "ex"))
local macro_rules | `(tactic| walk_at "i_") => `(tactic| (show WS _ _ _ _; (with_reducible try refine ws_seq ?_); with_reducible refine ws_if ?_; walk_at "ex"))
local macro_rules | `(tactic| walk_at "d_") => `(tactic| (show WS _ _ _ _; (with_reducible try refine ws_seq ?_); with_reducible refine ws_drop ?_; walk_at "ex"))
local macro_rules | `(tactic| walk_at "r_") => `(tactic| (show WS _ _ _ _; with_reducible refine ws_ret ?_; walk_at "ex"))
local macro_rules | `(tactic| walk_at "v_") => `(tactic| refine w_var (by with_unfolding_all rfl) ?_)
open CLR

theorem no_sell {B : List Bid} {t : Int} (am : ∀ b ∈ B, 0 ≤ b.am) (h : ∀ b ∈ B, b.buy = true) : Clr B t none := by
  have z : ∀ p, CLR.cnt B false p = 0 := fun p => by
    rw [cnt_eq, show (B.filter fun b => decide (b.buy = false) && decide (0 ≤ b.rise p)) = [] from List.filter_eq_nil_iff.mpr fun b hb => by rw [h b hb]; simp]
    rfl
  have v : ∀ p, vol B p = 0 := fun p => by
    have := cnt_nn am (s := true) (p := p)
    unfold vol
    rw [z]
    omega
  exact .non ⟨⟨1, by decide, v 1⟩, fun p _ _ => by rw [v]; decide⟩
theorem empty_none {o : Option Int} (h : Turns [] 50 true none o) : o = none := by
  obtain ⟨r0, h0, h⟩ := h
  obtain rfl := h0.one (no_sell (t := 50) (fun b hb => by cases hb) fun b hb => by cases hb)
  cases o with
  | none => rfl
  | some v =>
    obtain ⟨v0, v1, ⟨r, h1, h2⟩, _⟩ := h
    obtain rfl := h1.one (no_sell (fun b hb => by
      obtain rfl : b = xBid true none v := by simpa using hb
      show 0 ≤ v
      omega) fun b hb => by
      obtain rfl : b = xBid true none v := by simpa using hb
      rfl)
    have := h2.mp rfl
    cases this
def c_Flaw : CD := ⟨fun ds k => ∃ ns : List Int, ds = [.rol (ns.map .int)] ∧ ns.length ≤ 63 ∧ (∀ z ∈ ns, Builtin.Int.intBits z ≤ 1048576) ∧ k (.ret (.sh (.bl true))), by
  rintro ds k k' h ⟨ns, e, g1, g2, q⟩
  exact ⟨ns, e, g1, g2, h _ q⟩⟩
theorem sc_Flaw : FnScope ["script", "state", "turn", "orders", "got", "side", "price", "other", "far", "way"] ["script"] (defScope s_Flaw) := ⟨rfl, rfl, rfl, by decide +kernel, rfl, by decide +kernel, by decide +kernel⟩
theorem ok_Flaw (T : Tx K mg) (tb : ∀ p ∈ csOf K, LamX.TabB bs mg p.1 p.2) {fd : FuncData} (F0 : FunD K "law" "law" (defArgs s_Flaw) (defBody s_Flaw) (defScope s_Flaw) [] [] (He.ga K "law") fd) : DC.FnG prg wd K mg bs (L2.CX prg wd) 10 (He.ga K "law") fd ["script"] (toSp K 1 c_Flaw.con) ∧ L2.Binds K fd ["script"] [] ∧ PySem.W.keepIn K (.ref (He.ga K "law")) = true := by
  obtain ⟨_, F_Llaw_draw, b_Llaw_draw, k_Llaw_draw⟩ := ok_Llaw_draw (prg := prg) (wd := wd) (bs := bs) T tb
  obtain ⟨_, F_Llaw_due, b_Llaw_due, k_Llaw_due⟩ := ok_Llaw_due (prg := prg) (wd := wd) (bs := bs) T tb
  obtain ⟨_, F_Llaw_orders, b_Llaw_orders, k_Llaw_orders⟩ := ok_Llaw_orders (prg := prg) (wd := wd) (bs := bs) T tb
  obtain ⟨_, F_Llaw_right, b_Llaw_right, k_Llaw_right⟩ := ok_Llaw_right (prg := prg) (wd := wd) (bs := bs) T tb
  obtain ⟨_, F_Llaw_start, b_Llaw_start, k_Llaw_start⟩ := ok_Llaw_start (prg := prg) (wd := wd) (bs := bs) T tb
  obtain ⟨_, F_Fturning, b_Fturning, k_Fturning⟩ := ok_Fturning (prg := prg) (wd := wd) (bs := bs) T tb
  refine ⟨def_D (N := ["script", "state", "turn", "orders", "got", "side", "price", "other", "far", "way"]) F0 sc_Flaw rfl ?_, F0.bindsN fun _ _ _ _ _ _ us hl => match us, hl with | [_], _ => rfl, F0.kp⟩
  intro cdv A fr s H E ds kk gd room hc hl
  have hu := room.units
  have hu7 := room70 room
  have sc := sc_Flaw
  refine ⟨_, (pss_cons (ps_set (i := 1) sc.nd rfl (Or.inl rfl) (DC.pe_callG F_Llaw_start gd (room.mono (by decide)) (by rfl) T.g__law_start k_Llaw_start b_Llaw_start .nil (fun σ => passAt (takes_of rfl rfl rfl rfl) σ) (pa_cons (pv 0) pa_nil)))
  (pss_cons (ps_for (passes_of rfl) rfl (pi_range1 (by rfl) T.n_range (pa_cons pe_int pa_nil)) (pg_name (i := 2) sc.nd rfl (Or.inl rfl)) (pss_cons (ps_set (i := 3) sc.nd rfl (Or.inl rfl) (DC.pe_callG F_Llaw_orders gd (room.mono (by decide)) (by rfl) T.g__law_orders k_Llaw_orders b_Llaw_orders .nil (fun σ => passAt (takes_of rfl rfl rfl rfl) σ) (pa_cons (pv 1) (pa_cons pe_int pa_nil))))
    (pss_cons (ps_set (i := 4) sc.nd rfl (Or.inl rfl) (pe_ix ix_seq (pe_lst (pa_cons (pe_op o_add pe_int (DC.pe_callG F_Llaw_draw gd (room.mono (by decide)) (by rfl) T.g__law_draw k_Llaw_draw b_Llaw_draw .nil (fun σ => passAt (takes_of rfl rfl rfl rfl) σ) (pa_cons (pv 1) (pa_cons pe_int pa_nil)))) (pa_cons pe_int pa_nil))) (DC.pe_callG F_Llaw_draw gd (room.mono (by decide)) (by rfl) T.g__law_draw k_Llaw_draw b_Llaw_draw .nil (fun σ => passAt (takes_of rfl rfl rfl rfl) σ) (pa_cons (pv 1) (pa_cons pe_int pa_nil))) (fun _ _ => rfl)))
    (pss_cons (ps_set (i := 5) sc.nd rfl (Or.inl rfl) (pe_ix ix_seq (pe_lst (pa_cons pe_str (pa_cons pe_str pa_nil))) (DC.pe_callG F_Llaw_draw gd (room.mono (by decide)) (by rfl) T.g__law_draw k_Llaw_draw b_Llaw_draw .nil (fun σ => passAt (takes_of rfl rfl rfl rfl) σ) (pa_cons (pv 1) (pa_cons pe_int pa_nil))) (fun _ _ => rfl)))
    (pss_cons (ps_set (i := 6) sc.nd rfl (Or.inl rfl) (pe_ix ix_seq (pe_lst (pa_cons pe_non (pa_cons (pe_op o_add pe_int (DC.pe_callG F_Llaw_draw gd (room.mono (by decide)) (by rfl) T.g__law_draw k_Llaw_draw b_Llaw_draw .nil (fun σ => passAt (takes_of rfl rfl rfl rfl) σ) (pa_cons (pv 1) (pa_cons pe_int pa_nil)))) (pa_cons (pe_op o_add pe_int (DC.pe_callG F_Llaw_draw gd (room.mono (by decide)) (by rfl) T.g__law_draw k_Llaw_draw b_Llaw_draw .nil (fun σ => passAt (takes_of rfl rfl rfl rfl) σ) (pa_cons (pv 1) (pa_cons pe_int pa_nil)))) pa_nil)))) (DC.pe_callG F_Llaw_draw gd (room.mono (by decide)) (by rfl) T.g__law_draw k_Llaw_draw b_Llaw_draw .nil (fun σ => passAt (takes_of rfl rfl rfl rfl) σ) (pa_cons (pv 1) (pa_cons pe_int pa_nil))) (fun _ _ => rfl)))
    (pss_cons (ps_if (pt_not (pt_val (DC.pe_callG F_Llaw_right gd (room.mono (by decide)) (by rfl) T.g__law_right k_Llaw_right b_Llaw_right .nil (fun σ => passAt (takes_of rfl rfl rfl rfl) σ) (pa_cons (pv 3) (pa_cons (pv 4) (pa_cons (pv 5) (pa_cons (pv 6) pa_nil))))))) (pss_one (ps_ret pe_bl)) pss_nil)
    (pss_cons (ps_set (i := 7) sc.nd rfl (Or.inl rfl) (pe_ifExp (pt_cmpR (op_eqA hu) (pv 5) pe_str (nomark _)) pe_str pe_str))
    (pss_one (ps_for (passes_of rfl) rfl (pi_list (pe_slice o_sl (pe_lst (pa_cons (pe_tup (pa_cons (pe_op op_sub pe_int (pv 4)) (pa_cons (pv 7) pa_nil))) (pa_cons (pe_tup (pa_cons (pv 4) (pa_cons (pv 5) pa_nil))) pa_nil))) (po_some (pe_op o_mul pe_int (pv 2))) po_none)) (pg_tup (by rfl) (pgs_cons (pg_name (i := 8) sc.nd rfl (Or.inl rfl)) (pgs_cons (pg_name (i := 9) sc.nd rfl (Or.inl rfl)) pgs_nil))) (pss_one (ps_if (pt_cmpR (op_neA hu) (pe_callB (o_reprD gd hu7 T.sm) (by rfl) T.n_repr (by decide +kernel) (pa_cons (DC.pe_callG F_Fturning gd (room.mono (by decide)) (by rfl) T.g_turning k_Fturning b_Fturning .nil (fun σ => passAt (takes_of rfl rfl rfl rfl) σ) (pa_cons (pv 3) (pa_cons (pv 8) (pa_cons (pv 9) (pa_cons (pv 6) pa_nil))))) pa_nil)) (pe_callB (o_reprD gd hu7 T.sm) (by rfl) T.n_repr (by decide +kernel) (pa_cons (DC.pe_callG F_Llaw_due gd (room.mono (by decide)) (by rfl) T.g__law_due k_Llaw_due b_Llaw_due .nil (fun σ => passAt (takes_of rfl rfl rfl rfl) σ) (pa_cons (pv 3) (pa_cons (pv 8) (pa_cons (pv 9) (pa_cons (pv 6) pa_nil))))) pa_nil)) (nomark _)) (pss_one (ps_ret pe_bl)) pss_nil)))))))))))
  (pss_one (ps_ret (pe_cmpR op_isN (DC.pe_callG F_Fturning gd (room.mono (by decide)) (by rfl) T.g_turning k_Fturning b_Fturning .nil (fun σ => passAt (takes_of rfl rfl rfl rfl) σ) (pa_cons (pe_lst pa_nil) (pa_cons pe_int (pa_cons pe_str (pa_cons pe_non pa_nil))))) pe_non (nomark _)))))), ?_⟩
  try dsimp only [L2.cxOf]
  obtain ⟨ns, rfl, z1, z2, q⟩ := hc
  refine ws_seq ?_
  refine ws_asgO (by walk_at "px") (by show 1 < 10; decide) ?_
  refine wo_cd repL_nil ?_
  walk_at "ex"
  refine ⟨rfl, ns, rfl, z1, z2, rfl, ?_⟩
  show WS _ _ _ _
  refine ws_seq ?_
  refine ws_for (sl := [2]) ?_
  refine wi_rng1 ?_
  walk_at "ex"
  refine ⟨by omega, ?_⟩
  refine ⟨fun i ρ => ∃ n' t2 t3 t4 t5 t6 t7 t8 t9, n' ≤ 3000 * i ∧ i ≤ 2 ∧ ρ = [some (.sh (.rol (ns.map .int))), some (.ex n'), t2, t3, t4, t5, t6, t7, t8, t9], ⟨0, _, _, _, _, _, _, _, _, by omega, by omega, rfl⟩, ?_, ?_⟩
  rotate_left
  · rintro ρ2 ⟨n', t2, t3, t4, t5, t6, t7, t8, t9, _, _, rfl⟩
    show WS _ _ _ _
    refine ws_ret ?_
    walk_at "ex"
    refine ⟨rfl, [], 50, true, none, rfl, ⟨(fun b hb => by cases hb), by decide, List.nodup_nil, fun b hb => by cases hb⟩, by decide, by decide, by decide, (fun i h => by cases h), fun o ho => ⟨_, .sh _, ?_⟩⟩
    obtain rfl := empty_none ho
    walk_at "ex"
    exact q
  rintro i d ρ2 hd ⟨n', t2, t3, t4, t5, t6, t7, t8, t9, hn, hi3, rfl⟩
  obtain ⟨hi, rfl⟩ := intsD_get hd
  have hi : i < 2 := hi
  have hn : n' ≤ 6000 := by omega
  refine wg_name (by walk_at "px") (by simp) ?_
  refine ws_seq ?_
  refine ws_asg (by walk_at "px") ?_
  walk_at "ex"
  refine ⟨rfl, n', rfl, rfl, by omega, fun B n1 ok le hn1 => ⟨_, frz_lst, ?_⟩⟩
  show WS _ _ _ _
  refine ws_seq ?_
  refine ws_asg (by walk_at "px") ?_
  walk_at "ex"
  refine ⟨rfl, n1, 99, rfl, rfl, by omega, by omega, by omega, fun a a0 a1 => ⟨_, .sh _, ?_⟩⟩
  walk_at "ex"
  refine ⟨rfl, n1 + 1, 2, rfl, rfl, by omega, by omega, by omega, fun b b0 b1 => ⟨_, .sh _, ?_⟩⟩
  obtain ⟨got, hg, g0, g1⟩ : ∃ v : Int, atI [D.int (1 + a), .int 50] b = some (.int v) ∧ 1 ≤ v ∧ v ≤ 99 := by
    obtain rfl | rfl : b = 0 ∨ b = 1 := by omega
    · exact ⟨1 + a, rfl, by omega, by omega⟩
    · exact ⟨50, rfl, by omega, by omega⟩
  refine rd_ixL (.lst _) hg ?_
  show WS _ _ _ _
  refine ws_seq ?_
  refine ws_asg (by walk_at "px") ?_
  walk_at "ex"
  refine ⟨rfl, n1 + 2, 2, rfl, rfl, by omega, by omega, by omega, fun c c0 c1 => ⟨_, .sh _, ?_⟩⟩
  refine rd_ixL (.lst _) (two_sides c0 c1) ?_
  generalize decide (c = 0) = s
  show WS _ _ _ _
  refine ws_seq ?_
  refine ws_asg (by walk_at "px") ?_
  walk_at "ex"
  refine ⟨rfl, n1 + 3, 99, rfl, rfl, by omega, by omega, by omega, fun x x0 x1 => ⟨_, .sh _, ?_⟩⟩
  walk_at "ex"
  refine ⟨rfl, n1 + 4, 5, rfl, rfl, by omega, by omega, by omega, fun y y0 y1 => ⟨_, .sh _, ?_⟩⟩
  walk_at "ex"
  refine ⟨rfl, n1 + 5, 3, rfl, rfl, by omega, by omega, by omega, fun z z0 z1 => ⟨_, .sh _, ?_⟩⟩
  obtain ⟨pr, hpr, pr1⟩ : ∃ pr : Option Int, atI [D.non, .int (1 + x), .int (48 + y)] z = some (prD pr) ∧ ∀ v, pr = some v → 1 ≤ v ∧ v ≤ 99 := by
    obtain rfl | rfl | rfl : z = 0 ∨ z = 1 ∨ z = 2 := by omega
    · exact ⟨none, rfl, fun v h => by cases h⟩
    · exact ⟨some (1 + x), rfl, fun v h => by cases h; omega⟩
    · exact ⟨some (48 + y), rfl, fun v h => by cases h; omega⟩
  refine rd_ixL (.lst _) hpr ?_
  show WS _ _ _ _
  refine ws_seq ?_
  refine ws_if ?_
  walk_at "ex"
  refine ⟨rfl, B, got, s, pr, rfl, ok, le, g0, g1, pr1, _, .sh _, _, rfl, ?_⟩
  refine if_no rfl ?_
  refine ws_next ?_
  refine ws_cut (fun ρ => ρ = [some (.sh (.rol (ns.map .int))), some (.ex (n1 + 6)), some (.sh (.int (0 + (i : Int)))), some (.sh (.lst (B.map bidD))), some (.sh (.int got)), some (.sh (.str (sideS s))), some (.sh (prD pr)), some (.sh (.str (sideS !s))), t8, t9]) ?_ ?_
  · refine ws_asg (by walk_at "px") ?_
    walk_at "ex"
    rw [side_dec]
    cases s
    · refine if_no rfl ?_
      walk_at "ex"
      rfl
    · refine if_ye rfl ?_
      walk_at "ex"
      rfl
  rintro ρ rfl
  refine ws_for (sl := [8, 9]) ?_
  refine wi_list ?_
  walk_at "ex"
  refine rd_mul (cmulW (a := 10) (b := 10) (by decide) (by omega) (by decide)) ?_
  walk_at "ex"
  refine rs_list (.lst _) ?_
  refine ⟨_, rfl, fun j ρ => ∃ t8 t9, ρ = [some (.sh (.rol (ns.map .int))), some (.ex (n1 + 6)), some (.sh (.int (0 + (i : Int)))), some (.sh (.lst (B.map bidD))), some (.sh (.int got)), some (.sh (.str (sideS s))), some (.sh (prD pr)), some (.sh (.str (sideS !s))), t8, t9], ⟨_, _, rfl⟩, ?_, ?_⟩
  · rintro j d ρ3 hd2 ⟨t8, t9, rfl⟩
    obtain ⟨far, way, rfl, f0, f1⟩ : ∃ (far : Int) (way : Bool), d = .tup [.int far, .str (sideS way)] ∧ 1 ≤ far ∧ far ≤ 99 := by
      have m := cutD_mem (List.mem_of_getElem? hd2)
      simp only [List.mem_cons, List.not_mem_nil, or_false] at m
      rcases m with rfl | rfl
      · exact ⟨100 - got, !s, rfl, by omega, by omega⟩
      · exact ⟨got, s, rfl, by omega, by omega⟩
    refine wg_tup rfl ?_
    walk_at "ex"
    refine ws_if ?_
    walk_at "ex"
    refine ⟨rfl, B, far, way, pr, rfl, ok, le, f0, f1, pr1, fun o ho => ⟨_, .sh _, ?_⟩⟩
    walk_at "ex"
    refine rc_reprO ho.small ?_
    walk_at "ex"
    refine ⟨rfl, B, far, way, pr, rfl, by omega, ok.am, fun o2 ho2 => ⟨_, .sh _, ?_⟩⟩
    obtain rfl := ho.uni ho2
    walk_at "ex"
    refine rc_reprO ho.small ?_
    walk_at "ex"
    refine if_no (by simp) ?_
    exact ws_next ⟨_, _, rfl⟩
  rintro ρ3 ⟨t8, t9, rfl⟩
  exact ⟨n1 + 6, _, _, _, _, _, _, _, _, by omega, by omega, rfl⟩
end K20

open PySem PySem.Calls PySem.W PyProof.Rows
theorem PySem.Challenge.cw_evenmarket_k20_turning_holds : PySem.Challenge.rw_evenmarket_k20_turning.Holds := by
  w_on; o_law
  refine HandSHeadRun.head_any (r := OpenLaw.row PySem.Challenge.rw_evenmarket_k20_turning) (q := view (OpenLaw.row PySem.Challenge.rw_evenmarket_k20_turning).prog [51]) (H := K20.hk) (ob := K20.ob) (M := 60000) (loose := K20.loose) (d := HandSHeadRun.topDef (OpenLaw.row PySem.Challenge.rw_evenmarket_k20_turning).prog 51) (kwd := []) K20.ob_eq
    (by kernel_rfl) (fun s => by kernel_rfl) K20.run (by kernel_rfl) (by kernel_rfl) (by kernel_rfl) (by rfl) (by first | assumption | decide +kernel) (by decide +kernel) ⟨rfl, rfl, rfl, rfl, rfl, by decide +kernel⟩ ?hw ?hc
  case hw => w_witness2
  case hc =>
    refine DL.walk_DLT (l := PySem.Challenge.rw_evenmarket_k20_turning) (n := 63) (lv := 10) (x := "script") (C := K20.c_Flaw) rfl (by decide) (by kernel_rfl) ⟨rfl, by decide, by decide⟩ ?F (fun ns hn hb => ⟨ns, rfl, hn, hb, rfl⟩)
    intro w mg fa h Y G hmg0
    obtain ⟨K, KX, y⟩ := Y
    have there : mg ("law" : PySem.Str) = some (.ref fa) := by
      have e : (HandSHeadRun.topDef (OpenLaw.row PySem.Challenge.rw_evenmarket_k20_turning).prog 51).name = ("law" : PySem.Str) := by kernel_rfl
      rw [← e]
      exact hmg0
    have T := K20.tx_of (w := w) (h := h) KX G y
    have e := there.symm.trans T.g_law
    cases e
    obtain ⟨fd, F⟩ := T.d_Flaw
    exact ⟨K, fd, DL.csOf K, DL.nmOf K, KX, fun s u => F.bindsA (ps := ["script"]) (fun _ _ _ _ _ _ us hl => match us, hl with | [_], _ => rfl) s [u] rfl, y.empty, y.out, fun p hp => PySem.W.codeHd_of_K KX (y.hd p hp), fun c P z k1 _ k3 => ⟨⟨_, DL.csOf_mem k1, rfl⟩, y.one c P z k1 k3⟩, fun bs _ _ tb => (K20.ok_Flaw T tb F).1⟩


package back

import (
	"fmt"
	"math"
	"strings"
	"testing"

	"tillerman/api"
	"tillerman/say"
)

// statement of a text, which is valid.
func statement(t *testing.T, text string) api.Stmt {
	t.Helper()
	x, e := say.Read(text)
	if e != api.OK {
		t.Fatalf("%q is no statement: %d", text, e)
	}
	return x
}

// do a statement, given as a text, and return the text of the answer too.
func do(t *testing.T, w api.World, i int, text string) (api.World, string) {
	t.Helper()
	got, a, e := Do(w, i, statement(t, text))
	if e != api.OK {
		t.Fatalf("%s: error %d", text, e)
	}
	if e := Check(got); e != api.OK {
		t.Fatalf("%s leaves a world that is not valid: %v", text, got)
	}
	answer, e := say.Tell(a)
	if e != api.OK {
		t.Fatalf("%s: the answer %v has no text: %d", text, a, e)
	}
	return got, answer
}

// play lines, such as "0 get a: Inone", of a session, its statement and the answer to this. Returns the last world.
func play(t *testing.T, w api.World, lines ...string) api.World {
	t.Helper()
	for n, line := range lines {
		left, want, _ := strings.Cut(line, ": ")
		var answer string
		w, answer = do(t, w, int(left[0]-'0'), left[2:])
		if answer != want {
			t.Fatalf("line %d: %s: the answer is %s", n, line, answer)
		}
	}
	return w
}

func checkWorld(t *testing.T, got, want api.World) {
	t.Helper()
	if !same(got, want) {
		t.Errorf("the world is\n%v, want\n%v", got, want)
	}
}

// idle: n sessions, without rows.
func idle(n int) api.World { return with(make([]api.Session, n)...) }

func TestDoErrors(t *testing.T) {
	bad := with(api.Session{State: 3})
	for _, c := range []struct {
		world api.World
		i     int
		stmt  api.Stmt
		want  api.Errno
	}{
		{bad, 0, api.Stmt{Kind: api.Begin}, api.ErrState},
		{bad, 1, api.Stmt{Kind: api.Begin}, api.ErrState},
		{bad, 0, api.Stmt{}, api.ErrState},
		{bad, -1, api.Stmt{Kind: api.Get}, api.ErrState},
		{api.World{}, 0, api.Stmt{Kind: api.Begin}, api.ErrNone},
		{everything(), 3, api.Stmt{Kind: api.Begin}, api.ErrNone},
		{everything(), -1, api.Stmt{Kind: api.Begin}, api.ErrNone},
		{everything(), math.MaxInt, api.Stmt{Kind: api.Begin}, api.ErrNone},
		{everything(), math.MinInt, api.Stmt{Kind: api.Begin}, api.ErrNone},
		{everything(), 3, api.Stmt{}, api.ErrNone},
		{everything(), -1, api.Stmt{Kind: api.Get}, api.ErrNone},
		{everything(), 0, api.Stmt{}, api.ErrKind},
		{everything(), 1, api.Stmt{Kind: 12, Key: "A"}, api.ErrKind},
		{everything(), 2, api.Stmt{Kind: math.MinInt}, api.ErrKind},
		{everything(), 0, api.Stmt{Kind: api.Begin, Key: "a"}, api.ErrForm},
		{everything(), 0, api.Stmt{Kind: api.Get}, api.ErrForm},
		{everything(), 1, api.Stmt{Kind: api.Set, Key: "a"}, api.ErrForm},
		{everything(), 1, api.Stmt{Kind: api.Put, Key: "a", Value: strings.Repeat("x", 21)}, api.ErrForm},
		{everything(), 2, api.Stmt{Kind: api.Exec, Key: "p", Value: "x"}, api.ErrForm},
		{everything(), 2, api.Stmt{Kind: api.Prep, Key: "p", Value: "begin"}, api.ErrForm},
	} {
		if w, a, e := Do(c.world, c.i, c.stmt); !isZero(w, a) || e != c.want {
			t.Errorf("Do(%v, %d, %v) is %v, %v, %d, want %d", c.world, c.i, c.stmt, w, a, e, c.want)
		}
	}
}

// TestErrorInTransaction: each Error in a transaction makes the session Failed, discards its Writes, and nothing else.
func TestErrorInTransaction(t *testing.T) {
	before := api.World{
		Rows: many(0, 97, "x"),
		Sessions: []api.Session{
			inTx(pairs("held", "x")),
			{State: api.InTx, Settings: many(0, 6, "x"), Preps: pairs("a", "put held y", "b", "put new y", "c", "get a", "d", "get a", "e", "get a", "f", "get a"), Saved: pairs("s", "t"), Writes: pairs("kaa", "y", "y", "y", "z", "y")},
		},
	}
	for _, line := range []string{
		"begin: F!begun already", "reset: F!not in a transaction", "fail: F!as asked",
		"set new x: F!full", "prep new get a: F!full", "put held y: F!held", "put new y: F!full",
		"exec new: F!not prepared", "exec a: F!held", "exec b: F!full",
	} {
		want := Copy(before)
		want.Sessions[1].State = api.Failed
		want.Sessions[1].Writes = nil
		checkWorld(t, play(t, before, "1 "+line), want)
	}
}

// TestErrorWhileIdle: an Error of an Idle session leaves the world as it was.
func TestErrorWhileIdle(t *testing.T) {
	before := api.World{
		Rows: many(0, 99, "x"),
		Sessions: []api.Session{
			inTx(pairs("held", "x", "kaa", "x")),
			{Settings: many(0, 6, "x"), Preps: pairs("a", "put held y", "b", "put new y", "c", "get a", "d", "get a", "e", "get a", "f", "get a")},
		},
	}
	for _, line := range []string{
		"commit: I!no transaction", "rollback: I!no transaction", "fail: I!as asked",
		"set new x: I!full", "prep new get a: I!full", "put held y: I!held", "put kaa y: I!held", "put new y: I!full",
		"exec new: I!not prepared", "exec a: I!held", "exec b: I!full",
	} {
		checkWorld(t, play(t, before, "1 "+line), before)
	}
}

// TestFailed: a Failed session answers nothing but Commit and Rollback, which both roll back.
func TestFailed(t *testing.T) {
	before := everything()
	for _, text := range []string{
		"begin", "reset", "fail", "get s", "get zzz", "read a", "read zzz", "exec p", "exec zzz", "set s x", "put a x", "put b x", "prep p get a",
	} {
		checkWorld(t, play(t, before, "2 "+text+": F!failed already"), before)
	}
	want := everything()
	want.Sessions[2] = api.Session{Settings: pairs("s", "t", "v", "w"), Preps: pairs("p", "read b")}
	checkWorld(t, play(t, before, "2 commit: Iok"), want)
	checkWorld(t, play(t, before, "2 rollback: Iok"), want)
}

func TestBegin(t *testing.T) {
	want := everything()
	want.Sessions[0].State = api.InTx
	want.Sessions[0].Saved = pairs("s", "t")
	checkWorld(t, play(t, everything(), "0 begin: Tok"), want)
	checkWorld(t, play(t, idle(1), "0 begin: Tok"), with(api.Session{State: api.InTx}))
}

func TestCommit(t *testing.T) {
	want := everything()
	want.Rows = pairs("a", "x", "b", "z", "c", "z")
	want.Sessions[1] = api.Session{Settings: pairs("s", "u"), Preps: pairs("p", "read a")}
	checkWorld(t, play(t, everything(), "1 commit: Iok"), want)
	checkWorld(t, play(t, with(api.Session{State: api.InTx}), "0 commit: Iok"), idle(1))
}

// TestCommitMany: Writes before, between and behind Rows, up to all rows that there can be.
func TestCommitMany(t *testing.T) {
	for _, c := range []struct{ rowsFrom, rowsTo, from, to int }{
		{0, 0, 0, 100}, {50, 100, 0, 50}, {0, 50, 50, 100}, {0, 100, 0, 100}, {20, 60, 0, 100}, {0, 100, 40, 60}, {30, 70, 20, 50},
	} {
		w := api.World{Rows: many(c.rowsFrom, c.rowsTo, "x"), Sessions: []api.Session{inTx(many(c.from, c.to, "y"))}}
		want := idle(1)
		for n := range 100 {
			if n >= c.from && n < c.to {
				want.Rows = append(want.Rows, api.Pair{Key: numbered(n), Value: "y"})
			} else if n >= c.rowsFrom && n < c.rowsTo {
				want.Rows = append(want.Rows, api.Pair{Key: numbered(n), Value: "x"})
			}
		}
		checkWorld(t, play(t, w, "0 commit: Iok"), want)
	}
}

func TestRollback(t *testing.T) {
	want := everything()
	want.Sessions[1] = api.Session{Settings: pairs("s", "t"), Preps: pairs("p", "read a")}
	checkWorld(t, play(t, everything(), "1 rollback: Iok"), want)
}

func TestReset(t *testing.T) {
	want := everything()
	want.Sessions[0] = api.Session{}
	checkWorld(t, play(t, everything(), "0 reset: Iok"), want)
	checkWorld(t, play(t, idle(2), "1 reset: Iok"), idle(2))
}

// TestSettingsOfTransaction: a Commit keeps the settings, a Rollback and the Commit of a failed transaction do not; Preps stay.
func TestSettingsOfTransaction(t *testing.T) {
	start := play(t, idle(1), "0 set a x: Iok", "0 begin: Tok", "0 set a y: Tok", "0 set b y: Tok", "0 prep p get a: Tok", "0 exec p: T=y")
	play(t, start, "0 commit: Iok", "0 get a: I=y", "0 get b: I=y", "0 exec p: I=y", "0 begin: Tok", "0 rollback: Iok", "0 get a: I=y")
	play(t, start, "0 rollback: Iok", "0 get a: I=x", "0 get b: Inone", "0 exec p: I=x")
	play(t, start, "0 fail: F!as asked", "0 commit: Iok", "0 get a: I=x", "0 get b: Inone", "0 exec p: I=x")
	play(t, start, "0 fail: F!as asked", "0 rollback: Iok", "0 get a: I=x", "0 get b: Inone", "0 exec p: I=x", "0 rollback: I!no transaction")
}

// TestRowsOfTransaction: a Put in a transaction is visible to other sessions only after Commit.
func TestRowsOfTransaction(t *testing.T) {
	start := play(t, idle(2), "1 put a x: Iok", "0 begin: Tok", "0 put a y: Tok", "0 put b y: Tok",
		"0 read a: T=y", "0 read b: T=y", "1 read a: I=x", "1 read b: Inone")
	play(t, start, "0 commit: Iok", "1 read a: I=y", "1 read b: I=y", "0 read a: I=y", "1 put a z: Iok", "0 read a: I=z")
	play(t, start, "0 rollback: Iok", "1 read a: I=x", "1 read b: Inone", "0 read a: I=x", "0 read b: Inone", "1 put b z: Iok")
	play(t, start, "0 fail: F!as asked", "1 put b z: Iok", "0 commit: Iok", "0 read a: I=x", "0 read b: I=z")
	play(t, start, "1 begin: Tok", "1 read a: T=x", "1 read b: Tnone", "0 commit: Iok", "1 read a: T=y", "1 read b: T=y")
}

func TestGet(t *testing.T) {
	w := play(t, everything(), "0 get s: I=t", "1 get s: T=u", "0 get a: Inone", "1 get v: Tnone", "1 get b: Tnone", "0 get p: Inone")
	checkWorld(t, w, everything())
}

func TestRead(t *testing.T) {
	w := play(t, everything(), "0 read a: I=x", "0 read b: I=y", "0 read c: Inone", "1 read a: T=x", "1 read b: T=z", "1 read c: T=z",
		"0 read s: Inone", "1 read s: Tnone", "0 read p: Inone")
	checkWorld(t, w, everything())
}

// TestSetAndPrep: pairs are kept in the order of their Keys, and a new one takes the place of one with the same Key, also in a full list.
func TestSetAndPrep(t *testing.T) {
	w := play(t, idle(2), "0 set b x: Iok", "0 set a x: Iok", "0 set c x: Iok", "0 set b y: Iok", "0 get b: I=y", "1 get b: Inone")
	checkWorld(t, w, with(api.Session{Settings: pairs("a", "x", "b", "y", "c", "x")}, api.Session{}))
	play(t, w, "0 set ab x: Iok", "0 set z x: Iok", "0 set aa x: Iok", "0 set d x: I!full", "0 set z y: Iok", "0 get z: I=y", "0 get d: Inone", "1 set d x: Iok")

	w = play(t, idle(2), "1 prep b get a: Iok", "1 prep a get a: Iok", "1 prep c get a: Iok", "1 prep b put a x: Iok", "0 exec b: I!not prepared")
	checkWorld(t, w, with(api.Session{}, api.Session{Preps: pairs("a", "get a", "b", "put a x", "c", "get a")}))
	play(t, w, "1 prep ab get a: Iok", "1 prep z get a: Iok", "1 prep aa get a: Iok", "1 prep d get a: I!full", "1 prep z read a: Iok", "1 exec d: I!not prepared", "0 prep d get a: Iok")
}

func TestPut(t *testing.T) {
	w := play(t, idle(2), "0 put b x: Iok", "1 put a x: Iok", "0 put c x: Iok", "1 put b y: Iok")
	checkWorld(t, w, api.World{Rows: pairs("a", "x", "b", "y", "c", "x"), Sessions: make([]api.Session, 2)})
	w = play(t, w, "0 begin: Tok", "0 put b z: Tok", "0 put d z: Tok", "0 put a z: Tok", "0 put d x: Tok", "0 put c x: Tok")
	checkWorld(t, w, api.World{
		Rows:     pairs("a", "x", "b", "y", "c", "x"),
		Sessions: []api.Session{inTx(pairs("a", "z", "b", "z", "c", "x", "d", "x")), {}},
	})
}

// TestHeld: a row that a transaction has written is held until its end, also against sessions that are in none.
func TestHeld(t *testing.T) {
	start := play(t, idle(3), "1 put a x: Iok", "1 begin: Tok", "1 put a y: Tok", "1 put b y: Tok", "0 begin: Tok", "0 put c y: Tok",
		"2 put a z: I!held", "2 put b z: I!held", "2 put c z: I!held", "1 put a z: Tok", "0 put c z: Tok")
	play(t, start, "0 put b z: F!held", "2 put c z: Iok", "2 put b z: I!held", "0 rollback: Iok", "0 put a z: I!held")
	play(t, start, "1 put c z: F!held", "2 put a z: Iok", "2 put b z: Iok", "2 put c z: I!held")
	play(t, start, "1 commit: Iok", "2 put a z: Iok", "0 put b z: Tok", "1 put b z: I!held")
	play(t, start, "1 rollback: Iok", "2 put b z: Iok", "2 read b: I=z", "2 read a: I=x")
}

// TestFull: Rows and the Writes of all sessions count together, each Key once.
func TestFull(t *testing.T) {
	start := api.World{
		Rows:     many(0, 60, "x"),
		Sessions: []api.Session{inTx(many(40, 70, "y")), inTx(many(70, 99, "y")), {}},
	}
	full := play(t, start, "2 put kzz x: Iok", "2 put new x: I!full", "2 put kzz y: Iok", "2 put kaa y: Iok", "0 put kaa y: Tok", "0 put kbo y: Tok", "1 put kzz z: Tok")
	play(t, full, "0 put new x: F!full", "2 put new x: Iok", "2 put newer x: Iok")
	play(t, full, "1 put new x: F!full", "2 put new x: Iok")
	play(t, full, "0 commit: Iok", "2 put new x: I!full", "1 commit: Iok", "2 put new x: I!full", "0 put kzz x: Iok")
	play(t, full, "1 rollback: Iok", "2 put new x: Iok")
	play(t, start, "0 put kzz x: Tok", "2 put new x: I!full", "1 put new x: F!full")
	play(t, start, "2 put kzz x: Iok", "0 rollback: Iok", "2 begin: Tok", "2 put new x: Tok")

	// A row that exists is held in a full world too.
	play(t, full, "2 put kda x: I!held", "0 put kda x: F!held")
}

func TestExec(t *testing.T) {
	start := play(t, idle(2), "0 prep g get a: Iok", "0 prep r read a: Iok", "0 prep p put a x: Iok",
		"0 exec g: Inone", "0 exec r: Inone", "0 exec a: I!not prepared", "1 exec g: I!not prepared",
		"0 set a s: Iok", "0 exec g: I=s", "0 exec r: Inone", "0 exec p: Iok", "0 exec r: I=x", "0 exec g: I=s", "1 read a: I=x")
	play(t, start, "0 begin: Tok", "0 set a t: Tok", "0 put a y: Tok", "0 exec g: T=t", "0 exec r: T=y", "0 exec p: Tok", "0 exec r: T=x", "0 commit: Iok")
	play(t, start, "1 begin: Tok", "1 put a y: Tok", "0 exec p: I!held", "0 exec r: I=x", "1 commit: Iok", "0 exec r: I=y")
	play(t, start, "0 begin: Tok", "0 exec b: F!not prepared", "0 exec g: F!failed already")
	play(t, start, "0 reset: Iok", "0 exec g: I!not prepared", "0 get a: Inone", "0 read a: I=x")
	w := play(t, idle(1), "0 prep abcdefgh put abcdefgh 12345678901234567890: Iok", "0 exec abcdefgh: Iok")
	checkWorld(t, w, api.World{Rows: pairs("abcdefgh", "12345678901234567890"), Sessions: []api.Session{{Preps: pairs("abcdefgh", "put abcdefgh 12345678901234567890")}}})
}

// texts of statements of all kinds, for the world of everything.
var texts = []string{
	"begin", "commit", "rollback", "reset", "fail", "get s", "get a", "read b", "read d", "exec p", "exec q", "exec z",
	"set a x", "set s x", "set z x", "put a x", "put b x", "put c x", "put z x", "prep a get a", "prep p get a", "prep z put z z",
}

// roomy: the world of everything in lists with unused capacity.
func roomy() api.World {
	w := everything()
	widen := func(l []api.Pair) []api.Pair {
		return append(l, pairs("spare", "x", "spare", "y")...)[:len(l)]
	}
	w.Rows = widen(w.Rows)
	for i := range w.Sessions {
		s := &w.Sessions[i]
		s.Settings, s.Preps, s.Saved, s.Writes = widen(s.Settings), widen(s.Preps), widen(s.Saved), widen(s.Writes)
	}
	return w
}

// wide prints a world with the unused capacity of its lists.
func wide(w api.World) string {
	text := fmt.Sprint(w, w.Rows[:cap(w.Rows)])
	for _, s := range w.Sessions {
		text += fmt.Sprint(s.Settings[:cap(s.Settings)], s.Preps[:cap(s.Preps)], s.Saved[:cap(s.Saved)], s.Writes[:cap(s.Writes)])
	}
	return text
}

// TestMemory: no statement changes its world, or shares memory with it.
func TestMemory(t *testing.T) {
	for i := range everything().Sessions {
		for _, text := range texts {
			w := roomy()
			got, _ := do(t, w, i, text)
			if wide(w) != wide(roomy()) {
				t.Errorf("%d %s changed its world to %s", i, text, wide(w))
			}
			checkApart(t, w, got)
		}
	}
}

// TestOthersStay: a statement of a session leaves the other ones as they are, and only a Put or a Commit changes Rows.
func TestOthersStay(t *testing.T) {
	for i := range everything().Sessions {
		for _, text := range texts {
			got, _ := do(t, everything(), i, text)
			want := everything()
			want.Sessions[i] = got.Sessions[i]
			if strings.HasPrefix(text, "put") || text == "commit" || text == "exec q" {
				want.Rows = got.Rows
			}
			checkWorld(t, got, want)
		}
	}
}

// TestSame: the same statement in the same world has the same result.
func TestSame(t *testing.T) {
	for i := range everything().Sessions {
		for _, text := range texts {
			first, answer := do(t, everything(), i, text)
			for range 10 {
				if again, a := do(t, everything(), i, text); !same(first, again) || a != answer {
					t.Fatalf("%d %s: %s and %s, %v and %v", i, text, answer, a, first, again)
				}
			}
		}
	}
}

package back

import (
	"math"
	"slices"
	"strings"
	"testing"

	"tillerman/api"
)

// pairs of keys and values that take turns.
func pairs(parts ...string) []api.Pair {
	var l []api.Pair
	for i := 0; i < len(parts); i += 2 {
		l = append(l, api.Pair{Key: parts[i], Value: parts[i+1]})
	}
	return l
}

// many pairs with the keys of the numbers from first to before end, which are in the order of the numbers.
func many(first, end int, value string) []api.Pair {
	var l []api.Pair
	for n := first; n < end; n++ {
		l = append(l, api.Pair{Key: numbered(n), Value: value})
	}
	return l
}

func numbered(n int) string { return string([]byte{'k', 'a' + byte(n/26), 'a' + byte(n%26)}) }

// with: a world of these sessions, without rows.
func with(sessions ...api.Session) api.World { return api.World{Sessions: sessions} }

// inTx: a session with these Writes.
func inTx(writes []api.Pair) api.Session { return api.Session{State: api.InTx, Writes: writes} }

func same(a, b api.World) bool {
	return slices.Equal(a.Rows, b.Rows) && slices.EqualFunc(a.Sessions, b.Sessions, func(a, b api.Session) bool {
		return a.State == b.State && slices.Equal(a.Settings, b.Settings) && slices.Equal(a.Preps, b.Preps) &&
			slices.Equal(a.Saved, b.Saved) && slices.Equal(a.Writes, b.Writes)
	})
}

func isZero(w api.World, a api.Answer) bool {
	return len(w.Rows) == 0 && len(w.Sessions) == 0 && a == (api.Answer{})
}

// everything: a valid world that uses all lists and all states.
func everything() api.World {
	return api.World{
		Rows: pairs("a", "x", "b", "y"),
		Sessions: []api.Session{
			{Settings: pairs("s", "t"), Preps: pairs("p", "get s", "q", "put a z")},
			{State: api.InTx, Settings: pairs("s", "u"), Preps: pairs("p", "read a"), Saved: pairs("s", "t"), Writes: pairs("b", "z", "c", "z")},
			{State: api.Failed, Settings: pairs("s", "u"), Preps: pairs("p", "read b"), Saved: pairs("s", "t", "v", "w")},
		},
	}
}

// TestCheckValid: worlds that are valid, up to each limit.
func TestCheckValid(t *testing.T) {
	for i, w := range []api.World{
		{},
		{Rows: []api.Pair{}, Sessions: []api.Session{}},
		everything(),
		with(make([]api.Session, 8)...),
		with(api.Session{State: api.InTx}, api.Session{State: api.Failed}),
		{Rows: many(0, 100, "x")},
		{Rows: pairs("a", "!", "ab", "~", "abcdefgh", strings.Repeat("x", 20), "b", "x")},
		with(api.Session{Settings: many(0, 6, "x"), Preps: many(0, 6, "get a")}),
		with(api.Session{State: api.InTx, Saved: many(0, 6, "x")}),
		with(api.Session{State: api.Failed, Saved: many(0, 6, "x")}),
		with(api.Session{Preps: pairs("p", "put abcdefgh "+strings.Repeat("x", 20), "q", "read a", "r", "get a")}),
		// The same Keys in the Settings, Saved and Preps of two sessions, and in Rows and the Writes of one.
		{Rows: pairs("a", "x"), Sessions: []api.Session{
			{State: api.InTx, Settings: pairs("a", "x"), Preps: pairs("a", "get a"), Saved: pairs("a", "x"), Writes: pairs("a", "x")},
			{State: api.Failed, Settings: pairs("a", "x"), Preps: pairs("a", "get a"), Saved: pairs("a", "x")},
		}},
		// 100 different Keys of rows.
		with(inTx(many(0, 100, "x"))),
		with(inTx(many(0, 50, "x")), inTx(many(50, 100, "x"))),
		{Rows: many(0, 100, "x"), Sessions: []api.Session{inTx(many(0, 100, "x"))}},
		{Rows: many(0, 100, "x"), Sessions: []api.Session{inTx(many(0, 50, "x")), inTx(many(50, 100, "x"))}},
		{Rows: many(0, 60, "x"), Sessions: []api.Session{inTx(many(40, 70, "x")), inTx(many(70, 100, "x"))}},
	} {
		if e := Check(w); e != api.OK {
			t.Errorf("world %d: Check is %d", i, e)
		}
	}
}

// lists that are in no case those of a valid world, given values that are valid in them.
func badLists(good string) [][]api.Pair {
	return [][]api.Pair{
		pairs("b", good, "a", good),
		pairs("a", good, "a", good),
		pairs("a", good, "c", good, "b", good),
		pairs("a", good, "b", good, "a", good),
		pairs("ab", good, "a", good),
		pairs("", good),
		pairs("A", good),
		pairs("a", good, "b c", good),
		pairs("abcdefghi", good),
		pairs("a", ""),
		pairs("a", good, "b", ""),
		pairs("a", " "+good),
		pairs("a", good+" "),
		pairs("a", good+"\x7f"),
		pairs("a", good+strings.Repeat("x", 20)),
		many(0, 101, good),
		many(0, 600, good),
	}
}

func TestCheckLists(t *testing.T) {
	for _, l := range badLists("x") {
		checkBad(t, "Rows", api.World{Rows: l})
		checkBad(t, "Settings", with(api.Session{Settings: l}))
		checkBad(t, "Saved in a transaction", with(api.Session{State: api.InTx, Saved: l}))
		checkBad(t, "Saved of a failed one", with(api.Session{}, api.Session{State: api.Failed, Saved: l}))
		checkBad(t, "Writes", with(api.Session{}, inTx(l)))
	}
	for _, l := range badLists("put a x") {
		checkBad(t, "Preps", with(api.Session{Preps: l}))
		checkBad(t, "Preps in a transaction", with(api.Session{}, api.Session{State: api.InTx, Preps: l}))
	}
	for _, v := range []string{"x", "get", "get a b", "put a", "begin", "commit", "rollback", "reset", "fail", "exec a", "set a x", "prep a get a"} {
		checkBad(t, v, with(api.Session{Preps: pairs("p", v)}))
	}
	for _, v := range []string{"get a", "put a x"} {
		checkBad(t, v, api.World{Rows: pairs("a", v)})
		checkBad(t, v, with(api.Session{Settings: pairs("a", v)}))
	}
}

func TestCheckLimits(t *testing.T) {
	checkBad(t, "9 sessions", with(make([]api.Session, 9)...))
	checkBad(t, "a million sessions", with(make([]api.Session, 1e6)...))
	checkBad(t, "101 rows", api.World{Rows: many(0, 101, "x")})
	checkBad(t, "7 settings", with(api.Session{Settings: many(0, 7, "x")}))
	checkBad(t, "7 saved", with(api.Session{State: api.InTx, Saved: many(0, 7, "x")}))
	checkBad(t, "7 preps", with(api.Session{Preps: many(0, 7, "get a")}))
	checkBad(t, "101 writes", with(inTx(many(0, 101, "x"))))
	checkBad(t, "a long value", api.World{Rows: pairs("a", strings.Repeat("x", 1e6))})
	checkBad(t, "a long key", api.World{Rows: pairs(strings.Repeat("x", 1e6), "x")})
}

func TestCheckStates(t *testing.T) {
	for _, state := range []int{-1, 3, 4, 256, math.MinInt, math.MaxInt} {
		checkBad(t, "state", with(api.Session{State: state}))
		checkBad(t, "state of the last one", with(api.Session{}, api.Session{State: state}))
	}
	checkBad(t, "Saved while Idle", with(api.Session{Saved: pairs("a", "x")}))
	checkBad(t, "Writes while Idle", with(api.Session{Writes: pairs("a", "x")}))
	checkBad(t, "Writes after a failure", with(api.Session{State: api.Failed, Writes: pairs("a", "x")}))
}

func TestCheckWrites(t *testing.T) {
	checkBad(t, "one row of two", with(inTx(pairs("a", "x")), inTx(pairs("a", "x"))))
	checkBad(t, "one row of the first and the last", with(inTx(pairs("b", "x")), inTx(pairs("c", "x")), inTx(pairs("a", "x", "b", "y"))))
	checkBad(t, "one of Rows of two", api.World{Rows: pairs("a", "x"), Sessions: []api.Session{inTx(pairs("a", "x")), inTx(pairs("a", "y"))}})
	checkBad(t, "101 in Rows and Writes", api.World{Rows: many(0, 100, "x"), Sessions: []api.Session{inTx(many(100, 101, "x"))}})
	checkBad(t, "101 in two Writes", with(inTx(many(0, 50, "x")), inTx(many(50, 101, "x"))))
	checkBad(t, "101 that overlap", api.World{Rows: many(0, 60, "x"), Sessions: []api.Session{inTx(many(40, 70, "x")), inTx(many(70, 101, "x"))}})
}

func checkBad(t *testing.T, what string, w api.World) {
	t.Helper()
	if e := Check(w); e != api.ErrState {
		t.Errorf("%s: Check is %d", what, e)
	}
	if got, a, e := Do(w, 0, api.Stmt{Kind: api.Rollback}); !isZero(got, a) || e != api.ErrState {
		t.Errorf("%s: Do is %v, %v, %d", what, got, a, e)
	}
}

// TestCopy: a copy is equal, also that of a world that is not valid.
func TestCopy(t *testing.T) {
	for _, w := range []api.World{
		{},
		everything(),
		{Rows: many(0, 300, "x"), Sessions: make([]api.Session, 20)},
		{Rows: pairs("b", "", "a", " "), Sessions: []api.Session{{State: -7, Saved: pairs("", ""), Writes: pairs("A", "x", "A", "y")}}},
	} {
		got := Copy(w)
		if !same(got, w) {
			t.Errorf("Copy of %v is %v", w, got)
		}
		checkApart(t, w, got)
	}
}

// TestCopyTakesApart: lists that share memory in a world do not in its copy.
func TestCopyTakesApart(t *testing.T) {
	l := pairs("a", "x", "b", "y", "c", "z")
	w := api.World{Rows: l[:2], Sessions: []api.Session{{State: api.InTx, Settings: l, Saved: l, Writes: l[:1]}}}
	got := Copy(w)
	if !same(got, w) {
		t.Errorf("Copy of %v is %v", w, got)
	}
	checkApart(t, api.World{}, got)
}

// checkApart: do all lists of these worlds have memory of their own, unused capacity included? It overwrites them.
func checkApart(t *testing.T, worlds ...api.World) {
	t.Helper()
	var lists [][]api.Pair
	var sessions [][]api.Session
	for _, w := range worlds {
		sessions = append(sessions, w.Sessions[:cap(w.Sessions)])
		lists = append(lists, w.Rows[:cap(w.Rows)])
		for _, s := range w.Sessions {
			lists = append(lists, s.Settings[:cap(s.Settings)], s.Preps[:cap(s.Preps)], s.Saved[:cap(s.Saved)], s.Writes[:cap(s.Writes)])
		}
	}
	checkOwned(t, lists, func(p *api.Pair, n int) { p.Key = numbered(n) }, func(p api.Pair, n int) bool { return p.Key == numbered(n) })
	checkOwned(t, sessions, func(s *api.Session, n int) { s.State = n }, func(s api.Session, n int) bool { return s.State == n })
}

// checkOwned marks each list by its number, and tells whether the marks of a later list are in an earlier one.
func checkOwned[T any](t *testing.T, lists [][]T, mark func(*T, int), marked func(T, int) bool) {
	t.Helper()
	for n, l := range lists {
		for i := range l {
			mark(&l[i], n)
		}
	}
	for n, l := range lists {
		for i := range l {
			if !marked(l[i], n) {
				t.Fatalf("list %d shares memory with a later one", n)
			}
		}
	}
}

package pool

import (
	"slices"
	"strings"
	"testing"

	"tillerman/api"
)

// TestDocument: the examples of the chapter and of the whole system.
func TestDocument(t *testing.T) {
	o := run(t, api.ByTransaction, 1, sends(0, "set a x"), sends(1, "get a"), sends(0, "get a"))
	told(t, o, "Iok,I=x", "Inone")
	did(t, o, "0 set a x: Iok", "1 get a: Inone", "0 get a: I=x")
}

// TestFarewell: everything before it is done, and nothing after it.
func TestFarewell(t *testing.T) {
	for _, mode := range modes {
		o := run(t, mode, 1, sends(0, "set a x", "put k v", "get a", "X", "get a", "what", "put k w"))
		told(t, o, "Iok,Iok,I=x")
		left(t, o, "k v")
		// Its text does not matter, and the bytes after it are discarded, also those of a message that is not whole.
		o = run(t, mode, 1, raw(0, messages("set a x", "X:get a", "fail")+"Q\x05get"), raw(0, messages("get a")))
		told(t, o, "Iok,Inone")
		// It arrives in pieces.
		o = run(t, mode, 1, sends(0, "set a x"), raw(0, "X\x02a"), sends(1, "what"), raw(0, "bQ"), raw(0, messages("get a")))
		told(t, o, "Iok,Inone", "I!not understood")
		// Until it is whole, nobody leaves.
		o = run(t, mode, 1, sends(0, "set a x", "get a"), raw(0, "X"), raw(0, "\x01"))
		told(t, o, "Iok,I=x")
		// Only the first one counts, and the client need not have sent anything before.
		o = run(t, mode, 1, sends(0, "X", "X", "get a"), sends(0, "X"), sends(0, "get a"), sends(1, "x:"))
		told(t, o, "Inone", "I!not understood")
	}
}

// TestFarewellWaits: requests of a client that gets no server before it leaves are discarded.
func TestFarewellWaits(t *testing.T) {
	for _, mode := range []int{api.BySession, api.ByTransaction} {
		o := run(t, mode, 1, sends(0, "begin"), sends(1, "what", "put k v", "what", "X", "put k w"), sends(0, "X"), sends(1, "read k"))
		told(t, o, "Tok", "I!not understood,Inone")
		did(t, o, "0 begin: Tok", "1 read k: Inone")
		left(t, o, "")
	}
}

// TestFarewellLetsOthersWork: everything possible is done for all clients, before and after the client leaves.
func TestFarewellLetsOthersWork(t *testing.T) {
	// Client 1 gets the server between the end of the transaction of client 0 and its next request.
	o := run(t, api.ByTransaction, 1, sends(0, "begin", "put k v"), sends(1, "put k w", "read k"), sends(0, "commit", "read k", "X"))
	did(t, o, "0 begin: Tok", "0 put k v: Tok", "0 commit: Iok", "1 put k w: Iok", "0 read k: I=w", "1 read k: I=w")
	// Client 1 gets the server as client 0 leaves.
	o = run(t, api.ByTransaction, 1, sends(0, "begin", "put k v"), sends(1, "read k"), sends(0, "read k", "X"))
	did(t, o, "0 begin: Tok", "0 put k v: Tok", "0 read k: T=v", "1 read k: Inone")
	// Before client 1 leaves, its transaction lets client 2 wait, but not after.
	o = run(t, api.ByTransaction, 1, sends(0, "begin"), sends(2, "read k"), sends(1, "begin", "put k v"), sends(0, "X"), sends(1, "X"), sends(3, "read k"))
	did(t, o, "0 begin: Tok", "2 read k: Inone", "1 begin: Tok", "1 put k v: Tok", "3 read k: Inone")
	left(t, o, "")
}

// TestLeaving: a transaction is rolled back, without an answer or a deed, and the server becomes free.
func TestLeaving(t *testing.T) {
	for _, mode := range []int{api.BySession, api.ByTransaction} {
		for _, last := range []api.Act{closes(0), sends(0, "X")} {
			o := run(t, mode, 1, sends(0, "put k v", "begin", "put k w", "put l w"), last, sends(1, "read k", "read l", "put k z"))
			told(t, o, "Iok,Tok,Tok,Tok", "I=v,Inone,Iok")
			did(t, o, "0 put k v: Iok", "0 begin: Tok", "0 put k w: Tok", "0 put l w: Tok", "1 read k: I=v", "1 read l: Inone", "1 put k z: Iok")
			left(t, o, "k z")
			// A failed transaction is rolled back too.
			o = run(t, mode, 1, sends(0, "begin", "set a x", "fail"), last, sends(1, "get a", "begin", "commit"), closes(1), sends(0, "get a"))
			told(t, o, "Tok,Tok,F!as asked,Inone", "Inone,Tok,Iok")
			// Held rows are so no longer.
			o = run(t, mode, 2, sends(0, "begin", "put k v"), sends(1, "put k w"), last, sends(1, "put k w"))
			told(t, o, "Tok,Tok", "I!held,Iok")
			left(t, o, "k w")
		}
	}
}

// TestLeavingQueue: a client that leaves no longer waits, and has its place at the end if it comes again.
func TestLeavingQueue(t *testing.T) {
	for _, last := range []api.Act{closes(1), sends(1, "X")} {
		o := run(t, api.ByTransaction, 1, sends(0, "begin"), sends(1, "put k v", "what"), sends(2, "read k"), last, sends(0, "commit"))
		told(t, o, "Tok,Iok", "", "Inone")
		did(t, o, "0 begin: Tok", "0 commit: Iok", "2 read k: Inone")
		o = run(t, api.ByTransaction, 1, sends(0, "begin"), sends(1, "put k v"), sends(2, "read k"), sends(3, "read k"), last, sends(1, "put k w"), sends(0, "commit"))
		did(t, o, "0 begin: Tok", "0 commit: Iok", "2 read k: Inone", "3 read k: Inone", "1 put k w: Iok")
		left(t, o, "k w")
	}
	// Without a transaction and without a server, leaving changes nothing for the others.
	o := run(t, api.ByTransaction, 1, closes(0), closes(5), sends(1, "set a x"), closes(0), sends(1, "get a"), closes(1), closes(1))
	told(t, o, "", "Iok,I=x")
}

// TestNewClient: it has nothing of the one before it with the same number.
func TestNewClient(t *testing.T) {
	for _, mode := range modes {
		for _, last := range []api.Act{closes(2), sends(2, "X")} {
			o := run(t, mode, 1, sends(2, "set a x", "prep p read k", "put k v"), last, sends(2, "get a", "exec p", "read k"))
			told(t, o, "", "", "Iok,Iok,Iok,Inone,I!not prepared,I=v")
		}
		// Neither bytes that were not a whole message.
		o := run(t, mode, 1, raw(2, "Q\x05get"), closes(2), raw(2, messages("get a")))
		told(t, o, "", "", "Inone")
	}
}

// TestOwnSession: in each mode and with each number of servers, a session has what its own statements created.
func TestOwnSession(t *testing.T) {
	for _, mode := range []int{api.ByTransaction, api.ByStatement} {
		for servers := 1; servers <= 4; servers++ {
			o := run(t, mode, servers,
				sends(0, "set a x", "set b y", "prep p get a"),
				sends(1, "get a", "get b", "exec p", "set a z", "prep p get b", "prep q get a"),
				sends(0, "get a", "get b", "exec p", "exec q"),
				sends(1, "get a", "get b", "exec p", "exec q"),
				sends(2, "get a", "exec p", "exec q"),
				sends(0, "set a w", "get a"),
				sends(1, "reset", "get a", "exec p"),
				sends(0, "get a", "exec p"),
				sends(1, "get a", "exec q"))
			told(t, o,
				"Iok,Iok,Iok,I=x,I=y,I=x,I!not prepared,Iok,I=w,I=w,I=w",
				"Inone,Inone,I!not prepared,Iok,Iok,Iok,I=z,Inone,Inone,I=z,Iok,Inone,I!not prepared,Inone,I!not prepared",
				"Inone,I!not prepared,I!not prepared")
		}
	}
}

// TestOwnSessionPartly: sessions that have some of the pairs of the one before them on the server, and none.
func TestOwnSessionPartly(t *testing.T) {
	for _, mode := range []int{api.ByTransaction, api.ByStatement} {
		o := run(t, mode, 1,
			sends(0, "set a x", "prep p get a"),
			sends(1, "set a x", "set b y", "prep p get a", "prep q get b"),
			sends(0, "get b", "exec q", "get a", "exec p"),
			sends(1, "get a", "get b", "exec p", "exec q"),
			sends(2, "set b x", "get a", "get b"),
			sends(3, "get b"),
			sends(4, "prep p read a", "exec p"),
			sends(5, "exec p"),
			sends(0, "exec p"))
		told(t, o, "Iok,Iok,Inone,I!not prepared,I=x,I=x,I=x", "Iok,Iok,Iok,Iok,I=x,I=y,I=x,I=y", "Iok,Inone,I=x", "Inone", "Iok,Inone", "I!not prepared")
	}
}

// TestOwnSessionFull: as many pairs as a session can have are restored, and those of others take no room.
func TestOwnSessionFull(t *testing.T) {
	var fill, ask []string
	for _, key := range []string{"a", "b", "c", "d", "e", "f"} {
		fill = append(fill, "set "+key+" x"+key, "prep "+key+" put "+key+" 12345678901234567890")
		ask = append(ask, "get "+key, "exec "+key)
	}
	filled := strings.Repeat("Iok,", 12)
	asked := "I=xa,Iok,I=xb,Iok,I=xc,Iok,I=xd,Iok,I=xe,Iok,I=xf,Iok"
	for _, mode := range []int{api.ByTransaction, api.ByStatement} {
		o := run(t, mode, 1, sends(0, fill...), sends(1, "set g x", "set h x"), sends(2, fill...), sends(0, ask...), sends(1, "get g"), sends(2, ask...),
			sends(0, "set g x"), sends(2, "prep g get a"))
		told(t, o, filled+asked+",I!full", "Iok,Iok,I=x", filled+asked+",I!full")
	}
}

// TestOwnTransaction: settings of a transaction are restored as they are after its end, and prepared statements stay.
func TestOwnTransaction(t *testing.T) {
	other := sends(1, "set a other", "prep p get a")
	ask := sends(0, "get a", "get b", "exec p")
	for end, want := range map[string]string{
		"commit":   "I=y,I=z,I=y",
		"rollback": "I=x,Inone,I=x",
		"X":        "Inone,Inone,I!not prepared",
	} {
		o := run(t, api.ByTransaction, 1, sends(0, "set a x", "begin", "set a y", "set b z", "prep p get a", end), other, ask)
		if end != "X" {
			want = "Iok," + want
		}
		told(t, o, "Iok,Tok,Tok,Tok,Tok,"+want, "Iok,Iok")
	}
	// A Commit of a failed transaction rolls it back.
	o := run(t, api.ByTransaction, 1, sends(0, "set a x", "begin", "set a y", "prep p get a", "fail", "commit"), other, ask)
	told(t, o, "Iok,Tok,Tok,Tok,F!as asked,Iok,I=x,Inone,I=x", "Iok,Iok")
	// A Reset in a transaction is an Error, and one after it counts.
	o = run(t, api.ByTransaction, 1, sends(0, "set a x", "begin", "reset", "rollback"), other, ask, sends(0, "reset"), other, ask)
	told(t, o, "Iok,Tok,F!not in a transaction,Iok,I=x,Inone,I!not prepared,Iok,Inone,Inone,I!not prepared", "Iok,Iok,Iok,Iok")
}

// TestSharedRows: all sessions are over the same rows.
func TestSharedRows(t *testing.T) {
	o := run(t, api.ByTransaction, 2,
		sends(0, "put k a", "begin", "put k b", "read k"),
		sends(1, "read k", "put k c", "begin", "put l d", "put k c"),
		sends(0, "put m e", "commit"),
		sends(1, "read k", "rollback", "read k", "read l"),
		sends(2, "begin", "put n f"))
	told(t, o, "Iok,Tok,Tok,T=b,Tok,Iok", "I=a,I!held,Tok,Tok,F!held,F!failed already,Iok,I=b,Inone", "Tok,Tok")
	left(t, o, "k b,m e")
}

// TestRunMemory: arguments stay as they are, and results of two calls share nothing.
func TestRunMemory(t *testing.T) {
	acts := []api.Act{sends(0, "put k v", "prep p get a", "what"), sends(1, "put l w", "begin"), closes(2), raw(3, "Q\x05ge"), {Kind: 9}, {Kind: 9}}
	before := slices.Clone(acts)
	first := run(t, api.ByTransaction, 1, acts[:4]...)
	second := run(t, api.ByTransaction, 1, acts[:4]...)
	if !slices.Equal(acts, before) {
		t.Errorf("acts are %v", acts)
	}
	if !same(first, second) {
		t.Errorf("%v and then %v", first, second)
	}
	clear(first.Sent[:cap(first.Sent)])
	clear(first.Deeds[:cap(first.Deeds)])
	clear(first.Rows[:cap(first.Rows)])
	told(t, second, "Iok,Iok,I!not understood", "Iok,Tok")
	did(t, second, "0 put k v: Iok", "0 prep p get a: Iok", "1 put l w: Iok", "1 begin: Tok")
	left(t, second, "k v,l w")
}

func same(a, b api.Outcome) bool {
	return slices.Equal(a.Sent, b.Sent) && slices.Equal(a.Deeds, b.Deeds) && slices.Equal(a.Rows, b.Rows)
}

package pool

import (
	"math"
	"slices"
	"strings"
	"testing"

	"tillerman/api"
	"tillerman/say"
)

// message of a kind with a text, which may be longer than Pack allows.
func message(kind byte, text string) string {
	return string([]byte{kind, byte(len(text))}) + text
}

// messages one behind the other: each of kind Q, but for one that is X, and those that have a kind before a colon ("Z:begin").
func messages(texts ...string) string {
	var s string
	for _, t := range texts {
		switch {
		case t == "X":
			s += message('X', "")
		case len(t) > 1 && t[1] == ':':
			s += message(t[0], t[2:])
		default:
			s += message('Q', t)
		}
	}
	return s
}

// sends: a client delivers whole messages.
func sends(client int, texts ...string) api.Act {
	return api.Act{Kind: api.Deliver, Client: client, Data: messages(texts...)}
}

// raw: a client delivers bytes.
func raw(client int, data string) api.Act {
	return api.Act{Kind: api.Deliver, Client: client, Data: data}
}

// closes: a client goes.
func closes(client int) api.Act { return api.Act{Kind: api.Close, Client: client} }

// answers that a client was sent, separated by commas.
func answers(t *testing.T, sent string) string {
	var l []string
	for sent != "" {
		kind, text, n := say.Unpack(sent)
		if n == 0 || kind != 'R' {
			t.Fatalf("%q is no answer", sent)
		}
		l = append(l, text)
		sent = sent[n:]
	}
	return strings.Join(l, ",")
}

// deeds as a text: the number of the client, the statement and the answer of each.
func deeds(l []api.Deed) string {
	var texts []string
	for _, d := range l {
		stmt, _ := say.Show(d.Stmt)
		answer, _ := say.Tell(d.Answer)
		texts = append(texts, string(rune('0'+d.Client))+" "+stmt+": "+answer)
	}
	return strings.Join(texts, ",")
}

// rows as a text.
func rows(l []api.Pair) string {
	var texts []string
	for _, p := range l {
		texts = append(texts, p.Key+" "+p.Value)
	}
	return strings.Join(texts, ",")
}

func run(t *testing.T, mode, servers int, acts ...api.Act) api.Outcome {
	t.Helper()
	o, e := Run(api.Setup{Mode: mode, Servers: servers}, acts)
	if e != api.OK || len(o.Sent) != api.MaxClients {
		t.Fatalf("Run: %v, error %d", o, e)
	}
	return o
}

// told checks what the first clients were sent, and that the others were sent nothing.
func told(t *testing.T, o api.Outcome, want ...string) {
	t.Helper()
	for i, sent := range o.Sent {
		w := ""
		if i < len(want) {
			w = want[i]
		}
		if got := answers(t, sent); got != w {
			t.Errorf("client %d was sent %q, want %q", i, got, w)
		}
	}
}

// did checks the deeds.
func did(t *testing.T, o api.Outcome, want ...string) {
	t.Helper()
	if got := deeds(o.Deeds); got != strings.Join(want, ",") {
		t.Errorf("deeds are %q, want %q", got, strings.Join(want, ","))
	}
}

// left checks the final rows.
func left(t *testing.T, o api.Outcome, want string) {
	t.Helper()
	if got := rows(o.Rows); got != want {
		t.Errorf("rows are %q, want %q", got, want)
	}
}

var modes = []int{api.BySession, api.ByTransaction, api.ByStatement}

func TestCheckSetup(t *testing.T) {
	for _, mode := range modes {
		for servers := 1; servers <= 4; servers++ {
			if e := CheckSetup(api.Setup{Mode: mode, Servers: servers}); e != api.OK {
				t.Errorf("mode %d, servers %d: %d", mode, servers, e)
			}
		}
		for _, servers := range []int{math.MinInt, -1, 0, 5, 8, math.MaxInt} {
			if e := CheckSetup(api.Setup{Mode: mode, Servers: servers}); e != api.ErrRange {
				t.Errorf("mode %d, servers %d: %d", mode, servers, e)
			}
		}
	}
	for _, mode := range []int{math.MinInt, -1, 0, 4, math.MaxInt} {
		for _, servers := range []int{-1, 0, 1, 4, 5} {
			if e := CheckSetup(api.Setup{Mode: mode, Servers: servers}); e != api.ErrKind {
				t.Errorf("mode %d, servers %d: %d", mode, servers, e)
			}
		}
	}
}

func TestRunErrors(t *testing.T) {
	good := api.Setup{Mode: api.ByTransaction, Servers: 1}
	put := sends(0, "put a x")
	tooLong := strings.Repeat("x", 1001)
	for i, c := range []struct {
		setup api.Setup
		acts  []api.Act
		want  api.Errno
	}{
		{api.Setup{}, nil, api.ErrKind},
		{api.Setup{Mode: 4, Servers: 1}, make([]api.Act, 301), api.ErrKind},
		{api.Setup{Mode: 1}, make([]api.Act, 301), api.ErrRange},
		{api.Setup{Mode: 1, Servers: 5}, []api.Act{put}, api.ErrRange},
		{good, make([]api.Act, 301), api.ErrSize},
		{good, slices.Repeat([]api.Act{put}, 301), api.ErrSize},
		{good, make([]api.Act, 300), api.ErrKind},
		{good, []api.Act{{}}, api.ErrKind},
		{good, []api.Act{{Kind: 3}}, api.ErrKind},
		{good, []api.Act{{Kind: -1}}, api.ErrKind},
		{good, []api.Act{{Kind: 3, Client: 6, Data: tooLong}}, api.ErrKind},
		{good, []api.Act{raw(6, "")}, api.ErrRange},
		{good, []api.Act{raw(-1, "")}, api.ErrRange},
		{good, []api.Act{closes(6)}, api.ErrRange},
		{good, []api.Act{closes(math.MinInt)}, api.ErrRange},
		{good, []api.Act{closes(math.MaxInt)}, api.ErrRange},
		{good, []api.Act{raw(6, tooLong)}, api.ErrRange},
		{good, []api.Act{raw(0, tooLong)}, api.ErrSize},
		{good, []api.Act{raw(5, strings.Repeat("x", 1e6))}, api.ErrSize},
		{good, []api.Act{{Kind: api.Close, Data: tooLong}}, api.ErrSize},
		{good, []api.Act{put, {Kind: 3}}, api.ErrKind},
		{good, []api.Act{put, raw(0, tooLong), raw(6, ""), {}}, api.ErrSize},
		{good, []api.Act{put, raw(6, ""), raw(0, tooLong), {}}, api.ErrRange},
		{good, []api.Act{put, {}, raw(6, ""), raw(0, tooLong)}, api.ErrKind},
	} {
		o, e := Run(c.setup, c.acts)
		if e != c.want || len(o.Sent) != 0 || len(o.Deeds) != 0 || len(o.Rows) != 0 {
			t.Errorf("case %d: %v, error %d, want %d", i, o, e, c.want)
		}
	}
}

// TestRunLimits: what is just within the limits.
func TestRunLimits(t *testing.T) {
	for _, mode := range modes {
		o := run(t, mode, 1)
		told(t, o)
		did(t, o)
		left(t, o, "")

		acts := slices.Repeat([]api.Act{sends(5, "put a x")}, 300)
		o = run(t, mode, 1, acts...)
		if len(o.Deeds) != 300 || o.Sent[5] != strings.Repeat("R\x03Iok", 300) {
			t.Errorf("300 acts: %d deeds, sent %q", len(o.Deeds), o.Sent[5])
		}

		o = run(t, mode, 1, raw(0, strings.Repeat(message('Q', "set a 45"), 100)), api.Act{Kind: api.Close, Data: strings.Repeat("x", 1000)})
		if len(o.Deeds) != 100 || o.Sent[0] != strings.Repeat("R\x03Iok", 100) {
			t.Errorf("1000 bytes: %d deeds, sent %q", len(o.Deeds), o.Sent[0])
		}
	}
}

// TestPieces: messages that arrive in pieces, and several at once.
func TestPieces(t *testing.T) {
	data := messages("set a x", "get a", "what", "put k v", "read k")
	want := "Iok,I=x,I!not understood,Iok,I=v"
	for _, mode := range modes {
		for size := 1; size <= len(data); size++ {
			var acts []api.Act
			for piece := range slices.Chunk([]byte(data), size) {
				acts = append(acts, raw(3, string(piece)), raw(2, ""))
			}
			told(t, run(t, mode, 1, acts...), "", "", "", want)
		}
	}
	// What is not whole in the end is not answered, and the pieces of two clients are kept apart.
	told(t, run(t, api.ByTransaction, 1, raw(0, "Q\x05get"), raw(1, "Q\x07read"), raw(0, " "), raw(1, " a"), raw(0, "b")), "Inone", "")
	told(t, run(t, api.ByTransaction, 1, raw(0, "Q\x05get"), raw(1, "Q\x06read"), raw(0, " "), raw(1, " k"), raw(0, "bQ\x04fai")), "Inone", "Inone")
	// Data of a Close is not delivered.
	told(t, run(t, api.ByTransaction, 1, api.Act{Kind: api.Close, Data: messages("get a")}, sends(0, "get b")), "Inone")
}

// invalid requests: other kinds, and texts that are not those of statements.
var invalid = []string{
	"", " ", "what", "begin ", " begin", "BEGIN", "begin a", "get", "get ", "get A", "get a b", "set a", "set a  x", "set a x y",
	"put abcdefghi x", "put a 123456789012345678901", "prep p fail", "prep p exec q", "reset a", "fail x", "q", "get a\n",
	strings.Repeat("x", 60), strings.Repeat("x", 61), strings.Repeat("x", 120), strings.Repeat("x", 255),
	"q:get a", "R:get a", "x:", "x:get a", "\x00:", "\x00:get a", "\xff:begin", "Z:",
}

func TestInvalidRequests(t *testing.T) {
	for _, mode := range modes {
		for _, text := range invalid {
			o := run(t, mode, 1, sends(0, "set a x", text, "get a"), sends(1, text))
			told(t, o, "Iok,I!not understood,I=x", "I!not understood")
			did(t, o, "0 set a x: Iok", "0 get a: I=x")
			left(t, o, "")
		}
	}
}

// TestInvalidNeedsNoServer: it is answered while another client has the only server.
func TestInvalidNeedsNoServer(t *testing.T) {
	for _, mode := range []int{api.BySession, api.ByTransaction} {
		o := run(t, mode, 1, sends(0, "begin"), sends(1, "what"), sends(2, "get a", "what"), sends(2, "what"), sends(1, "what", "get a", "what"))
		told(t, o, "Tok", "I!not understood,I!not understood")
		did(t, o, "0 begin: Tok")
	}
}

// TestInvalidInTransaction: it has the State of the session, and does not make a transaction fail.
func TestInvalidInTransaction(t *testing.T) {
	for _, mode := range []int{api.BySession, api.ByTransaction} {
		o := run(t, mode, 1, sends(0, "what", "begin", "what", "put k v", "Z:", "fail", "what", "commit", "what", "begin", "put k w", "what", "commit"))
		told(t, o, "I!not understood,Tok,T!not understood,Tok,T!not understood,F!as asked,F!not understood,Iok,I!not understood,Tok,Tok,T!not understood,Iok")
		did(t, o, "0 begin: Tok", "0 put k v: Tok", "0 fail: F!as asked", "0 commit: Iok", "0 begin: Tok", "0 put k w: Tok", "0 commit: Iok")
		left(t, o, "k w")
	}
}

// TestBeginByStatement: it is refused, without a server and without a deed.
func TestBeginByStatement(t *testing.T) {
	o := run(t, api.ByStatement, 1, sends(0, "begin", "put k v", "commit", "rollback", "begin", "prep p read k", "exec p"), sends(1, "begin", "read k"))
	told(t, o, "I!not in this mode,Iok,I!no transaction,I!no transaction,I!not in this mode,Iok,I=v", "I!not in this mode,I=v")
	did(t, o, "0 put k v: Iok", "0 commit: I!no transaction", "0 rollback: I!no transaction", "0 prep p read k: Iok", "0 exec p: I=v", "1 read k: I=v")
	left(t, o, "k v")
}

// TestQueue: a client that has had a server waits behind all that wait already.
func TestQueue(t *testing.T) {
	o := run(t, api.ByTransaction, 1, sends(0, "begin"), sends(3, "get a", "get b"), sends(1, "get a", "what"), sends(2, "get a"), sends(0, "commit", "get c"))
	did(t, o, "0 begin: Tok", "0 commit: Iok", "3 get a: Inone", "1 get a: Inone", "2 get a: Inone", "0 get c: Inone", "3 get b: Inone")
	told(t, o, "Tok,Iok,Inone", "Inone,I!not understood", "Inone", "Inone,Inone")

	// A transaction keeps the server until it ends, whoever waits.
	o = run(t, api.ByTransaction, 1, sends(5, "begin"), sends(4, "begin", "get a", "commit", "get b"), sends(0, "get a"), sends(5, "rollback"))
	did(t, o, "5 begin: Tok", "5 rollback: Iok", "4 begin: Tok", "4 get a: Tnone", "4 commit: Iok", "0 get a: Inone", "4 get b: Inone")

	// With two servers, one transaction is enough to let the others take turns.
	o = run(t, api.ByTransaction, 2, sends(5, "begin"), sends(4, "begin"), sends(3, "get a", "get a"), sends(1, "get b", "get b"),
		sends(4, "rollback", "get d"), sends(5, "rollback", "get e"))
	did(t, o, "5 begin: Tok", "4 begin: Tok", "4 rollback: Iok", "3 get a: Inone", "1 get b: Inone", "4 get d: Inone", "3 get a: Inone", "1 get b: Inone",
		"5 rollback: Iok", "5 get e: Inone")

	// A client whose transaction begins late keeps its place until then.
	o = run(t, api.ByTransaction, 1, sends(0, "begin"), sends(2, "get a", "begin", "get b"), sends(1, "get c", "get d"), sends(0, "commit"), sends(2, "commit"))
	did(t, o, "0 begin: Tok", "0 commit: Iok", "2 get a: Inone", "1 get c: Inone", "2 begin: Tok", "2 get b: Tnone", "2 commit: Iok", "1 get d: Inone")
}

// TestByNumber: of clients that are ready, and of those that begin to wait, the first by number is the first.
// After each action only one client has new requests, so that no script shows it.
func TestByNumber(t *testing.T) {
	p := pool{mode: api.ByTransaction, world: api.World{Sessions: make([]api.Session, 1)}, busy: make([]bool, 1)}
	get := api.Stmt{Kind: api.Get, Key: "a"}
	for _, i := range []int{4, 1, 3} {
		p.clients[i].pending = []api.Stmt{get, get}
	}
	p.queue = []int{4}
	p.doEverything()
	did(t, p.outcome(), "4 get a: Inone", "1 get a: Inone", "3 get a: Inone", "4 get a: Inone", "1 get a: Inone", "3 get a: Inone")

	// Clients 0 and 2 have servers, and client 1 needs none: all are processed before client 3, which waits.
	p = pool{mode: api.BySession, world: api.World{Sessions: make([]api.Session, 3)}, busy: []bool{true, false, true}}
	p.clients[3] = client{pending: []api.Stmt{get}}
	p.clients[2] = client{pending: []api.Stmt{get, get}, hasServer: true, server: 0}
	p.clients[1] = client{pending: []api.Stmt{{}}}
	p.clients[0] = client{pending: []api.Stmt{get, get}, hasServer: true, server: 2}
	p.queue = []int{3}
	p.doEverything()
	did(t, p.outcome(), "0 get a: Inone", "0 get a: Inone", "2 get a: Inone", "2 get a: Inone", "3 get a: Inone")
	if c := p.clients[3]; !c.hasServer || c.server != 1 {
		t.Errorf("client 3 has server %d", c.server)
	}

	// The first free server is handed out.
	p = pool{mode: api.BySession, world: api.World{Sessions: make([]api.Session, 4)}, busy: []bool{true, false, true, false}}
	p.clients[5].pending = []api.Stmt{get}
	p.doEverything()
	if c := p.clients[5]; !c.hasServer || c.server != 1 {
		t.Errorf("client 5 has server %d", c.server)
	}
}

// TestQueueKeepsPlace: a client that waits already is not appended again.
func TestQueueKeepsPlace(t *testing.T) {
	o := run(t, api.ByTransaction, 1, sends(0, "begin"), sends(2, "get a"), sends(1, "get a"), sends(2, "get b"), sends(1, "get b"), sends(0, "commit"))
	did(t, o, "0 begin: Tok", "0 commit: Iok", "2 get a: Inone", "1 get a: Inone", "2 get b: Inone", "1 get b: Inone")
}

// TestModes: for how long a client has a server.
func TestModes(t *testing.T) {
	// BySession: until it leaves.
	o := run(t, api.BySession, 2, sends(0, "get a"), sends(1, "get a"), sends(2, "get a"), sends(3, "get b"), sends(0, "get c"), closes(0), sends(1, "X"))
	did(t, o, "0 get a: Inone", "1 get a: Inone", "0 get c: Inone", "2 get a: Inone", "3 get b: Inone")
	o = run(t, api.BySession, 1, sends(1, "set a x", "get a"), sends(0, "get a"), sends(1, "begin", "commit", "get a"))
	did(t, o, "1 set a x: Iok", "1 get a: I=x", "1 begin: Tok", "1 commit: Iok", "1 get a: I=x")
	// ByTransaction: until its session is Idle; a failed transaction is still one.
	o = run(t, api.ByTransaction, 1, sends(0, "begin", "fail"), sends(1, "get a"), sends(0, "get a", "rollback"))
	did(t, o, "0 begin: Tok", "0 fail: F!as asked", "0 get a: F!failed already", "0 rollback: Iok", "1 get a: Inone")
	o = run(t, api.ByTransaction, 4, sends(0, "begin"), sends(1, "begin"), sends(2, "begin"), sends(3, "begin"), sends(4, "begin"), sends(5, "get a"), sends(2, "commit"), sends(4, "fail"), sends(0, "commit"))
	did(t, o, "0 begin: Tok", "1 begin: Tok", "2 begin: Tok", "3 begin: Tok", "2 commit: Iok", "4 begin: Tok", "4 fail: F!as asked", "0 commit: Iok", "5 get a: Inone")
	// An Error outside of a transaction frees the server too.
	for _, mode := range []int{api.ByTransaction, api.ByStatement} {
		o = run(t, mode, 1, sends(0, "fail", "commit", "exec p"), sends(1, "get a"))
		did(t, o, "0 fail: I!as asked", "0 commit: I!no transaction", "0 exec p: I!not prepared", "1 get a: Inone")
	}
}

package pool

import (
	"math/rand"
	"testing"

	"tillerman/api"
	"tillerman/back"
	"tillerman/say"
)

// model of a pool in which each client has a session of its own in the world, so that nothing is ever restored;
// servers are only counted. It says what Run must return.
type model struct {
	mode     int
	free     int
	world    api.World
	has      [api.MaxClients]bool
	received [api.MaxClients]string
	pending  [api.MaxClients][]string // the texts; those that are no statements are empty
	waiting  []int
	out      api.Outcome
}

func modelRun(u api.Setup, l []api.Act) api.Outcome {
	m := model{mode: u.Mode, free: u.Servers, world: api.World{Sessions: make([]api.Session, api.MaxClients)}}
	m.out.Sent = make([]string, api.MaxClients)
	for _, a := range l {
		if a.Kind == api.Close {
			m.leave(a.Client)
		} else {
			m.receive(a.Client, a.Data)
		}
		m.everything()
	}
	m.out.Rows = m.world.Rows
	return m.out
}

func (m *model) receive(i int, data string) {
	m.received[i] += data
	for {
		s := m.received[i]
		if len(s) < 2 || len(s) < 2+int(s[1]) {
			return
		}
		text := s[2 : 2+int(s[1])]
		if s[0] == 'X' {
			m.everything()
			m.leave(i)
			return
		}
		m.received[i] = s[2+len(text):]
		if _, e := say.Read(text); s[0] != 'Q' || e != api.OK {
			text = ""
		}
		m.pending[i] = append(m.pending[i], text)
	}
}

func (m *model) leave(i int) {
	if m.world.Sessions[i].State != api.Idle {
		m.world, _, _ = back.Do(m.world, i, api.Stmt{Kind: api.Rollback})
	}
	m.world, _, _ = back.Do(m.world, i, api.Stmt{Kind: api.Reset})
	if m.has[i] {
		m.has[i] = false
		m.free++
	}
	var others []int
	for _, n := range m.waiting {
		if n != i {
			others = append(others, n)
		}
	}
	m.waiting, m.pending[i], m.received[i] = others, nil, ""
}

func (m *model) everything() {
again:
	for i := range api.MaxClients {
		if len(m.pending[i]) > 0 && m.try(i, m.pending[i][0]) {
			m.pending[i] = m.pending[i][1:]
			goto again
		}
	}
	for i := range api.MaxClients {
		waits := len(m.pending[i]) > 0
		for _, n := range m.waiting {
			waits = waits && n != i
		}
		if waits {
			m.waiting = append(m.waiting, i)
		}
	}
	if m.free > 0 && len(m.waiting) > 0 {
		m.has[m.waiting[0]] = true
		m.free--
		m.waiting = m.waiting[1:]
		goto again
	}
}

// try to process a request.
func (m *model) try(i int, text string) bool {
	a := api.Answer{Kind: api.Error, State: m.world.Sessions[i].State}
	switch {
	case text == "":
		a.Text = "not understood"
	case text == "begin" && m.mode == api.ByStatement:
		a.Text = "not in this mode"
	case !m.has[i]:
		return false
	default:
		x, _ := say.Read(text)
		m.world, a, _ = back.Do(m.world, i, x)
		m.out.Deeds = append(m.out.Deeds, api.Deed{Client: i, Stmt: x, Answer: a})
		if m.mode != api.BySession && a.State == api.Idle {
			m.has[i] = false
			m.free++
		}
	}
	told, _ := say.Tell(a)
	m.out.Sent[i] += message('R', told)
	return true
}

func pick(r *rand.Rand, l ...string) string { return l[r.Intn(len(l))] }

// someMessage: statements over few keys, so that sessions get in the way of each other, and now and then another message.
func someMessage(r *rand.Rand) string {
	key := pick(r, "a", "b", "c", "d", "e", "f", "g", "h")
	value := pick(r, "x", "y", "z")
	switch r.Intn(24) {
	case 0, 1, 2:
		return "begin"
	case 3, 4:
		return "commit"
	case 5:
		return "rollback"
	case 6:
		return pick(r, "reset", "fail", "fail", "X", "X:x", "Z:get a", "what", "begin ", "set a")
	case 7, 8, 9:
		return "get " + key
	case 10, 11:
		return "read " + key
	case 12, 13, 14:
		return "exec " + key
	case 15, 16, 17, 18:
		return "set " + key + " " + value
	case 19, 20:
		return "put " + key + " " + value
	}
	return "prep " + key + " " + pick(r, "get "+key, "read "+key, "put "+key+" "+value)
}

func someActs(r *rand.Rand, clients int) []api.Act {
	acts := make([]api.Act, r.Intn(61))
	var rest [api.MaxClients]string
	for n := range acts {
		i := r.Intn(clients)
		if r.Intn(20) == 0 {
			acts[n] = closes(i)
			rest[i] = ""
			continue
		}
		data := rest[i]
		for range r.Intn(5) {
			data += messages(someMessage(r))
		}
		// Now and then, what follows is cut off and sent later.
		cut := len(data)
		if r.Intn(3) == 0 {
			cut = r.Intn(len(data) + 1)
		}
		acts[n] = raw(i, data[:cut])
		rest[i] = data[cut:]
	}
	return acts
}

// TestModel: Run and the model agree on many scripts.
func TestModel(t *testing.T) {
	r := rand.New(rand.NewSource(1))
	for n := range 3000 {
		u := api.Setup{Mode: modes[r.Intn(3)], Servers: 1 + r.Intn(api.MaxServers)}
		acts := someActs(r, 1+r.Intn(api.MaxClients))
		want := modelRun(u, acts)
		got, e := Run(u, acts)
		if e != api.OK || !same(got, want) {
			t.Fatalf("script %d: %v %v:\n%v, error %d, want\n%v", n, u, acts, got, e, want)
		}
	}
}

// TestLongest: scripts as long as they may be, with as many requests as possible, and with any bytes.
func TestLongest(t *testing.T) {
	r := rand.New(rand.NewSource(2))
	for _, mode := range modes {
		u := api.Setup{Mode: mode, Servers: 2}
		requests := make([]api.Act, api.MaxActs)
		noise := make([]api.Act, api.MaxActs)
		for n := range requests {
			requests[n] = raw(n%2, string(make([]byte, api.MaxData)))
			data := make([]byte, api.MaxData)
			r.Read(data)
			noise[n] = raw(r.Intn(api.MaxClients), string(data))
		}
		o, e := Run(u, requests)
		if want := api.MaxActs / 2 * api.MaxData / 2 * len("R\x10I!not understood"); e != api.OK || len(o.Sent[0]) != want || len(o.Sent[1]) != want {
			t.Errorf("mode %d: %d and %d bytes, error %d, want %d", mode, len(o.Sent[0]), len(o.Sent[1]), e, want)
		}
		if o, e := Run(u, noise); e != api.OK || !same(o, modelRun(u, noise)) {
			t.Errorf("mode %d: noise: error %d", mode, e)
		}
	}
}

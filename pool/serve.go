package pool

import (
	"slices"

	"tillerman/api"
	"tillerman/back"
	"tillerman/say"
)

// doEverything that is possible. It ends, as each step takes a request off or hands out a server to one.
func (p *pool) doEverything() {
	for p.step() {
	}
}

// step processes a request or else gives a server to a client; false: neither is possible.
func (p *pool) step() bool {
	for i := range p.clients {
		if p.ready(i) {
			p.process(i)
			return true
		}
	}
	p.enqueue()
	return p.assign()
}

// ready: can the first request of a client be processed now?
func (p *pool) ready(i int) bool {
	c := &p.clients[i]
	return len(c.pending) > 0 && (c.hasServer || p.refusal(c.pending[0]) != "")
}

// refusal of a request that no server is needed for; empty if one is needed.
func (p *pool) refusal(x api.Stmt) string {
	if x.Kind == 0 {
		return "not understood"
	}
	if x.Kind == api.Begin && p.mode == api.ByStatement {
		return "not in this mode"
	}
	return ""
}

// process the first request of a client that is ready.
func (p *pool) process(i int) {
	c := &p.clients[i]
	x := c.pending[0]
	c.pending = c.pending[1:]
	if text := p.refusal(x); text != "" {
		p.send(i, api.Answer{Kind: api.Error, Text: text, State: p.state(c)})
		return
	}
	a := p.do(c.server, x)
	p.deeds = append(p.deeds, api.Deed{Client: i, Stmt: x, Answer: a})
	p.send(i, a)
	if p.mode != api.BySession && a.State == api.Idle {
		p.release(c)
	}
}

// enqueue the clients that wait. It is called when none is ready, so all that have requests need a server.
func (p *pool) enqueue() {
	for i := range p.clients {
		if len(p.clients[i].pending) > 0 && !slices.Contains(p.queue, i) {
			p.queue = append(p.queue, i)
		}
	}
}

// assign the first free server to the first client in the queue; false: there is no such server or client.
func (p *pool) assign() bool {
	server := slices.Index(p.busy, false)
	if server < 0 || len(p.queue) == 0 {
		return false
	}
	c := &p.clients[p.queue[0]]
	p.queue = p.queue[1:]
	p.busy[server] = true
	c.hasServer, c.server = true, server
	p.restore(c)
	return true
}

// restore the session of a client on the server that it just got, which still has what another one left there.
// Only a Reset takes a pair away; if none must go, the pairs that are there already can stay.
func (p *pool) restore(c *client) {
	s := p.world.Sessions[c.server]
	if len(without(s.Settings, c.settings)) > 0 || len(without(s.Preps, c.preps)) > 0 {
		p.do(c.server, api.Stmt{Kind: api.Reset})
		s = p.world.Sessions[c.server]
	}
	p.store(c.server, api.Set, without(c.settings, s.Settings))
	p.store(c.server, api.Prep, without(c.preps, s.Preps))
}

// store pairs on a server, each by a statement of this kind.
func (p *pool) store(server, kind int, l []api.Pair) {
	for _, q := range l {
		p.do(server, api.Stmt{Kind: kind, Key: q.Key, Value: q.Value})
	}
}

// without: the pairs of a list that another list does not have.
func without(l, other []api.Pair) []api.Pair {
	return slices.DeleteFunc(slices.Clone(l), func(q api.Pair) bool { return slices.Contains(other, q) })
}

// release the server of a client whose session is Idle, and keep what there is to restore on the next one.
func (p *pool) release(c *client) {
	// No list of a world is changed later, as back.Do returns a new world, so these need no copy.
	s := p.world.Sessions[c.server]
	c.settings, c.preps = s.Settings, s.Preps
	p.busy[c.server] = false
	c.hasServer = false
}

// state of the session of a client. Without a server, it is in no transaction.
func (p *pool) state(c *client) int {
	if !c.hasServer {
		return api.Idle
	}
	return p.world.Sessions[c.server].State
}

// do a statement on a server. There is no error to return: the world began as a valid one and only back.Do
// changes it, the server exists, and the statements are valid.
func (p *pool) do(server int, x api.Stmt) api.Answer {
	w, a, _ := back.Do(p.world, server, x)
	p.world = w
	return a
}

// send an answer to a client. Answers of a server, and refusals, have a text that fits into a message.
func (p *pool) send(i int, a api.Answer) {
	text, _ := say.Tell(a)
	message, _ := say.Pack(reply, text)
	p.sent[i] = append(p.sent[i], message...)
}

package back

import (
	"slices"
	"sort"
	"strings"

	"tillerman/api"
	"tillerman/say"
)

// execute a valid statement in an existing session of a valid world, which it changes.
// The State of the answer is left to Do, as an Error may still change it.
func execute(w *api.World, i int, x api.Stmt) api.Answer {
	s := &w.Sessions[i]
	if s.State == api.Failed && x.Kind != api.Commit && x.Kind != api.Rollback {
		return failure("failed already")
	}
	switch x.Kind {
	case api.Begin:
		return begin(s)
	case api.Commit, api.Rollback:
		return end(w, s, x.Kind)
	case api.Reset:
		return reset(s)
	case api.Get:
		return find(x.Key, s.Settings)
	case api.Read:
		return find(x.Key, s.Writes, w.Rows)
	case api.Exec:
		return exec(w, i, x.Key)
	case api.Set:
		return store(&s.Settings, x, api.MaxSettings)
	case api.Put:
		return put(w, i, x)
	case api.Prep:
		return store(&s.Preps, x, api.MaxPreps)
	}
	// Of the kinds of valid statements, only Fail is left.
	return failure("as asked")
}

// failure: an answer that is an Error.
func failure(text string) api.Answer { return api.Answer{Kind: api.Error, Text: text} }

// done: the answer to a statement that has nothing to return.
func done() api.Answer { return api.Answer{Kind: api.Done} }

// begin a transaction.
func begin(s *api.Session) api.Answer {
	if s.State != api.Idle {
		return failure("begun already")
	}
	s.State = api.InTx
	s.Saved = copyPairs(s.Settings)
	return done()
}

// end a transaction by a Commit or a Rollback. A Commit of a failed one rolls it back.
func end(w *api.World, s *api.Session, kind int) api.Answer {
	if s.State == api.Idle {
		return failure("no transaction")
	}
	if kind == api.Commit && s.State == api.InTx {
		for _, p := range s.Writes {
			w.Rows = insert(w.Rows, p)
		}
	} else {
		s.Settings = s.Saved
	}
	s.State, s.Saved, s.Writes = api.Idle, nil, nil
	return done()
}

// reset a session to one without settings and prepared statements.
func reset(s *api.Session) api.Answer {
	if s.State != api.Idle {
		return failure("not in a transaction")
	}
	s.Settings, s.Preps = nil, nil
	return done()
}

// exec executes what was prepared.
func exec(w *api.World, i int, key string) api.Answer {
	prepared := find(key, w.Sessions[i].Preps)
	if prepared.Kind == api.None {
		return failure("not prepared")
	}
	// A prepared statement of a valid world has a valid text, and is no Exec: this goes one level down.
	x, _ := say.Read(prepared.Text)
	return execute(w, i, x)
}

// put a row into the Writes of the session or, outside of a transaction, into Rows.
func put(w *api.World, i int, x api.Stmt) api.Answer {
	s := &w.Sessions[i]
	writers := countWriters(*w)
	count, exists := writers[x.Key]
	if _, own := place(s.Writes, x.Key); count > 0 && !own {
		return failure("held")
	}
	if !exists && len(writers) >= api.MaxRows {
		return failure("full")
	}
	// There is room for the row among all existing ones, and so in each list of them.
	if s.State == api.InTx {
		return store(&s.Writes, x, api.MaxRows)
	}
	return store(&w.Rows, x, api.MaxRows)
}

// find the Value of a key in the first list that has it.
func find(key string, lists ...[]api.Pair) api.Answer {
	for _, l := range lists {
		if i, found := place(l, key); found {
			return api.Answer{Kind: api.Value, Text: l[i].Value}
		}
	}
	return api.Answer{Kind: api.None}
}

// store the pair of a statement in a list of at most limit pairs.
func store(l *[]api.Pair, x api.Stmt, limit int) api.Answer {
	if _, found := place(*l, x.Key); !found && len(*l) >= limit {
		return failure("full")
	}
	*l = insert(*l, api.Pair{Key: strings.Clone(x.Key), Value: strings.Clone(x.Value)})
	return done()
}

// insert a pair into a list where its Key belongs, in place of one with the same Key.
func insert(l []api.Pair, p api.Pair) []api.Pair {
	i, found := place(l, p.Key)
	if found {
		l[i] = p
		return l
	}
	return slices.Insert(l, i, p)
}

// place of a key in an ordered list: where it is or, if it is not found, where it belongs.
func place(l []api.Pair, key string) (int, bool) {
	i := sort.Search(len(l), func(i int) bool { return l[i].Key >= key })
	return i, i < len(l) && l[i].Key == key
}

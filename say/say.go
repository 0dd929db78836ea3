// Package say: statements and answers as texts, and as messages.
package say

import (
	"strings"

	"tillerman/api"
)

// words of the statements, by Kind. There is no Kind 0, so its word is never looked up.
var words = [api.Prep + 1]string{
	api.Begin:    "begin",
	api.Commit:   "commit",
	api.Rollback: "rollback",
	api.Reset:    "reset",
	api.Fail:     "fail",
	api.Get:      "get",
	api.Read:     "read",
	api.Exec:     "exec",
	api.Set:      "set",
	api.Put:      "put",
	api.Prep:     "prep",
}

// leads of the answers, by Kind: what stands before the Text. There is no Kind 0.
var leads = [api.Error + 1]string{
	api.Done:  "ok",
	api.Value: "=",
	api.None:  "none",
	api.Error: "!",
}

// marks of the states of a session, one byte each, by State.
const marks = "ITF"

// Name: may it be one?
func Name(s string) bool { return bounded('a', 'z', api.MaxName)(s) }

// isValue: may it be the value of a setting or a row?
func isValue(s string) bool { return bounded(33, 126, api.MaxValue)(s) }

// bounded returns a check for strings of 1 to limit bytes, each from low to high.
func bounded(low, high byte, limit int) func(string) bool {
	return func(s string) bool {
		if len(s) == 0 || len(s) > limit {
			return false
		}
		for i := range len(s) {
			if s[i] < low || s[i] > high {
				return false
			}
		}
		return true
	}
}

// Check a statement.
func Check(s api.Stmt) api.Errno {
	if s.Kind < api.Begin || s.Kind > api.Prep {
		return api.ErrKind
	}
	if !keyFits(s) || !valueFits(s) {
		return api.ErrForm
	}
	return api.OK
}

// keyFits: has the statement, of a known Kind, the Key that it needs?
func keyFits(s api.Stmt) bool {
	switch s.Kind {
	case api.Get, api.Read, api.Exec, api.Set, api.Put, api.Prep:
		return Name(s.Key)
	}
	return s.Key == ""
}

// valueFits: has the statement, of a known Kind, the Value that it needs?
func valueFits(s api.Stmt) bool {
	if s.Kind == api.Prep {
		return preparable(s.Value)
	}
	return plainValueFits(s)
}

// plainValueFits is valueFits for all Kinds but Prep. It stands alone so that
// preparable can use it: no prepared statement prepares another one.
func plainValueFits(s api.Stmt) bool {
	switch s.Kind {
	case api.Set, api.Put:
		return isValue(s.Value)
	}
	return s.Value == ""
}

// preparable: is it the text of a statement that can be prepared?
func preparable(t string) bool {
	s, e := split(t)
	if e != api.OK {
		return false
	}
	switch s.Kind {
	case api.Get, api.Read, api.Put:
		return Name(s.Key) && plainValueFits(s)
	}
	return false
}

// Show a statement.
func Show(s api.Stmt) (string, api.Errno) {
	if e := Check(s); e != api.OK {
		return "", e
	}
	t := words[s.Kind]
	if s.Key != "" {
		t += " " + s.Key
	}
	if s.Value != "" {
		t += " " + s.Value
	}
	return t, api.OK
}

// Read a text as a statement.
func Read(t string) (api.Stmt, api.Errno) {
	if len(t) > api.MaxText {
		return api.Stmt{}, api.ErrSize
	}
	s, e := split(t)
	if e == api.OK {
		e = Check(s)
	}
	if e != api.OK {
		return api.Stmt{}, e
	}
	// Parts of t would share its memory, and a result shares none with an argument.
	return api.Stmt{Kind: s.Kind, Key: strings.Clone(s.Key), Value: strings.Clone(s.Value)}, api.OK
}

// split a text into the parts of a statement, which may still not fit together.
func split(t string) (api.Stmt, api.Errno) {
	word, rest, hasKey := strings.Cut(t, " ")
	kind := kindOf(word)
	if kind == 0 {
		return api.Stmt{}, api.ErrKind
	}
	key, value, hasValue := strings.Cut(rest, " ")
	if hasKey && key == "" || hasValue && value == "" {
		return api.Stmt{}, api.ErrForm
	}
	return api.Stmt{Kind: kind, Key: key, Value: value}, api.OK
}

// kindOf a statement with this word; 0: there is none.
func kindOf(word string) int {
	for kind := api.Begin; kind <= api.Prep; kind++ {
		if words[kind] == word {
			return kind
		}
	}
	return 0
}

// Pack a text as a message: its kind, how many bytes it has, and these.
func Pack(kind byte, s string) (string, api.Errno) {
	if len(s) > 2*api.MaxText {
		return "", api.ErrSize
	}
	return string([]byte{kind, byte(len(s))}) + s, api.OK
}

// Unpack the first message of bytes: its kind, its text, and how many bytes it has; 0: it is not whole yet.
// A length that Pack would refuse is taken too: else such a message would block all that follow it.
func Unpack(s string) (byte, string, int) {
	if len(s) < 2 {
		return 0, "", 0
	}
	end := 2 + int(s[1])
	if len(s) < end {
		return 0, "", 0
	}
	return s[0], strings.Clone(s[2:end]), end
}

// Tell an answer, as the text of a message.
func Tell(a api.Answer) (string, api.Errno) {
	if a.Kind < api.Done || a.Kind > api.Error || a.State < api.Idle || a.State > api.Failed {
		return "", api.ErrKind
	}
	needsText := a.Kind == api.Value || a.Kind == api.Error
	if needsText != (a.Text != "") || len(a.Text) > api.MaxText {
		return "", api.ErrForm
	}
	return marks[a.State:a.State+1] + leads[a.Kind] + a.Text, api.OK
}

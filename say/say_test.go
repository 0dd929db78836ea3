package say

import (
	"math"
	"strings"
	"testing"

	"tillerman/api"
)

// statements that are valid, with their texts: each Kind, and the limits of Key and Value.
var valid = []struct {
	stmt api.Stmt
	text string
}{
	{api.Stmt{Kind: api.Begin}, "begin"},
	{api.Stmt{Kind: api.Commit}, "commit"},
	{api.Stmt{Kind: api.Rollback}, "rollback"},
	{api.Stmt{Kind: api.Reset}, "reset"},
	{api.Stmt{Kind: api.Fail}, "fail"},
	{api.Stmt{Kind: api.Get, Key: "a"}, "get a"},
	{api.Stmt{Kind: api.Read, Key: "row"}, "read row"},
	{api.Stmt{Kind: api.Exec, Key: "abcdefgh"}, "exec abcdefgh"},
	{api.Stmt{Kind: api.Set, Key: "a", Value: "x"}, "set a x"},
	{api.Stmt{Kind: api.Set, Key: "z", Value: "!~"}, "set z !~"},
	{api.Stmt{Kind: api.Put, Key: "row", Value: "12345678901234567890"}, "put row 12345678901234567890"},
	{api.Stmt{Kind: api.Get, Key: "get"}, "get get"},
	{api.Stmt{Kind: api.Set, Key: "set", Value: "set"}, "set set set"},
	{api.Stmt{Kind: api.Prep, Key: "p", Value: "get a"}, "prep p get a"},
	{api.Stmt{Kind: api.Prep, Key: "p", Value: "read a"}, "prep p read a"},
	{api.Stmt{Kind: api.Prep, Key: "p", Value: "put a x"}, "prep p put a x"},
	{
		api.Stmt{Kind: api.Prep, Key: "abcdefgh", Value: "put abcdefgh 12345678901234567890"},
		"prep abcdefgh put abcdefgh 12345678901234567890",
	},
}

// texts that cannot be prepared.
var notPreparable = []string{
	"", " ", "a", "x y", "get", "get ", "get  a", " get a", "get a ", "get a b", "get A", "get abcdefghi",
	"read", "read a b", "put", "put a", "put a ", "put a  x", "put a x ", "put a x y", "put a 123456789012345678901",
	"GET a", "begin", "commit", "rollback", "reset", "fail", "exec a", "set a x", "prep q get a",
	"put a " + strings.Repeat("x", 100), strings.Repeat("prep p ", 1000) + "get a",
}

func TestName(t *testing.T) {
	for _, s := range []string{"a", "z", "az", "row", "abcdefgh", "zzzzzzzz"} {
		if !Name(s) {
			t.Errorf("Name(%q) is false", s)
		}
	}
	for _, s := range []string{"", "abcdefghi", "A", "Z", "aB", "a1", "1a", "a b", " a", "a ", "a_", "a\x00", "é", "aé", strings.Repeat("a", 1000)} {
		if Name(s) {
			t.Errorf("Name(%q) is true", s)
		}
	}
}

func TestNameOfEachByte(t *testing.T) {
	for b := range 256 {
		want := b >= 'a' && b <= 'z'
		for _, s := range []string{string([]byte{byte(b)}), string([]byte{'a', byte(b)}), string([]byte{byte(b), 'a'})} {
			if Name(s) != want {
				t.Errorf("Name(%q) is %v", s, !want)
			}
		}
	}
}

func TestValueOfEachByte(t *testing.T) {
	for b := range 256 {
		want := api.ErrForm
		if b >= 33 && b <= 126 {
			want = api.OK
		}
		for _, v := range []string{string([]byte{byte(b)}), string([]byte{'x', byte(b)}), string([]byte{byte(b), 'x'})} {
			for _, kind := range []int{api.Set, api.Put} {
				checkCheck(t, api.Stmt{Kind: kind, Key: "a", Value: v}, want)
			}
			checkCheck(t, api.Stmt{Kind: api.Prep, Key: "p", Value: "put a " + v}, want)
		}
	}
}

func TestLengthOfValue(t *testing.T) {
	for n := range 300 {
		want := api.ErrForm
		if n >= 1 && n <= api.MaxValue {
			want = api.OK
		}
		for _, kind := range []int{api.Set, api.Put} {
			checkCheck(t, api.Stmt{Kind: kind, Key: "a", Value: strings.Repeat("x", n)}, want)
		}
	}
}

func TestCheckValid(t *testing.T) {
	for _, c := range valid {
		checkCheck(t, c.stmt, api.OK)
	}
}

func TestCheckKind(t *testing.T) {
	for _, kind := range []int{0, -1, 12, 13, 256 + api.Get, math.MinInt, math.MaxInt} {
		checkCheck(t, api.Stmt{Kind: kind}, api.ErrKind)
		checkCheck(t, api.Stmt{Kind: kind, Key: "A", Value: " "}, api.ErrKind)
	}
}

// TestCheckParts: of each Kind, which parts it has, with a Key and a Value that fit and with those that do not.
func TestCheckParts(t *testing.T) {
	for kind := api.Begin; kind <= api.Prep; kind++ {
		for _, key := range []string{"", "a", "abcdefgh", "abcdefghi", "A", "a b"} {
			for _, value := range []string{"", "x", "12345678901234567890", "123456789012345678901", "x y", "get a", "put a x", "begin"} {
				want := api.ErrForm
				if wantKey(kind, key) && wantValue(kind, value) {
					want = api.OK
				}
				checkCheck(t, api.Stmt{Kind: kind, Key: key, Value: value}, want)
			}
		}
	}
}

func wantKey(kind int, key string) bool {
	if kind <= api.Fail {
		return key == ""
	}
	return key == "a" || key == "abcdefgh"
}

func wantValue(kind int, value string) bool {
	switch value {
	case "":
		return kind <= api.Exec
	case "x", "12345678901234567890", "begin":
		return kind == api.Set || kind == api.Put
	case "get a", "put a x":
		return kind == api.Prep
	}
	return false
}

func TestCheckPrep(t *testing.T) {
	for _, v := range notPreparable {
		checkCheck(t, api.Stmt{Kind: api.Prep, Key: "p", Value: v}, api.ErrForm)
	}
}

func checkCheck(t *testing.T, s api.Stmt, want api.Errno) {
	t.Helper()
	if e := Check(s); e != want {
		t.Errorf("Check(%+v) is %d, want %d", s, e, want)
	}
}

func TestShow(t *testing.T) {
	for _, c := range valid {
		if text, e := Show(c.stmt); text != c.text || e != api.OK {
			t.Errorf("Show(%+v) is %q, %d, want %q", c.stmt, text, e, c.text)
		}
	}
}

func TestShowErrors(t *testing.T) {
	for _, c := range []struct {
		stmt api.Stmt
		want api.Errno
	}{
		{api.Stmt{}, api.ErrKind},
		{api.Stmt{Kind: -1, Key: "a"}, api.ErrKind},
		{api.Stmt{Kind: 12, Key: "A", Value: "x"}, api.ErrKind},
		{api.Stmt{Kind: api.Begin, Key: "a"}, api.ErrForm},
		{api.Stmt{Kind: api.Fail, Value: "x"}, api.ErrForm},
		{api.Stmt{Kind: api.Get}, api.ErrForm},
		{api.Stmt{Kind: api.Get, Key: "a", Value: "x"}, api.ErrForm},
		{api.Stmt{Kind: api.Set, Key: "a"}, api.ErrForm},
		{api.Stmt{Kind: api.Set, Value: "x"}, api.ErrForm},
		{api.Stmt{Kind: api.Prep, Key: "p", Value: "exec a"}, api.ErrForm},
	} {
		if text, e := Show(c.stmt); text != "" || e != c.want {
			t.Errorf("Show(%+v) is %q, %d, want %d", c.stmt, text, e, c.want)
		}
	}
}

func TestRead(t *testing.T) {
	for _, c := range valid {
		if s, e := Read(c.text); s != c.stmt || e != api.OK {
			t.Errorf("Read(%q) is %+v, %d, want %+v", c.text, s, e, c.stmt)
		}
	}
}

func TestReadErrors(t *testing.T) {
	for _, c := range []struct {
		text string
		want api.Errno
	}{
		{strings.Repeat("x", 61), api.ErrSize},
		{"begin" + strings.Repeat(" ", 56), api.ErrSize},
		{"set a " + strings.Repeat("x", 55), api.ErrSize},
		{strings.Repeat("prep p ", 1000), api.ErrSize},
		{strings.Repeat("x", 60), api.ErrKind},
		{"", api.ErrKind},
		{" ", api.ErrKind},
		{" begin", api.ErrKind},
		{"what", api.ErrKind},
		{"what ", api.ErrKind},
		{"what  x", api.ErrKind},
		{"Begin", api.ErrKind},
		{"beginx", api.ErrKind},
		{"begi", api.ErrKind},
		{"get\ta", api.ErrKind},
		{"begin\n", api.ErrKind},
		{"begin ", api.ErrForm},
		{"begin  ", api.ErrForm},
		{"begin a", api.ErrForm},
		{"begin a x", api.ErrForm},
		{"commit  x", api.ErrForm},
		{"get", api.ErrForm},
		{"get ", api.ErrForm},
		{"get  ", api.ErrForm},
		{"get  a", api.ErrForm},
		{"get a ", api.ErrForm},
		{"get a b", api.ErrForm},
		{"get A", api.ErrForm},
		{"get abcdefghi", api.ErrForm},
		{"read a ", api.ErrForm},
		{"exec a x", api.ErrForm},
		{"set a", api.ErrForm},
		{"set a ", api.ErrForm},
		{"set  x", api.ErrForm},
		{"set a  x", api.ErrForm},
		{"set a x ", api.ErrForm},
		{"put a x y", api.ErrForm},
		{"put a \x7f", api.ErrForm},
		{"set a " + strings.Repeat("x", 21), api.ErrForm},
		{"set a " + strings.Repeat("x", 54), api.ErrForm},
		{"prep p", api.ErrForm},
		{"prep p ", api.ErrForm},
	} {
		checkReadError(t, c.text, c.want)
	}
	for _, v := range notPreparable {
		if text := "prep p " + v; len(text) <= api.MaxText {
			checkReadError(t, text, api.ErrForm)
		}
	}
}

func checkReadError(t *testing.T, text string, want api.Errno) {
	t.Helper()
	if s, e := Read(text); s != (api.Stmt{}) || e != want {
		t.Errorf("Read(%q) is %+v, %d, want %d", text, s, e, want)
	}
}

// TestReadIsInverse: of all texts of a few parts, Read takes just those that Show returns.
func TestReadIsInverse(t *testing.T) {
	parts := []string{"", " ", "  ", "a", "p", "A", "begin", "get", "set", "put", "prep", "exec"}
	texts := []string{""}
	for range 4 {
		var longer []string
		for _, text := range texts {
			for _, p := range parts {
				longer = append(longer, text+p, text+" "+p)
			}
		}
		texts = longer
	}
	taken := 0
	for _, text := range texts {
		s, e := Read(text)
		if e != api.OK {
			continue
		}
		taken++
		if again, e := Show(s); again != text || e != api.OK {
			t.Fatalf("Show(Read(%q)) is %q, %d", text, again, e)
		}
	}
	if taken == 0 {
		t.Error("no text was taken")
	}
}

func TestPack(t *testing.T) {
	for _, c := range []struct {
		kind byte
		text string
		want string
	}{
		{'R', "Iok", "R\x03Iok"},
		{'Q', "begin", "Q\x05begin"},
		{'X', "", "X\x00"},
		{0, "", "\x00\x00"},
		{255, "\x00\xff", "\xff\x02\x00\xff"},
		{'é', "é", "\xe9\x02é"},
		{'Q', strings.Repeat("x", 120), "Q\x78" + strings.Repeat("x", 120)},
	} {
		if m, e := Pack(c.kind, c.text); m != c.want || e != api.OK {
			t.Errorf("Pack(%d, %q) is %q, %d, want %q", c.kind, c.text, m, e, c.want)
		}
	}
}

func TestPackErrors(t *testing.T) {
	for _, n := range []int{121, 122, 255, 256, 257, 300, 65536} {
		if m, e := Pack('Q', strings.Repeat("x", n)); m != "" || e != api.ErrSize {
			t.Errorf("Pack of %d bytes is %q, %d", n, m, e)
		}
	}
}

func TestUnpack(t *testing.T) {
	long := strings.Repeat("x", 120)
	longest := strings.Repeat("\xff", 255)
	for _, c := range []struct {
		bytes string
		kind  byte
		text  string
		size  int
	}{
		{"Q\x05begin", 'Q', "begin", 7},
		{"Q\x05begin...", 'Q', "begin", 7},
		{"Q\x05beginQ\x06commit", 'Q', "begin", 7},
		{"X\x00", 'X', "", 2},
		{"X\x00Q\x05begin", 'X', "", 2},
		{"\x00\x00", 0, "", 2},
		{"\xff\x01\x00", 255, "\x00", 3},
		{"Q\x78" + long, 'Q', long, 122},
		{"Q\x79" + long + "yz", 'Q', long + "y", 123},
		{"Q\xff" + longest + "a", 'Q', longest, 257},
		{"", 0, "", 0},
		{"Q", 0, "", 0},
		{"\x00", 0, "", 0},
		{"Q\x05", 0, "", 0},
		{"Q\x05begi", 0, "", 0},
		{"Q\x01", 0, "", 0},
		{"Q\xff" + longest[1:], 0, "", 0},
	} {
		if kind, text, size := Unpack(c.bytes); kind != c.kind || text != c.text || size != c.size {
			t.Errorf("Unpack(%q) is %d, %q, %d, want %d, %q, %d", c.bytes, kind, text, size, c.kind, c.text, c.size)
		}
	}
}

// TestUnpackIsInverse: each message is found before other bytes, and no beginning of it is taken for a message.
func TestUnpackIsInverse(t *testing.T) {
	for n := range 2*api.MaxText + 1 {
		kind, text := byte(2*n), strings.Repeat("\x01", n)
		m, _ := Pack(kind, text)
		if k, s, size := Unpack(m + "\x00Q"); k != kind || s != text || size != len(m) {
			t.Errorf("Unpack of Pack of %d bytes is %d, %q, %d", n, k, s, size)
		}
		for end := range len(m) {
			if k, s, size := Unpack(m[:end]); k != 0 || s != "" || size != 0 {
				t.Errorf("Unpack of %d of %d bytes is %d, %q, %d", end, len(m), k, s, size)
			}
		}
	}
}

func TestTell(t *testing.T) {
	long := strings.Repeat("x", 60)
	for state, mark := range []string{api.Idle: "I", api.InTx: "T", api.Failed: "F"} {
		for _, c := range []struct {
			kind int
			text string
			want string
		}{
			{api.Done, "", "ok"},
			{api.Value, "x", "=x"},
			{api.Value, "=", "=="},
			{api.Value, " \x00\xff", "= \x00\xff"},
			{api.Value, long, "=" + long},
			{api.None, "", "none"},
			{api.Error, "not prepared", "!not prepared"},
			{api.Error, long, "!" + long},
		} {
			a := api.Answer{Kind: c.kind, Text: c.text, State: state}
			if s, e := Tell(a); s != mark+c.want || e != api.OK {
				t.Errorf("Tell(%+v) is %q, %d, want %q", a, s, e, mark+c.want)
			}
		}
	}
}

func TestTellErrors(t *testing.T) {
	long := strings.Repeat("x", 61)
	for _, c := range []struct {
		answer api.Answer
		want   api.Errno
	}{
		{api.Answer{}, api.ErrKind},
		{api.Answer{Kind: -1}, api.ErrKind},
		{api.Answer{Kind: 5}, api.ErrKind},
		{api.Answer{Kind: 5, Text: long}, api.ErrKind},
		{api.Answer{Kind: math.MaxInt}, api.ErrKind},
		{api.Answer{Kind: math.MinInt}, api.ErrKind},
		{api.Answer{Kind: api.Done, State: -1}, api.ErrKind},
		{api.Answer{Kind: api.Done, State: 3}, api.ErrKind},
		{api.Answer{Kind: api.Value, State: 3}, api.ErrKind},
		{api.Answer{Kind: api.Done, Text: "x", State: -1}, api.ErrKind},
		{api.Answer{Kind: api.Error, Text: long, State: math.MaxInt}, api.ErrKind},
		{api.Answer{Kind: api.Error, Text: "x", State: math.MinInt}, api.ErrKind},
		{api.Answer{Kind: api.Value}, api.ErrForm},
		{api.Answer{Kind: api.Value, State: api.InTx}, api.ErrForm},
		{api.Answer{Kind: api.Error}, api.ErrForm},
		{api.Answer{Kind: api.Error, State: api.Failed}, api.ErrForm},
		{api.Answer{Kind: api.Done, Text: "x"}, api.ErrForm},
		{api.Answer{Kind: api.None, Text: "x"}, api.ErrForm},
		{api.Answer{Kind: api.Done, Text: long}, api.ErrForm},
		{api.Answer{Kind: api.Value, Text: long}, api.ErrForm},
		{api.Answer{Kind: api.Error, Text: long}, api.ErrForm},
	} {
		if s, e := Tell(c.answer); s != "" || e != c.want {
			t.Errorf("Tell(%+v) is %q, %d, want %d", c.answer, s, e, c.want)
		}
	}
}

package path_test

import (
	"slices"
	"strings"
	"testing"

	"kaudit/path"
)

// everyText returns all texts of these bytes with at most this length.
func everyText(letters string, length int) []string {
	texts := []string{""}
	for begin := 0; length > 0; length-- {
		end := len(texts)
		for _, s := range texts[begin:end] {
			for i := range len(letters) {
				texts = append(texts, s+letters[i:i+1])
			}
		}
		begin = end
	}
	return texts
}

// sampleTexts returns short texts of the bytes that matter, and some others.
func sampleTexts() []string {
	return append(everyText("/.a\x00", 7),
		"/abcdefghijkl", "/abcdefghijklm", "/a/abcdefghijkl", "/a/abcdefghijklm", "/abcdefghijkl/a", "/abcdefghijklm/a", "abcdefghijkl", "abcdefghijklm",
		"/a b", "/ ", "/\n", "/\xff", "/\xff\xfe/\xc3", "/é/日本", "/\\", "\\", "\\a\\b", "/a\\", "/a\n", "/a\x00b", "/...", "/..a/.b/c./d..", "/ /..", "/a/. ",
		strings.Repeat("/", 1000), strings.Repeat("/abc", 1000), strings.Repeat("/abc", 1000)+"/", strings.Repeat("/abc", 1000)+"/..", strings.Repeat("a", 1000), strings.Repeat("../", 1000),
	)
}

// modelName reads a name byte by byte.
func modelName(s string) bool {
	for i := range len(s) {
		if s[i] == 0 || s[i] == '/' {
			return false
		}
	}
	return s != "." && s != ".." && 1 <= len(s) && len(s) <= 12
}

// modelNames returns the names of a clean path: the names that make it up, each after a slash.
func modelNames(s string) (names []string, clean bool) {
	if s == "/" {
		return nil, true
	}
	for _, part := range strings.Split(s, "/") {
		if modelName(part) {
			names = append(names, part)
		}
	}
	return names, len(names) > 0 && "/"+strings.Join(names, "/") == s
}

// modelPieces returns the pieces of a text, which it reads byte by byte.
func modelPieces(s string) []string {
	var pieces []string
	begin := 0
	for i := range len(s) + 1 {
		if i < len(s) && s[i] != '/' {
			continue
		}
		if i > begin {
			pieces = append(pieces, s[begin:i])
		}
		begin = i + 1
	}
	return pieces
}

// P4.1

func TestNames(t *testing.T) {
	for _, s := range []string{"a", "ab", "...", "....", ".a", "a.", "..a", "a..", ". ", " ", "\n", "\\", "\x01", "\x7f", "\xff", "é", "日本", "init", "A", "-", "*", "~", "abcdefghijkl", "............", strings.Repeat("\xff", 12)} {
		if !path.Name(s) {
			t.Errorf("Name(%q) is false", s)
		}
	}
	for _, s := range []string{"", ".", "..", "/", "//", "/a", "a/", "a/b", "./", "../", "\x00", "a\x00", "\x00a", "a\x00b", "abcdefghijk/", "/abcdefghijk", "abcdefghijk\x00", "abcdefghijklm", ".............", "日本日本日", strings.Repeat("a", 128), strings.Repeat("a", 1<<20)} {
		if path.Name(s) {
			t.Errorf("Name(%q) is true", s)
		}
	}
}

func TestNamesOfAllBytes(t *testing.T) {
	for c := range 256 {
		b := string([]byte{byte(c)})
		for _, s := range []string{b, b + b, b + "a", "a" + b, "a" + b + "a", "." + b, b + ".", "abcdefghijk" + b, b + "abcdefghijk", "abcdef" + b + "ghijk", "abcdefghijkl" + b} {
			if path.Name(s) != modelName(s) {
				t.Errorf("Name(%q) is %v", s, !modelName(s))
			}
			if path.Clean("/a/"+s) != modelName(s) && !strings.Contains(s, "/") {
				t.Errorf("Clean(%q) is %v", "/a/"+s, !modelName(s))
			}
		}
	}
}

func TestNamesOfAllLengths(t *testing.T) {
	for n := range 40 {
		for _, c := range []string{"a", ".", "\xff", " "} {
			s := strings.Repeat(c, n)
			if path.Name(s) != modelName(s) {
				t.Errorf("Name(%q) is %v", s, !modelName(s))
			}
		}
	}
}

func TestCleanPaths(t *testing.T) {
	for _, s := range []string{"/", "/a", "/a/b", "/a/a/a", "/...", "/.a", "/a.", "/..a/b..", "/ ", "/\n", "/\xff/\\", "/abcdefghijkl", "/abcdefghijkl/abcdefghijkl", strings.Repeat("/a", 64), strings.Repeat("/a", 65), strings.Repeat("/abcdefghijkl", 10000)} {
		if !path.Clean(s) {
			t.Errorf("Clean(%q) is false", s)
		}
	}
	for _, s := range []string{
		"", "a", "a/b", "//", "///", "/a/", "/a//", "//a", "/a//b", "/a/b/", " /a", "\\a", "./a", "../a", "a/",
		"/.", "/..", "/./a", "/../a", "/a/.", "/a/..", "/a/./b", "/a/../b", "/./", "/../",
		"/\x00", "/a\x00", "/a/\x00/b", "/a\x00/b", "\x00", "\x00/a", "/abcdefghijklm", "/a/abcdefghijklm/b", "/abcdefghijklm/a",
		strings.Repeat("/a", 10000) + "/", strings.Repeat("/a", 10000) + "/..", "a" + strings.Repeat("/a", 10000), "/" + strings.Repeat("a", 1<<20), strings.Repeat("/", 1<<20),
	} {
		if path.Clean(s) {
			t.Errorf("Clean(%q) is true", s)
		}
	}
}

func TestCleanOfAllSamples(t *testing.T) {
	for _, s := range sampleTexts() {
		if _, clean := modelNames(s); path.Clean(s) != clean {
			t.Fatalf("Clean(%q) is %v", s, !clean)
		}
	}
}

// P4.2

func TestPieces(t *testing.T) {
	for _, x := range []struct {
		s               string
		pieces          []string
		absolute, slash bool
	}{
		{"", nil, false, false},
		{"/", nil, true, true},
		{"//", nil, true, true},
		{"a", []string{"a"}, false, false},
		{"/a", []string{"a"}, true, false},
		{"a/", []string{"a"}, false, true},
		{"/a/", []string{"a"}, true, true},
		{"//a/../b/", []string{"a", "..", "b"}, true, true},
		{".", []string{"."}, false, false},
		{"..", []string{".."}, false, false},
		{"./..//", []string{".", ".."}, false, true},
		{"b/a/b", []string{"b", "a", "b"}, false, false},
		{"a///b//c", []string{"a", "b", "c"}, false, false},
		{"/\x00/ /\xff", []string{"\x00", " ", "\xff"}, true, false},
		{"a\\b\nc", []string{"a\\b\nc"}, false, false},
		{"abcdefghijklmnop/a\x00b", []string{"abcdefghijklmnop", "a\x00b"}, false, false},
	} {
		if l, absolute, slash := path.Split(x.s); !slices.Equal(l, x.pieces) || absolute != x.absolute || slash != x.slash {
			t.Errorf("Split(%q) = %q, %v, %v", x.s, l, absolute, slash)
		}
	}
}

func TestPiecesOfAllSamples(t *testing.T) {
	for _, s := range sampleTexts() {
		first, last := s != "" && s[0] == '/', s != "" && s[len(s)-1] == '/'
		if l, absolute, slash := path.Split(s); !slices.Equal(l, modelPieces(s)) || absolute != first || slash != last {
			t.Fatalf("Split(%q) = %q, %v, %v", s, l, absolute, slash)
		}
	}
}

func TestPiecesOfLongTexts(t *testing.T) {
	for _, x := range []struct {
		s      string
		pieces int
	}{
		{strings.Repeat("/", 1<<20), 0},
		{strings.Repeat("a", 1<<20), 1},
		{strings.Repeat("a/", 1<<18), 1 << 18},
		{strings.Repeat("//..", 1<<18), 1 << 18},
	} {
		if l, _, _ := path.Split(x.s); len(l) != x.pieces {
			t.Errorf("Split of %d bytes: %d pieces, not %d", len(x.s), len(l), x.pieces)
		}
	}
}

func TestPiecesAreNewMemory(t *testing.T) {
	first, _, _ := path.Split("/a/b")
	first[0] = "changed"
	if second, _, _ := path.Split("/a/b"); !slices.Equal(second, []string{"a", "b"}) {
		t.Errorf("two lists share memory: %q", second)
	}
}

// P4.3

func TestJoin(t *testing.T) {
	for _, x := range []struct{ dir, name, want string }{
		{"/", "a", "/a"},
		{"/a", "b", "/a/b"},
		{"", "", "/"},
		{"", "a", "/a"},
		{"a", "", "a/"},
		{"a", "b", "a/b"},
		{"/", "", "/"},
		{"/", "/", "//"},
		{"//", "a", "//a"},
		{"/a/", "b", "/a/b"},
		{"a//", "", "a//"},
		{"/a/", "/b", "/a//b"},
		{"x", "/y", "x//y"},
		{"", "/", "//"},
		{"..", ".", "../."},
		{"/a", "b/c/", "/a/b/c/"},
		{"\x00", "\xff", "\x00/\xff"},
		{"a\\", "b", "a\\/b"},
		{strings.Repeat("/a", 1000), strings.Repeat("b", 1000), strings.Repeat("/a", 1000) + "/" + strings.Repeat("b", 1000)},
	} {
		if s := path.Join(x.dir, x.name); s != x.want {
			t.Errorf("Join(%q, %q) = %q", x.dir, x.name, s)
		}
	}
}

func TestJoinOfAllShortTexts(t *testing.T) {
	texts := everyText("/.a\x00", 4)
	for _, dir := range texts {
		for _, name := range texts {
			want := dir + "/" + name
			if dir != "" && dir[len(dir)-1] == '/' {
				want = dir + name
			}
			if s := path.Join(dir, name); s != want {
				t.Fatalf("Join(%q, %q) = %q", dir, name, s)
			}
		}
	}
}

func TestParent(t *testing.T) {
	for _, x := range []struct{ s, dir, name string }{
		{"/a", "/", "a"},
		{"/a/b", "/a", "b"},
		{"/a/b/c", "/a/b", "c"},
		{"/a/a", "/a", "a"},
		{"/...", "/", "..."},
		{"/a/.b", "/a", ".b"},
		{"/ /\xff", "/ ", "\xff"},
		{"/abcdefghijkl/b", "/abcdefghijkl", "b"},
		{"/b/abcdefghijkl", "/b", "abcdefghijkl"},
		{strings.Repeat("/abc", 1000), strings.Repeat("/abc", 999), "abc"},
	} {
		if dir, name, ok := path.Parent(x.s); dir != x.dir || name != x.name || !ok {
			t.Errorf("Parent(%q) = %q, %q, %v", x.s, dir, name, ok)
		}
	}
}

func TestParentRefusesOtherTexts(t *testing.T) {
	for _, s := range []string{"", "/", "a", "a/b", "//", "//a", "/a/", "/a//b", "/.", "/..", "/a/..", "/./a", "/a/../b", "/\x00", "/a\x00/b", "/abcdefghijklm", "/abcdefghijklm/a", "/a/abcdefghijklm", strings.Repeat("/", 1<<20)} {
		if dir, name, ok := path.Parent(s); dir != "" || name != "" || ok {
			t.Errorf("Parent(%.40q) = %q, %q, %v", s, dir, name, ok)
		}
	}
}

func TestParentOfAllSamples(t *testing.T) {
	for _, s := range sampleTexts() {
		var wantDir, wantName string
		names, clean := modelNames(s)
		want := clean && len(names) > 0
		if want {
			above := names[:len(names)-1]
			wantDir, wantName = "/"+strings.Join(above, "/"), names[len(above)]
		}
		if dir, name, ok := path.Parent(s); dir != wantDir || name != wantName || ok != want {
			t.Fatalf("Parent(%q) = %q, %q, %v", s, dir, name, ok)
		}
	}
}

func TestUnder(t *testing.T) {
	for _, x := range []struct {
		a, b string
		want bool
	}{
		{"/", "/", true},
		{"/", "/a", true},
		{"/", "/a/b/c", true},
		{"/a", "/a", true},
		{"/a", "/a/b", true},
		{"/a", "/a/a/a", true},
		{"/a/b", "/a/b/c", true},
		{"/...", "/.../a", true},
		{strings.Repeat("/abc", 1000), strings.Repeat("/abc", 1001), true},
		{"/a", "/", false},
		{"/a", "/ab", false},
		{"/ab", "/a", false},
		{"/a", "/ab/c", false},
		{"/a", "/b", false},
		{"/a", "/b/a", false},
		{"/a/b", "/a", false},
		{"/a/b", "/a/bc", false},
		{"/a/b", "/ab", false},
		{"/a", "/A", false},
		{strings.Repeat("/abc", 1001), strings.Repeat("/abc", 1000), false},
	} {
		if path.Under(x.a, x.b) != x.want {
			t.Errorf("Under(%q, %q) is %v", x.a, x.b, !x.want)
		}
	}
}

func TestUnderRefusesPathsThatAreNotClean(t *testing.T) {
	for _, s := range []string{"", "a", "//", "/a/", "//a", "/a//b", "/.", "/..", "/a/..", "/a/.", "/a\x00", "/abcdefghijklm", "/a/abcdefghijklm"} {
		for _, x := range [][2]string{{"/", s}, {s, "/"}, {"/a", s}, {s, "/a"}, {s, "/a/b"}, {s, s}, {s, s + "/b"}, {s, s + "b"}} {
			if path.Under(x[0], x[1]) {
				t.Errorf("Under(%q, %q) is true", x[0], x[1])
			}
		}
	}
}

func TestUnderOfAllShortTexts(t *testing.T) {
	texts := append(everyText("/.a", 4), "/a/a/a", "/a/a/aa", "/aa/a/a", "/a/a/", "/.../a", "/a/...", "/abcdefghijkl", "/abcdefghijklm")
	for _, a := range texts {
		namesOfA, cleanA := modelNames(a)
		for _, b := range texts {
			namesOfB, cleanB := modelNames(b)
			want := cleanA && cleanB && len(namesOfA) <= len(namesOfB) && slices.Equal(namesOfA, namesOfB[:len(namesOfA)])
			if path.Under(a, b) != want {
				t.Fatalf("Under(%q, %q) is %v", a, b, !want)
			}
		}
	}
}

// P4.4

// cleanPaths returns the root and all paths of at most three of these names.
func cleanPaths() []string {
	paths := []string{"/"}
	begin := 0
	for range 3 {
		end := len(paths)
		for _, dir := range paths[begin:end] {
			for _, name := range []string{"a", "ab", "b", "...", ".a", " ", "\xff", "abcdefghijkl"} {
				paths = append(paths, strings.TrimSuffix(dir, "/")+"/"+name)
			}
		}
		begin = end
	}
	return paths
}

func TestJoinOfWhatParentReturns(t *testing.T) {
	paths := cleanPaths()
	if len(paths) != 1+8+64+512 {
		t.Fatal(len(paths), "clean paths")
	}
	for _, s := range append(paths[1:], strings.Repeat("/abcdefghijkl", 1000)) {
		dir, name, ok := path.Parent(s)
		if !ok || path.Join(dir, name) != s || !path.Clean(dir) || !path.Name(name) {
			t.Errorf("Parent(%q) = %q, %q, %v", s, dir, name, ok)
		}
		if !path.Under(dir, s) || path.Under(s, dir) {
			t.Errorf("%q is not above %q", dir, s)
		}
	}
}

func TestUnderIsAPartialOrder(t *testing.T) {
	paths := cleanPaths()
	below := map[string][]string{}
	for _, a := range paths {
		for _, b := range paths {
			if path.Under(a, b) {
				below[a] = append(below[a], b)
			}
		}
	}
	if !slices.Equal(below["/"], paths) {
		t.Error("the root is not above all clean paths")
	}
	for _, a := range paths {
		if !slices.Contains(below[a], a) {
			t.Errorf("%q is not under itself", a)
		}
		for _, b := range below[a] {
			if a != b && path.Under(b, a) {
				t.Errorf("%q and %q are under each other", a, b)
			}
			for _, c := range below[b] {
				if !path.Under(a, c) {
					t.Errorf("%q is above %q, and %q above %q, but not %q above %q", a, b, b, c, a, c)
				}
			}
		}
	}
}

package access_test

import (
	"math"
	"slices"
	"strconv"
	"strings"
	"testing"

	"kaudit/access"
	"kaudit/api"
)

const maxMode = 511

// The identities of the nodes of the tests, and of a process in no class of them but the others.
const (
	uid, gid   = 5, 7
	otherwise  = 9
	file, dir  = api.NodeFile, api.NodeDir
	link, none = api.NodeLink, 0
)

func node(kind, mode int) api.Node {
	return api.Node{Ino: 2, Kind: kind, Mode: mode, UID: uid, GID: gid}
}

// binary returns the nine bits of a mode as digits, the highest first.
func binary(mode int) string {
	s := strconv.FormatInt(int64(mode), 2)
	return strings.Repeat("0", 9-len(s)) + s
}

// allowed returns the permissions that the model gives a process, by the digits of the mode.
func allowed(n api.Node, euid, egid int) []bool {
	digits := binary(n.Mode)
	if euid == 0 {
		return []bool{true, true, n.Kind == dir || strings.Contains(digits[2:3]+digits[5:6]+digits[8:], "1")}
	}
	from := 6
	if egid == n.GID {
		from = 3
	}
	if euid == n.UID {
		from = 0
	}
	var list []bool
	for _, digit := range digits[from : from+3] {
		list = append(list, digit == '1')
	}
	return list
}

// modelMay asks the model for each permission of want.
func modelMay(n api.Node, euid, egid, want int) bool {
	if want < 0 || want > 7 {
		return false
	}
	for i, has := range allowed(n, euid, egid) {
		if want/[]int{4, 2, 1}[i]%2 == 1 && !has {
			return false
		}
	}
	return true
}

// letters returns the text of a mode, by its digits.
func letters(mode int) string {
	text := []byte("rwxrwxrwx")
	for i, digit := range binary(mode) {
		if digit == '0' {
			text[i] = '-'
		}
	}
	return string(text)
}

// question is what May is asked, and what it shall answer.
type question struct {
	n                api.Node
	euid, egid, want int
	may              bool
}

func check(t *testing.T, list []question) {
	t.Helper()
	for _, x := range list {
		if got := access.May(x.n, x.euid, x.egid, x.want); got != x.may {
			t.Errorf("May of %d for the identities %d and %d and %+v is %v", x.want, x.euid, x.egid, x.n, got)
		}
	}
}

// P8.1

func TestClasses(t *testing.T) {
	n := node(file, 0o421)
	check(t, []question{
		{n, uid, otherwise, 4, true}, {n, uid, otherwise, 2, false}, {n, uid, otherwise, 1, false},
		{n, otherwise, gid, 4, false}, {n, otherwise, gid, 2, true}, {n, otherwise, gid, 1, false},
		{n, otherwise, otherwise, 4, false}, {n, otherwise, otherwise, 2, false}, {n, otherwise, otherwise, 1, true},
		// An identity counts only where it stands: the user as an owner, the group as a group.
		{n, gid, uid, 1, true}, {n, gid, uid, 4, false}, {n, gid, uid, 2, false},
		{n, gid, gid, 2, true}, {n, uid, uid, 4, true},
		// All bits of want, and not one of them.
		{n, uid, gid, 6, false}, {n, uid, gid, 7, false}, {n, uid, gid, 5, false},
		{node(file, 0o600), uid, gid, 6, true}, {node(file, 0o600), uid, gid, 7, false}, {node(dir, 0o500), uid, gid, 5, true}, {node(link, 0o007), otherwise, otherwise, 7, true},
		// Without a permission in it, want is had always.
		{node(file, 0), uid, gid, 0, true}, {node(file, 0), otherwise, otherwise, 0, true}, {node(none, 0), 0, 0, 0, true},
	})
}

func TestUserZero(t *testing.T) {
	check(t, []question{
		{node(file, 0), 0, otherwise, 4, true}, {node(file, 0), 0, otherwise, 2, true}, {node(file, 0), 0, otherwise, 6, true},
		{node(file, 0), 0, otherwise, 1, false}, {node(file, 0), 0, otherwise, 5, false}, {node(file, 0), 0, otherwise, 7, false},
		// Any of the three bits, whatever the class.
		{node(file, 0o100), 0, otherwise, 1, true}, {node(file, 0o010), 0, otherwise, 1, true}, {node(file, 0o001), 0, otherwise, 7, true}, {node(link, 0o001), 0, gid, 7, true},
		{node(file, 0o666), 0, otherwise, 1, false}, {node(file, 0o666), 0, gid, 1, false}, {node(link, 0o666), 0, otherwise, 1, false}, {node(none, 0o666), 0, otherwise, 1, false},
		// A directory needs none of them.
		{node(dir, 0), 0, otherwise, 1, true}, {node(dir, 0), 0, otherwise, 7, true}, {node(dir, 0o666), 0, gid, 3, true},
		// As an owner or in the group of the node, too.
		{api.Node{Kind: file, Mode: 0o077}, 0, 0, 7, true}, {api.Node{Kind: file, Mode: 0o177}, 0, 0, 6, true}, {api.Node{Kind: file, Mode: 0o700, GID: gid}, 0, gid, 7, true},
		{api.Node{Kind: file}, 0, 0, 6, true}, {api.Node{Kind: file}, 0, 0, 1, false}, {api.Node{Kind: dir}, 0, 0, 7, true},
		// The group 0 is as any other.
		{node(dir, 0), uid, 0, 1, false}, {node(file, 0o770), otherwise, 0, 4, false}, {api.Node{Kind: file, Mode: 0o040, UID: uid}, otherwise, 0, 4, true}, {api.Node{Kind: file, Mode: 0o040, UID: uid}, otherwise, 0, 2, false},
	})
}

func TestWantOutOfRange(t *testing.T) {
	for _, want := range []int{-1, -2, -7, -8, 8, 9, 15, 16, 64, 256, 511, 512, 1 << 32, math.MaxInt, math.MinInt, math.MinInt + 7} {
		for _, kind := range []int{file, dir, link} {
			for _, euid := range []int{0, uid, otherwise} {
				if access.May(node(kind, maxMode), euid, gid, want) {
					t.Errorf("want %d is had", want)
				}
			}
		}
	}
}

func TestMayOfEveryMode(t *testing.T) {
	for mode := range maxMode + 1 {
		for _, kind := range []int{file, dir, link} {
			n := node(kind, mode)
			for _, euid := range []int{0, uid, gid, otherwise} {
				for _, egid := range []int{0, uid, gid, otherwise} {
					for want := -1; want <= 8; want++ {
						if got := access.May(n, euid, egid, want); got != modelMay(n, euid, egid, want) {
							t.Fatalf("May of %d for %d, %d and %+v is %v", want, euid, egid, n, got)
						}
					}
				}
			}
		}
	}
}

func TestIdentitiesAtTheEnds(t *testing.T) {
	ends := []int{0, 1, -1, api.MaxID, api.MaxID + 1, math.MaxInt, math.MinInt}
	for _, a := range ends {
		for _, b := range ends {
			n := api.Node{Kind: file, Mode: 0o421, UID: a, GID: a}
			for _, c := range ends {
				for want := range 8 {
					if got := access.May(n, b, c, want); got != modelMay(n, b, c, want) {
						t.Errorf("May of %d for %d, %d and the node of %d is %v", want, b, c, a, got)
					}
				}
			}
		}
	}
}

// TestAnyNode asks about nodes that there are not.
func TestAnyNode(t *testing.T) {
	numbers := []int{math.MinInt, -512, -1, 0, 4, 512, 0o7777, math.MaxInt}
	for _, mode := range numbers {
		for _, kind := range numbers {
			n := api.Node{Ino: mode, Kind: kind, Mode: mode, UID: kind, GID: mode, Parent: -1, Target: "\x00"}
			for _, id := range numbers {
				for _, want := range append(numbers, 7) {
					if access.May(n, id, kind, want) && (want < 0 || want > 7) {
						t.Errorf("want %d is had for %+v", want, n)
					}
				}
			}
		}
	}
}

func TestEntriesAreLeftAlone(t *testing.T) {
	room := []api.Entry{{Name: "a", Ino: 2}, {Name: "b", Ino: 3}, {Name: "c", Ino: 4}}
	kept := slices.Clone(room)
	n := node(dir, 0o750)
	n.Entries = room[:1]
	if !access.May(n, uid, gid, 7) || !slices.Equal(room, kept) {
		t.Error("the entries are changed")
	}
}

// P8.2

// samples are modes and their texts, by hand.
func samples() map[int]string {
	return map[int]string{
		0: "---------", 511: "rwxrwxrwx", 0o751: "rwxr-x--x", 416: "rw-r-----", 493: "rwxr-xr-x", 0o007: "------rwx",
		256: "r--------", 128: "-w-------", 64: "--x------", 32: "---r-----", 16: "----w----", 8: "-----x---", 4: "------r--", 2: "-------w-", 1: "--------x",
	}
}

func TestLetters(t *testing.T) {
	for mode, s := range samples() {
		if got := access.Format(mode); got != s {
			t.Errorf("Format(%d) is %q instead of %q", mode, got, s)
		}
		if got, e := access.Parse(s); got != mode || e != api.OK {
			t.Errorf("Parse(%q) is %d, %d", s, got, e)
		}
	}
}

func TestFormatOutOfRange(t *testing.T) {
	for _, mode := range []int{-1, -511, -512, 512, 513, 1023, 0o7777, 1 << 32, 1<<32 + 1, math.MaxInt, math.MinInt} {
		if s := access.Format(mode); s != "" {
			t.Errorf("Format(%d) is %q", mode, s)
		}
	}
}

func TestEveryModeIsReadBack(t *testing.T) {
	for mode := range maxMode + 1 {
		s := access.Format(mode)
		if s != letters(mode) {
			t.Fatalf("Format(%d) is %q", mode, s)
		}
		if got, e := access.Parse(s); got != mode || e != api.OK {
			t.Fatalf("Parse(%q) is %d, %d", s, got, e)
		}
	}
}

func refuse(t *testing.T, s string) {
	t.Helper()
	if mode, e := access.Parse(s); mode != 0 || e != api.ErrAccessForm {
		t.Errorf("Parse of %q, of %d bytes, is %d, %d", s[:min(len(s), 20)], len(s), mode, e)
	}
}

func TestOtherTexts(t *testing.T) {
	for _, s := range []string{
		"", "-", "rwx", "r-xr-x", "rwxrwxrw", "--------", "rwxrwxrwxr", "----------", "-rwxrwxrwx", "rwxrwxrwx-", "rwxrwxrwxrwx",
		"wrxrwxrwx", "xwrxwrxwr", "wxrwxrwxr", "x--------", "-r-------", "w--------", "---x-----", "--------r", "-------x-", "r-xr-xr-w",
		"RWXRWXRWX", "rwxrwxrwX", "rwxrwxrws", "rwsr-xr-x", "rwxrwxrwt", "rwxrwxrw ", " rwxrwxrw", "rwx rwx rwx", "rwxr-xr-x\n", "rwxr-xr-\n", "rwxr-xr-\x00", "rwxr-xr-x\x00", "rwxr-xr-\xff",
		"111101101", "000000000", "0755", "493", "755", "--- --- -", "_________", "–––", "−−−", "−−−−−−−−−", "ｒｗｘ",
		strings.Repeat("rwx", 100000), strings.Repeat("-", 1<<20),
	} {
		refuse(t, s)
	}
}

// TestTextsBesideTheModes changes, takes away and adds each byte of texts of modes.
func TestTextsBesideTheModes(t *testing.T) {
	modes := map[string]int{}
	for mode := range maxMode + 1 {
		modes[letters(mode)] = mode
	}
	for _, s := range samples() {
		for i := range len(s) {
			refuse(t, s[:i]+s[i+1:])
			for b := range 256 {
				c := string([]byte{byte(b)})
				refuse(t, s[:i]+c+s[i:])
				changed := s[:i] + c + s[i+1:]
				mode, known := modes[changed]
				if !known {
					refuse(t, changed)
				} else if got, e := access.Parse(changed); got != mode || e != api.OK {
					t.Errorf("Parse(%q) is %d, %d", changed, got, e)
				}
			}
		}
	}
}

// P8.3

func TestUnion(t *testing.T) {
	for mode := range maxMode + 1 {
		for _, kind := range []int{file, dir, link} {
			n := node(kind, mode)
			for _, euid := range []int{0, uid, otherwise} {
				for _, egid := range []int{gid, otherwise} {
					for a := range 8 {
						for b := range 8 {
							both := access.May(n, euid, egid, a) && access.May(n, euid, egid, b)
							if access.May(n, euid, egid, a|b) != both {
								t.Fatalf("%+v: %d, %d may not do the union of %d and %d as each of them", n, euid, egid, a, b)
							}
						}
					}
				}
			}
		}
	}
}

// TestOneClassCounts changes the bits of the classes that do not count.
func TestOneClassCounts(t *testing.T) {
	for _, x := range []struct{ euid, egid, counts int }{
		{uid, gid, 0o700}, {uid, otherwise, 0o700}, {otherwise, gid, 0o070}, {otherwise, otherwise, 0o007},
	} {
		for mode := range maxMode + 1 {
			for want := 1; want < 8; want++ {
				less, more := node(file, mode&x.counts), node(file, mode|maxMode&^x.counts)
				if access.May(less, x.euid, x.egid, want) != access.May(more, x.euid, x.egid, want) {
					t.Fatalf("the classes beside %o count for %d, %d with the mode %o and want %d", x.counts, x.euid, x.egid, mode, want)
				}
			}
		}
	}
	check(t, []question{
		{node(file, 0o070), uid, gid, 4, false}, {node(file, 0o070), otherwise, gid, 7, true},
		{node(file, 0o007), uid, gid, 1, false}, {node(file, 0o007), uid, otherwise, 1, false}, {node(file, 0o007), otherwise, gid, 1, false}, {node(file, 0o007), otherwise, otherwise, 7, true},
		{node(dir, 0o077), uid, gid, 1, false}, {node(dir, 0o707), otherwise, gid, 4, false}, {node(file, 0o770), otherwise, otherwise, 2, false},
		// What the owner lacks does not come together from several classes.
		{node(file, 0o421), uid, gid, 6, false}, {node(file, 0o421), uid, gid, 3, false},
	})
}

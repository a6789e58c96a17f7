package script_test

import (
	"math"
	"strings"
	"testing"

	"larder/api"
	"larder/script"
)

func prints(t *testing.T, s api.Script, want string) {
	t.Helper()
	if got := script.Print(s); got != want {
		t.Errorf("P16.2: Print(%+v) = %q, want %q", s, short(got), short(want))
	}
}

// TestPrintEveryOp: with something in every field, used or not.
func TestPrintEveryOp(t *testing.T) {
	full := api.Cmd{H: -4, Fields: []int{1, -1}, Hs: []int{5, 6}, U: 16, V: 1 << 63, N: 9, Key: "k\x00", Elem: "e"}
	want := []string{
		api.OpMake: "make 0x10 9 1 -1\n", api.OpGet: "get -4 6b00\n", api.OpPut: "put -4 6b00 65\n", api.OpDelete: "delete -4 6b00\n", api.OpLen: "len -4\n",
		api.OpClear: "clear -4 0x10\n", api.OpClone: "clone -4\n", api.OpOpen: "open -4 0x10 0x8000000000000000\n", api.OpNext: "next -4\n", api.OpRelease: "release 5 6\n",
		api.OpLive: "live\n", api.OpProbes: "probes -4 6b00\n", api.OpSlots: "slots -4\n", api.OpAudit: "audit\n",
	}
	bare := []string{
		api.OpMake: "make 0x0 0\n", api.OpGet: "get 0 -\n", api.OpPut: "put 0 - -\n", api.OpDelete: "delete 0 -\n", api.OpLen: "len 0\n", api.OpClear: "clear 0 0x0\n", api.OpClone: "clone 0\n",
		api.OpOpen: "open 0 0x0 0x0\n", api.OpNext: "next 0\n", api.OpRelease: "release\n", api.OpLive: "live\n", api.OpProbes: "probes 0 -\n", api.OpSlots: "slots 0\n", api.OpAudit: "audit\n",
	}
	all, text := api.Script{Limit: 5}, "limit 5\n"
	for op := firstOp; op <= lastOp; op++ {
		full.Op = op
		prints(t, api.Script{Limit: 5, Cmds: []api.Cmd{full}}, "limit 5\n"+want[op])
		prints(t, api.Script{Limit: 5, Cmds: []api.Cmd{used(full)}}, "limit 5\n"+want[op])
		prints(t, api.Script{Limit: 5, Cmds: []api.Cmd{{Op: op}}}, "limit 5\n"+bare[op])
		prints(t, api.Script{Limit: 5, Cmds: []api.Cmd{{Op: op, Fields: []int{}, Hs: []int{}}}}, "limit 5\n"+bare[op])
		all.Cmds = append(all.Cmds, full, api.Cmd{Op: op})
		text += want[op] + bare[op]
	}
	prints(t, all, text)
}

// TestPrintNoOps: a command whose Op is none of the table's has no line; those around it have theirs.
func TestPrintNoOps(t *testing.T) {
	all := api.Script{Limit: 5}
	for _, op := range noOps {
		c := api.Cmd{Op: op, H: 1, Fields: []int{1}, Hs: []int{1}, U: 1, V: 1, N: 1, Key: "k", Elem: "e"}
		prints(t, api.Script{Limit: 5, Cmds: []api.Cmd{c}}, "limit 5\n")
		prints(t, api.Script{Limit: 5, Cmds: []api.Cmd{{Op: api.OpLen, H: 1}, c, {Op: api.OpLen, H: 2}}}, "limit 5\nlen 1\nlen 2\n")
		all.Cmds = append(all.Cmds, c)
	}
	prints(t, all, "limit 5\n")
}

func TestPrintLimitsAndOverrides(t *testing.T) {
	prints(t, api.Script{}, "limit 0\n")
	prints(t, api.Script{Over: []api.Over{}, Cmds: []api.Cmd{}}, "limit 0\n")
	prints(t, api.Script{Limit: math.MinInt}, "limit -9223372036854775808\n")
	prints(t, api.Script{Limit: math.MaxInt}, "limit 9223372036854775807\n")
	prints(t, api.Script{Limit: -1, Over: []api.Over{{}}}, "limit -1\nhash - 0x0\n")
	s := api.Script{Limit: 10, Over: []api.Over{{Key: "b", Hash: math.MaxUint64}, {Key: "a", Hash: 10}, {Key: "b", Hash: 255}, {Key: "b", Hash: 255}}, Cmds: []api.Cmd{{Op: api.OpLive}}}
	prints(t, s, "limit 10\nhash 62 0xffffffffffffffff\nhash 61 0xa\nhash 62 0xff\nhash 62 0xff\nlive\n")
}

func TestPrintNumbers(t *testing.T) {
	for n, want := range map[int]string{0: "0", 7: "7", -7: "-7", 10: "10", 100: "100", -10: "-10", math.MaxInt: "9223372036854775807", math.MinInt: "-9223372036854775808"} {
		prints(t, api.Script{Cmds: []api.Cmd{{Op: api.OpRelease, Hs: []int{n, 1, n}}}}, "limit 0\nrelease "+want+" 1 "+want+"\n")
		prints(t, api.Script{Cmds: []api.Cmd{{Op: api.OpMake, N: n, Fields: []int{n, n}}}}, "limit 0\nmake 0x0 "+want+" "+want+" "+want+"\n")
		prints(t, api.Script{Cmds: []api.Cmd{{Op: api.OpLen, H: n}}}, "limit 0\nlen "+want+"\n")
	}
}

func TestPrintWords(t *testing.T) {
	for u, want := range map[uint64]string{0: "0x0", 9: "0x9", 10: "0xa", 15: "0xf", 16: "0x10", 0xABCDEF: "0xabcdef", 1 << 60: "0x1000000000000000", math.MaxUint64: "0xffffffffffffffff"} {
		prints(t, api.Script{Cmds: []api.Cmd{{Op: api.OpOpen, U: u, V: u + 1}, {Op: api.OpOpen, U: 1, V: u}}}, "limit 0\nopen 0 "+want+" "+plainLine(api.Cmd{Op: api.OpClear, U: u + 1})[8:]+"open 0 0x1 "+want+"\n")
		prints(t, api.Script{Cmds: []api.Cmd{{Op: api.OpClear, U: u}}}, "limit 0\nclear 0 "+want+"\n")
	}
}

func TestPrintBytes(t *testing.T) {
	bytes, digits := allBytes()
	prints(t, api.Script{Over: []api.Over{{Key: bytes}}}, "limit 0\nhash "+digits+" 0x0\n")
	prints(t, api.Script{Cmds: []api.Cmd{{Op: api.OpPut, Key: bytes, Elem: "-"}}}, "limit 0\nput 0 "+digits+" 2d\n")
	prints(t, api.Script{Cmds: []api.Cmd{{Op: api.OpPut, Key: "", Elem: bytes}}}, "limit 0\nput 0 - "+digits+"\n")
	prints(t, api.Script{Cmds: []api.Cmd{{Op: api.OpGet, Key: "é"}}}, "limit 0\nget 0 c3a9\n")
	prints(t, api.Script{Cmds: []api.Cmd{{Op: api.OpGet, Key: strings.Repeat("k", 100000)}}}, "limit 0\nget 0 "+strings.Repeat("6b", 100000)+"\n")
}

package vm_test

import (
	"fmt"
	"slices"
	"strings"
	"testing"

	"larder/api"
	"larder/code"
	"larder/lang"
	"larder/vm"
)

// usual: the environment of the chapter's examples.
func usual() api.Env { return api.Env{Limit: 65536, Draws: []uint64{1, 2, 3}, Fuel: 100} }

// fuelled: the usual environment with that fuel.
func fuelled(fuel int) api.Env {
	env := usual()
	env.Fuel = fuel
	return env
}

// limited: the usual environment with that limit.
func limited(limit int) api.Env {
	env := usual()
	env.Limit = limit
	return env
}

// drawing: the usual environment with these draws.
func drawing(draws ...uint64) api.Env {
	env := usual()
	env.Draws = draws
	return env
}

// instructions: the code of lines, which are parted by semicolons; the first has the numbers of its variables and maps.
func instructions(lines string) api.Code {
	c, line, e := code.Assemble("code " + strings.ReplaceAll(lines, ";", "\n"))
	if e != api.OK {
		panic(fmt.Sprint("the test has no code: line ", line, " of ", lines))
	}
	return c
}

// parsed: the program of a text, which must be one.
func parsed(text string) api.Prog {
	p, line, e := lang.Parse(text)
	if e != api.OK {
		panic(fmt.Sprint("the test has no program: line ", line, " of ", text))
	}
	return p
}

// compiled: the code of a text's program.
func compiled(text string) api.Code {
	c, e := code.Compile(parsed(text))
	if e != api.OK {
		panic(fmt.Sprint("the test has no program: ", e, " ", text))
	}
	return c
}

// out: what a run leaves.
func out(steps int, e api.Errno, lines ...string) api.Out {
	return api.Out{Lines: lines, Steps: steps, Err: e}
}

// same: do two runs leave the same? No lines may be nil or empty.
func same(a, b api.Out) bool {
	return slices.Equal(a.Lines, b.Lines) && a.Steps == b.Steps && a.Err == b.Err
}

// runs: the code in that environment leaves just this, and the plain machine leaves it too.
func runs(t *testing.T, promise string, c api.Code, env api.Env, want api.Out) {
	t.Helper()
	if got := vm.Run(c, env); !same(got, want) {
		t.Errorf("%s: Run of %s in %s leaves %s, want %s", promise, told(c), toldEnv(env), toldOut(got), toldOut(want))
	}
	if got := plainRun(c, env); !same(got, want) {
		t.Errorf("the plain machine's run of %s in %s leaves %s, want %s", told(c), toldEnv(env), toldOut(got), toldOut(want))
	}
}

// leaves: the code of these lines leaves just this.
func leaves(t *testing.T, promise, lines string, env api.Env, want api.Out) {
	t.Helper()
	runs(t, promise, instructions(lines), env, want)
}

// asThePlain: the code in that environment leaves what the plain machine leaves; that is answered.
func asThePlain(t *testing.T, promise string, c api.Code, env api.Env) api.Out {
	t.Helper()
	got, want := vm.Run(c, env), plainRun(c, env)
	if !same(got, want) {
		t.Fatalf("%s: Run of %s in %s leaves %s, want %s", promise, told(c), toldEnv(env), toldOut(got), toldOut(want))
	}
	return got
}

// told: code for a message.
func told(c api.Code) string { return short(strings.ReplaceAll(code.Text(c), "\n", "; ")) }

func toldEnv(env api.Env) string { return short(fmt.Sprintf("%+v", env)) }

func toldOut(o api.Out) string {
	return short(fmt.Sprintf("%q, %d steps, error %d", o.Lines, o.Steps, o.Err))
}

// short: a text for a message.
func short(text string) string {
	if len(text) > 1000 {
		return text[:500] + " .. " + text[len(text)-500:]
	}
	return text
}

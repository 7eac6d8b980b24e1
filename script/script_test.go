package script_test

import (
	"strings"
	"testing"

	"quietus/api"
	"quietus/script"
)

// lines joins lines, each with its line feed.
func lines(l ...string) string {
	if len(l) == 0 {
		return ""
	}
	return strings.Join(l, "\n") + "\n"
}

func tells(t *testing.T, s string, want ...string) {
	t.Helper()
	got, line, err := script.Run(s)
	if got != lines(want...) || line != 0 || err != api.OK {
		t.Errorf("%q: %q, %d, %d", s, got, line, err)
	}
}

func wrong(t *testing.T, s string, at int) {
	t.Helper()
	got, line, err := script.Run(s)
	if got != "" || line != at || err != api.ErrForm {
		t.Errorf("%q: %q, %d, %d", s, got, line, err)
	}
}

const head = "machine 40 4 2 0 2 9 50"

// P31.1, the run of the chapter.
func TestRun(t *testing.T) {
	s := lines(head, "thread", "job", "set r0 3", "emit r0", "end", "go", "rounds 9", "results 0")
	tells(t, s, "done 0 3")
	tells(t, strings.TrimSuffix(s, "\n"), "done 0 3")
	tells(t, "\n\n"+strings.ReplaceAll(s, "go\n", "\ngo\n\n")+"\n\n", "done 0 3")
	tells(t, lines(head, "go"))
	tells(t, head+"\ngo")
	tells(t, lines(head, "go", "state 0", "results 0", "clock", "order", "check", "word 5", "word 39"), "finished", "0", "yes", "14", "0")
}

const (
	store = "set r0 7\nset r1 9\nstore r0 r1 0\nend\n"
	wait  = "set r0 7\nload r1 r0 0\nzero r1 a\njump b\na: retry\nb: emit r1\nend\n"
)

// P31.1: all that is told of two threads.
func TestTells(t *testing.T) {
	tells(t, head+"\nthread\njob\n"+wait+"job\nfail\nend\nthread\njob\n"+store+lines("go",
		"state 0", "state 1")+strings.Repeat("pick 0 7\n", 9)+lines("state 0", "word 7", "results 0", "rounds 40",
		"state 0", "state 1", "results 0", "results 1", "word 7", "clock", "order", "check"),
		"running", "running", "waiting", "0", "finished", "finished", "done 1 9", "erred 13", "done 1", "9", "1",
		"0 0 0 blocked 0", "1 0 0 done 1", "0 0 1 done 1", "0 1 0 erred 1", "yes")
	// States.
	tells(t, head+"\nthread\njob\n"+wait+lines("go", "rounds 40", "state 0", "order"), "waiting", "0 0 0 blocked 0")
	tells(t, "machine 40 8 1 3 0 9 50\nthread\njob\n"+store+"thread\njob\nset r0 7\nload r1 r0 0\nend\n"+lines("go",
		"rounds 0", "pick 0 0", "pick 0 0", "order", "pick 0 0", "pick 0 0", "pick 0 0",
		"pick 1 0", "pick 1 0", "pick 1 0", "pick 1 0", "pick 1 0", "state 1", "pick 1 2", "pick 1 2", "state 1", "order",
		"rounds 9", "state 1", "pick 1 0", "state 1", "rounds 9", "state 1", "clock"),
		"0 0 0 going 3", "yielding", "yielding", "0 0 0 going 3", "1 0 0 conflict 3", "running", "running", "finished", "4")
	// A pause, by its draw.
	tells(t, "machine 40 8 1 3 0 9 50\nthread\njob\n"+store+"thread\njob\nset r0 7\nload r1 r0 0\nend\n"+lines("go",
		"pick 0 0", "pick 0 0", "pick 0 0", "pick 0 0", "pick 0 0",
		"pick 1 0", "pick 1 0", "pick 1 0", "pick 1 0", "pick 1 0",
		"pick 0 0", "pick 0 0", "pick 0 0", "pick 0 0", "pick 0 0",
		"pick 1 5", "state 1", "pick 1 0", "state 1", "pick 1 0", "state 1"),
		"pausing", "pausing", "running")
	// Sweeps, and one that looks.
	block := "set r0 2\nalloc r1 r0\nfree r1\nend\n"
	s := "machine 40 1 1 18446744073709551615 0 9 50\nthread\njob\n" + block
	tells(t, s+lines("go", "rounds 40", "results 0", "clock"), "erred 7", "4611686018427387903")
	s = "machine 40 1 1 7 0 9 50\nthread\njob\n" + block
	tells(t, s+lines("go", "rounds 100", "order", "word 1", "state 0", "check"), "0 0 0 done 8", "0 0 0 done 9 sweep", "15", "finished", "yes")
	tells(t, s+"thread\n"+lines("go", "rounds 17", "order", "state 0", "rounds 2", "order", "state 0", "check"), "0 0 0 done 8", "looking", "0 0 0 done 8", "running", "yes")
	tells(t, "machine 40 1 1 19 0 9 50\nthread\njob\n"+store+lines("go", "rounds 40", "results 0", "order"), "done 20", "0 0 0 done 20")
	// Results with slates of many.
	tells(t, head+"\nthread\njob\nset r0 5\ncall list.add 0 r0\ncall table.get 1 r1\nemit r1\nend\ngo\nrounds 99\nresults 0\n", "done 1 yes none 0")
}

// P31.1: the first line.
func TestFirst(t *testing.T) {
	for _, s := range []string{
		"machine", "machine 40 4 2 0 2 9", "machine 40 4 2 0 2 9 50 1", "Machine 40 4 2 0 2 9 50", "thread", "go", " ", " " + head, head + " ",
		"machine  40 4 2 0 2 9 50", "machine\t40 4 2 0 2 9 50", "machine 040 4 2 0 2 9 50", "machine -1 4 2 0 2 9 50", "machine 2147483648 4 2 0 2 9 50",
		"machine 40 4 2 18446744073709551616 2 9 50", "machine 40 4 2 0 2 9 2147483648", "machine 40 4 2 0 2 9 x", head + "\r", head + " \xff", "machine 40 4 2 0 2 9 5\u0660",
	} {
		wrong(t, s+"\ngo\n", 1)
		wrong(t, "\n\n"+s+"\ngo\n", 3)
	}
	tells(t, lines("machine 2147483647 2147483647 2147483647 18446744073709551615 2147483647 2147483647 2147483647", "go", "word 255", "clock"), "0", "4611686018427387903")
	tells(t, lines("machine 0 0 0 0 0 0 0", "go", "word 31"), "0")
	wrong(t, lines("machine 0 0 0 0 0 0 0", "go", "word 32"), 3)
}

// P31.1, P31.2: lines ahead of go.
func TestAhead(t *testing.T) {
	for _, s := range []string{"threads", "thread 1", "pick 0 0", "rounds 1", "state 0", "clock", head, "end", "go 1", "job 1", " thread", "thread ", "\t", "\xff", "set r0 1"} {
		wrong(t, lines(head, "thread", s, "go"), 3)
	}
	wrong(t, lines(head, "", "job", "end", "go"), 3)
	wrong(t, lines(head, "job"), 2)
	// A line of a program.
	wrong(t, lines(head, "thread", "job", "", "set r0 1", "set r9 1", "end", "go"), 6)
	wrong(t, lines(head, "thread", "job", "set r0 1", "end", "job", "fail", "jump a", "fail", "end", "nix"), 8)
	wrong(t, lines(head, "thread", "job", "machine", "end", "go"), 4)
	wrong(t, lines(head, "thread", "job", " end", "end", "go"), 4)
	// ErrFull is the job's.
	forty := strings.Repeat("fail\n", 40)
	tells(t, lines(head, "thread", "job")+forty+lines("end", "go"))
	wrong(t, lines(head, "thread", "job")+forty+lines("fail", "end", "go"), 3)
	wrong(t, lines(head, "thread", "", "job", ";"+strings.Repeat("x", 4000), "end", "go"), 4)
	tells(t, lines(head, "thread", "job", ";"+strings.Repeat("x", 3998), "end", "go"))
	// Lines of a program are whatever they are.
	tells(t, lines(head, "thread", "job", "", "; \xff", "\t\tset r0 1 ; go", "end", "", "job", "end", "go", "rounds 9", "results 0"), "done 0", "erred 4")
	// More threads and jobs than a machine has.
	s := lines(head) + strings.Repeat("thread\n", 6) + strings.Repeat("job\nend\n", 9)
	tells(t, s+lines("go", "state 3", "rounds 99", "check"), "finished", "yes")
	wrong(t, s+lines("go", "state 4"), 27)
}

// P31.2: lines behind go.
func TestBehind(t *testing.T) {
	for _, s := range []string{
		"thread", "job", "go", head, "end", "pick 0", "pick 0 256", "pick 0 -1", "pick 1 0", "pick 0 0 0", "pick 0 00", "pick 00 0", "pick 99999999999 0", "pick  0 0",
		"rounds", "rounds 10000", "rounds x", "rounds 1 1", "state", "state 1", "state -1", "state 0 0", "results 1", "results", "results x", "word 0", "word 40", "word", "word 05", "word 1 1",
		"clock 0", "order 0", "check 1", "Check", "check ", " check", "\xff", "check\r", "clocks", "picks 0 0", "nix 0",
	} {
		wrong(t, lines(head, "thread", "go", "clock", s, "clock"), 5)
		wrong(t, lines(head, "thread", "go", "", "clock")+s, 6)
	}
	tells(t, lines(head, "go", "pick 0 255", "rounds 9999", "rounds 0", "clock"), "0")
}

// P31.2: texts that end too early.
func TestEnds(t *testing.T) {
	wrong(t, "", 1)
	wrong(t, "\n", 2)
	wrong(t, "\n\n\n", 4)
	wrong(t, head, 2)
	wrong(t, head+"\n", 2)
	wrong(t, lines(head, "", ""), 4)
	wrong(t, lines(head, "thread"), 3)
	wrong(t, lines(head, "thread", "job", "nix", "nix"), 6)
	wrong(t, lines(head, "thread", "job"), 4)
	wrong(t, lines(head, "thread", "job", "end "), 5)
	wrong(t, lines(head, "thread", "job", "end"), 5)
}

// The script of the project's README.
func TestReadme(t *testing.T) {
	tells(t, lines(head, "thread", "job", "set r0 7", "load r1 r0 0", "set r2 1", "add r1 r1 r2", "store r0 r1 0", "emit r1", "end", "go", "rounds 30", "results 0", "word 7", "check"), "done 1 1", "1", "yes")
}

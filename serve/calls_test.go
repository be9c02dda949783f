package serve_test

import (
	"testing"

	"haulier/api"
	"haulier/ask"
	"haulier/climb"
	"haulier/drive"
	"haulier/exact"
	"haulier/hours"
	"haulier/inner"
	"haulier/inter"
	"haulier/json"
	"haulier/judge"
	"haulier/lift"
	"haulier/load"
	"haulier/model"
	"haulier/num"
	"haulier/plan"
	"haulier/queue"
	"haulier/reply"
	"haulier/road"
	"haulier/seed"
	"haulier/serve"
	"haulier/short"
	"haulier/show"
	"haulier/skill"
	"haulier/slack"
)

// These tests hold every layer to the calls that its chapter lists, with their exact types: they do not compile where one lacks or differs. They stand at the top layer, which may import all others.

func TestCallsOfNum(t *testing.T) {
	var _ func(a int) bool = num.Fits
	var _ func(a, b int) (int, api.Errno) = num.Add
	var _ func(a, b int) (int, api.Errno) = num.Mul
	var _ func(l []int) (int, api.Errno) = num.Sum
	var _ func(a int) string = num.Text
	var _ func(s string) (int, api.Errno) = num.Parse
}

func TestCallsOfJson(t *testing.T) {
	var _ func(b []byte) (tree api.Tree, at int, e api.Errno) = json.Parse
}

func TestCallsOfShow(t *testing.T) {
	var _ func(t api.Tree) api.Errno = show.Check
	var _ func(t api.Tree) ([]byte, api.Errno) = show.Print
	var _ func(s string) string = show.Quote
	var _ func(a, b api.Tree) bool = show.Same
}

func TestCallsOfQueue(t *testing.T) {
	var _ func() *queue.Queue = queue.New
	var _ func(q *queue.Queue) int = (*queue.Queue).Len
	var _ func(q *queue.Queue, item, key int) bool = (*queue.Queue).Put
	var _ func(q *queue.Queue, item int) (int, bool) = (*queue.Queue).Key
	var _ func(q *queue.Queue) (int, int, bool) = (*queue.Queue).Take
	var _ func(q *queue.Queue, item int) bool = (*queue.Queue).Drop
}

func TestCallsOfRoad(t *testing.T) {
	var _ func(api.Arc) int = road.Metric(nil)
	var _ func(a api.Arc) int = road.Time
	var _ func(a api.Arc) int = road.Dist
	var _ func(r api.Road) (int, api.Errno) = road.Check
	var _ func(r api.Road, m road.Metric) (*road.Graph, api.Errno) = road.New
	var _ func(g *road.Graph) int = (*road.Graph).Places
	var _ func(g *road.Graph) int = (*road.Graph).Len
	var _ func(g *road.Graph, p int) []api.Edge = (*road.Graph).Out
	var _ func(g *road.Graph, from, to int) int = (*road.Graph).Weight
	var _ func(g *road.Graph) *road.Graph = (*road.Graph).Turned
}

func TestCallsOfShort(t *testing.T) {
	var _ func(g *road.Graph, p int) ([]int, []int) = short.From
	var _ func(g *road.Graph, from, to int) ([]int, int) = short.Way
	var _ func(g *road.Graph) api.Matrix = short.All
	var _ func(g *road.Graph, way []int) int = short.Weigh
}

func TestCallsOfLift(t *testing.T) {
	var _ func(g *road.Graph) *lift.Lifted = lift.Build
	var _ func(l *lift.Lifted) int = (*lift.Lifted).Places
	var _ func(l *lift.Lifted, p int) int = (*lift.Lifted).Rank
	var _ func(l *lift.Lifted, p int) []api.Link = (*lift.Lifted).Up
	var _ func(l *lift.Lifted, p int) []api.Link = (*lift.Lifted).Down
	var _ func(l *lift.Lifted) []api.Link = (*lift.Lifted).Links
}

func TestCallsOfClimb(t *testing.T) {
	var _ func(l *lift.Lifted, p int, up bool) ([]int, []int) = climb.Reached
	var _ func(l *lift.Lifted, from, to int) int = climb.Dist
	var _ func(l *lift.Lifted, from, to int) ([]int, int) = climb.Way
	var _ func(l *lift.Lifted) api.Matrix = climb.Table
}

func TestCallsOfLoad(t *testing.T) {
	var _ func(n int) []int = load.Zero
	var _ func(a []int, n int) api.Errno = load.Check
	var _ func(a, b []int) ([]int, api.Errno) = load.Add
	var _ func(a, b []int) ([]int, api.Errno) = load.Sub
	var _ func(a, b []int) ([]int, api.Errno) = load.Most
	var _ func(a, b []int) bool = load.Under
	var _ func(a, b []int) bool = load.Same
}

func TestCallsOfSkill(t *testing.T) {
	var _ func(list []int) (uint64, int, api.Errno) = skill.Of
	var _ func(set uint64) bool = skill.Valid
	var _ func(set uint64) []int = skill.List
	var _ func(set uint64) int = skill.Count
	var _ func(have, want uint64) bool = skill.Covers
}

func TestCallsOfHours(t *testing.T) {
	var _ func(l []api.Window) (int, api.Errno) = hours.Check
	var _ func(l []api.Window, t int) (int, bool) = hours.Start
	var _ func(l []api.Window, t int) (int, bool) = hours.Last
	var _ func(l []api.Window, t int) bool = hours.In
}

func TestCallsOfModel(t *testing.T) {
	var _ func(p api.Problem) api.Errno = model.Check
	var _ func(p api.Problem) []api.Task = model.Tasks
	var _ func(p api.Problem, t api.Task) bool = model.There
	var _ func(p api.Problem, t api.Task) int = model.Priority
	var _ func(p api.Problem, t api.Task) uint64 = model.Skills
	var _ func(t api.Task) []api.Visit = model.Visits
	var _ func(v api.Visit) (api.Task, bool) = model.Of
	var _ func(p api.Problem, v api.Visit) (api.Stop, bool) = model.Stop
	var _ func(m api.Matrix, from, to int) int = model.Cell
}

func TestCallsOfPlan(t *testing.T) {
	var _ func(p api.Problem, vehicle int, visits []api.Visit) (api.Plan, api.Errno) = plan.Of
	var _ func(p api.Problem, visits []api.Visit) [][]int = plan.Loads
	var _ func(p api.Problem, vehicle int, visits []api.Visit) (api.Plan, api.Errno) = plan.Fit
	var _ func(visits []api.Visit, at []int) []api.Visit = plan.Set
}

func TestCallsOfSlack(t *testing.T) {
	var _ func(p api.Problem, plan api.Plan) []int = slack.Latest
	var _ func(p api.Problem, plan api.Plan) []int = slack.Spare
	var _ func(p api.Problem, plan api.Plan, i, t int) (int, bool) = slack.Ends
}

func TestCallsOfSeed(t *testing.T) {
	var _ func(s api.Solution, vehicle int) []api.Visit = seed.Visits
	var _ func(s api.Solution, vehicle int, visits []api.Visit) api.Solution = seed.With
	var _ func(visits []api.Visit, t api.Task) [][]api.Visit = seed.Ways
	var _ func(p api.Problem, vehicle int, visits []api.Visit) (int, api.Errno) = seed.Cost
	var _ func(p api.Problem, s api.Solution, t api.Task) (api.Solution, int, bool) = seed.Insert
	var _ func(p api.Problem) api.Solution = seed.Greedy
}

func TestCallsOfInner(t *testing.T) {
	var _ func(l *inner.Line, i, j, k int) bool = inner.Change(nil)
	var _ func(visits []api.Visit) *inner.Line = inner.New
	var _ func(l *inner.Line) []api.Visit = (*inner.Line).Visits
	var _ func(l *inner.Line, i, j, _ int) bool = (*inner.Line).TwoOpt
	var _ func(l *inner.Line, i, j, n int) bool = (*inner.Line).OrOpt
	var _ func(l *inner.Line, i, j, _ int) bool = (*inner.Line).Relocate
	var _ func(l *inner.Line, i, j, _ int) bool = (*inner.Line).Exchange
	var _ func(l *inner.Line, i, j, _ int) bool = (*inner.Line).Mixed
	var _ func(l *inner.Line, i, j, k int) bool = (*inner.Line).Pair
	var _ func() []inner.Change = inner.All
}

func TestCallsOfInter(t *testing.T) {
	var _ func(t *inter.Two, i, j, k int) bool = inter.Change(nil)
	var _ func(a, b []api.Visit) *inter.Two = inter.New
	var _ func(t *inter.Two) ([]api.Visit, []api.Visit) = (*inter.Two).Visits
	var _ func(t *inter.Two, i, j, k int) bool = (*inter.Two).Relocate
	var _ func(t *inter.Two, i, j, _ int) bool = (*inter.Two).Exchange
	var _ func(t *inter.Two, i, j, _ int) bool = (*inter.Two).Cross
	var _ func(t *inter.Two, i, j, _ int) bool = (*inter.Two).Tails
	var _ func(t *inter.Two, i, j, _ int) bool = (*inter.Two).Turned
	var _ func(t *inter.Two, i, j, k int) bool = (*inter.Two).Swap
	var _ func() []inter.Change = inter.All
}

func TestCallsOfDrive(t *testing.T) {
	var _ func(p api.Problem, s api.Solution) (api.Score, api.Errno) = drive.Score
	var _ func(a, b api.Score) bool = drive.Better
	var _ func(p api.Problem, s api.Solution) []api.Task = drive.Left
	var _ func(p api.Problem, s api.Solution, steps int, draws []int) (api.Solution, int, int) = drive.Improve
}

func TestCallsOfExact(t *testing.T) {
	var _ func(p api.Problem) bool = exact.Small
	var _ func(p api.Problem) (api.Solution, bool) = exact.Best
}

func TestCallsOfJudge(t *testing.T) {
	var _ func(p api.Problem, s api.Solution) (int, api.Errno) = judge.Check
	var _ func(p api.Problem, s api.Solution) ([]api.Plan, api.Errno) = judge.Plans
	var _ func(p api.Problem, s api.Solution) (api.Sums, api.Errno) = judge.Sums
	var _ func(p api.Problem, x api.Plan) api.Errno = judge.Audit
	var _ func(a, b api.Plan) bool = judge.Same
}

func TestCallsOfAsk(t *testing.T) {
	var _ func(t api.Tree) (p api.Problem, f api.Fault) = ask.Problem
}

func TestCallsOfReply(t *testing.T) {
	var _ func(r api.Reply) api.Tree = reply.Tree
	var _ func(t api.Tree) (api.Reply, bool) = reply.Read
}

func TestCallsOfServe(t *testing.T) {
	var _ func(b []byte) (api.Problem, api.Fault) = serve.Decode
	var _ func(p api.Problem, steps int, draws []int) (api.Solution, bool) = serve.Solve
	var _ func(b []byte, steps int, draws []int) api.Reply = serve.Answer
	var _ func(b []byte, steps int, draws []int) []byte = serve.Serve
	var _ func(b, answer []byte) bool = serve.Accept
}
